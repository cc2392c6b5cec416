/- The tree, plainly: what the laws ask of a mutation. -/
import Derived.Test.YtjkgafbknjpjbaaPuE
namespace Go.Proofs.Ytjkgafbknjpjbaa
open Go.RowKit

/-- directories that have something in them hang on -/
theorem hang_on {M : Nms} {s : Tr} {o : Opn} (w : WF M s.es s.next) (h : Deed M s o) {d : Int} (hd : Hangs s.es d) (hc : ∃ y ∈ s.es, y.d = d) : Hangs (srt (doesL s o)) d := by
  have hw := w.step h
  have hmem := fun y => (srt_mem (l := doesL s o) (x := y)).trans (does_mem w h y)
  refine hd.on (fun f hf hfk hc hh => ?_) hc
  by_cases ht : Told (tellL s o) f
  · obtain ⟨z, hz, h1, h2⟩ := ht
    cases h using Deed.el with
    | made x _ hd hnm hneg hid _ hok hno hdir hchk hroom hT hL hN =>
      rw [hT] at hz
      rw [List.mem_singleton.1 hz, hd] at h1
      rw [List.mem_singleton.1 hz, hnm] at h2
      exact absurd ⟨h1, h2⟩ ((atE_none_iff _ _).1 hno f hf)
    | gone e _ he hd hnm hempty hT =>
      rw [hT] at hz
      rw [List.mem_singleton.1 hz] at h1 h2
      obtain rfl := w.keyed f hf e he (h1.trans hd.symm) (h2.trans hnm.symm)
      obtain ⟨y, hy, hq⟩ := hc
      exact absurd hq (hempty y hy)
    | set e x he hd hnm hx hm hk hT hL _ _ hN =>
      have hxi : x.id = e.id := by rw [hx]
      have hxk : x.kind = e.kind := by rw [hx]
      have hxm : x.nm = e.nm := by rw [hx]
      have hxd : x.d = e.d := by rw [hx]
      rw [hT] at hz
      rw [List.mem_singleton.1 hz] at h1 h2
      obtain rfl := w.keyed f hf e he (h1.trans hxd) (h2.trans hxm)
      exact .up x _ (srt_mem.2 ((hL x).2 (.inr rfl))) (by rw [hxk]; exact hfk) hxi (by rw [hxd]; exact hh)
    | moved e hk he hd hnm hne hdir hchk hfree hto hT hL hN =>
      have hz' : z = goneEn o.dir o.nm ∨ z = movedEn e o.dst o.new := by
        rw [hT] at hz
        split at hz <;> simp at hz <;> first | exact hz | exact hz.symm
      have hmt : movedEn e o.dst o.new ∈ tellL s o := by rw [hT]; split <;> simp
      rcases hz' with rfl | rfl
      · obtain rfl := w.keyed f hf e he (h1.trans hd.symm) (h2.trans hnm.symm)
        have hin := (hmem _).2 (.inr ⟨hmt, rfl⟩)
        exact .up (movedEn f o.dst o.new) _ hin hfk rfl (hw.hang _ hin)
      · obtain ⟨y, hy, hq⟩ := hc
        exact absurd hq (hto f ((atE_iff w.keyed _ _ _).2 ⟨hf, h1, h2⟩) y hy)
  · exact .up f _ ((hmem f).2 (.inl ⟨hf, ht⟩)) hfk rfl hh
theorem WF.self {M : Nms} {es : List En} {next : Int} (w : WF M es next) {e : En} (he : e ∈ es) : e.d ≠ e.id := by
  intro h
  obtain ⟨n, hn⟩ := w.hang e he
  have hk : e.kind = 1 := by
    have := (w.hang e he).dir w
    rw [h] at this
    unfold dirE at this
    rw [w.node he] at this
    by_cases hk : e.kind = 1
    · exact hk
    · simp [hk] at this
  have h2 : HangsN es (n + 1) e.d := ⟨e, he, hk, h.symm, hn⟩
  have := hn.one w h2
  omega
/-- what is told is looked up then -/
theorem told_look {M : Nms} {s : Tr} {o : Opn} (w : WF M s.es s.next) (h : Deed M s o) {x : En} (hx : x ∈ tellL s o) : namedE M (srt (doesL s o)) x.d x.nm = 0 ∧ nowE (srt (doesL s o)) x.d x.nm = x := by
  have hw := w.step h
  have hnow : nowE (srt (doesL s o)) x.d x.nm = x := by rw [nowE_perm (srt_rises (does_apart w h)).keyed (srt_perm _)]; exact tell_now w h x hx
  refine ⟨?_, hnow⟩
  have key : dirE (srt (doesL s o)) x.d = 0 ∧ M.chk x.nm = 0 := by
    cases hn : x.neg with
    | false =>
      have hin : x ∈ srt (doesL s o) := srt_mem.2 ((does_mem w h x).2 (.inr ⟨hx, hn⟩))
      exact ⟨(hw.hang x hin).dir hw, hw.chk x hin⟩
    | true =>
      have hg := h
      cases h using Deed.el with
      | made y _ _ _ hneg _ _ _ _ _ _ _ hT => rw [hT] at hx; rw [List.mem_singleton.1 hx, hneg] at hn; cases hn
      | gone e _ he hd hnm hempty hT =>
        rw [hT] at hx
        rw [List.mem_singleton.1 hx]
        exact ⟨(hang_on w hg (hd ▸ w.hang e he) ⟨e, he, hd⟩).dir hw, by show M.chk o.nm = 0; rw [← hnm]; exact w.chk e he⟩
      | set e y he _ _ hy _ _ hT => rw [hT] at hx; rw [List.mem_singleton.1 hx, hy] at hn; have := w.neg e he; simp [this] at hn
      | moved e hk he hd hnm hne hdir hchk hfree hto hT =>
        have hx' : x = goneEn o.dir o.nm ∨ x = movedEn e o.dst o.new := by
          rw [hT] at hx
          split at hx <;> simp at hx <;> first | exact hx | exact hx.symm
        rcases hx' with rfl | rfl
        · exact ⟨(hang_on w hg (hd ▸ w.hang e he) ⟨e, he, hd⟩).dir hw, by show M.chk o.nm = 0; rw [← hnm]; exact w.chk e he⟩
        · cases hn
  unfold namedE
  rw [key.1, if_pos rfl]; exact key.2

def rmO (k : Int) (o : Opn) : Opn := ⟨k, o.dir, o.nm, 0, ⟨#[]⟩, 0, ⟨#[]⟩⟩
/-- what is made is taken away again -/
theorem undone {M : Nms} {s s1 : Tr} {o : Opn} (w : WF M s.es s.next) (hk : o.kind = 5 ∨ o.kind = 6 ∨ o.kind = 7) (hE : doesE M s o = 0) (h1 : s1.es = srt (doesL s o)) :
    (∃ x, tellL s o = [x] ∧ x.id = s.next) ∧ doesN s o = s.next + 1 ∧ doesE M s1 (rmO (if o.kind = 6 then 8 else 9) o) = (if o.kind = 6 then 43 else 42) ∧ doesE M s1 (rmO (if o.kind = 6 then 9 else 8) o) = 0 ∧ srt (doesL s1 (rmO (if o.kind = 6 then 9 else 8) o)) = s.es ∧ tellL s1 (rmO (if o.kind = 6 then 9 else 8) o) = [goneEn o.dir o.nm] ∧ keysL (rmO (if o.kind = 6 then 9 else 8) o) = [⟨o.dir, o.nm⟩] ∧ nodeE s.es s.next = none := by
  have hd := deed w hE
  have hw := w.step hd
  have hmem := fun y => (srt_mem (l := doesL s o) (x := y)).trans (does_mem w hd y)
  rcases hd with ⟨x, hx⟩ | ⟨e, he⟩ | ⟨e, he⟩ | ⟨e, x, he⟩
  · have hxin : x ∈ srt (doesL s o) := by rw [srt_mem, hx.hL]; exact List.mem_append_right _ (List.mem_singleton.2 rfl)
    have hat : atE s1.es o.dir o.nm = some x := by rw [h1]; exact (atE_iff hw.keyed _ _ _).2 ⟨hxin, hx.hd, hx.hnm⟩
    have hdir : dirE s1.es o.dir = 0 := by rw [h1, ← hx.hd]; exact (hw.hang x hxin).dir hw
    have hnamed : namedE M s1.es o.dir o.nm = 0 := by unfold namedE; rw [hdir, if_pos rfl]; exact hx.hchk
    have hnone : ∀ y ∈ s1.es, y.d ≠ x.id := by
      intro y hy hq
      rw [h1, srt_mem, hx.hL] at hy
      rcases List.mem_append.1 hy with hy | hy
      · have := (w.hang y hy).dir w
        rw [hq, hx.hid] at this
        unfold dirE at this
        have h0 := w.next2
        rw [(nodeE_none_iff s.es (by omega)).2 (fun e he => by have := w.ids e he; omega)] at this
        simp at this
      · rw [List.mem_singleton.1 hy] at hq
        have := hw.self hxin
        exact this hq
    have hnames : ¬ 0 < namesN s1.es x.id := fun hh => by obtain ⟨y, hy, hq⟩ := namesN_pos.1 hh; exact hnone y hy hq
    have hback : srt (goneL s1.es o.dir o.nm) = s.es := by
      rw [srt_self (goneL_rises (by rw [h1]; exact hw.rises) _ _)]
      refine Rises.same (goneL_rises (by rw [h1]; exact hw.rises) _ _) w.rises fun y => ?_
      rw [goneL_mem, h1, srt_mem, hx.hL, List.mem_append, List.mem_singleton]
      constructor
      · rintro ⟨hy | rfl, hq⟩
        · exact hy
        · exact absurd ⟨hx.hd, hx.hnm⟩ hq
      · intro hy
        exact ⟨.inl hy, (atE_none_iff _ _).1 hx.hno y hy⟩
    have h0 := w.next2
    refine ⟨⟨x, hx.hT, hx.hid⟩, hx.hN, ?_, ?_, ?_, ?_, ?_, (nodeE_none_iff s.es (by omega)).2 fun e he => by have := w.ids e he; omega⟩
    · by_cases h6 : o.kind = 6
      · rw [if_pos h6, if_pos h6]
        have hx1 : x.kind = 1 := by rw [hx.hkind]; simp [kindP, h6]
        unfold doesE
        rw [show namedE M s1.es (rmO 8 o).dir (rmO 8 o).nm = 0 from hnamed]
        show removedE s1.es o.dir o.nm false = 43
        unfold removedE
        rw [hat]; simp [hx1]
      · rw [if_neg h6, if_neg h6]
        have hx1 : ¬ x.kind = 1 := by rw [hx.hkind]; unfold kindP; rcases hk with hk | hk | hk <;> simp [hk]; exact absurd hk h6
        unfold doesE
        rw [show namedE M s1.es (rmO 9 o).dir (rmO 9 o).nm = 0 from hnamed]
        show removedE s1.es o.dir o.nm true = 42
        unfold removedE
        rw [hat]; simp [hx1]
    · by_cases h6 : o.kind = 6
      · rw [if_pos h6]
        have hx1 : x.kind = 1 := by rw [hx.hkind]; simp [kindP, h6]
        unfold doesE
        rw [show namedE M s1.es (rmO 9 o).dir (rmO 9 o).nm = 0 from hnamed]
        show removedE s1.es o.dir o.nm true = 0
        unfold removedE
        rw [hat]
        have : namesN s1.es x.id = 0 := by omega
        simp [hx1, this]
      · rw [if_neg h6]
        have hx1 : ¬ x.kind = 1 := by rw [hx.hkind]; unfold kindP; rcases hk with hk | hk | hk <;> simp [hk]; exact absurd hk h6
        unfold doesE
        rw [show namedE M s1.es (rmO 8 o).dir (rmO 8 o).nm = 0 from hnamed]
        show removedE s1.es o.dir o.nm false = 0
        unfold removedE
        rw [hat]; simp [hx1]
    · by_cases h6 : o.kind = 6
      · rw [if_pos h6]; exact hback
      · rw [if_neg h6]; exact hback
    · by_cases h6 : o.kind = 6
      · rw [if_pos h6]; rfl
      · rw [if_neg h6]; rfl
    · by_cases h6 : o.kind = 6
      · rw [if_pos h6]; rfl
      · rw [if_neg h6]; rfl
  · exact absurd hk (by have := he.hk; omega)
  · exact absurd hk (by have := he.hk; omega)
  · exact absurd hk (by have := he.hk; omega)
end Go.Proofs.Ytjkgafbknjpjbaa
