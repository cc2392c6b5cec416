/- A rename, plainly: what lies in a directory that moves stays. -/
import Derived.Test.YtjkgafbknjpjbaaPuG
namespace Go.Proofs.Ytjkgafbknjpjbaa
open Go.RowKit

/-- an entry that no mutation told of is looked up as it was -/
theorem kept_look {M : Nms} {s : Tr} {o : Opn} (w : WF M s.es s.next) (h : Deed M s o) {u : En} (hu : u ∈ s.es) (hn : ¬ Told (tellL s o) u) : namedE M (srt (doesL s o)) u.d u.nm = 0 ∧ nowE (srt (doesL s o)) u.d u.nm = u := by
  have w' := w.step h
  have hm : u ∈ srt (doesL s o) := srt_mem.2 ((does_mem w h u).2 (.inl ⟨hu, hn⟩))
  have hd := (hang_on w h (w.hang u hu) ⟨u, hu, rfl⟩).dir w'
  refine ⟨by unfold namedE; rw [if_pos hd]; exact w.chk u hu, ?_⟩
  rw [nowE_at, (atE_iff w'.keyed _ _ u).2 ⟨hm, rfl, rfl⟩]
theorem moves {M : Nms} {s : Tr} {o : Opn} (w : WF M s.es s.next) (hk : o.kind = 10) (hE : doesE M s o = 0) :
    ∃ x y z : En, (namedE M s.es o.dir o.nm = 0 ∧ nowE s.es o.dir o.nm = x ∧ x.neg = false) ∧
      (namedE M (srt (doesL s o)) o.dst o.new = 0 ∧ nowE (srt (doesL s o)) o.dst o.new = y ∧ y.neg = false ∧ y.id = x.id ∧ y.kind = x.kind ∧ y.mode = x.mode ∧ y.tg = x.tg) ∧
      (namedE M (srt (doesL s o)) o.dir o.nm = 0 ∧ nowE (srt (doesL s o)) o.dir o.nm = z ∧ z.neg = !decide (o.dir = o.dst ∧ o.nm = o.new)) ∧
      ∀ u ∈ s.es, u.d = x.id → namedE M (srt (doesL s o)) u.d u.nm = 0 ∧ nowE (srt (doesL s o)) u.d u.nm = u := by
  have hd := deed w hE
  have hnm := (doesE_kind hE).2.2
  have hd2 := hd
  cases hd2 using Deed.el with
  | made x hk' => omega
  | gone e hk' => omega
  | moved e hk' he hed hen hne hdir hchk hfree hto hT hL hN =>
    have hg : goneEn o.dir o.nm ∈ tellL s o := by rw [hT]; split <;> simp
    have hm : movedEn e o.dst o.new ∈ tellL s o := by rw [hT]; split <;> simp
    have h1 := told_look w hd hg
    have h2 := told_look w hd hm
    refine ⟨e, movedEn e o.dst o.new, goneEn o.dir o.nm, ⟨hnm, by rw [nowE_at, (atE_iff w.keyed _ _ e).2 ⟨he, hed, hen⟩], w.neg e he⟩, ⟨h2.1, h2.2, rfl, rfl, rfl, rfl, rfl⟩, ⟨h1.1, h1.2, ?_⟩, fun u hu hui => kept_look w hd hu ?_⟩
    · have : ¬ (o.dir = o.dst ∧ o.nm = o.new) := fun h => hne ⟨h.1.symm, h.2.symm⟩
      rw [decide_eq_false this]; rfl
    · rintro ⟨x, hx, k1, k2⟩
      have : x = goneEn o.dir o.nm ∨ x = movedEn e o.dst o.new := by
        rw [hT] at hx
        split at hx <;> simp at hx <;> rcases hx with h | h <;> simp [h]
      rcases this with rfl | rfl
      · have : u = e := w.keyed u hu e he (by rw [k1, hed]; rfl) (by rw [k2, hen]; rfl)
        rw [this] at hui
        exact w.self he hui
      · have : o.dst = e.id := by rw [← hui, k1]; rfl
        rw [this, withinF_hit] at hfree
        cases hfree
  | set e x he hed hen hx hm hk' hT hL hA hl hN =>
    have hq : x = e ∧ o.dst = o.dir ∧ o.new = o.nm := by
      rcases hk' with h | h
      · omega
      · exact h.2
    obtain ⟨rfl, hq1, hq2⟩ := hq
    have h1 := told_look w hd (x := x) (by rw [hT]; simp)
    rw [hed, hen] at h1
    refine ⟨x, x, x, ⟨hnm, by rw [nowE_at, (atE_iff w.keyed _ _ x).2 ⟨he, hed, hen⟩], w.neg x he⟩, ⟨by rw [hq1, hq2]; exact h1.1, by rw [hq1, hq2]; exact h1.2, w.neg x he, rfl, rfl, rfl, rfl⟩, ⟨h1.1, h1.2, ?_⟩, fun u hu hui => kept_look w hd hu ?_⟩
    · rw [w.neg x he, decide_eq_true ⟨hq1.symm, hq2.symm⟩]; rfl
    · rintro ⟨y, hy, k1, k2⟩
      rw [hT] at hy
      simp at hy
      subst hy
      have : u = y := w.keyed u hu y he k1 k2
      rw [this] at hui
      exact w.self he hui
end Go.Proofs.Ytjkgafbknjpjbaa
