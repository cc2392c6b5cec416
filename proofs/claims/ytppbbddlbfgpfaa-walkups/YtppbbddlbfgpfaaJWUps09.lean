/- The tree, plainly: a mutation leaves a right tree; what it tells is what is there then. -/
import Derived.Test.YtppbbddlbfgpfaaJWUps08
namespace Go.Proofs.Ytppbbddlbfgpfaa
section
open Go.RowKit

theorem lessK_not {d d2 : Int} {nm nm2 : ByteArray} (h : lessK d nm d2 nm2 = true) : ¬ (d2 = d ∧ nm2 = nm) := by
  rintro ⟨rfl, rfl⟩
  exact lessE_irrefl ⟨d2, nm2, false, 0, 0, 0, ⟨#[]⟩⟩ h
theorem lessK_flip {d d2 : Int} {nm nm2 : ByteArray} (h : lessK d nm d2 nm2 = false) (hne : ¬ (d2 = d ∧ nm2 = nm)) : lessK d2 nm2 d nm = true := by
  rcases lessE_total ⟨d, nm, false, 0, 0, 0, ⟨#[]⟩⟩ ⟨d2, nm2, false, 0, 0, 0, ⟨#[]⟩⟩ with k | ⟨k1, k2⟩ | k
  · unfold lessE at k; rw [h] at k; cases k
  · exact absurd ⟨k1.symm, k2.symm⟩ hne
  · exact k
theorem lessK_asym {d d2 : Int} {nm nm2 : ByteArray} (h : lessK d nm d2 nm2 = true) : lessK d2 nm2 d nm = false := by
  cases k : lessK d2 nm2 d nm with
  | false => rfl
  | true => exact absurd (lessE_trans (e := ⟨d, nm, false, 0, 0, 0, ⟨#[]⟩⟩) (f := ⟨d2, nm2, false, 0, 0, 0, ⟨#[]⟩⟩) (g := ⟨d, nm, false, 0, 0, 0, ⟨#[]⟩⟩) h k) (lessE_irrefl _)

/-- what is told: no key twice; what is nothing is plainly nothing -/
theorem tell_apart {M : Nms} {s : Tr} {o : Opn} (h : Deed M s o) : Apart (tellL s o) := by
  cases h using Deed.el with
  | made x _ _ _ _ _ _ _ _ _ _ _ hT => rw [hT]; exact List.pairwise_singleton _ _
  | gone e _ _ _ _ _ hT => rw [hT]; exact List.pairwise_singleton _ _
  | set e x _ _ _ _ _ _ hT => rw [hT]; exact List.pairwise_singleton _ _
  | moved e hk he hd hnm hne _ _ _ _ hT =>
    rw [hT]
    split
    · refine List.pairwise_cons.2 ⟨fun y hy => ?_, List.pairwise_singleton _ _⟩
      rw [List.mem_singleton.1 hy]
      rintro ⟨h1, h2⟩
      exact hne ⟨h1.symm, h2.symm⟩
    · refine List.pairwise_cons.2 ⟨fun y hy => ?_, List.pairwise_singleton _ _⟩
      rw [List.mem_singleton.1 hy]
      exact hne
theorem tell_neg {M : Nms} {s : Tr} {o : Opn} (w : WF M s.es s.next) (h : Deed M s o) : ∀ x ∈ tellL s o, x.neg = true → x = goneEn x.d x.nm := by
  cases h using Deed.el with
  | made x _ _ _ hneg _ _ _ _ _ _ _ hT => rw [hT]; intro y hy hq; rw [List.mem_singleton.1 hy, hneg] at hq; cases hq
  | gone e _ _ _ _ _ hT => rw [hT]; intro y hy hq; rw [List.mem_singleton.1 hy]; rfl
  | set e x he _ _ hx _ _ hT => rw [hT]; intro y hy hq; rw [List.mem_singleton.1 hy, hx] at hq; have := w.neg e he; simp [this] at hq
  | moved e hk he hd hnm hne _ _ _ _ hT =>
    rw [hT]
    intro y hy hq
    have : y = goneEn o.dir o.nm ∨ y = movedEn e o.dst o.new := by
      split at hy <;> simp at hy <;> first | exact hy | exact hy.symm
    rcases this with rfl | rfl
    · rfl
    · cases hq
/-- what is there behind it -/
theorem does_mem {M : Nms} {s : Tr} {o : Opn} (w : WF M s.es s.next) (h : Deed M s o) (y : En) : y ∈ doesL s o ↔ (y ∈ s.es ∧ ¬ Told (tellL s o) y) ∨ (y ∈ tellL s o ∧ y.neg = false) := by
  cases h using Deed.el with
  | made x _ hd hnm hneg _ _ _ hno _ _ _ hT hL =>
    rw [hT, hL, List.mem_append, List.mem_singleton]
    constructor
    · rintro (hy | rfl)
      · refine .inl ⟨hy, ?_⟩
        rintro ⟨z, hz, hq⟩
        rw [List.mem_singleton.1 hz, hd, hnm] at hq
        exact (atE_none_iff _ _).1 hno y hy hq
      · exact .inr ⟨rfl, hneg⟩
    · rintro (hy | hy)
      · exact .inl hy.1
      · exact .inr hy.1
  | gone e _ _ _ _ _ hT hL =>
    rw [hT, hL, goneL_mem, List.mem_singleton]
    constructor
    · rintro ⟨hy, hq⟩
      exact .inl ⟨hy, fun ⟨z, hz, hk⟩ => by rw [List.mem_singleton.1 hz] at hk; exact hq hk⟩
    · rintro (⟨hy, hq⟩ | ⟨rfl, hq⟩)
      · exact ⟨hy, fun hk => hq ⟨_, List.mem_singleton.2 rfl, hk⟩⟩
      · cases hq
  | set e x he hd hnm hx _ _ hT hL =>
    have hxn : x.neg = false := by rw [hx]; exact w.neg e he
    have hxk : x.d = o.dir ∧ x.nm = o.nm := by rw [hx]; exact ⟨hd, hnm⟩
    rw [hT, hL, List.mem_singleton]
    constructor
    · rintro (⟨hy, hq⟩ | rfl)
      · exact .inl ⟨hy, fun ⟨z, hz, hk⟩ => by rw [List.mem_singleton.1 hz, hxk.1, hxk.2] at hk; exact hq hk⟩
      · exact .inr ⟨rfl, hxn⟩
    · rintro (⟨hy, hq⟩ | ⟨rfl, hq⟩)
      · exact .inl ⟨hy, fun hk => hq ⟨_, List.mem_singleton.2 rfl, by rw [hxk.1, hxk.2]; exact hk⟩⟩
      · exact .inr rfl
  | moved e hk he hd hnm hne _ _ _ _ hT hL =>
    have hm : ∀ z, z ∈ tellL s o ↔ z = goneEn o.dir o.nm ∨ z = movedEn e o.dst o.new := by
      intro z
      rw [hT]
      split
      · simp
      · simp [or_comm]
    have hg : ∀ z, z ∈ (if (atE s.es o.dst o.new).isSome then goneL s.es o.dst o.new else s.es) ↔ z ∈ s.es ∧ ¬ (z.d = o.dst ∧ z.nm = o.new) := by
      intro z
      split
      · exact goneL_mem
      · rename_i hq
        have hq : atE s.es o.dst o.new = none := by simpa using hq
        exact ⟨fun hz => ⟨hz, (atE_none_iff _ _).1 hq z hz⟩, fun hz => hz.1⟩
    rw [hL, List.mem_append, goneL_mem, List.mem_singleton, hg]
    constructor
    · rintro (⟨⟨hy, h2⟩, h1⟩ | rfl)
      · refine .inl ⟨hy, ?_⟩
        rintro ⟨z, hz, hq⟩
        rcases (hm z).1 hz with rfl | rfl
        · exact h1 hq
        · exact h2 hq
      · exact .inr ⟨(hm _).2 (.inr rfl), rfl⟩
    · rintro (⟨hy, hq⟩ | ⟨hy, hq⟩)
      · exact .inl ⟨⟨hy, fun hk => hq ⟨_, (hm _).2 (.inr rfl), hk⟩⟩, fun hk => hq ⟨_, (hm _).2 (.inl rfl), hk⟩⟩
      · rcases (hm y).1 hy with rfl | rfl
        · cases hq
        · exact .inr rfl
theorem does_apart {M : Nms} {s : Tr} {o : Opn} (w : WF M s.es s.next) (h : Deed M s o) : Apart (doesL s o) := by
  cases h using Deed.el with
  | made x _ hd hnm hneg _ _ _ hno _ _ _ hT hL => rw [hL]; exact apart_snoc w.rises.apart fun y hy => by rw [hd, hnm]; exact (atE_none_iff _ _).1 hno y hy
  | gone e _ _ _ _ _ hT hL => rw [hL]; exact w.rises.apart.filter _
  | set e x he hd hnm hx _ _ hT hL hA => exact hA
  | moved e hk he hd hnm hne _ _ _ _ hT hL =>
    rw [hL]
    refine apart_snoc ?_ fun y hy => ?_
    · split
      · exact (w.rises.apart.filter _).filter _
      · exact w.rises.apart.filter _
    · have := (goneL_mem.1 hy).1
      split at this
      · exact (goneL_mem.1 this).2
      · rename_i hq
        have hq : atE s.es o.dst o.new = none := by simpa using hq
        exact (atE_none_iff _ _).1 hq y this
theorem does_len {M : Nms} {s : Tr} {o : Opn} (w : WF M s.es s.next) (h : Deed M s o) : (doesL s o).length ≤ 47 := by
  have hl := w.len
  cases h using Deed.el with
  | made x _ hd hnm hneg _ _ _ hno _ _ hroom hT hL => rw [hL]; simp; omega
  | gone e _ _ _ _ _ hT hL => rw [hL]; have := goneL_le s.es o.dir o.nm; omega
  | set e x he hd hnm hx _ _ hT hL hA hl => exact hl
  | moved e hk he hd hnm hne _ _ _ _ hT hL =>
    rw [hL, List.length_append]
    have h1 : (goneL (if (atE s.es o.dst o.new).isSome then goneL s.es o.dst o.new else s.es) o.dir o.nm).length < s.es.length := by
      unfold goneL
      split
      · refine Nat.lt_of_lt_of_le ?_ (goneL_le s.es o.dst o.new)
        unfold goneL
        rw [List.length_filter_lt_length_iff_exists]
        refine ⟨e, List.mem_filter.2 ⟨he, ?_⟩, by simp [hd, hnm]⟩
        rw [Bool.not_eq_true', decide_eq_false_iff_not, hd, hnm]
        exact fun hq => hne ⟨hq.1.symm, hq.2.symm⟩
      · rw [List.length_filter_lt_length_iff_exists]
        exact ⟨e, he, by simp [hd, hnm]⟩
    simp
    omega
/-- the program's puts leave the document's list, rising -/
theorem puts_does {M : Nms} {s : Tr} {o : Opn} (w : WF M s.es s.next) (h : Deed M s o) : putsL s.es (tellL s o) = srt (doesL s o) :=
  Rises.same (putsL_rises w.rises _) (srt_rises (does_apart w h)) fun y => by rw [putsL_mem (tell_apart h), srt_mem, does_mem w h]
theorem next_does {M : Nms} {s : Tr} {o : Opn} (w : WF M s.es s.next) (h : Deed M s o) : nextL s.next (tellL s o) = doesN s o := by
  cases h using Deed.el with
  | made x _ hd hnm hneg hid _ _ hno _ _ hroom hT hL hN => rw [hT, hN]; simp [nextL, hneg, hid]; omega
  | gone e _ _ _ _ _ hT hL hN => rw [hT, hN]; rfl
  | set e x he hd hnm hx _ _ hT hL hA hl hN =>
    have hi := w.ids e he
    have hxn : x.neg = false := by rw [hx]; exact w.neg e he
    have hxi : x.id = e.id := by rw [hx]
    rw [hT, hN]; simp [nextL, hxn, hxi]; omega
  | moved e hk he hd hnm hne _ _ _ _ hT hL hN =>
    have hi := w.ids e he
    rw [hT, hN]
    split
    · simp [nextL, goneEn, movedEn]; omega
    · simp [nextL, goneEn, movedEn]; omega
theorem tell_now {M : Nms} {s : Tr} {o : Opn} (w : WF M s.es s.next) (h : Deed M s o) : ∀ x ∈ tellL s o, nowE (doesL s o) x.d x.nm = x := by
  intro x hx
  rw [nowE_at]
  cases hn : x.neg with
  | false =>
    rw [(atE_iff (does_apart w h).keyed x.d x.nm x).2 ⟨(does_mem w h x).2 (.inr ⟨hx, hn⟩), rfl, rfl⟩]
  | true =>
    have : atE (doesL s o) x.d x.nm = none := by
      rw [atE_none_iff]
      intro y hy hq
      rcases (does_mem w h y).1 hy with ⟨_, k⟩ | ⟨k1, k2⟩
      · exact k ⟨x, hx, hq⟩
      · have := (tell_apart h).keyed y k1 x hx hq.1 hq.2
        subst this
        rw [hn] at k2; cases k2
    rw [this]
    exact (tell_neg w h x hx hn).symm
theorem tell_keys {M : Nms} {s : Tr} {o : Opn} (h : Deed M s o) : (tellL s o).map (fun x => (⟨x.d, x.nm⟩ : Ky)) = keysL o := by
  cases h using Deed.el with
  | made x hk hd hnm _ _ _ _ _ _ _ _ hT => rw [hT]; unfold keysL; rw [if_neg (by omega)]; simp [hd, hnm]
  | gone e hk _ _ _ _ hT => rw [hT]; unfold keysL; rw [if_neg (by omega)]; rfl
  | set e x he hd hnm hx _ hk hT =>
    rw [hT]; unfold keysL
    have hxk : x.d = o.dir ∧ x.nm = o.nm := by rw [hx]; exact ⟨hd, hnm⟩
    have hn : ¬ (o.kind = 10 ∧ ¬ (o.dst = o.dir ∧ o.new = o.nm)) := by
      rintro ⟨h1, h2⟩
      rcases hk with k | k
      · omega
      · exact h2 ⟨k.2.2.1, k.2.2.2⟩
    rw [if_neg hn]
    simp [hxk]
  | moved e hk he hd hnm hne _ _ _ _ hT =>
    have hp : o.kind = 10 ∧ ¬ (o.dst = o.dir ∧ o.new = o.nm) := ⟨hk, hne⟩
    unfold keysL
    rw [if_pos hp, hT]
    cases hl : lessK o.dir o.nm o.dst o.new with
    | true => rw [lessK_asym hl]; rfl
    | false => rw [lessK_flip hl hne]; rfl
/-- the entries that the document tells -/
theorem tell_doc {M : Nms} {s : Tr} {o : Opn} (w : WF M s.es s.next) (h : Deed M s o) : tellL s o = (keysL o).map fun k => nowE (doesL s o) k.d k.nm := by
  rw [← tell_keys h, List.map_map]
  conv => lhs; rw [← List.map_id (tellL s o)]
  exact List.map_congr_left fun x hx => (tell_now w h x hx).symm

/-- a right tree is left -/
theorem WF.step {M : Nms} {s : Tr} {o : Opn} (w : WF M s.es s.next) (h : Deed M s o) : WF M (srt (doesL s o)) (doesN s o) := by
  have hmem := fun y => does_mem w h y
  have hsm : ∀ y, y ∈ srt (doesL s o) ↔ (y ∈ s.es ∧ ¬ Told (tellL s o) y) ∨ (y ∈ tellL s o ∧ y.neg = false) := fun y => by rw [srt_mem]; exact hmem y
  have hA := does_apart w h
  have hLen := does_len w h
  -- the new entries
  have hnew : ∀ x ∈ tellL s o, x.neg = false → (2 ≤ x.id ∧ x.id < doesN s o) ∧ M.chk x.nm = 0 ∧ ((0 ≤ x.mode ∧ x.mode ≤ 511) ∧ (x.kind = 3 ∧ M.tgt x.tg = 0 ∨ (x.kind = 1 ∨ x.kind = 2) ∧ x.tg = ⟨#[]⟩)) ∧ (∀ y ∈ s.es, ¬ Told (tellL s o) y → y.id ≠ x.id) ∧ Hangs (srt (doesL s o)) x.d := by
    cases h using Deed.el with
    | made x _ hd hnm hneg hid _ hok hno hdir hchk hroom hT hL hN =>
      intro y hy _
      rw [hT] at hy
      rw [List.mem_singleton.1 hy, hN, hid, hnm]
      refine ⟨⟨w.next2, by omega⟩, hchk, hok, fun z hz _ => by have := w.ids z hz; omega, ?_⟩
      rw [hd]
      exact (w.hangs hdir).mono fun e he => by rw [srt_mem, hL]; exact List.mem_append_left _ he
    | gone e _ _ _ _ _ hT => rw [hT]; intro y hy hq; rw [List.mem_singleton.1 hy] at hq; cases hq
    | set e x he hd hnm hx hm hk hT hL _ _ hN =>
      intro y hy _
      rw [hT] at hy
      have hxi : x.id = e.id := by rw [hx]
      have hxk : x.kind = e.kind := by rw [hx]
      have hxt : x.tg = e.tg := by rw [hx]
      have hxm : x.nm = e.nm := by rw [hx]
      have hxd : x.d = e.d := by rw [hx]
      rw [List.mem_singleton.1 hy, hN, hxi, hxm, hxk, hxt, hxd]
      refine ⟨w.ids e he, w.chk e he, ⟨hm, (w.ok e he).2⟩, fun z hz ht hq => ?_, ?_⟩
      · obtain rfl := w.ided z hz e he hq
        exact ht ⟨x, by rw [hT]; exact List.mem_singleton.2 rfl, hxd.symm, hxm.symm⟩
      · refine (w.hang e he).on (fun f hf hfk _ hh => ?_) ⟨e, he, rfl⟩
        by_cases hq : f.d = o.dir ∧ f.nm = o.nm
        · obtain rfl := w.keyed f hf e he (hq.1.trans hd.symm) (hq.2.trans hnm.symm)
          exact .up x _ (srt_mem.2 ((hL x).2 (.inr rfl))) (by rw [hxk]; exact hfk) hxi (by rw [hxd]; exact hh)
        · exact .up f _ (srt_mem.2 ((hL f).2 (.inl ⟨hf, hq⟩))) hfk rfl hh
    | moved e hk he hd hnm hne hdir hchk hfree hto hT hL hN =>
      intro y hy hq
      have hy' : y = goneEn o.dir o.nm ∨ y = movedEn e o.dst o.new := by
        rw [hT] at hy
        split at hy <;> simp at hy <;> first | exact hy | exact hy.symm
      rcases hy' with rfl | rfl
      · cases hq
      · rw [hN]
        have hgt : goneEn o.dir o.nm ∈ tellL s o := by rw [hT]; split <;> simp
        refine ⟨w.ids e he, hchk, w.ok e he, fun z hz ht hq => ?_, ?_⟩
        · obtain rfl := w.ided z hz e he hq
          exact ht ⟨_, hgt, hd, hnm⟩
        · refine (w.free (w.hangs hdir) hfree).hangs (R := fun f => f ∈ s.es ∧ f.d = o.dst ∧ f.nm = o.new) ?_ ?_ ?_
          · rintro f ⟨hf, h1, h2⟩ hq
            have := hto f ((atE_iff w.keyed _ _ _).2 ⟨hf, h1, h2⟩) f hf
            exact this (by rw [h1]; exact hq)
          · rintro z hz f ⟨hf, h1, h2⟩
            exact hto f ((atE_iff w.keyed _ _ _).2 ⟨hf, h1, h2⟩) z hz
          · intro z hz hzi hzr
            refine (hsm z).2 (.inl ⟨hz, ?_⟩)
            rintro ⟨t, ht, hk1, hk2⟩
            have ht' : t = goneEn o.dir o.nm ∨ t = movedEn e o.dst o.new := by
              rw [hT] at ht
              split at ht <;> simp at ht <;> first | exact ht | exact ht.symm
            rcases ht' with rfl | rfl
            · exact hzi (by rw [w.keyed z hz e he (hk1.trans hd.symm) (hk2.trans hnm.symm)])
            · exact hzr ⟨hz, hk1, hk2⟩
  -- what has something in it hangs on
  have hup : ∀ f ∈ s.es, f.kind = 1 → (∃ y ∈ s.es, y.d = f.id) → Hangs (srt (doesL s o)) f.d → Hangs (srt (doesL s o)) f.id := by
    intro f hf hfk hc hh
    by_cases ht : Told (tellL s o) f
    · cases h using Deed.el with
      | made x _ hd hnm hneg hid _ hok hno hdir hchk hroom hT hL hN =>
        obtain ⟨z, hz, h1, h2⟩ := ht
        rw [hT] at hz
        rw [List.mem_singleton.1 hz, hd] at h1
        rw [List.mem_singleton.1 hz, hnm] at h2
        exact absurd ⟨h1, h2⟩ ((atE_none_iff _ _).1 hno f hf)
      | gone e _ he hd hnm hempty hT =>
        obtain ⟨z, hz, h1, h2⟩ := ht
        rw [hT] at hz
        rw [List.mem_singleton.1 hz] at h1 h2
        obtain rfl := w.keyed f hf e he (h1.trans hd.symm) (h2.trans hnm.symm)
        obtain ⟨y, hy, hq⟩ := hc
        exact absurd hq (hempty y hy)
      | set e x he hd hnm hx hm hk hT hL _ _ hN =>
        have hxi : x.id = e.id := by rw [hx]
        have hxk : x.kind = e.kind := by rw [hx]
        have hxm : x.nm = e.nm := by rw [hx]
        have hxd : x.d = e.d := by rw [hx]
        obtain ⟨z, hz, h1, h2⟩ := ht
        rw [hT] at hz
        rw [List.mem_singleton.1 hz] at h1 h2
        obtain rfl := w.keyed f hf e he (h1.trans hxd) (h2.trans hxm)
        exact .up x _ (srt_mem.2 ((hL x).2 (.inr rfl))) (by rw [hxk]; exact hfk) hxi (by rw [hxd]; exact hh)
      | moved e hk he hd hnm hne hdir hchk hfree hto hT hL hN =>
        obtain ⟨z, hz, h1, h2⟩ := ht
        have hz' : z = goneEn o.dir o.nm ∨ z = movedEn e o.dst o.new := by
          rw [hT] at hz
          split at hz <;> simp at hz <;> first | exact hz | exact hz.symm
        have hmt : movedEn e o.dst o.new ∈ tellL s o := by rw [hT]; split <;> simp
        rcases hz' with rfl | rfl
        · obtain rfl := w.keyed f hf e he (h1.trans hd.symm) (h2.trans hnm.symm)
          exact .up (movedEn f o.dst o.new) _ ((hsm _).2 (.inr ⟨hmt, rfl⟩)) hfk rfl (hnew _ hmt rfl).2.2.2.2
        · obtain ⟨y, hy, hq⟩ := hc
          exact absurd hq (hto f ((atE_iff w.keyed _ _ _).2 ⟨hf, h1, h2⟩) y hy)
    · exact .up f _ ((hsm f).2 (.inl ⟨hf, ht⟩)) hfk rfl hh
  have hnx : s.next ≤ doesN s o := by
    cases h using Deed.el with
    | made x _ _ _ _ _ _ _ _ _ _ _ _ _ hN => omega
    | gone e _ _ _ _ _ _ _ hN => omega
    | set e x _ _ _ _ _ _ _ _ _ _ hN => omega
    | moved e _ _ _ _ _ _ _ _ _ _ _ hN => omega
  refine ⟨srt_rises hA, by rw [srt_len]; exact hLen, fun e he => ?_, fun e he f hf hq => ?_, fun e he => ?_, fun e he => ?_, fun e he => ?_, fun e he => ?_, by have := w.next2; omega⟩
  · rcases (hsm e).1 he with ⟨h1, _⟩ | ⟨h1, h2⟩
    · have := w.ids e h1; omega
    · exact (hnew e h1 h2).1
  · rcases (hsm e).1 he with ⟨h1, h2⟩ | ⟨h1, h2⟩ <;> rcases (hsm f).1 hf with ⟨k1, k2⟩ | ⟨k1, k2⟩
    · exact w.ided e h1 f k1 hq
    · exact absurd hq ((hnew f k1 k2).2.2.2.1 e h1 h2)
    · exact absurd hq.symm ((hnew e h1 h2).2.2.2.1 f k1 k2)
    · -- two new ones: there is but one that is there
      have : ∀ x y, x ∈ tellL s o → y ∈ tellL s o → x.neg = false → y.neg = false → x = y := by
        cases h using Deed.el with
        | made z _ _ _ _ _ _ _ _ _ _ _ hT => rw [hT]; intro x y hx hy _ _; rw [List.mem_singleton.1 hx, List.mem_singleton.1 hy]
        | gone z _ _ _ _ _ hT => rw [hT]; intro x y hx hy _ _; rw [List.mem_singleton.1 hx, List.mem_singleton.1 hy]
        | set z z' _ _ _ _ _ _ hT => rw [hT]; intro x y hx hy _ _; rw [List.mem_singleton.1 hx, List.mem_singleton.1 hy]
        | moved z _ _ _ _ _ _ _ _ _ hT =>
          rw [hT]
          intro x y hx hy hxn hyn
          have hx' : x = goneEn o.dir o.nm ∨ x = movedEn z o.dst o.new := by
            split at hx <;> simp at hx <;> first | exact hx | exact hx.symm
          have hy' : y = goneEn o.dir o.nm ∨ y = movedEn z o.dst o.new := by
            split at hy <;> simp at hy <;> first | exact hy | exact hy.symm
          rcases hx' with rfl | rfl
          · cases hxn
          · rcases hy' with rfl | rfl
            · cases hyn
            · rfl
      exact this e f h1 k1 h2 k2
  · rcases (hsm e).1 he with ⟨h1, _⟩ | ⟨h1, h2⟩
    · exact w.neg e h1
    · exact h2
  · rcases (hsm e).1 he with ⟨h1, _⟩ | ⟨h1, h2⟩
    · exact w.chk e h1
    · exact (hnew e h1 h2).2.1
  · rcases (hsm e).1 he with ⟨h1, _⟩ | ⟨h1, h2⟩
    · exact w.ok e h1
    · exact (hnew e h1 h2).2.2.1
  · rcases (hsm e).1 he with ⟨h1, _⟩ | ⟨h1, h2⟩
    · exact (w.hang e h1).on hup ⟨e, h1, rfl⟩
    · exact (hnew e h1 h2).2.2.2.2
end
section
open Go.RowKit

/-- the same tree, wherever its list lies -/
structure Alike (s s' : Tr) : Prop where
  es : s.es = s'.es
  vers : s.vers = s'.vers
  next : s.next = s'.next
theorem Alike.refl (s : Tr) : Alike s s := ⟨rfl, rfl, rfl⟩
theorem Alike.symm {s s' : Tr} (h : Alike s s') : Alike s' s := ⟨h.es.symm, h.vers.symm, h.next.symm⟩
theorem Alike.trans {s s' s'' : Tr} (h : Alike s s') (k : Alike s' s'') : Alike s s'' := ⟨h.es.trans k.es, h.vers.trans k.vers, h.next.trans k.next⟩
theorem doesE_eq (M : Nms) {s s' : Tr} (h : s.es = s'.es) (o : Opn) : doesE M s o = doesE M s' o := by unfold doesE; rw [h]
theorem doesL_eq {s s' : Tr} (h : Alike s s') (o : Opn) : doesL s o = doesL s' o := by unfold doesL; rw [h.es, h.next]
theorem doesN_eq {s s' : Tr} (h : Alike s s') (o : Opn) : doesN s o = doesN s' o := by unfold doesN; rw [h.next]
theorem tellL_eq {s s' : Tr} (h : Alike s s') (o : Opn) : tellL s o = tellL s' o := by unfold tellL; rw [h.es, h.next]
/-- one mutation -/
def stepT (M : Nms) (s : Tr) (o : Opn) : Tr := if doesE M s o = 0 then ⟨s.v, srt (doesL s o), s.vers + 1, doesN s o⟩ else s
theorem stepT_alike (M : Nms) {s s' : Tr} (h : Alike s s') (o : Opn) : Alike (stepT M s o) (stepT M s' o) := by
  unfold stepT
  rw [doesE_eq M h.es, doesL_eq h, doesN_eq h, h.vers]
  split
  · exact ⟨rfl, rfl, rfl⟩
  · exact h
def runT (M : Nms) (s : Tr) (ops : List Opn) : Tr := ops.foldl (stepT M) s
theorem runT_snoc (M : Nms) (s : Tr) (ops : List Opn) (o : Opn) : runT M s (ops ++ [o]) = stepT M (runT M s ops) o := by unfold runT; rw [List.foldl_append]; rfl
theorem runT_app (M : Nms) (s : Tr) (a b : List Opn) : runT M s (a ++ b) = runT M (runT M s a) b := by unfold runT; rw [List.foldl_append]
theorem runT_alike (M : Nms) {s s' : Tr} (h : Alike s s') (ops : List Opn) : Alike (runT M s ops) (runT M s' ops) := by
  induction ops generalizing s s' with
  | nil => exact h
  | cons o ops ih => exact ih (stepT_alike M h o)
/-- a right tree, with room in its numbers for so many more mutations -/
structure Good (M : Nms) (s : Tr) (k : Int) : Prop where
  wf : WF M s.es s.next
  v0 : 0 ≤ s.vers
  v1 : s.vers ≤ k
  n1 : s.next ≤ 2 + k
theorem Good.mono {M : Nms} {s : Tr} {k k' : Int} (h : Good M s k) (hk : k ≤ k') : Good M s k' := ⟨h.wf, h.v0, by have := h.v1; omega, by have := h.n1; omega⟩
theorem Good.alike {M : Nms} {s s' : Tr} {k : Int} (h : Good M s k) (ha : Alike s s') : Good M s' k := ⟨by rw [← ha.es, ← ha.next]; exact h.wf, by rw [← ha.vers]; exact h.v0, by rw [← ha.vers]; exact h.v1, by rw [← ha.next]; exact h.n1⟩
theorem doesN_le {s : Tr} {o : Opn} : doesN s o ≤ s.next + 1 := by unfold doesN; split <;> omega
theorem Good.step {M : Nms} {s : Tr} {k : Int} (h : Good M s k) (o : Opn) : Good M (stepT M s o) (k + 1) := by
  unfold stepT
  split
  · rename_i hE
    refine ⟨h.wf.step (deed h.wf hE), ?_, ?_, ?_⟩
    · show 0 ≤ s.vers + 1; have := h.v0; omega
    · show s.vers + 1 ≤ _; have := h.v1; omega
    · show doesN s o ≤ _; have := h.n1; have := doesN_le (s := s) (o := o); omega
  · exact h.mono (by omega)
theorem Good.run {M : Nms} {s : Tr} {k : Int} (h : Good M s k) (ops : List Opn) : Good M (runT M s ops) (k + ops.length) := by
  induction ops generalizing s k with
  | nil => simpa [runT] using h
  | cons o ops ih =>
    have := ih (h.step o)
    have e : k + 1 + (ops.length : Int) = k + ((o :: ops).length : Nat) := by simp; omega
    rw [e] at this
    exact this
def emptyT : Tr := ⟨.slice none 0 0, [], 0, 2⟩
theorem Good.new (M : Nms) : Good M emptyT 0 := ⟨WF.new M, Int.le_refl _, Int.le_refl _, Int.le_refl _⟩
theorem good_behind (M : Nms) (ops : List Opn) : Good M (runT M emptyT ops) ops.length := by simpa using (Good.new M).run ops
end
end Go.Proofs.Ytppbbddlbfgpfaa
