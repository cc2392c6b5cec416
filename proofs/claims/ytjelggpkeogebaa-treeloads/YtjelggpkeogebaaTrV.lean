/- The document's tree: made, Copy. -/
import Derived.Test.YtjelggpkeogebaaTrM
namespace Go.Proofs.Ytjelggpkeogebaa
open Go.RowKit
attribute [local go_sem high] eqK neqK eqE neqE eqN neqN guardK guardE guardN

/-- behind the append and the store of the list -/
theorem push_end {W w2 : World} {t : Nat} {s : Tr} {V v2 : Value} {e : En} {o : Obj} (h : IsT W t s) (hV : s.v = V) (hroom : s.es.length + 1 ≤ 47)
    (hown : w2.ownsRow 0 56 7 v2 (s.es.length + 1) (ec s.es ++ e.vals)) (hgrow : (W.alloc o).grownBy w2 V.ownBlock) (hat : v2.ownBlock = V.ownBlock ∨ v2.ownBlock = some (W.alloc o).heap.size) :
    w2.cell? ⟨t, 0, none⟩ = some V ∧ (∀ i, w2.frozen? ⟨t, i, none⟩ = false) ∧ w2.cell? ⟨t, 2, none⟩ = some (.int .i64 s.next) ∧ Hid (TS W (w2.setCell ⟨t, 0, none⟩ v2) t s { s with v := v2, es := s.es ++ [e] }) := by
  subst hV
  have hO : Only (fun q => s.v.ownBlock = some q) W w2 :=
    ⟨hgrow.os, hgrow.tape, hgrow.output, Nat.le_trans (by simp) hgrow.size, fun k hk hn => (hgrow.block k (by simp; omega) (fun e => hn e.symm)).trans (Below.heap_alloc _ _ _ hk)⟩
  have hr : w2.heap[t]? = W.heap[t]? := hO.block t h.tt.lt (fun e => h.tt.ne (h.tv e) (by decide) rfl)
  have hh := hr.trans h.head
  have hrow : w2.ownsRow 0 56 7 v2 (s.es ++ [e]).length (ec (s.es ++ [e])) := by
    rw [List.length_append, ec_app]
    have : ec [e] = e.vals := by unfold ec; simp
    rw [this]; exact hown
  refine ⟨by rw [cell_of hh]; rfl, free_of hh, by rw [cell_of hh]; rfl, ⟨(heap_set hh 0 v2).trans rfl, owns_moved hrow fun k hk => heap_set_ne ((Tag.own hrow hk).ne (⟨_, _, hh⟩ : Tag w2 t 60) (by decide)), ?_⟩, ?_, ?_⟩
  · show (s.es ++ [e]).length ≤ 47
    rw [List.length_append]; exact hroom
  · exact (hO.mono fun _ e => .inr e).trans ((only1 w2 t 0 v2).mono fun _ e => .inl e)
  · rcases hat with e | e
    · exact .inl e
    · refine .inr fun q hq => ?_
      have hq' : v2.ownBlock = some q := hq
      rw [e] at hq'
      simp at hq'; omega
theorem TS.bump {w w' : World} {t : Nat} {s s' : Tr} (h : TS w w' t s s') (x : Int) : TS w (w'.setCell ⟨t, 2, none⟩ (.int .i64 x)) t s { s' with next := x } := by
  refine ⟨⟨(heap_set h.is.head 2 _).trans rfl, owns_moved h.is.row fun k hk => heap_set_ne ((h.is.tv hk).ne h.is.tt (by decide)), h.is.lim⟩, h.only.trans ((only1 w' t 2 _).mono fun _ e => .inl e), h.v⟩
theorem TS.vers {w w' : World} {t : Nat} {s s' : Tr} (h : TS w w' t s s') (x : Int) : TS w (w'.setCell ⟨t, 1, none⟩ (.int .i64 x)) t s { s' with vers := x } := by
  refine ⟨⟨(heap_set h.is.head 1 _).trans rfl, owns_moved h.is.row fun k hk => heap_set_ne ((h.is.tv hk).ne h.is.tt (by decide)), h.is.lim⟩, h.only.trans ((only1 w' t 1 _).mono fun _ e => .inl e), h.v⟩
theorem TS.drew {w w' : World} {t : Nat} {s s' : Tr} (h : TS w.drew w' t s s') : TS w w' t s s' := ⟨h.is, ⟨h.only.os, h.only.tape, h.only.output, h.only.size, h.only.block⟩, h.v⟩

set_option maxRecDepth 20000 in
set_option maxHeartbeats 8000000 in
theorem made_any (t : Nat) (s : Tr) (d : Int) (nm : ByteArray) (kind mode : Int) (tg : ByteArray) (w : World) (h : IsT w t s) (hnx : -9223372036854775808 ≤ s.next ∧ s.next < 9223372036854775807) :
    Calls Try.prog 60 #[.pointer (some ⟨t, 0, none⟩), .agg #[.int .i64 d, .string nm], .int .i64 kind, .int .i64 mode, .string tg] w fun e w' => e = .returned (.int .i64 (madeE s.es d nm)) ∧ Left w w' t s (madeE s.es d nm) (s.es ++ [⟨d, nm, false, s.next, kind, mode, tg⟩]) (s.next + 1) := by
  have H : Hid (IsT w t s) := h
  have hlt := h.tt.lt
  obtain ⟨c0, _, c2, _⟩ := h.cells
  obtain ⟨a, cap, e⟩ := owns_len h.row
  rw [e] at c0
  obtain ⟨n, hn⟩ : ∃ n, s.es.length = n := ⟨_, rfl⟩
  rw [hn] at c0 e
  have hlim := h.lim
  rw [hn] at hlim
  have HAt : Hid (∀ w1, Below w.heap.size w w1 → w1.cell? ⟨t, 0, none⟩ = some (.slice a n cap) ∧ w1.cell? ⟨t, 2, none⟩ = some (.int .i64 s.next)) := fun w1 hb => ⟨(hb.cell (p := ⟨t, 0, none⟩) hlt).trans c0, (hb.cell (p := ⟨t, 2, none⟩) hlt).trans c2⟩
  have HV : Hid (s.v = .slice a n cap ∧ s.es.length = n) := ⟨e, hn⟩
  cases hq : atI s.es d nm with
  | some i =>
    have HA : Hid _ := atS t s d nm i hq
    obtain ⟨e', he, -, -⟩ := atI_lt hq
    have hE : madeE s.es d nm = 41 := by unfold madeE; rw [atE_some hq he]; rfl
    rw [hE]
    clear hq he hE h c0 c2 e hn
    go_enter Try.func60, Try.ntmps60
    go_wp2_with (go_at_call 63; refine (HA.out _ (H.out.below (below_alloc _ _))).mono ?_; rintro x w1 ⟨rfl, hb1⟩)
    go_ret
    exact ⟨rfl, Left.no (by decide) (chainB (below_alloc _ _) hb1)⟩
  | none =>
    have HA : Hid _ := atN t s d nm hq
    have hE : madeE s.es d nm = if 47 ≤ n then 47 else 0 := by unfold madeE; rw [atE_none hq, hn]; rfl
    rw [hE]
    clear hq hE h c0 c2 e hn
    by_cases hf : 47 ≤ n
    · rw [if_pos hf]
      have hfi : (48 : Int) ≤ (n : Int) + 1 := by omega
      go_enter Try.func60, Try.ntmps60
      go_wp2_with (go_at_call 63; refine (HA.out _ (H.out.below (below_alloc _ _))).mono ?_; rintro x w1 ⟨rfl, hb1⟩; have hw := chainB (below_alloc _ _) hb1; obtain ⟨f0, f2⟩ := HAt.out w1 hw)
      go_ret
      exact ⟨rfl, Left.no (by decide) hw⟩
    · rw [if_neg hf]
      have hfi : ¬ (48 : Int) ≤ (n : Int) + 1 := by omega
      obtain ⟨i1, hi1, hw0, hw1, hw2⟩ := info_parts Try.infoE
      obtain ⟨NX, hNX⟩ : ∃ x, s.next = x := ⟨_, rfl⟩
      have HNX : Hid (s.next = NX) := hNX
      rw [hNX] at hnx HAt ⊢
      clear hNX
      go_enter Try.func60, Try.ntmps60
      go_upto_region 5 with (go_at_call 63; refine (HA.out _ (H.out.below (below_alloc _ _))).mono ?_; rintro x w1 ⟨rfl, hb1⟩; have hw := chainB (below_alloc _ _) hb1; obtain ⟨f0, f2⟩ := HAt.out w1 hw; have hk1 := (hb1.cell (p := ⟨w.heap.size, 0, none⟩) (by simp)).trans (by rw [cell_of (heap_new _ _)]; rfl : _ = some (.int .i64 d)); have hk2 := (hb1.cell (p := ⟨w.heap.size, 1, none⟩) (by simp)).trans (by rw [cell_of (heap_new _ _)]; rfl : _ = some (.string nm)))
      have h1 : Hid (IsT w1 t s) := H.out.below hw
      have hown1 := h1.out.row
      rw [HV.out.1, HV.out.2] at hown1
      have HO : Hid (w1.drew.ownsRow 0 56 7 (.slice a n cap) n (ec s.es)) := hown1
      have htl : t < w1.heap.size := h1.out.tt.lt
      have hwl : w.heap.size < w1.heap.size := cellLt hk1
      clear hown1 hb1
      go_region_law (refine step_append_own_at rfl (.tmp 26) (.tmp 37) 22 rfl 0 56 i1 _ 7 72 Try.underlying22 hi1 hw0 hw1 hw2 rfl (by decide) (.slice a n cap) n (ec s.es) (by simp [Act.eval]) (World.ownsRow.alloc (by exact HO.out) _) ⟨w1.heap.size, 0, none⟩ 1 1 (En.vals ⟨d, nm, false, NX, kind, mode, tg⟩) (by simp [Act.eval]) rfl (vals_at _ ⟨d, nm, false, NX, kind, mode, tg⟩ _) (vals_one _) (by unfold maxLen; omega) (by omega) (Nat.zero_le _) ?_; intro v3 w3 hown3 hgrow3 hat3; rw [← HV.out.2] at hown3; obtain ⟨d1, d2, d3, HE⟩ := push_end (W := w1.drew) (e := ⟨d, nm, false, NX, kind, mode, tg⟩) (h1.out.below (Below.refl _ _).drew) HV.out.1 (by rw [HV.out.2]; omega) hown3 hgrow3 hat3; rw [HNX.out] at d3; obtain ⟨av, cv, rfl⟩ := owns_len hown3; clear hown3 hgrow3 hat3)
      all_goals
        have HF : Hid (TS w _ t s _) := ((HE.out.drew.le hw).bump (NX + 1))
        clear HE
        go_wp2
        go_ret
        refine ⟨rfl, Left.yes rfl ⟨_, HF.out⟩⟩
end Go.Proofs.Ytjelggpkeogebaa
