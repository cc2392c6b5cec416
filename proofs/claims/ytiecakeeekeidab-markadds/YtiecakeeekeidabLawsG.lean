/- The walk of the law MarkAdds: it returns true. -/
import Derived.Test.YtiecakeeekeidabLawsD
namespace Go.Proofs.Ytiecakeeekeidab
open Go.RowKit

def gapV (a b c d : Nat) : Int := if gapB a b c d then part d - part b else 0
theorem gap_v (a b c d : Nat) (w : World) : Calls Try.prog 13 #[.complex .f64 a b, .complex .f64 c d] w fun e w' => e = .returned (.tuple #[.int .i64 (gapV a b c d), .bool (gapB a b c d)]) ∧ w' = w := gap_any a b c d w
theorem gapV_bd (a b c d : Nat) : 0 ≤ gapV a b c d ∧ gapV a b c d ≤ 1099511627776 := by
  unfold gapV
  cases h : gapB a b c d
  · simp
  · unfold gapB at h
    simp only [Bool.and_eq_true, decide_eq_true_eq] at h
    have h1 := good_parts h.1.1
    have h2 := good_parts h.1.2
    simp only [if_true]
    omega
theorem gap_adds (a b c d e f : Nat) (h1 : gapB a b c d = true) (h2 : gapB c d e f = true) : gapB a b e f = true ∧ gapV a b e f = gapV a b c d + gapV c d e f := by
  have h3 : gapB a b e f = true := by
    unfold gapB at h1 h2 ⊢
    simp only [Bool.and_eq_true, decide_eq_true_eq] at h1 h2 ⊢
    exact ⟨⟨h1.1.1, h2.1.2⟩, by omega⟩
  refine ⟨h3, ?_⟩
  unfold gapV
  rw [h1, h2, h3]
  simp only [if_true]
  omega

theorem num_b (a b : Int) (w : World) (ha : (Lit.int .i64 a).wf = true) (hb : (Lit.int .i64 b).wf = true) :
    Calls Try.prog 8 #[.agg #[.int .i64 a, .int .i64 b]] w fun e w' => e = .returned (.complex .f64 (qt a) (qt b)) ∧ Below w.heap.size w w' :=
  (num_any a b w ha hb).mono fun e w' ⟨he, hw⟩ => ⟨he, by rw [hw]; exact (Below.refl _ _).alloc (Nat.le_refl _) _⟩

theorem keep6 {w W w' : World} {a0 b0 a1 b1 a2 b2 : Int} (hb : Below W.heap.size W w') (h : W.cell? ⟨w.heap.size, 0, none⟩ = some (.int .i64 a0) ∧ W.cell? ⟨w.heap.size, 1, none⟩ = some (.int .i64 b0) ∧ W.cell? ⟨w.heap.size + 1, 0, none⟩ = some (.int .i64 a1) ∧ W.cell? ⟨w.heap.size + 1, 1, none⟩ = some (.int .i64 b1) ∧ W.cell? ⟨w.heap.size + 2, 0, none⟩ = some (.int .i64 a2) ∧ W.cell? ⟨w.heap.size + 2, 1, none⟩ = some (.int .i64 b2) ∧ w.heap.size + 2 < W.heap.size ∧ Below w.heap.size w W) :
    w'.cell? ⟨w.heap.size, 0, none⟩ = some (.int .i64 a0) ∧ w'.cell? ⟨w.heap.size, 1, none⟩ = some (.int .i64 b0) ∧ w'.cell? ⟨w.heap.size + 1, 0, none⟩ = some (.int .i64 a1) ∧ w'.cell? ⟨w.heap.size + 1, 1, none⟩ = some (.int .i64 b1) ∧ w'.cell? ⟨w.heap.size + 2, 0, none⟩ = some (.int .i64 a2) ∧ w'.cell? ⟨w.heap.size + 2, 1, none⟩ = some (.int .i64 b2) ∧ w.heap.size + 2 < w'.heap.size ∧ Below w.heap.size w w' := by
  obtain ⟨h1, h2, h3, h4, h5, h6, h7, h8⟩ := h
  have hs := hb.size
  exact ⟨(hb.cell (by show w.heap.size < _; omega)).trans h1, (hb.cell (by show w.heap.size < _; omega)).trans h2, (hb.cell (by show w.heap.size + 1 < _; omega)).trans h3, (hb.cell (by show w.heap.size + 1 < _; omega)).trans h4, (hb.cell (by show w.heap.size + 2 < _; omega)).trans h5, (hb.cell (by show w.heap.size + 2 < _; omega)).trans h6, by omega, h8.trans (hb.mono (by omega))⟩
theorem drew6 {w W : World} {a0 b0 a1 b1 a2 b2 : Int} (h : W.cell? ⟨w.heap.size, 0, none⟩ = some (.int .i64 a0) ∧ W.cell? ⟨w.heap.size, 1, none⟩ = some (.int .i64 b0) ∧ W.cell? ⟨w.heap.size + 1, 0, none⟩ = some (.int .i64 a1) ∧ W.cell? ⟨w.heap.size + 1, 1, none⟩ = some (.int .i64 b1) ∧ W.cell? ⟨w.heap.size + 2, 0, none⟩ = some (.int .i64 a2) ∧ W.cell? ⟨w.heap.size + 2, 1, none⟩ = some (.int .i64 b2) ∧ w.heap.size + 2 < W.heap.size ∧ Below w.heap.size w W) :
    W.drew.cell? ⟨w.heap.size, 0, none⟩ = some (.int .i64 a0) ∧ W.drew.cell? ⟨w.heap.size, 1, none⟩ = some (.int .i64 b0) ∧ W.drew.cell? ⟨w.heap.size + 1, 0, none⟩ = some (.int .i64 a1) ∧ W.drew.cell? ⟨w.heap.size + 1, 1, none⟩ = some (.int .i64 b1) ∧ W.drew.cell? ⟨w.heap.size + 2, 0, none⟩ = some (.int .i64 a2) ∧ W.drew.cell? ⟨w.heap.size + 2, 1, none⟩ = some (.int .i64 b2) ∧ w.heap.size + 2 < W.drew.heap.size ∧ Below w.heap.size w W.drew :=
  ⟨h.1, h.2.1, h.2.2.1, h.2.2.2.1, h.2.2.2.2.1, h.2.2.2.2.2.1, h.2.2.2.2.2.2.1, h.2.2.2.2.2.2.2.drew⟩
theorem start6 (w : World) (a0 b0 a1 b1 a2 b2 : Int) : ((((w.alloc (.cells #[.int .i64 a0, .int .i64 b0] 23)).alloc (.cells #[.int .i64 a1, .int .i64 b1] 23)).alloc (.cells #[.int .i64 a2, .int .i64 b2] 23)).drew).cell? ⟨w.heap.size, 0, none⟩ = some (.int .i64 a0) ∧ ((((w.alloc (.cells #[.int .i64 a0, .int .i64 b0] 23)).alloc (.cells #[.int .i64 a1, .int .i64 b1] 23)).alloc (.cells #[.int .i64 a2, .int .i64 b2] 23)).drew).cell? ⟨w.heap.size, 1, none⟩ = some (.int .i64 b0) ∧ ((((w.alloc (.cells #[.int .i64 a0, .int .i64 b0] 23)).alloc (.cells #[.int .i64 a1, .int .i64 b1] 23)).alloc (.cells #[.int .i64 a2, .int .i64 b2] 23)).drew).cell? ⟨w.heap.size + 1, 0, none⟩ = some (.int .i64 a1) ∧ ((((w.alloc (.cells #[.int .i64 a0, .int .i64 b0] 23)).alloc (.cells #[.int .i64 a1, .int .i64 b1] 23)).alloc (.cells #[.int .i64 a2, .int .i64 b2] 23)).drew).cell? ⟨w.heap.size + 1, 1, none⟩ = some (.int .i64 b1) ∧ ((((w.alloc (.cells #[.int .i64 a0, .int .i64 b0] 23)).alloc (.cells #[.int .i64 a1, .int .i64 b1] 23)).alloc (.cells #[.int .i64 a2, .int .i64 b2] 23)).drew).cell? ⟨w.heap.size + 2, 0, none⟩ = some (.int .i64 a2) ∧ ((((w.alloc (.cells #[.int .i64 a0, .int .i64 b0] 23)).alloc (.cells #[.int .i64 a1, .int .i64 b1] 23)).alloc (.cells #[.int .i64 a2, .int .i64 b2] 23)).drew).cell? ⟨w.heap.size + 2, 1, none⟩ = some (.int .i64 b2) ∧ w.heap.size + 2 < ((((w.alloc (.cells #[.int .i64 a0, .int .i64 b0] 23)).alloc (.cells #[.int .i64 a1, .int .i64 b1] 23)).alloc (.cells #[.int .i64 a2, .int .i64 b2] 23)).drew).heap.size ∧ Below w.heap.size w ((((w.alloc (.cells #[.int .i64 a0, .int .i64 b0] 23)).alloc (.cells #[.int .i64 a1, .int .i64 b1] 23)).alloc (.cells #[.int .i64 a2, .int .i64 b2] 23)).drew) := by
  refine ⟨?_, ?_, ?_, ?_, ?_, ?_, ?_, ?_⟩
  · simp [go_sem]
  · simp [go_sem]
  · simp [go_sem]
  · simp [go_sem]
  · simp [go_sem]
  · simp [go_sem]
  · simp
  · exact (below_alloc (below_alloc (below_alloc (Below.refl _ _) _) _) _).drew

set_option maxHeartbeats 4000000 in
theorem walk_MarkAdds (a0 b0 a1 b1 a2 b2 : Int) (wa0 : (Lit.int .i64 a0).wf = true) (wb0 : (Lit.int .i64 b0).wf = true) (wa1 : (Lit.int .i64 a1).wf = true) (wb1 : (Lit.int .i64 b1).wf = true) (wa2 : (Lit.int .i64 a2).wf = true) (wb2 : (Lit.int .i64 b2).wf = true) (w : World) :
    Calls Try.prog 4 #[.agg #[.int .i64 a0, .int .i64 b0], .agg #[.int .i64 a1, .int .i64 b1], .agg #[.int .i64 a2, .int .i64 b2]] w fun e w' => e = .returned (.bool true) ∧ Below w.heap.size w w' := by
  have hn0 := fun w => num_b a0 b0 w wa0 wb0
  have hn1 := fun w => num_b a1 b1 w wa1 wb1
  have hn2 := fun w => num_b a2 b2 w wa2 wb2
  clear wa0 wb0 wa1 wb1 wa2 wb2
  generalize qt a0 = A0 at hn0
  generalize qt b0 = B0 at hn0
  generalize qt a1 = A1 at hn1
  generalize qt b1 = B1 at hn1
  generalize qt a2 = A2 at hn2
  generalize qt b2 = B2 at hn2
  have d1 := gapV_bd A0 B0 A1 B1
  have d2 := gapV_bd A1 B1 A2 B2
  have hc : gapB A0 B0 A1 B1 = false ∨ (gapB A0 B0 A1 B1 = true ∧ gapB A1 B1 A2 B2 = false) ∨ (gapB A0 B0 A1 B1 = true ∧ gapB A1 B1 A2 B2 = true ∧ gapB A0 B0 A2 B2 = true ∧ (gapV A0 B0 A2 B2 == gapV A0 B0 A1 B1 + gapV A1 B1 A2 B2) = true) := by
    cases h1 : gapB A0 B0 A1 B1
    · exact .inl rfl
    · cases h2 : gapB A1 B1 A2 B2
      · exact .inr (.inl ⟨rfl, rfl⟩)
      · have := gap_adds _ _ _ _ _ _ h1 h2
        exact .inr (.inr ⟨rfl, rfl, this.1, by simp [this.2]⟩)
  rcases hc with h1 | ⟨h1, h2⟩ | ⟨h1, h2, h3, h4⟩
  all_goals
    go_enter Try.func4, Try.ntmps4
    go_wp2
    go_region_held3 (fun w' => w'.cell? ⟨w.heap.size, 0, none⟩ = some (.int .i64 a0) ∧ w'.cell? ⟨w.heap.size, 1, none⟩ = some (.int .i64 b0) ∧ w'.cell? ⟨w.heap.size + 1, 0, none⟩ = some (.int .i64 a1) ∧ w'.cell? ⟨w.heap.size + 1, 1, none⟩ = some (.int .i64 b1) ∧ w'.cell? ⟨w.heap.size + 2, 0, none⟩ = some (.int .i64 a2) ∧ w'.cell? ⟨w.heap.size + 2, 1, none⟩ = some (.int .i64 b2) ∧ w.heap.size + 2 < w'.heap.size ∧ Below w.heap.size w w')
      (repeat (first | exact start6 _ _ _ _ _ _ _ | (refine keep6 (by assumption) ?_) | (refine drew6 ?_)))
      (first
        | (go_at_call_of 8 (Value.agg #[.int .i64 a0, .int .i64 b0]); refine (hn0 _).mono ?_; rintro e w' ⟨rfl, hb⟩)
        | (go_at_call_of 8 (Value.agg #[.int .i64 a1, .int .i64 b1]); refine (hn1 _).mono ?_; rintro e w' ⟨rfl, hb⟩)
        | (go_at_call_of 8 (Value.agg #[.int .i64 a2, .int .i64 b2]); refine (hn2 _).mono ?_; rintro e w' ⟨rfl, hb⟩)
        | (go_at_call 13; refine (gap_v _ _ _ _ _).mono ?_; rintro e w' ⟨rfl, rfl⟩))
    go_wp2
    go_region_held3 (fun w' => w'.cell? ⟨w.heap.size, 0, none⟩ = some (.int .i64 a0) ∧ w'.cell? ⟨w.heap.size, 1, none⟩ = some (.int .i64 b0) ∧ w'.cell? ⟨w.heap.size + 1, 0, none⟩ = some (.int .i64 a1) ∧ w'.cell? ⟨w.heap.size + 1, 1, none⟩ = some (.int .i64 b1) ∧ w'.cell? ⟨w.heap.size + 2, 0, none⟩ = some (.int .i64 a2) ∧ w'.cell? ⟨w.heap.size + 2, 1, none⟩ = some (.int .i64 b2) ∧ w.heap.size + 2 < w'.heap.size ∧ Below w.heap.size w w')
      (repeat (first | exact start6 _ _ _ _ _ _ _ | (refine keep6 (by assumption) ?_) | (refine drew6 ?_)))
      (first
        | (go_at_call_of 8 (Value.agg #[.int .i64 a0, .int .i64 b0]); refine (hn0 _).mono ?_; rintro e w' ⟨rfl, hb⟩)
        | (go_at_call_of 8 (Value.agg #[.int .i64 a1, .int .i64 b1]); refine (hn1 _).mono ?_; rintro e w' ⟨rfl, hb⟩)
        | (go_at_call_of 8 (Value.agg #[.int .i64 a2, .int .i64 b2]); refine (hn2 _).mono ?_; rintro e w' ⟨rfl, hb⟩)
        | (go_at_call 13; refine (gap_v _ _ _ _ _).mono ?_; rintro e w' ⟨rfl, rfl⟩))
    go_wp2
    go_region_held3 (fun w' => w'.cell? ⟨w.heap.size, 0, none⟩ = some (.int .i64 a0) ∧ w'.cell? ⟨w.heap.size, 1, none⟩ = some (.int .i64 b0) ∧ w'.cell? ⟨w.heap.size + 1, 0, none⟩ = some (.int .i64 a1) ∧ w'.cell? ⟨w.heap.size + 1, 1, none⟩ = some (.int .i64 b1) ∧ w'.cell? ⟨w.heap.size + 2, 0, none⟩ = some (.int .i64 a2) ∧ w'.cell? ⟨w.heap.size + 2, 1, none⟩ = some (.int .i64 b2) ∧ w.heap.size + 2 < w'.heap.size ∧ Below w.heap.size w w')
      (repeat (first | exact start6 _ _ _ _ _ _ _ | (refine keep6 (by assumption) ?_) | (refine drew6 ?_)))
      (first
        | (go_at_call_of 8 (Value.agg #[.int .i64 a0, .int .i64 b0]); refine (hn0 _).mono ?_; rintro e w' ⟨rfl, hb⟩)
        | (go_at_call_of 8 (Value.agg #[.int .i64 a1, .int .i64 b1]); refine (hn1 _).mono ?_; rintro e w' ⟨rfl, hb⟩)
        | (go_at_call_of 8 (Value.agg #[.int .i64 a2, .int .i64 b2]); refine (hn2 _).mono ?_; rintro e w' ⟨rfl, hb⟩)
        | (go_at_call 13; refine (gap_v _ _ _ _ _).mono ?_; rintro e w' ⟨rfl, rfl⟩))
    rename_i hH
    go_wp2_with (go_at_call 11; refine (awake_any _).mono ?_; rintro e w' ⟨rfl, rfl⟩)
    go_ret
    exact ⟨rfl, hH.2.2.2.2.2.2.2⟩

end Go.Proofs.Ytiecakeeekeidab
