/- The walk of the law MarkGaps: it returns true. -/
import Derived.Test.YtiecakeeekeidaaRefs
import Derived.Deep.RegionHeld3
import Derived.RowKit3
namespace Go.Proofs.Ytiecakeeekeidaa
open Go.RowKit

def gapV (a b c d : Nat) : Int := if gapB a b c d then part d - part b else 0
theorem gap_v (a b c d : Nat) (w : World) : Calls Try.prog 22 #[.complex .f64 a b, .complex .f64 c d] w fun e w' => e = .returned (.tuple #[.int .i64 (gapV a b c d), .bool (gapB a b c d)]) ∧ w' = w := gap_any a b c d w
theorem rgap_v (a b c d : Nat) (w : World) : Calls Try.prog 23 #[.complex .f64 a b, .complex .f64 c d] w fun e w' => e = .returned (.tuple #[.int .i64 (gapV a b c d), .bool (gapB a b c d)]) ∧ w' = w := rgap_any a b c d w

theorem num_b (a b : Int) (w : World) (ha : (Lit.int .i64 a).wf = true) (hb : (Lit.int .i64 b).wf = true) :
    Calls Try.prog 16 #[.agg #[.int .i64 a, .int .i64 b]] w fun e w' => e = .returned (.complex .f64 (qt a) (qt b)) ∧ Below w.heap.size w w' :=
  (num_any a b w ha hb).mono fun e w' ⟨he, hw⟩ => ⟨he, by rw [hw]; exact (Below.refl _ _).alloc (Nat.le_refl _) _⟩

section
variable {w W w' : World} {a0 b0 a1 b1 : Int}
theorem keep4 (hb : Below W.heap.size W w') (h : W.cell? ⟨w.heap.size, 0, none⟩ = some (.int .i64 a0) ∧ W.cell? ⟨w.heap.size, 1, none⟩ = some (.int .i64 b0) ∧ W.cell? ⟨w.heap.size + 1, 0, none⟩ = some (.int .i64 a1) ∧ W.cell? ⟨w.heap.size + 1, 1, none⟩ = some (.int .i64 b1) ∧ w.heap.size + 1 < W.heap.size ∧ Below w.heap.size w W) :
    w'.cell? ⟨w.heap.size, 0, none⟩ = some (.int .i64 a0) ∧ w'.cell? ⟨w.heap.size, 1, none⟩ = some (.int .i64 b0) ∧ w'.cell? ⟨w.heap.size + 1, 0, none⟩ = some (.int .i64 a1) ∧ w'.cell? ⟨w.heap.size + 1, 1, none⟩ = some (.int .i64 b1) ∧ w.heap.size + 1 < w'.heap.size ∧ Below w.heap.size w w' := by
  obtain ⟨h1, h2, h3, h4, h5, h6⟩ := h
  have hs := hb.size
  exact ⟨(hb.cell (by show w.heap.size < _; omega)).trans h1, (hb.cell (by show w.heap.size < _; omega)).trans h2, (hb.cell (by show w.heap.size + 1 < _; omega)).trans h3, (hb.cell (by show w.heap.size + 1 < _; omega)).trans h4, by omega, h6.trans (hb.mono (by omega))⟩
theorem drew4 (h : W.cell? ⟨w.heap.size, 0, none⟩ = some (.int .i64 a0) ∧ W.cell? ⟨w.heap.size, 1, none⟩ = some (.int .i64 b0) ∧ W.cell? ⟨w.heap.size + 1, 0, none⟩ = some (.int .i64 a1) ∧ W.cell? ⟨w.heap.size + 1, 1, none⟩ = some (.int .i64 b1) ∧ w.heap.size + 1 < W.heap.size ∧ Below w.heap.size w W) :
    W.drew.cell? ⟨w.heap.size, 0, none⟩ = some (.int .i64 a0) ∧ W.drew.cell? ⟨w.heap.size, 1, none⟩ = some (.int .i64 b0) ∧ W.drew.cell? ⟨w.heap.size + 1, 0, none⟩ = some (.int .i64 a1) ∧ W.drew.cell? ⟨w.heap.size + 1, 1, none⟩ = some (.int .i64 b1) ∧ w.heap.size + 1 < W.drew.heap.size ∧ Below w.heap.size w W.drew :=
  ⟨h.1, h.2.1, h.2.2.1, h.2.2.2.1, h.2.2.2.2.1, h.2.2.2.2.2.drew⟩
theorem start4 (w : World) (a0 b0 a1 b1 : Int) : (((w.alloc (.cells #[.int .i64 a0, .int .i64 b0] 35)).alloc (.cells #[.int .i64 a1, .int .i64 b1] 35)).drew).cell? ⟨w.heap.size, 0, none⟩ = some (.int .i64 a0) ∧
    (((w.alloc (.cells #[.int .i64 a0, .int .i64 b0] 35)).alloc (.cells #[.int .i64 a1, .int .i64 b1] 35)).drew).cell? ⟨w.heap.size, 1, none⟩ = some (.int .i64 b0) ∧
    (((w.alloc (.cells #[.int .i64 a0, .int .i64 b0] 35)).alloc (.cells #[.int .i64 a1, .int .i64 b1] 35)).drew).cell? ⟨w.heap.size + 1, 0, none⟩ = some (.int .i64 a1) ∧
    (((w.alloc (.cells #[.int .i64 a0, .int .i64 b0] 35)).alloc (.cells #[.int .i64 a1, .int .i64 b1] 35)).drew).cell? ⟨w.heap.size + 1, 1, none⟩ = some (.int .i64 b1) ∧
    w.heap.size + 1 < (((w.alloc (.cells #[.int .i64 a0, .int .i64 b0] 35)).alloc (.cells #[.int .i64 a1, .int .i64 b1] 35)).drew).heap.size ∧
    Below w.heap.size w (((w.alloc (.cells #[.int .i64 a0, .int .i64 b0] 35)).alloc (.cells #[.int .i64 a1, .int .i64 b1] 35)).drew) := by
  refine ⟨?_, ?_, ?_, ?_, ?_, ?_⟩
  · simp [go_sem]
  · simp [go_sem]
  · simp [go_sem]
  · simp [go_sem]
  · simp
  · exact (((Below.refl _ _).alloc (Nat.le_refl _) _).alloc (by simp) _).drew
end

set_option maxHeartbeats 2000000 in
theorem walk_MarkGaps (a0 b0 a1 b1 : Int) (wa0 : (Lit.int .i64 a0).wf = true) (wb0 : (Lit.int .i64 b0).wf = true) (wa1 : (Lit.int .i64 a1).wf = true) (wb1 : (Lit.int .i64 b1).wf = true) (w : World) :
    Calls Try.prog 7 #[.agg #[.int .i64 a0, .int .i64 b0], .agg #[.int .i64 a1, .int .i64 b1]] w fun e w' => e = .returned (.bool true) ∧ Below w.heap.size w w' := by
  have hn0 := fun w => num_b a0 b0 w wa0 wb0
  have hn1 := fun w => num_b a1 b1 w wa1 wb1
  clear wa0 wb0 wa1 wb1
  go_enter Try.func7, Try.ntmps7
  go_wp2
  go_region_held3 (fun w' => w'.cell? ⟨w.heap.size, 0, none⟩ = some (.int .i64 a0) ∧ w'.cell? ⟨w.heap.size, 1, none⟩ = some (.int .i64 b0) ∧ w'.cell? ⟨w.heap.size + 1, 0, none⟩ = some (.int .i64 a1) ∧ w'.cell? ⟨w.heap.size + 1, 1, none⟩ = some (.int .i64 b1) ∧ w.heap.size + 1 < w'.heap.size ∧ Below w.heap.size w w')
    (repeat (first | exact start4 _ _ _ _ _ | (refine keep4 (by assumption) ?_) | (refine drew4 ?_)))
    (first
      | (go_at_call_of 16 (Value.agg #[.int .i64 a0, .int .i64 b0]); refine (hn0 _).mono ?_; rintro e w' ⟨rfl, hb⟩)
      | (go_at_call_of 16 (Value.agg #[.int .i64 a1, .int .i64 b1]); refine (hn1 _).mono ?_; rintro e w' ⟨rfl, hb⟩)
      | (go_at_call 22; refine (gap_v _ _ _ _ _).mono ?_; rintro e w' ⟨rfl, rfl⟩))
  go_wp2
  go_region_held3 (fun w' => w'.cell? ⟨w.heap.size, 0, none⟩ = some (.int .i64 a0) ∧ w'.cell? ⟨w.heap.size, 1, none⟩ = some (.int .i64 b0) ∧ w'.cell? ⟨w.heap.size + 1, 0, none⟩ = some (.int .i64 a1) ∧ w'.cell? ⟨w.heap.size + 1, 1, none⟩ = some (.int .i64 b1) ∧ w.heap.size + 1 < w'.heap.size ∧ Below w.heap.size w w')
    (repeat (first | exact start4 _ _ _ _ _ | (refine keep4 (by assumption) ?_) | (refine drew4 ?_)))
    (first
      | (go_at_call_of 16 (Value.agg #[.int .i64 a0, .int .i64 b0]); refine (hn0 _).mono ?_; rintro e w' ⟨rfl, hb⟩)
      | (go_at_call_of 16 (Value.agg #[.int .i64 a1, .int .i64 b1]); refine (hn1 _).mono ?_; rintro e w' ⟨rfl, hb⟩)
      | (go_at_call 23; refine (rgap_v _ _ _ _ _).mono ?_; rintro e w' ⟨rfl, rfl⟩))
  go_wp2
  go_region_held3 (fun w' => w'.cell? ⟨w.heap.size, 0, none⟩ = some (.int .i64 a0) ∧ w'.cell? ⟨w.heap.size, 1, none⟩ = some (.int .i64 b0) ∧ w'.cell? ⟨w.heap.size + 1, 0, none⟩ = some (.int .i64 a1) ∧ w'.cell? ⟨w.heap.size + 1, 1, none⟩ = some (.int .i64 b1) ∧ w.heap.size + 1 < w'.heap.size ∧ Below w.heap.size w w')
    (repeat (first | exact start4 _ _ _ _ _ | (refine keep4 (by assumption) ?_) | (refine drew4 ?_)))
    (first
      | (go_at_call_of 16 (Value.agg #[.int .i64 a0, .int .i64 b0]); refine (hn0 _).mono ?_; rintro e w' ⟨rfl, hb⟩)
      | (go_at_call_of 16 (Value.agg #[.int .i64 a1, .int .i64 b1]); refine (hn1 _).mono ?_; rintro e w' ⟨rfl, hb⟩)
      | (go_at_call 17; refine (later_any _ _ _ _ _).mono ?_; rintro e w' ⟨rfl, rfl⟩)
      | (go_at_call 24; refine (rlater_any _ _ _ _ _).mono ?_; rintro e w' ⟨rfl, rfl⟩)
      | (go_at_call 15; refine (awake_any _).mono ?_; rintro e w' ⟨rfl, rfl⟩))
  go_wp2
  go_ret
  rename_i hH
  exact ⟨rfl, hH.2.2.2.2.2⟩

end Go.Proofs.Ytiecakeeekeidaa
