/- The contracts of package mark's functions of one mark that the wire reaches. -/
import Derived.Test.YtihjhaafmdobmaaParts
namespace Go.Proofs.Ytihjhaafmdobmaa
open Go.RowKit

def withinB (n : Int) : Bool := decide (0 ≤ n ∧ n ≤ 1099511627776)

set_option maxHeartbeats 400000 in
theorem within_any (n : Int) (w : World) : Calls Try.prog 158 #[.int .i64 n] w fun e w' => e = .returned (.bool (withinB n)) ∧ w' = w := by
  by_cases h0 : 0 ≤ n
  · have hw : withinB n = decide (n ≤ 1099511627776) := by unfold withinB; simp [h0]
    rw [hw]
    go_enter Try.func158, Try.ntmps158
    go_wp2
    go_ret
    exact ⟨rfl, rfl⟩
  · have hw : withinB n = false := by unfold withinB; simp [h0]
    rw [hw]
    go_enter Try.func158, Try.ntmps158
    go_wp2
    go_ret
    exact ⟨rfl, rfl⟩

set_option maxHeartbeats 400000 in
theorem at_yes (a b : Int) (w : World) (ha : withinB a = true) (hb : withinB b = true) :
    Calls Try.prog 120 #[.int .i64 a, .int .i64 b] w fun e w' => e = .returned (.tuple #[.complex .f64 (floatOfInt .f64 a) (floatOfInt .f64 b), .int .i64 0]) ∧ w' = w := by
  go_enter Try.func120, Try.ntmps120
  go_wp2_with (go_at_call 158; refine (within_any _ _).mono ?_; rintro e w' ⟨rfl, rfl⟩)
  go_ret2
  exact ⟨rfl, rfl⟩

theorem good_iff (a b : Nat) : goodB a b = true ↔ ∃ n k : Int, 0 ≤ n ∧ n ≤ 1099511627776 ∧ 0 ≤ k ∧ k ≤ 1099511627776 ∧ fval a = some (n * U) ∧ fval b = some (k * U) := by
  unfold goodB
  rw [Bool.and_eq_true, wholeB_iff, wholeB_iff]
  constructor
  · rintro ⟨⟨n, h1, h2, h3⟩, k, h4, h5, h6⟩; exact ⟨n, k, h1, h2, h4, h5, h3, h6⟩
  · rintro ⟨n, k, h1, h2, h4, h5, h3, h6⟩; exact ⟨⟨n, h1, h2, h3⟩, k, h4, h5, h6⟩

theorem good_parts {a b : Nat} (h : goodB a b = true) : 0 ≤ part a ∧ part a ≤ 1099511627776 ∧ 0 ≤ part b ∧ part b ≤ 1099511627776 ∧ fval a = some (part a * U) ∧ fval b = some (part b * U) := by
  obtain ⟨n, k, h1, h2, h4, h5, h3, h6⟩ := (good_iff a b).1 h
  rw [part_of h3, part_of h6]
  exact ⟨h1, h2, h4, h5, h3, h6⟩

theorem good_of {a b : Nat} {n k : Int} (ha : fval a = some (n * U)) (hb : fval b = some (k * U)) : goodB a b = decide (0 ≤ n ∧ n ≤ 1099511627776 ∧ 0 ≤ k ∧ k ≤ 1099511627776) := by
  by_cases h : 0 ≤ n ∧ n ≤ 1099511627776 ∧ 0 ≤ k ∧ k ≤ 1099511627776
  · rw [decide_eq_true h]; exact (good_iff a b).2 ⟨n, k, h.1, h.2.1, h.2.2.1, h.2.2.2, ha, hb⟩
  · rw [decide_eq_false h]
    cases hg : goodB a b
    · rfl
    · exfalso; apply h
      have := good_parts hg
      rw [part_of ha, part_of hb] at this
      exact ⟨this.1, this.2.1, this.2.2.1, this.2.2.2.1⟩
end Go.Proofs.Ytihjhaafmdobmaa
