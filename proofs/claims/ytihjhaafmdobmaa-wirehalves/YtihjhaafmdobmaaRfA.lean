/- The contract of the chapter's own Parts. -/
import Derived.Test.YtihjhaafmdobmaaMkA
namespace Go.Proofs.Ytihjhaafmdobmaa
open Go.RowKit

def rwp (x : Nat) : Int := match fval x with
  | some a => if 0 ≤ a ∧ a ≤ 1099511627776 * U then a / U else 0
  | none => 0

theorem rwp_eq {x : Nat} (h : wholeB x = true) : rwp x = part x := by
  obtain ⟨n, h0, h1, hv⟩ := (wholeB_iff x).1 h
  rw [part_of hv]
  unfold rwp
  rw [hv]
  simp only
  rw [if_pos ⟨Int.mul_nonneg h0 (Int.le_of_lt U_pos), Int.mul_le_mul_of_nonneg_right h1 (Int.le_of_lt U_pos)⟩, Int.mul_ediv_cancel _ (Int.ne_of_gt U_pos)]

set_option maxHeartbeats 400000 in
theorem rwhole_no (x : Nat) (w : World) (c1 c2 : Option Ordering) (h1 : FloatKind.f64.format.order x 0 = c1) (h2 : FloatKind.f64.format.order x 4787326403894837248 = c2)
    (hn : ((c1 == some .gt || c1 == some .eq) && (c2 == some .lt || c2 == some .eq)) = false) :
    Calls Try.prog 116 #[.float .f64 x] w fun e w' => e = .returned (.tuple #[.int .i64 0, .bool false]) ∧ w' = w := by
  rcases c1 with _ | _ | _ | _ <;> rcases c2 with _ | _ | _ | _ <;> first | (exfalso; revert hn; decide) | skip
  all_goals
    clear hn
    go_enter Try.func116, Try.ntmps116
    go_wp2
    go_ret2
    exact ⟨rfl, rfl⟩

set_option maxHeartbeats 400000 in
theorem rwhole_mid (x : Nat) (n : Int) (w : World) (c1 c2 c3 : Option Ordering) (h1 : FloatKind.f64.format.order x 0 = c1) (h2 : FloatKind.f64.format.order x 4787326403894837248 = c2)
    (h3 : FloatKind.f64.format.order (floatOfInt .f64 n) x = c3) (hy : ((c1 == some .gt || c1 == some .eq) && (c2 == some .lt || c2 == some .eq)) = true)
    (hc : ∀ w, (convert 64 3 (.float .f64 x)).run Try.prog w = .ok (.int .i64 n) w) :
    Calls Try.prog 116 #[.float .f64 x] w fun e w' => e = .returned (.tuple #[.int .i64 n, .bool (c3 == some .eq)]) ∧ w' = w := by
  rcases c1 with _ | _ | _ | _ <;> rcases c2 with _ | _ | _ | _ <;> first | (exfalso; revert hy; decide) | skip
  all_goals
    clear hy
    go_enter Try.func116, Try.ntmps116
    go_wp2
    go_ret2
    exact ⟨rfl, rfl⟩

theorem rwhole_any (x : Nat) (w : World) : Calls Try.prog 116 #[.float .f64 x] w fun e w' => e = .returned (.tuple #[.int .i64 (rwp x), .bool (wholeB x)]) ∧ w' = w := by
  cases hx : fval x with
  | none =>
    have hf : wholeB x = false := by unfold wholeB; rw [hx]
    have hr : rwp x = 0 := by unfold rwp; rw [hx]
    rw [hf, hr]
    refine rwhole_no x w _ _ rfl rfl ?_
    rcases order_none hx with h | h | h
    · rw [order64, order64, h 0 _ val_zero, h _ _ val_max]; rfl
    · rw [order64, order64, h 0 _ val_zero, h _ _ val_max]; rfl
    · rw [order64, order64, h 0, h]; rfl
  | some a =>
    have e1 : FloatKind.f64.format.order x 0 = some (compare a 0) := order_val hx val_zero
    have e2 : FloatKind.f64.format.order x 4787326403894837248 = some (compare a (1099511627776 * U)) := order_val hx val_max
    have ht : ((some (compare a 0) == some Ordering.gt || some (compare a 0) == some Ordering.eq) && (some (compare a (1099511627776 * U)) == some Ordering.lt || some (compare a (1099511627776 * U)) == some Ordering.eq)) = decide (0 ≤ a ∧ a ≤ 1099511627776 * U) := by
      rw [beq_cmp_gt, beq_cmp_eq, beq_cmp_lt, beq_cmp_eq]
      generalize 1099511627776 * U = z
      rw [Bool.eq_iff_iff]; simp; omega
    by_cases hr : 0 ≤ a ∧ a ≤ 1099511627776 * U
    · have hu := U_pos
      have hd : a / U ≤ 1099511627776 := Int.le_of_mul_le_mul_right (Int.le_trans (Int.ediv_mul_le a (Int.ne_of_gt hu)) hr.2) hu
      have hd0 : 0 ≤ a / U := Int.ediv_nonneg hr.1 (Int.le_of_lt hu)
      have h3 := order_val (ofInt_val (a / U) (by omega)) hx
      have hc : ∀ w, (convert 64 3 (.float .f64 x)).run Try.prog w = .ok (.int .i64 (a / U)) w := by
        intro w
        refine run_convert_float_int w 64 3 .f64 .i64 x (a / U) (by rw [Try.underlying64]; rfl) Try.underlying3 ?_
        unfold floatToIntVal
        have ht : (FloatKind.f64.decode x).toInt .zero = some (a / U) := toInt_val hx hr.1
        rw [ht]
        have hb : IntKind.i64.min ≤ a / U ∧ a / U ≤ IntKind.i64.max := by
          have a1 : IntKind.i64.min = -9223372036854775808 := rfl
          have a2 : IntKind.i64.max = 9223372036854775807 := rfl
          omega
        simp only [if_pos hb]
      have := rwhole_mid x (a / U) w _ _ _ e1 e2 h3 (by rw [ht]; simpa using hr) hc
      rw [beq_cmp_eq] at this
      have hw : wholeB x = decide (a / U * U = a) := by
        unfold wholeB; rw [hx]; simp only [hr.1, hr.2, true_and]
      have hp : rwp x = a / U := by unfold rwp; rw [hx]; simp only; rw [if_pos hr]
      rw [hw, hp]; exact this
    · have hf : wholeB x = false := by unfold wholeB; rw [hx]; simp; intro h1 h2; exact absurd ⟨h1, h2⟩ hr
      have hp : rwp x = 0 := by unfold rwp; rw [hx]; simp only; rw [if_neg hr]
      rw [hf, hp]
      exact rwhole_no x w _ _ e1 e2 (by rw [ht]; simpa using hr)

set_option maxHeartbeats 400000 in
theorem parts_no (a b : Nat) (w : World) (h : (wholeB a && wholeB b) = false) :
    Calls Try.prog 58 #[.complex .f64 a b] w fun e w' => e = .returned (.tuple #[.int .i64 0, .int .i64 0, .bool false]) ∧ w' = w := by
  cases h1 : wholeB a
  · clear h
    go_enter Try.func58, Try.ntmps58
    go_wp2_with (go_at_call 116; refine (rwhole_any _ _).mono ?_; rintro e w' ⟨rfl, rfl⟩)
    go_ret3
    exact ⟨rfl, rfl⟩
  · have h2 : wholeB b = false := by rw [h1] at h; simpa using h
    clear h
    go_enter Try.func58, Try.ntmps58
    go_wp2_with (go_at_call 116; refine (rwhole_any _ _).mono ?_; rintro e w' ⟨rfl, rfl⟩)
    go_ret3
    exact ⟨rfl, rfl⟩

set_option maxHeartbeats 400000 in
theorem parts_yes (a b : Nat) (w : World) (h1 : wholeB a = true) (h2 : wholeB b = true) :
    Calls Try.prog 58 #[.complex .f64 a b] w fun e w' => e = .returned (.tuple #[.int .i64 (rwp a), .int .i64 (rwp b), .bool true]) ∧ w' = w := by
  go_enter Try.func58, Try.ntmps58
  go_wp2_with (go_at_call 116; refine (rwhole_any _ _).mono ?_; rintro e w' ⟨rfl, rfl⟩)
  go_ret3
  exact ⟨rfl, rfl⟩

theorem parts_any (a b : Nat) (w : World) : Calls Try.prog 58 #[.complex .f64 a b] w fun e w' => e = .returned (.tuple #[.int .i64 (if goodB a b then part a else 0), .int .i64 (if goodB a b then part b else 0), .bool (goodB a b)]) ∧ w' = w := by
  cases h : goodB a b
  · exact parts_no a b w h
  · have h' := h
    unfold goodB at h'
    simp only [Bool.and_eq_true] at h'
    have := parts_yes a b w h'.1 h'.2
    rw [rwp_eq h'.1, rwp_eq h'.2] at this
    exact this
end Go.Proofs.Ytihjhaafmdobmaa
