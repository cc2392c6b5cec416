/- The contracts of the small functions of package mark over parts and marks, and of the law's number makers: each call answers as the plain functions of the parts' bits say, and leaves the world as it was. -/
import Derived.Test.YtihjhaafmdobmaaProg
import Derived.Test.YtihjhaafmdobmaaFloat
import Derived.WalkKit
import Derived.WalkSpells
import Derived.WalkLawsBesides
namespace Go.Proofs.Ytihjhaafmdobmaa
open Go.RowKit

theorem val_zero : fval 0 = some 0 := by decide +kernel
theorem val_max : fval 4787326403894837248 = some (1099511627776 * U) := by decide +kernel
theorem val_one : fval 4607182418800017408 = some (1 * U) := by decide +kernel

theorem toIntegral_run {P : Program} (x : Nat) (a : Int) (w : World) (hx : fval x = some a) :
    (Extern.MathFloor.toIntegral "math.archTrunc" .zero #[.float .f64 x]).run P w = .ok (.float .f64 (Ieee.double.write ((Ieee.double.read x).integral .zero))) w := by
  obtain ⟨s, m, i, hr, _⟩ := read_num hx
  have hd : FloatKind.f64.decode x = .number s m i := hr
  obtain ⟨g, e⟩ : ∃ g : Bool → Nat → Sem Value, Extern.MathFloor.toIntegral "math.archTrunc" .zero #[.float .f64 x] =
      (match FloatKind.f64.decode x with | .nan s t => g s t | d => pure (.float .f64 (FloatKind.f64.encode (d.integral .zero)))) := ⟨_, rfl⟩
  rw [e, hd, show Ieee.double.read x = .number s m i from hr]
  rfl

theorem archTrunc_run (x : Nat) (a : Int) (hx : fval x = some a) (w : World) :
    (callFunc 184 #[.float .f64 x]).run Try.prog w = .ok (.value (.float .f64 (Ieee.double.write ((Ieee.double.read x).integral .zero)))) w := by
  rw [run_callFunc_extern (e := Extern.MathFloor.toIntegral "math.archTrunc" .zero) Try.func184 (by kernel_rfl) (by kernel_rfl) (by kernel_rfl) (by kernel_rfl) _ w, toIntegral_run x a w hx]
  rfl

set_option maxHeartbeats 400000 in
theorem trunc_any (x : Nat) (a : Int) (w : World) (hx : fval x = some a) :
    Calls Try.prog 176 #[.float .f64 x] w fun e w' => e = .returned (.float .f64 (Ieee.double.write ((Ieee.double.read x).integral .zero))) ∧ w' = w := by
  have hd := archTrunc_run x a hx
  clear hx
  go_enter Try.func176, Try.ntmps176
  go_wp2
  go_ret
  exact ⟨rfl, rfl⟩

theorem order64 (x y : Nat) : FloatKind.f64.format.order x y = Ieee.double.order x y := rfl

set_option maxHeartbeats 400000 in
/-- where a test ahead of the last says no -/
theorem whole_no (x : Nat) (w : World) (c1 c2 : Option Ordering) (h1 : FloatKind.f64.format.order x 0 = c1) (h2 : FloatKind.f64.format.order x 4787326403894837248 = c2)
    (hn : ((c1 == some .gt || c1 == some .eq) && (c2 == some .lt || c2 == some .eq)) = false) :
    Calls Try.prog 152 #[.float .f64 x] w fun e w' => e = .returned (.bool false) ∧ w' = w := by
  rcases c1 with _ | _ | _ | _ <;> rcases c2 with _ | _ | _ | _ <;> first | (exfalso; revert hn; decide) | skip
  all_goals
    clear hn
    go_enter Try.func152, Try.ntmps152
    go_wp2
    go_ret
    exact ⟨rfl, rfl⟩

set_option maxHeartbeats 400000 in
/-- where the last test decides -/
theorem whole_mid (x t : Nat) (w : World) (c1 c2 c3 : Option Ordering) (h1 : FloatKind.f64.format.order x 0 = c1) (h2 : FloatKind.f64.format.order x 4787326403894837248 = c2)
    (h3 : FloatKind.f64.format.order x t = c3) (hy : ((c1 == some .gt || c1 == some .eq) && (c2 == some .lt || c2 == some .eq)) = true)
    (hT : ∀ w, Calls Try.prog 176 #[.float .f64 x] w fun e w' => e = .returned (.float .f64 t) ∧ w' = w) :
    Calls Try.prog 152 #[.float .f64 x] w fun e w' => e = .returned (.bool (c3 == some .eq)) ∧ w' = w := by
  rcases c1 with _ | _ | _ | _ <;> rcases c2 with _ | _ | _ | _ <;> first | (exfalso; revert hy; decide) | skip
  all_goals
    clear hy
    go_enter Try.func152, Try.ntmps152
    go_wp2_with (go_at_call 176; refine (hT _).mono ?_; rintro e w' ⟨rfl, rfl⟩)
    go_ret
    exact ⟨rfl, rfl⟩

theorem beq_cmp_eq (a b : Int) : (some (compare a b) == some Ordering.eq) = decide (a = b) := by
  rcases Int.lt_trichotomy a b with h | h | h
  · rw [cmp_lt h]; simp; omega
  · rw [cmp_eq h]; simp [h]
  · rw [cmp_gt h]; simp; omega
theorem beq_cmp_lt (a b : Int) : (some (compare a b) == some Ordering.lt) = decide (a < b) := by
  rcases Int.lt_trichotomy a b with h | h | h
  · rw [cmp_lt h]; simp [h]
  · rw [cmp_eq h]; simp; omega
  · rw [cmp_gt h]; simp; omega
theorem beq_cmp_gt (a b : Int) : (some (compare a b) == some Ordering.gt) = decide (b < a) := by
  rcases Int.lt_trichotomy a b with h | h | h
  · rw [cmp_lt h]; simp; omega
  · rw [cmp_eq h]; simp; omega
  · rw [cmp_gt h]; simp [h]

/-- package mark's whole -/
theorem whole_any (x : Nat) (w : World) : Calls Try.prog 152 #[.float .f64 x] w fun e w' => e = .returned (.bool (wholeB x)) ∧ w' = w := by
  cases hx : fval x with
  | none =>
    have hf : wholeB x = false := by unfold wholeB; rw [hx]
    rw [hf]
    refine whole_no x w _ _ rfl rfl ?_
    rcases order_none hx with h | h | h
    · rw [order64, order64, h 0 _ val_zero, h _ _ val_max]; rfl
    · rw [order64, order64, h 0 _ val_zero, h _ _ val_max]; rfl
    · rw [order64, order64, h 0, h]; rfl
  | some a =>
    have e1 : FloatKind.f64.format.order x 0 = some (compare a 0) := order_val hx val_zero
    have e2 : FloatKind.f64.format.order x 4787326403894837248 = some (compare a (1099511627776 * U)) := order_val hx val_max
    have ht : ((some (compare a 0) == some Ordering.gt || some (compare a 0) == some Ordering.eq) && (some (compare a (1099511627776 * U)) == some Ordering.lt || some (compare a (1099511627776 * U)) == some Ordering.eq)) = decide (0 ≤ a ∧ a ≤ 1099511627776 * U) := by
      rw [beq_cmp_gt, beq_cmp_eq, beq_cmp_lt, beq_cmp_eq]
      generalize 1099511627776 * U = z
      rw [Bool.eq_iff_iff]; simp; omega
    by_cases hr : 0 ≤ a ∧ a ≤ 1099511627776 * U
    · have hu := U_pos
      have hd : a / U < 2 ^ 53 := by
        have : a / U ≤ 1099511627776 := Int.le_of_mul_le_mul_right (Int.le_trans (Int.ediv_mul_le a (Int.ne_of_gt hu)) hr.2) hu
        omega
      have h3 := order_val hx (trunc_val hx hr.1 hd)
      have := whole_mid x _ w _ _ _ e1 e2 h3 (by rw [ht]; simpa using hr) (fun w => trunc_any x a w hx)
      rw [beq_cmp_eq] at this
      have hw : wholeB x = decide (a = a / U * U) := by
        unfold wholeB; rw [hx]; simp only [hr.1, hr.2, true_and]
        rw [Bool.eq_iff_iff]; simp only [decide_eq_true_eq]; exact eq_comm
      rw [hw]; exact this
    · have hf : wholeB x = false := by unfold wholeB; rw [hx]; simp; intro h1 h2; exact absurd ⟨h1, h2⟩ hr
      rw [hf]
      exact whole_no x w _ _ e1 e2 (by rw [ht]; simpa using hr)

def goodB (a b : Nat) : Bool := wholeB a && wholeB b

set_option maxHeartbeats 400000 in
theorem good_any (a b : Nat) (w : World) : Calls Try.prog 97 #[.complex .f64 a b] w fun e w' => e = .returned (.bool (goodB a b)) ∧ w' = w := by
  unfold goodB
  cases h : wholeB a
  all_goals
    go_enter Try.func97, Try.ntmps97
    go_wp2_with (go_at_call 152; refine (whole_any _ _).mono ?_; rintro e w' ⟨rfl, rfl⟩)
    go_ret
    exact ⟨rfl, rfl⟩

theorem conv_run (x : Nat) (h : wholeB x = true) (w : World) : (convert 64 3 (.float .f64 x)).run Try.prog w = .ok (.int .i64 (part x)) w := by
  obtain ⟨n, h0, h1, hv⟩ := (wholeB_iff x).1 h
  rw [part_of hv]
  refine run_convert_float_int w 64 3 .f64 .i64 x n (by rw [Try.underlying64]; rfl) Try.underlying3 ?_
  unfold floatToIntVal
  have : (FloatKind.f64.decode x).toInt .zero = some n := by
    have := toInt_val hv (Int.mul_nonneg h0 (Int.le_of_lt U_pos))
    rw [Int.mul_ediv_cancel _ (Int.ne_of_gt U_pos)] at this
    exact this
  rw [this]
  have hb : IntKind.i64.min ≤ n ∧ n ≤ IntKind.i64.max := by
    have a1 : IntKind.i64.min = -9223372036854775808 := rfl
    have a2 : IntKind.i64.max = 9223372036854775807 := rfl
    omega
  simp only [if_pos hb]

set_option maxHeartbeats 400000 in
theorem epoch_any (a b : Nat) (w : World) : Calls Try.prog 105 #[.complex .f64 a b] w fun e w' => e = .returned (.int .i64 (if goodB a b then part a else 0)) ∧ w' = w := by
  cases h : goodB a b
  · go_enter Try.func105, Try.ntmps105
    go_wp2_with (go_at_call 97; refine (good_any _ _ _).mono ?_; rintro e w' ⟨rfl, rfl⟩)
    go_ret
    exact ⟨rfl, rfl⟩
  · have hc := conv_run a (by unfold goodB at h; simp at h; exact h.1)
    go_enter Try.func105, Try.ntmps105
    go_wp2_with (go_at_call 97; refine (good_any _ _ _).mono ?_; rintro e w' ⟨rfl, rfl⟩)
    go_ret
    exact ⟨rfl, rfl⟩

set_option maxHeartbeats 400000 in
theorem number_any (a b : Nat) (w : World) : Calls Try.prog 106 #[.complex .f64 a b] w fun e w' => e = .returned (.int .i64 (if goodB a b then part b else 0)) ∧ w' = w := by
  cases h : goodB a b
  · go_enter Try.func106, Try.ntmps106
    go_wp2_with (go_at_call 97; refine (good_any _ _ _).mono ?_; rintro e w' ⟨rfl, rfl⟩)
    go_ret
    exact ⟨rfl, rfl⟩
  · have hc := conv_run b (by unfold goodB at h; simp at h; exact h.2)
    go_enter Try.func106, Try.ntmps106
    go_wp2_with (go_at_call 97; refine (good_any _ _ _).mono ?_; rintro e w' ⟨rfl, rfl⟩)
    go_ret
    exact ⟨rfl, rfl⟩

end Go.Proofs.Ytihjhaafmdobmaa
