/- The contracts of the small functions of package mark over parts and marks, and of the law's number makers: each call answers as the plain functions of the parts' bits say, and leaves the world as it was. -/
import Derived.Test.YtpmcecenhgppbaaProg
import Derived.Test.YtpmcecenhgppbaaJTAys02
import Derived.WalkKit
import Derived.WalkSpells
import Derived.WalkLawsBesides
namespace Go.Proofs.Ytpmcecenhgppbaa
section
open Go.RowKit

theorem val_zero : fval 0 = some 0 := by decide +kernel
theorem val_max : fval 4787326403894837248 = some (1099511627776 * U) := by decide +kernel
theorem val_one : fval 4607182418800017408 = some (1 * U) := by decide +kernel

theorem toIntegral_run {P : Program} (x : Nat) (a : Int) (w : World) (hx : fval x = some a) :
    (Extern.MathFloor.toIntegral "math.archTrunc" .zero #[.float .f64 x]).run P w = .ok (.float .f64 (Ieee.double.write ((Ieee.double.read x).integral .zero))) w := by
  obtain ⟨s, m, i, hr, _⟩ := read_num hx
  have hd : FloatKind.f64.decode x = .number s m i := hr
  obtain ⟨g, e⟩ : ∃ g : Bool → Nat → Sem Value, Extern.MathFloor.toIntegral "math.archTrunc" .zero #[.float .f64 x] =
      (match FloatKind.f64.decode x with | .nan s t => g s t | d => pure (.float .f64 (FloatKind.f64.encode (d.integral .zero)))) := ⟨_, rfl⟩
  rw [e, hd, show Ieee.double.read x = .number s m i from hr]
  rfl

theorem archTrunc_run (x : Nat) (a : Int) (hx : fval x = some a) (w : World) :
    (callFunc 69 #[.float .f64 x]).run Try.prog w = .ok (.value (.float .f64 (Ieee.double.write ((Ieee.double.read x).integral .zero)))) w := by
  rw [run_callFunc_extern (e := Extern.MathFloor.toIntegral "math.archTrunc" .zero) Try.func69 (by kernel_rfl) (by kernel_rfl) (by kernel_rfl) (by kernel_rfl) _ w, toIntegral_run x a w hx]
  rfl

set_option maxHeartbeats 400000 in
theorem trunc_any (x : Nat) (a : Int) (w : World) (hx : fval x = some a) :
    Calls Try.prog 66 #[.float .f64 x] w fun e w' => e = .returned (.float .f64 (Ieee.double.write ((Ieee.double.read x).integral .zero))) ∧ w' = w := by
  have hd := archTrunc_run x a hx
  clear hx
  go_enter Try.func66, Try.ntmps66
  go_wp2
  go_ret
  exact ⟨rfl, rfl⟩

theorem order64 (x y : Nat) : FloatKind.f64.format.order x y = Ieee.double.order x y := rfl

set_option maxHeartbeats 400000 in
/-- where a test ahead of the last says no -/
theorem whole_no (x : Nat) (w : World) (c1 c2 : Option Ordering) (h1 : FloatKind.f64.format.order x 0 = c1) (h2 : FloatKind.f64.format.order x 4787326403894837248 = c2)
    (hn : ((c1 == some .gt || c1 == some .eq) && (c2 == some .lt || c2 == some .eq)) = false) :
    Calls Try.prog 59 #[.float .f64 x] w fun e w' => e = .returned (.bool false) ∧ w' = w := by
  rcases c1 with _ | _ | _ | _ <;> rcases c2 with _ | _ | _ | _ <;> first | (exfalso; revert hn; decide) | skip
  all_goals
    clear hn
    go_enter Try.func59, Try.ntmps59
    go_wp2
    go_ret
    exact ⟨rfl, rfl⟩

set_option maxHeartbeats 400000 in
/-- where the last test decides -/
theorem whole_mid (x t : Nat) (w : World) (c1 c2 c3 : Option Ordering) (h1 : FloatKind.f64.format.order x 0 = c1) (h2 : FloatKind.f64.format.order x 4787326403894837248 = c2)
    (h3 : FloatKind.f64.format.order x t = c3) (hy : ((c1 == some .gt || c1 == some .eq) && (c2 == some .lt || c2 == some .eq)) = true)
    (hT : ∀ w, Calls Try.prog 66 #[.float .f64 x] w fun e w' => e = .returned (.float .f64 t) ∧ w' = w) :
    Calls Try.prog 59 #[.float .f64 x] w fun e w' => e = .returned (.bool (c3 == some .eq)) ∧ w' = w := by
  rcases c1 with _ | _ | _ | _ <;> rcases c2 with _ | _ | _ | _ <;> first | (exfalso; revert hy; decide) | skip
  all_goals
    clear hy
    go_enter Try.func59, Try.ntmps59
    go_wp2_with (go_at_call 66; refine (hT _).mono ?_; rintro e w' ⟨rfl, rfl⟩)
    go_ret
    exact ⟨rfl, rfl⟩

theorem beq_cmp_eq (a b : Int) : (some (compare a b) == some Ordering.eq) = decide (a = b) := by
  rcases Int.lt_trichotomy a b with h | h | h
  · rw [cmp_lt h]; simp; omega
  · rw [cmp_eq h]; simp [h]
  · rw [cmp_gt h]; simp; omega
theorem beq_cmp_lt (a b : Int) : (some (compare a b) == some Ordering.lt) = decide (a < b) := by
  rcases Int.lt_trichotomy a b with h | h | h
  · rw [cmp_lt h]; simp [h]
  · rw [cmp_eq h]; simp; omega
  · rw [cmp_gt h]; simp; omega
theorem beq_cmp_gt (a b : Int) : (some (compare a b) == some Ordering.gt) = decide (b < a) := by
  rcases Int.lt_trichotomy a b with h | h | h
  · rw [cmp_lt h]; simp; omega
  · rw [cmp_eq h]; simp; omega
  · rw [cmp_gt h]; simp [h]

/-- package mark's whole -/
theorem whole_any (x : Nat) (w : World) : Calls Try.prog 59 #[.float .f64 x] w fun e w' => e = .returned (.bool (wholeB x)) ∧ w' = w := by
  cases hx : fval x with
  | none =>
    have hf : wholeB x = false := by unfold wholeB; rw [hx]
    rw [hf]
    refine whole_no x w _ _ rfl rfl ?_
    rcases order_none hx with h | h | h
    · rw [order64, order64, h 0 _ val_zero, h _ _ val_max]; rfl
    · rw [order64, order64, h 0 _ val_zero, h _ _ val_max]; rfl
    · rw [order64, order64, h 0, h]; rfl
  | some a =>
    have e1 : FloatKind.f64.format.order x 0 = some (compare a 0) := order_val hx val_zero
    have e2 : FloatKind.f64.format.order x 4787326403894837248 = some (compare a (1099511627776 * U)) := order_val hx val_max
    have ht : ((some (compare a 0) == some Ordering.gt || some (compare a 0) == some Ordering.eq) && (some (compare a (1099511627776 * U)) == some Ordering.lt || some (compare a (1099511627776 * U)) == some Ordering.eq)) = decide (0 ≤ a ∧ a ≤ 1099511627776 * U) := by
      rw [beq_cmp_gt, beq_cmp_eq, beq_cmp_lt, beq_cmp_eq]
      generalize 1099511627776 * U = z
      rw [Bool.eq_iff_iff]; simp; omega
    by_cases hr : 0 ≤ a ∧ a ≤ 1099511627776 * U
    · have hu := U_pos
      have hd : a / U < 2 ^ 53 := by
        have : a / U ≤ 1099511627776 := Int.le_of_mul_le_mul_right (Int.le_trans (Int.ediv_mul_le a (Int.ne_of_gt hu)) hr.2) hu
        omega
      have h3 := order_val hx (trunc_val hx hr.1 hd)
      have := whole_mid x _ w _ _ _ e1 e2 h3 (by rw [ht]; simpa using hr) (fun w => trunc_any x a w hx)
      rw [beq_cmp_eq] at this
      have hw : wholeB x = decide (a = a / U * U) := by
        unfold wholeB; rw [hx]; simp only [hr.1, hr.2, true_and]
        rw [Bool.eq_iff_iff]; simp only [decide_eq_true_eq]; exact eq_comm
      rw [hw]; exact this
    · have hf : wholeB x = false := by unfold wholeB; rw [hx]; simp; intro h1 h2; exact absurd ⟨h1, h2⟩ hr
      rw [hf]
      exact whole_no x w _ _ e1 e2 (by rw [ht]; simpa using hr)

def goodB (a b : Nat) : Bool := wholeB a && wholeB b

set_option maxHeartbeats 400000 in
theorem good_any (a b : Nat) (w : World) : Calls Try.prog 44 #[.complex .f64 a b] w fun e w' => e = .returned (.bool (goodB a b)) ∧ w' = w := by
  unfold goodB
  cases h : wholeB a
  all_goals
    go_enter Try.func44, Try.ntmps44
    go_wp2_with (go_at_call 59; refine (whole_any _ _).mono ?_; rintro e w' ⟨rfl, rfl⟩)
    go_ret
    exact ⟨rfl, rfl⟩

theorem conv_run (x : Nat) (h : wholeB x = true) (w : World) : (convert 49 3 (.float .f64 x)).run Try.prog w = .ok (.int .i64 (part x)) w := by
  obtain ⟨n, h0, h1, hv⟩ := (wholeB_iff x).1 h
  rw [part_of hv]
  refine run_convert_float_int w 49 3 .f64 .i64 x n (by rw [Try.underlying49]; rfl) Try.underlying3 ?_
  unfold floatToIntVal
  have : (FloatKind.f64.decode x).toInt .zero = some n := by
    have := toInt_val hv (Int.mul_nonneg h0 (Int.le_of_lt U_pos))
    rw [Int.mul_ediv_cancel _ (Int.ne_of_gt U_pos)] at this
    exact this
  rw [this]
  have hb : IntKind.i64.min ≤ n ∧ n ≤ IntKind.i64.max := by
    have a1 : IntKind.i64.min = -9223372036854775808 := rfl
    have a2 : IntKind.i64.max = 9223372036854775807 := rfl
    omega
  simp only [if_pos hb]

set_option maxHeartbeats 400000 in
theorem epoch_any (a b : Nat) (w : World) : Calls Try.prog 26 #[.complex .f64 a b] w fun e w' => e = .returned (.int .i64 (if goodB a b then part a else 0)) ∧ w' = w := by
  cases h : goodB a b
  · go_enter Try.func26, Try.ntmps26
    go_wp2_with (go_at_call 44; refine (good_any _ _ _).mono ?_; rintro e w' ⟨rfl, rfl⟩)
    go_ret
    exact ⟨rfl, rfl⟩
  · have hc := conv_run a (by unfold goodB at h; simp at h; exact h.1)
    go_enter Try.func26, Try.ntmps26
    go_wp2_with (go_at_call 44; refine (good_any _ _ _).mono ?_; rintro e w' ⟨rfl, rfl⟩)
    go_ret
    exact ⟨rfl, rfl⟩

set_option maxHeartbeats 400000 in
theorem number_any (a b : Nat) (w : World) : Calls Try.prog 67 #[.complex .f64 a b] w fun e w' => e = .returned (.int .i64 (if goodB a b then part b else 0)) ∧ w' = w := by
  cases h : goodB a b
  · go_enter Try.func67, Try.ntmps67
    go_wp2_with (go_at_call 44; refine (good_any _ _ _).mono ?_; rintro e w' ⟨rfl, rfl⟩)
    go_ret
    exact ⟨rfl, rfl⟩
  · have hc := conv_run b (by unfold goodB at h; simp at h; exact h.2)
    go_enter Try.func67, Try.ntmps67
    go_wp2_with (go_at_call 44; refine (good_any _ _ _).mono ?_; rintro e w' ⟨rfl, rfl⟩)
    go_ret
    exact ⟨rfl, rfl⟩
end
section
open Go.RowKit

theorem good_iff (a b : Nat) : goodB a b = true ↔ ∃ n k : Int, 0 ≤ n ∧ n ≤ 1099511627776 ∧ 0 ≤ k ∧ k ≤ 1099511627776 ∧ fval a = some (n * U) ∧ fval b = some (k * U) := by
  unfold goodB
  rw [Bool.and_eq_true, wholeB_iff, wholeB_iff]
  constructor
  · rintro ⟨⟨n, h1, h2, h3⟩, k, h4, h5, h6⟩; exact ⟨n, k, h1, h2, h4, h5, h3, h6⟩
  · rintro ⟨n, k, h1, h2, h4, h5, h3, h6⟩; exact ⟨⟨n, h1, h2, h3⟩, k, h4, h5, h6⟩

theorem good_parts {a b : Nat} (h : goodB a b = true) : 0 ≤ part a ∧ part a ≤ 1099511627776 ∧ 0 ≤ part b ∧ part b ≤ 1099511627776 ∧ fval a = some (part a * U) ∧ fval b = some (part b * U) := by
  obtain ⟨n, k, h1, h2, h4, h5, h3, h6⟩ := (good_iff a b).1 h
  rw [part_of h3, part_of h6]
  exact ⟨h1, h2, h4, h5, h3, h6⟩

theorem good_of {a b : Nat} {n k : Int} (ha : fval a = some (n * U)) (hb : fval b = some (k * U)) : goodB a b = decide (0 ≤ n ∧ n ≤ 1099511627776 ∧ 0 ≤ k ∧ k ≤ 1099511627776) := by
  by_cases h : 0 ≤ n ∧ n ≤ 1099511627776 ∧ 0 ≤ k ∧ k ≤ 1099511627776
  · rw [decide_eq_true h]; exact (good_iff a b).2 ⟨n, k, h.1, h.2.1, h.2.2.1, h.2.2.2, ha, hb⟩
  · rw [decide_eq_false h]
    cases hg : goodB a b
    · rfl
    · exfalso; apply h
      have := good_parts hg
      rw [part_of ha, part_of hb] at this
      exact ⟨this.1, this.2.1, this.2.2.1, this.2.2.2.1⟩

theorem val_zeroU : fval 0 = some (0 * U) := by rw [Int.zero_mul]; exact val_zero

theorem cmpU (n k : Int) : compare (n * U) (k * U) = compare n k := compare_mul n k U U_pos

/-- how two whole numbers stand -/
theorem order_whole {x y : Nat} {n k : Int} (hx : fval x = some (n * U)) (hy : fval y = some (k * U)) : FloatKind.f64.format.order x y = some (compare n k) := by
  have := order_val hx hy
  rwa [cmpU] at this

def gapB (a b c d : Nat) : Bool := goodB a b && goodB c d && decide (part a = part c ∧ part b ≤ part d)

set_option maxHeartbeats 1000000 in
theorem gap_any (a b c d : Nat) (w : World) :
    Calls Try.prog 60 #[.complex .f64 a b, .complex .f64 c d] w fun e w' => e = .returned (.tuple #[.int .i64 (if gapB a b c d then part d - part b else 0), .bool (gapB a b c d)]) ∧ w' = w := by
  cases h1 : goodB a b
  · have hg : gapB a b c d = false := by unfold gapB; rw [h1]; rfl
    rw [hg]; clear hg
    go_enter Try.func60, Try.ntmps60
    go_wp2_with (go_at_call 44; refine (good_any _ _ _).mono ?_; rintro e w' ⟨rfl, rfl⟩)
    go_ret2
    exact ⟨rfl, rfl⟩
  cases h2 : goodB c d
  · have hg : gapB a b c d = false := by unfold gapB; rw [h1, h2]; rfl
    rw [hg]; clear hg
    go_enter Try.func60, Try.ntmps60
    go_wp2_with (go_at_call 44; refine (good_any _ _ _).mono ?_; rintro e w' ⟨rfl, rfl⟩)
    go_ret2
    exact ⟨rfl, rfl⟩
  obtain ⟨p1, p2, p3, p4, va, vb⟩ := good_parts h1
  obtain ⟨q1, q2, q3, q4, vc, vd⟩ := good_parts h2
  have o1 := order_whole va vc
  have o2 := order_whole vb vd
  by_cases e1 : part a = part c
  · rw [cmp_eq e1] at o1
    by_cases e2 : part b ≤ part d
    · have hg : gapB a b c d = true := by unfold gapB; rw [h1, h2, decide_eq_true ⟨e1, e2⟩]; rfl
      rw [hg]; clear hg e1 va vb vc vd
      have o3 : (FloatKind.f64.format.order b d == some .gt) = false := by rw [o2, beq_cmp_gt]; simp; omega
      clear o2
      go_enter Try.func60, Try.ntmps60
      go_wp2_with (first
        | (go_at_call 44; refine (good_any _ _ _).mono ?_; rintro e w' ⟨rfl, rfl⟩)
        | (go_at_call 67; refine (number_any _ _ _).mono ?_; rintro e w' ⟨rfl, rfl⟩))
      go_ret2
      exact ⟨rfl, rfl⟩
    · have hg : gapB a b c d = false := by unfold gapB; rw [h1, h2]; simp; intro _; omega
      rw [hg]; clear hg e1 va vb vc vd
      have o3 : (FloatKind.f64.format.order b d == some .gt) = true := by rw [o2, beq_cmp_gt]; simp; omega
      clear o2
      go_enter Try.func60, Try.ntmps60
      go_wp2_with (go_at_call 44; refine (good_any _ _ _).mono ?_; rintro e w' ⟨rfl, rfl⟩)
      go_ret2
      exact ⟨rfl, rfl⟩
  · have hg : gapB a b c d = false := by unfold gapB; rw [h1, h2]; simp; intro h; exact absurd h e1
    rw [hg]; clear hg
    have o3 : (FloatKind.f64.format.order a c != some .eq) = true := by
      have : (FloatKind.f64.format.order a c == some .eq) = false := by rw [o1, beq_cmp_eq]; simp [e1]
      simp [bne, this]
    clear o1 o2 e1 va vb vc vd
    go_enter Try.func60, Try.ntmps60
    go_wp2_with (go_at_call 44; refine (good_any _ _ _).mono ?_; rintro e w' ⟨rfl, rfl⟩)
    go_ret2
    exact ⟨rfl, rfl⟩

def laterB (a b c d : Nat) : Bool := goodB a b && goodB c d && decide (part c < part a ∨ part a = part c ∧ part d < part b)

set_option maxHeartbeats 1000000 in
theorem later_any (a b c d : Nat) (w : World) :
    Calls Try.prog 68 #[.complex .f64 a b, .complex .f64 c d] w fun e w' => e = .returned (.bool (laterB a b c d)) ∧ w' = w := by
  cases h1 : goodB a b
  · have hg : laterB a b c d = false := by unfold laterB; rw [h1]; rfl
    rw [hg]; clear hg
    go_enter Try.func68, Try.ntmps68
    go_wp2_with (go_at_call 44; refine (good_any _ _ _).mono ?_; rintro e w' ⟨rfl, rfl⟩)
    go_ret
    exact ⟨rfl, rfl⟩
  cases h2 : goodB c d
  · have hg : laterB a b c d = false := by unfold laterB; rw [h1, h2]; rfl
    rw [hg]; clear hg
    go_enter Try.func68, Try.ntmps68
    go_wp2_with (go_at_call 44; refine (good_any _ _ _).mono ?_; rintro e w' ⟨rfl, rfl⟩)
    go_ret
    exact ⟨rfl, rfl⟩
  obtain ⟨p1, p2, p3, p4, va, vb⟩ := good_parts h1
  obtain ⟨q1, q2, q3, q4, vc, vd⟩ := good_parts h2
  have o1 := order_whole va vc
  have o2 := order_whole vb vd
  by_cases e1 : part a = part c
  · rw [cmp_eq e1] at o1
    have o3 : (FloatKind.f64.format.order b d == some .gt) = laterB a b c d := by
      rw [o2, beq_cmp_gt]; unfold laterB; rw [h1, h2, Bool.eq_iff_iff]; simp; omega
    clear o2 e1 va vb vc vd
    go_enter Try.func68, Try.ntmps68
    go_wp2_with (go_at_call 44; refine (good_any _ _ _).mono ?_; rintro e w' ⟨rfl, rfl⟩)
    go_ret
    exact ⟨rfl, rfl⟩
  · have o4 : (FloatKind.f64.format.order a c == some .gt) = laterB a b c d := by
      rw [o1, beq_cmp_gt]; unfold laterB; rw [h1, h2, Bool.eq_iff_iff]; simp; omega
    have o3 : (FloatKind.f64.format.order a c != some .eq) = true := by
      have : (FloatKind.f64.format.order a c == some .eq) = false := by rw [o1, beq_cmp_eq]; simp [e1]
      simp [bne, this]
    clear o1 o2 e1 va vb vc vd
    go_enter Try.func68, Try.ntmps68
    go_wp2_with (go_at_call 44; refine (good_any _ _ _).mono ?_; rintro e w' ⟨rfl, rfl⟩)
    go_ret
    exact ⟨rfl, rfl⟩

theorem mark_any (a b : Int) (w : World) : Calls Try.prog 31 #[.int .i64 a, .int .i64 b] w fun e w' => e = .returned (.complex .f64 (floatOfInt .f64 a) (floatOfInt .f64 b)) ∧ w' = w := by
  go_enter Try.func31, Try.ntmps31
  go_wp2
  go_ret
  exact ⟨rfl, rfl⟩

/-- the mark of an epoch and a number, as two floats -/
structure Mk (a b : Nat) (e n : Int) : Prop where
  ha : fval a = some (e * U)
  hb : fval b = some (n * U)
  e0 : 0 ≤ e
  e1 : e ≤ 1099511627776
  n0 : 0 ≤ n
  n1 : n ≤ 1099511627776
theorem Mk.good {a b : Nat} {e n : Int} (h : Mk a b e n) : goodB a b = true := by rw [good_of h.ha h.hb]; exact decide_eq_true ⟨h.e0, h.e1, h.n0, h.n1⟩
theorem Mk.pa {a b : Nat} {e n : Int} (h : Mk a b e n) : part a = e := part_of h.ha
theorem Mk.pb {a b : Nat} {e n : Int} (h : Mk a b e n) : part b = n := part_of h.hb
theorem Mk.gap {a b c d : Nat} {e n m : Int} (h : Mk a b e n) (k : Mk c d e m) : gapB a b c d = decide (n ≤ m) := by
  unfold gapB
  rw [h.good, k.good, h.pa, h.pb, k.pa, k.pb]; simp
theorem Mk.later {a b c d : Nat} {e n m : Int} (h : Mk a b e n) (k : Mk c d e m) : laterB a b c d = decide (m < n) := by
  unfold laterB
  rw [h.good, k.good, h.pa, h.pb, k.pa, k.pb]; simp
theorem Mk.of {e n : Int} (e0 : 0 ≤ e) (e1 : e ≤ 1099511627776) (n0 : 0 ≤ n) (n1 : n ≤ 1099511627776) : Mk (floatOfInt .f64 e) (floatOfInt .f64 n) e n :=
  ⟨ofInt_val e (by omega), ofInt_val n (by omega), e0, e1, n0, n1⟩
end
end Go.Proofs.Ytpmcecenhgppbaa
