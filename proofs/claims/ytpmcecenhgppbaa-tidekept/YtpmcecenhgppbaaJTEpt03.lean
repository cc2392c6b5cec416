/- The contracts of the small functions of package mark over parts and marks, and of the law's number makers: each call answers as the plain functions of the parts' bits say, and leaves the world as it was. -/
import Derived.Test.YtpmcecenhgppbaaProg
import Derived.Test.YtpmcecenhgppbaaJTEpt02
import Derived.WalkKit
import Derived.WalkSpells
import Derived.WalkLawsBesides
import Derived.Test.YtpmcecenhgppbaaJTEpt01
namespace Go.Proofs.Ytpmcecenhgppbaa
section
open Go.RowKit

theorem val_zero : fval 0 = some 0 := by decide +kernel
theorem val_max : fval 4787326403894837248 = some (1099511627776 * U) := by decide +kernel
theorem val_one : fval 4607182418800017408 = some (1 * U) := by decide +kernel

theorem toIntegral_run {P : Program} (x : Nat) (a : Int) (w : World) (hx : fval x = some a) :
    (Extern.MathFloor.toIntegral "math.archTrunc" .zero #[.float .f64 x]).run P w = .ok (.float .f64 (Ieee.double.write ((Ieee.double.read x).integral .zero))) w := by
  obtain ⟨s, m, i, hr, _⟩ := read_num hx
  have hd : FloatKind.f64.decode x = .number s m i := hr
  obtain ⟨g, e⟩ : ∃ g : Bool → Nat → Sem Value, Extern.MathFloor.toIntegral "math.archTrunc" .zero #[.float .f64 x] =
      (match FloatKind.f64.decode x with | .nan s t => g s t | d => pure (.float .f64 (FloatKind.f64.encode (d.integral .zero)))) := ⟨_, rfl⟩
  rw [e, hd, show Ieee.double.read x = .number s m i from hr]
  rfl

theorem archTrunc_run (x : Nat) (a : Int) (hx : fval x = some a) (w : World) :
    (callFunc 69 #[.float .f64 x]).run Try.prog w = .ok (.value (.float .f64 (Ieee.double.write ((Ieee.double.read x).integral .zero)))) w := by
  rw [run_callFunc_extern (e := Extern.MathFloor.toIntegral "math.archTrunc" .zero) Try.func69 (by kernel_rfl) (by kernel_rfl) (by kernel_rfl) (by kernel_rfl) _ w, toIntegral_run x a w hx]
  rfl

set_option maxHeartbeats 400000 in
theorem trunc_any (x : Nat) (a : Int) (w : World) (hx : fval x = some a) :
    Calls Try.prog 66 #[.float .f64 x] w fun e w' => e = .returned (.float .f64 (Ieee.double.write ((Ieee.double.read x).integral .zero))) ∧ w' = w := by
  have hd := archTrunc_run x a hx
  clear hx
  go_enter Try.func66, Try.ntmps66
  go_wp2
  go_ret
  exact ⟨rfl, rfl⟩

theorem order64 (x y : Nat) : FloatKind.f64.format.order x y = Ieee.double.order x y := rfl

set_option maxHeartbeats 400000 in
/-- where a test ahead of the last says no -/
theorem whole_no (x : Nat) (w : World) (c1 c2 : Option Ordering) (h1 : FloatKind.f64.format.order x 0 = c1) (h2 : FloatKind.f64.format.order x 4787326403894837248 = c2)
    (hn : ((c1 == some .gt || c1 == some .eq) && (c2 == some .lt || c2 == some .eq)) = false) :
    Calls Try.prog 59 #[.float .f64 x] w fun e w' => e = .returned (.bool false) ∧ w' = w := by
  rcases c1 with _ | _ | _ | _ <;> rcases c2 with _ | _ | _ | _ <;> first | (exfalso; revert hn; decide) | skip
  all_goals
    clear hn
    go_enter Try.func59, Try.ntmps59
    go_wp2
    go_ret
    exact ⟨rfl, rfl⟩

set_option maxHeartbeats 400000 in
/-- where the last test decides -/
theorem whole_mid (x t : Nat) (w : World) (c1 c2 c3 : Option Ordering) (h1 : FloatKind.f64.format.order x 0 = c1) (h2 : FloatKind.f64.format.order x 4787326403894837248 = c2)
    (h3 : FloatKind.f64.format.order x t = c3) (hy : ((c1 == some .gt || c1 == some .eq) && (c2 == some .lt || c2 == some .eq)) = true)
    (hT : ∀ w, Calls Try.prog 66 #[.float .f64 x] w fun e w' => e = .returned (.float .f64 t) ∧ w' = w) :
    Calls Try.prog 59 #[.float .f64 x] w fun e w' => e = .returned (.bool (c3 == some .eq)) ∧ w' = w := by
  rcases c1 with _ | _ | _ | _ <;> rcases c2 with _ | _ | _ | _ <;> first | (exfalso; revert hy; decide) | skip
  all_goals
    clear hy
    go_enter Try.func59, Try.ntmps59
    go_wp2_with (go_at_call 66; refine (hT _).mono ?_; rintro e w' ⟨rfl, rfl⟩)
    go_ret
    exact ⟨rfl, rfl⟩

theorem beq_cmp_eq (a b : Int) : (some (compare a b) == some Ordering.eq) = decide (a = b) := by
  rcases Int.lt_trichotomy a b with h | h | h
  · rw [cmp_lt h]; simp; omega
  · rw [cmp_eq h]; simp [h]
  · rw [cmp_gt h]; simp; omega
theorem beq_cmp_lt (a b : Int) : (some (compare a b) == some Ordering.lt) = decide (a < b) := by
  rcases Int.lt_trichotomy a b with h | h | h
  · rw [cmp_lt h]; simp [h]
  · rw [cmp_eq h]; simp; omega
  · rw [cmp_gt h]; simp; omega
theorem beq_cmp_gt (a b : Int) : (some (compare a b) == some Ordering.gt) = decide (b < a) := by
  rcases Int.lt_trichotomy a b with h | h | h
  · rw [cmp_lt h]; simp; omega
  · rw [cmp_eq h]; simp; omega
  · rw [cmp_gt h]; simp [h]

/-- package mark's whole -/
theorem whole_any (x : Nat) (w : World) : Calls Try.prog 59 #[.float .f64 x] w fun e w' => e = .returned (.bool (wholeB x)) ∧ w' = w := by
  cases hx : fval x with
  | none =>
    have hf : wholeB x = false := by unfold wholeB; rw [hx]
    rw [hf]
    refine whole_no x w _ _ rfl rfl ?_
    rcases order_none hx with h | h | h
    · rw [order64, order64, h 0 _ val_zero, h _ _ val_max]; rfl
    · rw [order64, order64, h 0 _ val_zero, h _ _ val_max]; rfl
    · rw [order64, order64, h 0, h]; rfl
  | some a =>
    have e1 : FloatKind.f64.format.order x 0 = some (compare a 0) := order_val hx val_zero
    have e2 : FloatKind.f64.format.order x 4787326403894837248 = some (compare a (1099511627776 * U)) := order_val hx val_max
    have ht : ((some (compare a 0) == some Ordering.gt || some (compare a 0) == some Ordering.eq) && (some (compare a (1099511627776 * U)) == some Ordering.lt || some (compare a (1099511627776 * U)) == some Ordering.eq)) = decide (0 ≤ a ∧ a ≤ 1099511627776 * U) := by
      rw [beq_cmp_gt, beq_cmp_eq, beq_cmp_lt, beq_cmp_eq]
      generalize 1099511627776 * U = z
      rw [Bool.eq_iff_iff]; simp; omega
    by_cases hr : 0 ≤ a ∧ a ≤ 1099511627776 * U
    · have hu := U_pos
      have hd : a / U < 2 ^ 53 := by
        have : a / U ≤ 1099511627776 := Int.le_of_mul_le_mul_right (Int.le_trans (Int.ediv_mul_le a (Int.ne_of_gt hu)) hr.2) hu
        omega
      have h3 := order_val hx (trunc_val hx hr.1 hd)
      have := whole_mid x _ w _ _ _ e1 e2 h3 (by rw [ht]; simpa using hr) (fun w => trunc_any x a w hx)
      rw [beq_cmp_eq] at this
      have hw : wholeB x = decide (a = a / U * U) := by
        unfold wholeB; rw [hx]; simp only [hr.1, hr.2, true_and]
        rw [Bool.eq_iff_iff]; simp only [decide_eq_true_eq]; exact eq_comm
      rw [hw]; exact this
    · have hf : wholeB x = false := by unfold wholeB; rw [hx]; simp; intro h1 h2; exact absurd ⟨h1, h2⟩ hr
      rw [hf]
      exact whole_no x w _ _ e1 e2 (by rw [ht]; simpa using hr)

def goodB (a b : Nat) : Bool := wholeB a && wholeB b

set_option maxHeartbeats 400000 in
theorem good_any (a b : Nat) (w : World) : Calls Try.prog 44 #[.complex .f64 a b] w fun e w' => e = .returned (.bool (goodB a b)) ∧ w' = w := by
  unfold goodB
  cases h : wholeB a
  all_goals
    go_enter Try.func44, Try.ntmps44
    go_wp2_with (go_at_call 59; refine (whole_any _ _).mono ?_; rintro e w' ⟨rfl, rfl⟩)
    go_ret
    exact ⟨rfl, rfl⟩

theorem conv_run (x : Nat) (h : wholeB x = true) (w : World) : (convert 49 3 (.float .f64 x)).run Try.prog w = .ok (.int .i64 (part x)) w := by
  obtain ⟨n, h0, h1, hv⟩ := (wholeB_iff x).1 h
  rw [part_of hv]
  refine run_convert_float_int w 49 3 .f64 .i64 x n (by rw [Try.underlying49]; rfl) Try.underlying3 ?_
  unfold floatToIntVal
  have : (FloatKind.f64.decode x).toInt .zero = some n := by
    have := toInt_val hv (Int.mul_nonneg h0 (Int.le_of_lt U_pos))
    rw [Int.mul_ediv_cancel _ (Int.ne_of_gt U_pos)] at this
    exact this
  rw [this]
  have hb : IntKind.i64.min ≤ n ∧ n ≤ IntKind.i64.max := by
    have a1 : IntKind.i64.min = -9223372036854775808 := rfl
    have a2 : IntKind.i64.max = 9223372036854775807 := rfl
    omega
  simp only [if_pos hb]

set_option maxHeartbeats 400000 in
theorem epoch_any (a b : Nat) (w : World) : Calls Try.prog 26 #[.complex .f64 a b] w fun e w' => e = .returned (.int .i64 (if goodB a b then part a else 0)) ∧ w' = w := by
  cases h : goodB a b
  · go_enter Try.func26, Try.ntmps26
    go_wp2_with (go_at_call 44; refine (good_any _ _ _).mono ?_; rintro e w' ⟨rfl, rfl⟩)
    go_ret
    exact ⟨rfl, rfl⟩
  · have hc := conv_run a (by unfold goodB at h; simp at h; exact h.1)
    go_enter Try.func26, Try.ntmps26
    go_wp2_with (go_at_call 44; refine (good_any _ _ _).mono ?_; rintro e w' ⟨rfl, rfl⟩)
    go_ret
    exact ⟨rfl, rfl⟩

set_option maxHeartbeats 400000 in
theorem number_any (a b : Nat) (w : World) : Calls Try.prog 67 #[.complex .f64 a b] w fun e w' => e = .returned (.int .i64 (if goodB a b then part b else 0)) ∧ w' = w := by
  cases h : goodB a b
  · go_enter Try.func67, Try.ntmps67
    go_wp2_with (go_at_call 44; refine (good_any _ _ _).mono ?_; rintro e w' ⟨rfl, rfl⟩)
    go_ret
    exact ⟨rfl, rfl⟩
  · have hc := conv_run b (by unfold goodB at h; simp at h; exact h.2)
    go_enter Try.func67, Try.ntmps67
    go_wp2_with (go_at_call 44; refine (good_any _ _ _).mono ?_; rintro e w' ⟨rfl, rfl⟩)
    go_ret
    exact ⟨rfl, rfl⟩
end
section
open Go.RowKit

theorem good_iff (a b : Nat) : goodB a b = true ↔ ∃ n k : Int, 0 ≤ n ∧ n ≤ 1099511627776 ∧ 0 ≤ k ∧ k ≤ 1099511627776 ∧ fval a = some (n * U) ∧ fval b = some (k * U) := by
  unfold goodB
  rw [Bool.and_eq_true, wholeB_iff, wholeB_iff]
  constructor
  · rintro ⟨⟨n, h1, h2, h3⟩, k, h4, h5, h6⟩; exact ⟨n, k, h1, h2, h4, h5, h3, h6⟩
  · rintro ⟨n, k, h1, h2, h4, h5, h3, h6⟩; exact ⟨⟨n, h1, h2, h3⟩, k, h4, h5, h6⟩

theorem good_parts {a b : Nat} (h : goodB a b = true) : 0 ≤ part a ∧ part a ≤ 1099511627776 ∧ 0 ≤ part b ∧ part b ≤ 1099511627776 ∧ fval a = some (part a * U) ∧ fval b = some (part b * U) := by
  obtain ⟨n, k, h1, h2, h4, h5, h3, h6⟩ := (good_iff a b).1 h
  rw [part_of h3, part_of h6]
  exact ⟨h1, h2, h4, h5, h3, h6⟩

theorem good_of {a b : Nat} {n k : Int} (ha : fval a = some (n * U)) (hb : fval b = some (k * U)) : goodB a b = decide (0 ≤ n ∧ n ≤ 1099511627776 ∧ 0 ≤ k ∧ k ≤ 1099511627776) := by
  by_cases h : 0 ≤ n ∧ n ≤ 1099511627776 ∧ 0 ≤ k ∧ k ≤ 1099511627776
  · rw [decide_eq_true h]; exact (good_iff a b).2 ⟨n, k, h.1, h.2.1, h.2.2.1, h.2.2.2, ha, hb⟩
  · rw [decide_eq_false h]
    cases hg : goodB a b
    · rfl
    · exfalso; apply h
      have := good_parts hg
      rw [part_of ha, part_of hb] at this
      exact ⟨this.1, this.2.1, this.2.2.1, this.2.2.2.1⟩

theorem val_zeroU : fval 0 = some (0 * U) := by rw [Int.zero_mul]; exact val_zero

theorem cmpU (n k : Int) : compare (n * U) (k * U) = compare n k := compare_mul n k U U_pos

/-- how two whole numbers stand -/
theorem order_whole {x y : Nat} {n k : Int} (hx : fval x = some (n * U)) (hy : fval y = some (k * U)) : FloatKind.f64.format.order x y = some (compare n k) := by
  have := order_val hx hy
  rwa [cmpU] at this

def gapB (a b c d : Nat) : Bool := goodB a b && goodB c d && decide (part a = part c ∧ part b ≤ part d)

set_option maxHeartbeats 1000000 in
theorem gap_any (a b c d : Nat) (w : World) :
    Calls Try.prog 60 #[.complex .f64 a b, .complex .f64 c d] w fun e w' => e = .returned (.tuple #[.int .i64 (if gapB a b c d then part d - part b else 0), .bool (gapB a b c d)]) ∧ w' = w := by
  cases h1 : goodB a b
  · have hg : gapB a b c d = false := by unfold gapB; rw [h1]; rfl
    rw [hg]; clear hg
    go_enter Try.func60, Try.ntmps60
    go_wp2_with (go_at_call 44; refine (good_any _ _ _).mono ?_; rintro e w' ⟨rfl, rfl⟩)
    go_ret2
    exact ⟨rfl, rfl⟩
  cases h2 : goodB c d
  · have hg : gapB a b c d = false := by unfold gapB; rw [h1, h2]; rfl
    rw [hg]; clear hg
    go_enter Try.func60, Try.ntmps60
    go_wp2_with (go_at_call 44; refine (good_any _ _ _).mono ?_; rintro e w' ⟨rfl, rfl⟩)
    go_ret2
    exact ⟨rfl, rfl⟩
  obtain ⟨p1, p2, p3, p4, va, vb⟩ := good_parts h1
  obtain ⟨q1, q2, q3, q4, vc, vd⟩ := good_parts h2
  have o1 := order_whole va vc
  have o2 := order_whole vb vd
  by_cases e1 : part a = part c
  · rw [cmp_eq e1] at o1
    by_cases e2 : part b ≤ part d
    · have hg : gapB a b c d = true := by unfold gapB; rw [h1, h2, decide_eq_true ⟨e1, e2⟩]; rfl
      rw [hg]; clear hg e1 va vb vc vd
      have o3 : (FloatKind.f64.format.order b d == some .gt) = false := by rw [o2, beq_cmp_gt]; simp; omega
      clear o2
      go_enter Try.func60, Try.ntmps60
      go_wp2_with (first
        | (go_at_call 44; refine (good_any _ _ _).mono ?_; rintro e w' ⟨rfl, rfl⟩)
        | (go_at_call 67; refine (number_any _ _ _).mono ?_; rintro e w' ⟨rfl, rfl⟩))
      go_ret2
      exact ⟨rfl, rfl⟩
    · have hg : gapB a b c d = false := by unfold gapB; rw [h1, h2]; simp; intro _; omega
      rw [hg]; clear hg e1 va vb vc vd
      have o3 : (FloatKind.f64.format.order b d == some .gt) = true := by rw [o2, beq_cmp_gt]; simp; omega
      clear o2
      go_enter Try.func60, Try.ntmps60
      go_wp2_with (go_at_call 44; refine (good_any _ _ _).mono ?_; rintro e w' ⟨rfl, rfl⟩)
      go_ret2
      exact ⟨rfl, rfl⟩
  · have hg : gapB a b c d = false := by unfold gapB; rw [h1, h2]; simp; intro h; exact absurd h e1
    rw [hg]; clear hg
    have o3 : (FloatKind.f64.format.order a c != some .eq) = true := by
      have : (FloatKind.f64.format.order a c == some .eq) = false := by rw [o1, beq_cmp_eq]; simp [e1]
      simp [bne, this]
    clear o1 o2 e1 va vb vc vd
    go_enter Try.func60, Try.ntmps60
    go_wp2_with (go_at_call 44; refine (good_any _ _ _).mono ?_; rintro e w' ⟨rfl, rfl⟩)
    go_ret2
    exact ⟨rfl, rfl⟩

def laterB (a b c d : Nat) : Bool := goodB a b && goodB c d && decide (part c < part a ∨ part a = part c ∧ part d < part b)

set_option maxHeartbeats 1000000 in
theorem later_any (a b c d : Nat) (w : World) :
    Calls Try.prog 68 #[.complex .f64 a b, .complex .f64 c d] w fun e w' => e = .returned (.bool (laterB a b c d)) ∧ w' = w := by
  cases h1 : goodB a b
  · have hg : laterB a b c d = false := by unfold laterB; rw [h1]; rfl
    rw [hg]; clear hg
    go_enter Try.func68, Try.ntmps68
    go_wp2_with (go_at_call 44; refine (good_any _ _ _).mono ?_; rintro e w' ⟨rfl, rfl⟩)
    go_ret
    exact ⟨rfl, rfl⟩
  cases h2 : goodB c d
  · have hg : laterB a b c d = false := by unfold laterB; rw [h1, h2]; rfl
    rw [hg]; clear hg
    go_enter Try.func68, Try.ntmps68
    go_wp2_with (go_at_call 44; refine (good_any _ _ _).mono ?_; rintro e w' ⟨rfl, rfl⟩)
    go_ret
    exact ⟨rfl, rfl⟩
  obtain ⟨p1, p2, p3, p4, va, vb⟩ := good_parts h1
  obtain ⟨q1, q2, q3, q4, vc, vd⟩ := good_parts h2
  have o1 := order_whole va vc
  have o2 := order_whole vb vd
  by_cases e1 : part a = part c
  · rw [cmp_eq e1] at o1
    have o3 : (FloatKind.f64.format.order b d == some .gt) = laterB a b c d := by
      rw [o2, beq_cmp_gt]; unfold laterB; rw [h1, h2, Bool.eq_iff_iff]; simp; omega
    clear o2 e1 va vb vc vd
    go_enter Try.func68, Try.ntmps68
    go_wp2_with (go_at_call 44; refine (good_any _ _ _).mono ?_; rintro e w' ⟨rfl, rfl⟩)
    go_ret
    exact ⟨rfl, rfl⟩
  · have o4 : (FloatKind.f64.format.order a c == some .gt) = laterB a b c d := by
      rw [o1, beq_cmp_gt]; unfold laterB; rw [h1, h2, Bool.eq_iff_iff]; simp; omega
    have o3 : (FloatKind.f64.format.order a c != some .eq) = true := by
      have : (FloatKind.f64.format.order a c == some .eq) = false := by rw [o1, beq_cmp_eq]; simp [e1]
      simp [bne, this]
    clear o1 o2 e1 va vb vc vd
    go_enter Try.func68, Try.ntmps68
    go_wp2_with (go_at_call 44; refine (good_any _ _ _).mono ?_; rintro e w' ⟨rfl, rfl⟩)
    go_ret
    exact ⟨rfl, rfl⟩

theorem mark_any (a b : Int) (w : World) : Calls Try.prog 31 #[.int .i64 a, .int .i64 b] w fun e w' => e = .returned (.complex .f64 (floatOfInt .f64 a) (floatOfInt .f64 b)) ∧ w' = w := by
  go_enter Try.func31, Try.ntmps31
  go_wp2
  go_ret
  exact ⟨rfl, rfl⟩

/-- the mark of an epoch and a number, as two floats -/
structure Mk (a b : Nat) (e n : Int) : Prop where
  ha : fval a = some (e * U)
  hb : fval b = some (n * U)
  e0 : 0 ≤ e
  e1 : e ≤ 1099511627776
  n0 : 0 ≤ n
  n1 : n ≤ 1099511627776
theorem Mk.good {a b : Nat} {e n : Int} (h : Mk a b e n) : goodB a b = true := by rw [good_of h.ha h.hb]; exact decide_eq_true ⟨h.e0, h.e1, h.n0, h.n1⟩
theorem Mk.pa {a b : Nat} {e n : Int} (h : Mk a b e n) : part a = e := part_of h.ha
theorem Mk.pb {a b : Nat} {e n : Int} (h : Mk a b e n) : part b = n := part_of h.hb
theorem Mk.gap {a b c d : Nat} {e n m : Int} (h : Mk a b e n) (k : Mk c d e m) : gapB a b c d = decide (n ≤ m) := by
  unfold gapB
  rw [h.good, k.good, h.pa, h.pb, k.pa, k.pb]; simp
theorem Mk.later {a b c d : Nat} {e n m : Int} (h : Mk a b e n) (k : Mk c d e m) : laterB a b c d = decide (m < n) := by
  unfold laterB
  rw [h.good, k.good, h.pa, h.pb, k.pa, k.pb]; simp
theorem Mk.of {e n : Int} (e0 : 0 ≤ e) (e1 : e ≤ 1099511627776) (n0 : 0 ≤ n) (n1 : n ≤ 1099511627776) : Mk (floatOfInt .f64 e) (floatOfInt .f64 n) e n :=
  ⟨ofInt_val e (by omega), ofInt_val n (by omega), e0, e1, n0, n1⟩
end
section
open Go.RowKit

def Ky.agg (k : Ky) : Value := .agg #[.int .i64 k.d, .string k.nm]
/-- are two keys the same (shut, so that a walk leaves it standing) -/
def eqKy (a b : Ky) : Bool := decide (a.d = b.d ∧ a.nm = b.nm)
theorem eqKy_iff (a b : Ky) : eqKy a b = true ↔ a = b := by
  obtain ⟨a1, a2⟩ := a
  obtain ⟨b1, b2⟩ := b
  simp [eqKy]
theorem eqKy_self (a : Ky) : eqKy a a = true := (eqKy_iff a a).2 rfl
theorem eqKy_no {a b : Ky} (h : a ≠ b) : eqKy a b = false := by
  cases k : eqKy a b with
  | false => rfl
  | true => exact absurd ((eqKy_iff a b).1 k) h
theorem eqKy_comm (a b : Ky) : eqKy a b = eqKy b a := by
  by_cases h : a = b
  · subst h; rfl
  · rw [eqKy_no h, eqKy_no (Ne.symm h)]
def inK (l : List Ky) (k : Ky) : Bool := l.any fun x => eqKy x k
theorem inK_iff (l : List Ky) (k : Ky) : inK l k = true ↔ k ∈ l := by
  unfold inK
  rw [List.any_eq_true]
  constructor
  · rintro ⟨x, hx, e⟩
    rw [← (eqKy_iff x k).1 e]; exact hx
  · exact fun h => ⟨k, h, eqKy_self k⟩
def bare (k : Ky) : Ky := ⟨k.d, ⟨#[]⟩⟩

/-- a message, plainly (its mark by its bits) -/
structure Pm where
  kind : Int
  client : Int
  life : Int
  seq : Int
  re : Nat
  im : Nat
  vers : Int
  err : Int
  op : Opn
  es : List En
  ks : List Ky
def Pm.arr (m : Pm) (ve vk : Value) : Array Value := #[.int .i64 m.kind, .int .i64 m.client, .int .i64 m.life, .int .i64 m.seq, .complex .f64 m.re m.im, .int .i64 m.vers, .int .i64 m.err, .int .i64 m.op.kind, .int .i64 m.op.dir, .string m.op.nm, .int .i64 m.op.dst, .string m.op.new, .int .i64 m.op.mode, .string m.op.tg, ve, vk]
def Pm.num (m : Pm) : Int := part m.im
def Pm.ep (m : Pm) : Int := part m.re
/-- an act -/
structure Ac where
  all : Bool
  again : Bool
  reply : Bool
  whole : Bool
  ks : List Ky
  err : Int
  es : List En
/-- a fresh break -/
structure Fb where
  n : Int
  all : Bool
  ks : List Ky
/-- a tide -/
structure Ts where
  client : Int
  life : Int
  e : Int
  n : Int
  ver : Int
  asked : Int
  fr : List Fb
  held : List Pm
  hold : Nat
def Ts.ahead (s : Ts) (m : Pm) : Int := if s.n ≤ m.num then m.num - s.n else 0
def Ts.counts (s : Ts) (m : Pm) : Bool := decide (2 ≤ m.kind ∧ m.kind ≤ 4) && (decide (m.client = s.client) && (decide (m.life = s.life) && (goodB m.re m.im && decide (s.e ≤ m.ep))))
def Ts.restart (s : Ts) (m : Pm) : Ts := { s with e := m.ep, n := 0, fr := [], held := [] }
def Ts.apply (s : Ts) (m : Pm) : Ts := { s with n := m.num, ver := max s.ver m.vers, fr := if 0 < s.asked then s.fr ++ [⟨m.num, decide (m.kind = 4), m.ks⟩] else s.fr }
def allA : Ac := ⟨true, false, false, false, [], 0, []⟩
def againA : Ac := ⟨false, true, false, false, [], 0, []⟩
def keysA (ks : List Ky) : Ac := ⟨false, false, false, false, ks, 0, []⟩
def actOf (m : Pm) : Ac := if m.kind = 4 then allA else keysA m.ks
def Fb.names (b : Fb) (k : Ky) : Bool := b.all || (inK b.ks k || inK b.ks (bare k))
def named (fr : List Fb) (n : Int) (k : Ky) : Bool := fr.any fun b => decide (n < b.n) && b.names k
def wholeF (fr : List Fb) (n : Int) : Bool := fr.all fun b => decide (b.n ≤ n)
def Ts.newer (s : Ts) (v : Int) : Ts := { s with ver := max s.ver v }
def Ts.used (s : Ts) (m : Pm) : Ts := if m.err = 70 then s.newer m.vers else { s.newer m.vers with asked := 0, fr := [] }
def left (fr : List Fb) (n : Int) (es : List En) : List En := es.filter fun e => !named fr n ⟨e.d, e.nm⟩
def Ts.usedA (s : Ts) (m : Pm) : Ac := if m.err = 70 then againA else ⟨false, false, true, wholeF s.fr m.num, [], m.err, left s.fr m.num m.es⟩
def likeM (o m : Pm) : Bool := decide (o.kind = m.kind ∧ o.ep = m.ep ∧ o.num = m.num)
def Ts.holds (s : Ts) (m : Pm) : Ts := if s.held.length < s.hold ∧ (s.held.any fun o => likeM o m) = false then { s with held := s.held ++ [m] } else s
def Ts.asks (s : Ts) (q : Int) : Bool := decide (0 < q ∧ q = s.asked)
def Ts.meet (s : Ts) (m : Pm) : Ts × List Ac :=
  if m.kind = 2 then
    if s.asks m.seq then if s.ahead m = 0 then (s.used m, [s.usedA m]) else (s.holds m, []) else (s, [])
  else if s.ahead m = 0 then (s, [])
  else if m.kind = 4 ∨ (m.kind = 3 ∧ s.ahead m = 1) then (s.apply m, [actOf m])
  else (s.holds m, [])
def Ts.due1 (s : Ts) (m : Pm) : Bool := decide (m.kind = 3) && decide (s.ahead m = 1)
def Ts.due2 (s : Ts) (m : Pm) : Bool := decide (m.kind = 2) && decide (s.ahead m = 0)
def Ts.due3 (s : Ts) (m : Pm) : Bool := decide (s.ahead m = 0)
def Ts.due (s : Ts) : Option Nat := (s.held.findIdx? s.due1).or ((s.held.findIdx? s.due2).or (s.held.findIdx? s.due3))
def Ts.without (s : Ts) (i : Nat) : Ts := { s with held := s.held.eraseIdx i }
/-- what is held is gone through, so many times at most -/
def Ts.settleF : Nat → Ts → Ts × List Ac
  | 0, s => (s, [])
  | n + 1, s => match s.due with
    | none => (s, [])
    | some i => match s.held[i]? with
      | none => (s, [])
      | some m => ((Ts.settleF n ((s.without i).meet m).1).1, ((s.without i).meet m).2 ++ (Ts.settleF n ((s.without i).meet m).1).2)
def Ts.settle (s : Ts) : Ts × List Ac := Ts.settleF s.held.length s
def Ts.begun (s : Ts) (m : Pm) : Ts := if s.e < m.ep then s.restart m else s
def Ts.begunA (s : Ts) (m : Pm) : List Ac := if s.e < m.ep then [allA] else []
def Ts.take (s : Ts) (m : Pm) : Ts × List Ac :=
  if s.counts m then (((s.begun m).meet m).1.settle.1, s.begunA m ++ (((s.begun m).meet m).2 ++ ((s.begun m).meet m).1.settle.2)) else (s, [])
def Ts.ask (s : Ts) (q : Int) : Ts := { s with asked := max q 0, fr := [], held := s.held.filter fun m => !(decide (m.kind = 2) && decide (m.seq ≠ max q 0)) }
def Ts.new (client life : Int) (hold : Nat) : Ts := ⟨client, life, 0, 0, 0, 0, [], [], hold⟩

theorem find_lt {α : Type} {l : List α} {p : α → Bool} {i : Nat} (h : l.findIdx? p = some i) : ∃ x, l[i]? = some x ∧ p x = true := by
  rw [List.findIdx?_eq_some_iff_getElem] at h
  obtain ⟨hi, hq, _⟩ := h
  exact ⟨l[i], List.getElem?_eq_getElem hi, hq⟩
/-- what is due: a message that is met, not held -/
theorem Ts.due_some {s : Ts} {i : Nat} (h : s.due = some i) : ∃ m, s.held[i]? = some m ∧ (s.due1 m = true ∨ s.due2 m = true ∨ s.due3 m = true) := by
  unfold Ts.due at h
  cases h1 : s.held.findIdx? s.due1 with
  | some j =>
    rw [h1, Option.some_or] at h
    cases h
    obtain ⟨m, e, p⟩ := find_lt h1
    exact ⟨m, e, .inl p⟩
  | none =>
    rw [h1, Option.none_or] at h
    cases h2 : s.held.findIdx? s.due2 with
    | some j =>
      rw [h2, Option.some_or] at h
      cases h
      obtain ⟨m, e, p⟩ := find_lt h2
      exact ⟨m, e, .inr (.inl p)⟩
    | none =>
      rw [h2, Option.none_or] at h
      obtain ⟨m, e, p⟩ := find_lt h
      exact ⟨m, e, .inr (.inr p)⟩
theorem used_held (s : Ts) (m : Pm) : (s.used m).held = s.held ∧ (s.used m).hold = s.hold := by
  unfold Ts.used Ts.newer
  by_cases h : m.err = 70
  · rw [if_pos h]; exact ⟨rfl, rfl⟩
  · rw [if_neg h]; exact ⟨rfl, rfl⟩
theorem Ts.ahead_without (s : Ts) (i : Nat) (m : Pm) : (s.without i).ahead m = s.ahead m := rfl
theorem meet_due {s : Ts} {i : Nat} {m : Pm} (hd : s.due1 m = true ∨ s.due2 m = true ∨ s.due3 m = true) : ((s.without i).meet m).1.held = s.held.eraseIdx i ∧ ((s.without i).meet m).1.hold = s.hold := by
  unfold Ts.meet
  rw [Ts.ahead_without]
  by_cases h2 : m.kind = 2
  · rw [if_pos h2]
    by_cases ha : (s.without i).asks m.seq = true
    · rw [if_pos ha]
      have h0 : s.ahead m = 0 := by
        rcases hd with h | h | h
        · unfold Ts.due1 at h; simp at h; omega
        · unfold Ts.due2 at h; simp at h; exact h.2
        · unfold Ts.due3 at h; simpa using h
      rw [if_pos h0]
      exact used_held (s.without i) m
    · rw [if_neg ha]; exact ⟨rfl, rfl⟩
  · rw [if_neg h2]
    by_cases h0 : s.ahead m = 0
    · rw [if_pos h0]; exact ⟨rfl, rfl⟩
    · rw [if_neg h0]
      have h3 : m.kind = 4 ∨ (m.kind = 3 ∧ s.ahead m = 1) := by
        rcases hd with h | h | h
        · unfold Ts.due1 at h; simp at h; exact .inr h
        · unfold Ts.due2 at h; simp at h; exact absurd h.1 h2
        · unfold Ts.due3 at h; exact absurd (by simpa using h) h0
      rw [if_pos h3]
      exact ⟨rfl, rfl⟩
theorem Ts.settle_none {s : Ts} (h : s.due = none) : s.settle = (s, []) := by
  unfold Ts.settle
  cases s.held.length with
  | zero => rfl
  | succ n => unfold Ts.settleF; rw [h]
theorem Ts.settle_some {s : Ts} {i : Nat} {m : Pm} (h : s.due = some i) (hm : s.held[i]? = some m) : s.settle = (((s.without i).meet m).1.settle.1, ((s.without i).meet m).2 ++ ((s.without i).meet m).1.settle.2) := by
  obtain ⟨m', e, hd⟩ := Ts.due_some h
  rw [hm] at e
  cases e
  have hi := (List.getElem?_eq_some_iff.1 hm).1
  have hl : ((s.without i).meet m).1.held.length = s.held.length - 1 := by rw [(meet_due hd).1, List.length_eraseIdx_of_lt hi]
  obtain ⟨n, hn⟩ : ∃ n, s.held.length = n + 1 := ⟨s.held.length - 1, by omega⟩
  unfold Ts.settle
  rw [hl, hn]
  show Ts.settleF (n + 1) s = _
  rw [Ts.settleF, h]
  simp only [hm]
  rfl
end
end Go.Proofs.Ytpmcecenhgppbaa
