/- The contracts of package mark: At, Next, Gap, Later, Number; and of the law's Mark. -/
import Derived.Test.YtaofhjckliobpaaParts
namespace Go.Proofs.Ytaofhjckliobpaa
open Go.RowKit

def withinB (n : Int) : Bool := decide (0 ≤ n ∧ n ≤ 1099511627776)

set_option maxHeartbeats 400000 in
theorem within_any (n : Int) (w : World) : Calls Try.prog 51 #[.int .i64 n] w fun e w' => e = .returned (.bool (withinB n)) ∧ w' = w := by
  by_cases h0 : 0 ≤ n
  · have hw : withinB n = decide (n ≤ 1099511627776) := by unfold withinB; simp [h0]
    rw [hw]
    go_enter Try.func51, Try.ntmps51
    go_wp2
    go_ret
    exact ⟨rfl, rfl⟩
  · have hw : withinB n = false := by unfold withinB; simp [h0]
    rw [hw]
    go_enter Try.func51, Try.ntmps51
    go_wp2
    go_ret
    exact ⟨rfl, rfl⟩

set_option maxHeartbeats 400000 in
theorem at_yes (a b : Int) (w : World) (ha : withinB a = true) (hb : withinB b = true) :
    Calls Try.prog 33 #[.int .i64 a, .int .i64 b] w fun e w' => e = .returned (.tuple #[.complex .f64 (floatOfInt .f64 a) (floatOfInt .f64 b), .int .i64 0]) ∧ w' = w := by
  go_enter Try.func33, Try.ntmps33
  go_wp2_with (go_at_call 51; refine (within_any _ _).mono ?_; rintro e w' ⟨rfl, rfl⟩)
  go_ret2
  exact ⟨rfl, rfl⟩

set_option maxHeartbeats 400000 in
theorem at_no (a b : Int) (w : World) (h : (withinB a && withinB b) = false) :
    Calls Try.prog 33 #[.int .i64 a, .int .i64 b] w fun e w' => e = .returned (.tuple #[.complex .f64 0 0, .int .i64 1]) ∧ w' = w := by
  cases ha : withinB a
  · clear h
    go_enter Try.func33, Try.ntmps33
    go_wp2_with (go_at_call 51; refine (within_any _ _).mono ?_; rintro e w' ⟨rfl, rfl⟩)
    go_ret2
    exact ⟨rfl, rfl⟩
  · have hb : withinB b = false := by rw [ha] at h; simpa using h
    clear h
    go_enter Try.func33, Try.ntmps33
    go_wp2_with (go_at_call 51; refine (within_any _ _).mono ?_; rintro e w' ⟨rfl, rfl⟩)
    go_ret2
    exact ⟨rfl, rfl⟩

set_option maxHeartbeats 400000 in
theorem step_yes (a b c d : Nat) (w : World) (h1 : goodB a b = true) (h2 : goodB c d = true) :
    Calls Try.prog 50 #[.complex .f64 a b, .complex .f64 c d] w fun e w' => e = .returned (.tuple #[.complex .f64 c d, .int .i64 0]) ∧ w' = w := by
  go_enter Try.func50, Try.ntmps50
  go_wp2_with (go_at_call 48; refine (good_any _ _ _).mono ?_; rintro e w' ⟨rfl, rfl⟩)
  go_ret2
  exact ⟨rfl, rfl⟩

set_option maxHeartbeats 400000 in
theorem step_no (a b c d : Nat) (w : World) (h : (goodB a b && goodB c d) = false) :
    Calls Try.prog 50 #[.complex .f64 a b, .complex .f64 c d] w fun e w' => e = .returned (.tuple #[.complex .f64 0 0, .int .i64 1]) ∧ w' = w := by
  cases ha : goodB a b
  · clear h
    go_enter Try.func50, Try.ntmps50
    go_wp2_with (go_at_call 48; refine (good_any _ _ _).mono ?_; rintro e w' ⟨rfl, rfl⟩)
    go_ret2
    exact ⟨rfl, rfl⟩
  · have hb : goodB c d = false := by rw [ha] at h; simpa using h
    clear h
    go_enter Try.func50, Try.ntmps50
    go_wp2_with (go_at_call 48; refine (good_any _ _ _).mono ?_; rintro e w' ⟨rfl, rfl⟩)
    go_ret2
    exact ⟨rfl, rfl⟩

theorem good_iff (a b : Nat) : goodB a b = true ↔ ∃ n k : Int, 0 ≤ n ∧ n ≤ 1099511627776 ∧ 0 ≤ k ∧ k ≤ 1099511627776 ∧ fval a = some (n * U) ∧ fval b = some (k * U) := by
  unfold goodB
  rw [Bool.and_eq_true, wholeB_iff, wholeB_iff]
  constructor
  · rintro ⟨⟨n, h1, h2, h3⟩, k, h4, h5, h6⟩; exact ⟨n, k, h1, h2, h4, h5, h3, h6⟩
  · rintro ⟨n, k, h1, h2, h4, h5, h3, h6⟩; exact ⟨⟨n, h1, h2, h3⟩, k, h4, h5, h6⟩

theorem good_parts {a b : Nat} (h : goodB a b = true) : 0 ≤ part a ∧ part a ≤ 1099511627776 ∧ 0 ≤ part b ∧ part b ≤ 1099511627776 ∧ fval a = some (part a * U) ∧ fval b = some (part b * U) := by
  obtain ⟨n, k, h1, h2, h4, h5, h3, h6⟩ := (good_iff a b).1 h
  rw [part_of h3, part_of h6]
  exact ⟨h1, h2, h4, h5, h3, h6⟩

theorem good_of {a b : Nat} {n k : Int} (ha : fval a = some (n * U)) (hb : fval b = some (k * U)) : goodB a b = decide (0 ≤ n ∧ n ≤ 1099511627776 ∧ 0 ≤ k ∧ k ≤ 1099511627776) := by
  by_cases h : 0 ≤ n ∧ n ≤ 1099511627776 ∧ 0 ≤ k ∧ k ≤ 1099511627776
  · rw [decide_eq_true h]; exact (good_iff a b).2 ⟨n, k, h.1, h.2.1, h.2.2.1, h.2.2.2, ha, hb⟩
  · rw [decide_eq_false h]
    cases hg : goodB a b
    · rfl
    · exfalso; apply h
      have := good_parts hg
      rw [part_of ha, part_of hb] at this
      exact ⟨this.1, this.2.1, this.2.2.1, this.2.2.2.1⟩

/-- a sum of whole numbers -/
theorem add_whole {x y : Nat} {n k : Int} (hx : fval x = some (n * U)) (hy : fval y = some (k * U)) (h : (n + k).natAbs < 2 ^ 53) :
    ∃ r, floatBits .add .f64 x y = some r ∧ fval r = some ((n + k) * U) := by
  have := add_exact hx hy (n + k) uexp h (by unfold uexp; omega) (by rw [← Int.add_mul]; rfl)
  rwa [← Int.add_mul] at this
theorem sub_whole {x y : Nat} {n k : Int} (hx : fval x = some (n * U)) (hy : fval y = some (k * U)) (h : (n - k).natAbs < 2 ^ 53) :
    ∃ r, floatBits .sub .f64 x y = some r ∧ fval r = some ((n - k) * U) := by
  have := sub_exact hx hy (n - k) uexp h (by unfold uexp; omega) (by rw [← Int.sub_mul]; rfl)
  rwa [← Int.sub_mul] at this
theorem val_zeroU : fval 0 = some (0 * U) := by rw [Int.zero_mul]; exact val_zero

theorem csum {a b c d re im : Nat} (h1 : floatBits .add .f64 a c = some re) (h2 : floatBits .add .f64 b d = some im) : cSumBits .add .f64 a b c d = some (re, im) := by
  unfold cSumBits; rw [h1, h2]; rfl

set_option maxHeartbeats 400000 in
/-- Next: the sum, then step -/
theorem next_core (a b c d : Nat) (v0 v1 : Value) (w : World) (h : cSumBits .add .f64 a b 0 4607182418800017408 = some (c, d))
    (hs : ∀ w, Calls Try.prog 50 #[.complex .f64 a b, .complex .f64 c d] w fun e w' => e = .returned (.tuple #[v0, v1]) ∧ w' = w) :
    Calls Try.prog 31 #[.complex .f64 a b] w fun e w' => e = .returned (.tuple #[v0, v1]) ∧ w' = w := by
  have hc := fun w => run_complex_sum (P := Try.prog) w .add (.inl rfl) 44 .f64 a b 0 4607182418800017408 c d h
  clear h
  go_enter Try.func31, Try.ntmps31
  go_wp2_with (go_at_call 50; refine (hs _).mono ?_; rintro e w' ⟨rfl, rfl⟩)
  go_ret2
  exact ⟨rfl, rfl⟩

theorem next_yes (a b : Nat) (h : goodB a b = true) (hb : part b < 1099511627776) :
    ∃ c d, fval c = some (part a * U) ∧ fval d = some ((part b + 1) * U) ∧ ∀ w, Calls Try.prog 31 #[.complex .f64 a b] w fun e w' => e = .returned (.tuple #[.complex .f64 c d, .int .i64 0]) ∧ w' = w := by
  obtain ⟨p1, p2, p3, p4, h1, h2⟩ := good_parts h
  obtain ⟨c, hc, vc⟩ := add_whole h1 val_zeroU (by omega)
  obtain ⟨d, hd, vd⟩ := add_whole h2 val_one (by omega)
  rw [Int.add_zero] at vc
  refine ⟨c, d, vc, vd, fun w => next_core a b c d _ _ w (csum hc hd) fun w => step_yes a b c d w h ?_⟩
  rw [good_of vc vd]; exact decide_eq_true ⟨p1, p2, by omega, by omega⟩

theorem next_no (a b : Nat) (w : World) (u v : Int) (ha : fval a = some u) (hb : fval b = some v) (h : ¬ (goodB a b = true ∧ part b < 1099511627776)) :
    Calls Try.prog 31 #[.complex .f64 a b] w fun e w' => e = .returned (.tuple #[.complex .f64 0 0, .int .i64 1]) ∧ w' = w := by
  cases hg : goodB a b
  · obtain ⟨c, hc⟩ := add_some ha val_zero
    obtain ⟨d, hd⟩ := add_some hb val_one
    exact next_core a b c d _ _ w (csum hc hd) fun w => step_no a b c d w (by rw [hg]; rfl)
  · obtain ⟨p1, p2, p3, p4, h1, h2⟩ := good_parts hg
    obtain ⟨c, hc, vc⟩ := add_whole h1 val_zeroU (by omega)
    obtain ⟨d, hd, vd⟩ := add_whole h2 val_one (by omega)
    refine next_core a b c d _ _ w (csum hc hd) fun w => step_no a b c d w ?_
    rw [good_of vc vd, hg]
    have : ¬ part b < 1099511627776 := fun x => h ⟨hg, x⟩
    simp; omega

theorem cmpU (n k : Int) : compare (n * U) (k * U) = compare n k := compare_mul n k U U_pos

/-- how two whole numbers stand -/
theorem order_whole {x y : Nat} {n k : Int} (hx : fval x = some (n * U)) (hy : fval y = some (k * U)) : FloatKind.f64.format.order x y = some (compare n k) := by
  have := order_val hx hy
  rwa [cmpU] at this

def gapB (a b c d : Nat) : Bool := goodB a b && goodB c d && decide (part a = part c ∧ part b ≤ part d)

set_option maxHeartbeats 1000000 in
theorem gap_any (a b c d : Nat) (w : World) :
    Calls Try.prog 42 #[.complex .f64 a b, .complex .f64 c d] w fun e w' => e = .returned (.tuple #[.int .i64 (if gapB a b c d then part d - part b else 0), .bool (gapB a b c d)]) ∧ w' = w := by
  cases h1 : goodB a b
  · have hg : gapB a b c d = false := by unfold gapB; rw [h1]; rfl
    rw [hg]; clear hg
    go_enter Try.func42, Try.ntmps42
    go_wp2_with (go_at_call 48; refine (good_any _ _ _).mono ?_; rintro e w' ⟨rfl, rfl⟩)
    go_ret2
    exact ⟨rfl, rfl⟩
  cases h2 : goodB c d
  · have hg : gapB a b c d = false := by unfold gapB; rw [h1, h2]; rfl
    rw [hg]; clear hg
    go_enter Try.func42, Try.ntmps42
    go_wp2_with (go_at_call 48; refine (good_any _ _ _).mono ?_; rintro e w' ⟨rfl, rfl⟩)
    go_ret2
    exact ⟨rfl, rfl⟩
  obtain ⟨p1, p2, p3, p4, va, vb⟩ := good_parts h1
  obtain ⟨q1, q2, q3, q4, vc, vd⟩ := good_parts h2
  have o1 := order_whole va vc
  have o2 := order_whole vb vd
  by_cases e1 : part a = part c
  · rw [cmp_eq e1] at o1
    by_cases e2 : part b ≤ part d
    · have hg : gapB a b c d = true := by unfold gapB; rw [h1, h2, decide_eq_true ⟨e1, e2⟩]; rfl
      rw [hg]; clear hg e1 va vb vc vd
      have o3 : (FloatKind.f64.format.order b d == some .gt) = false := by rw [o2, beq_cmp_gt]; simp; omega
      clear o2
      go_enter Try.func42, Try.ntmps42
      go_wp2_with (first
        | (go_at_call 48; refine (good_any _ _ _).mono ?_; rintro e w' ⟨rfl, rfl⟩)
        | (go_at_call 29; refine (number_any _ _ _).mono ?_; rintro e w' ⟨rfl, rfl⟩))
      go_ret2
      exact ⟨rfl, rfl⟩
    · have hg : gapB a b c d = false := by unfold gapB; rw [h1, h2]; simp; intro _; omega
      rw [hg]; clear hg e1 va vb vc vd
      have o3 : (FloatKind.f64.format.order b d == some .gt) = true := by rw [o2, beq_cmp_gt]; simp; omega
      clear o2
      go_enter Try.func42, Try.ntmps42
      go_wp2_with (go_at_call 48; refine (good_any _ _ _).mono ?_; rintro e w' ⟨rfl, rfl⟩)
      go_ret2
      exact ⟨rfl, rfl⟩
  · have hg : gapB a b c d = false := by unfold gapB; rw [h1, h2]; simp; intro h; exact absurd h e1
    rw [hg]; clear hg
    have o3 : (FloatKind.f64.format.order a c != some .eq) = true := by
      have : (FloatKind.f64.format.order a c == some .eq) = false := by rw [o1, beq_cmp_eq]; simp [e1]
      simp [bne, this]
    clear o1 o2 e1 va vb vc vd
    go_enter Try.func42, Try.ntmps42
    go_wp2_with (go_at_call 48; refine (good_any _ _ _).mono ?_; rintro e w' ⟨rfl, rfl⟩)
    go_ret2
    exact ⟨rfl, rfl⟩

def laterB (a b c d : Nat) : Bool := goodB a b && goodB c d && decide (part c < part a ∨ part a = part c ∧ part d < part b)

set_option maxHeartbeats 1000000 in
theorem later_any (a b c d : Nat) (w : World) :
    Calls Try.prog 45 #[.complex .f64 a b, .complex .f64 c d] w fun e w' => e = .returned (.bool (laterB a b c d)) ∧ w' = w := by
  cases h1 : goodB a b
  · have hg : laterB a b c d = false := by unfold laterB; rw [h1]; rfl
    rw [hg]; clear hg
    go_enter Try.func45, Try.ntmps45
    go_wp2_with (go_at_call 48; refine (good_any _ _ _).mono ?_; rintro e w' ⟨rfl, rfl⟩)
    go_ret
    exact ⟨rfl, rfl⟩
  cases h2 : goodB c d
  · have hg : laterB a b c d = false := by unfold laterB; rw [h1, h2]; rfl
    rw [hg]; clear hg
    go_enter Try.func45, Try.ntmps45
    go_wp2_with (go_at_call 48; refine (good_any _ _ _).mono ?_; rintro e w' ⟨rfl, rfl⟩)
    go_ret
    exact ⟨rfl, rfl⟩
  obtain ⟨p1, p2, p3, p4, va, vb⟩ := good_parts h1
  obtain ⟨q1, q2, q3, q4, vc, vd⟩ := good_parts h2
  have o1 := order_whole va vc
  have o2 := order_whole vb vd
  by_cases e1 : part a = part c
  · rw [cmp_eq e1] at o1
    have o3 : (FloatKind.f64.format.order b d == some .gt) = laterB a b c d := by
      rw [o2, beq_cmp_gt]; unfold laterB; rw [h1, h2, Bool.eq_iff_iff]; simp; omega
    clear o2 e1 va vb vc vd
    go_enter Try.func45, Try.ntmps45
    go_wp2_with (go_at_call 48; refine (good_any _ _ _).mono ?_; rintro e w' ⟨rfl, rfl⟩)
    go_ret
    exact ⟨rfl, rfl⟩
  · have o4 : (FloatKind.f64.format.order a c == some .gt) = laterB a b c d := by
      rw [o1, beq_cmp_gt]; unfold laterB; rw [h1, h2, Bool.eq_iff_iff]; simp; omega
    have o3 : (FloatKind.f64.format.order a c != some .eq) = true := by
      have : (FloatKind.f64.format.order a c == some .eq) = false := by rw [o1, beq_cmp_eq]; simp [e1]
      simp [bne, this]
    clear o1 o2 e1 va vb vc vd
    go_enter Try.func45, Try.ntmps45
    go_wp2_with (go_at_call 48; refine (good_any _ _ _).mono ?_; rintro e w' ⟨rfl, rfl⟩)
    go_ret
    exact ⟨rfl, rfl⟩

theorem mark_any (a b : Int) (w : World) : Calls Try.prog 22 #[.int .i64 a, .int .i64 b] w fun e w' => e = .returned (.complex .f64 (floatOfInt .f64 a) (floatOfInt .f64 b)) ∧ w' = w := by
  go_enter Try.func22, Try.ntmps22
  go_wp2
  go_ret
  exact ⟨rfl, rfl⟩

/-- the mark of an epoch and a number, as two floats -/
structure Mk (a b : Nat) (e n : Int) : Prop where
  ha : fval a = some (e * U)
  hb : fval b = some (n * U)
  e0 : 0 ≤ e
  e1 : e ≤ 1099511627776
  n0 : 0 ≤ n
  n1 : n ≤ 1099511627776
theorem Mk.good {a b : Nat} {e n : Int} (h : Mk a b e n) : goodB a b = true := by rw [good_of h.ha h.hb]; exact decide_eq_true ⟨h.e0, h.e1, h.n0, h.n1⟩
theorem Mk.pa {a b : Nat} {e n : Int} (h : Mk a b e n) : part a = e := part_of h.ha
theorem Mk.pb {a b : Nat} {e n : Int} (h : Mk a b e n) : part b = n := part_of h.hb
theorem Mk.gap {a b c d : Nat} {e n m : Int} (h : Mk a b e n) (k : Mk c d e m) : gapB a b c d = decide (n ≤ m) := by
  unfold gapB
  rw [h.good, k.good, h.pa, h.pb, k.pa, k.pb]; simp
theorem Mk.later {a b c d : Nat} {e n m : Int} (h : Mk a b e n) (k : Mk c d e m) : laterB a b c d = decide (m < n) := by
  unfold laterB
  rw [h.good, k.good, h.pa, h.pb, k.pa, k.pb]; simp
theorem Mk.of {e n : Int} (e0 : 0 ≤ e) (e1 : e ≤ 1099511627776) (n0 : 0 ≤ n) (n1 : n ≤ 1099511627776) : Mk (floatOfInt .f64 e) (floatOfInt .f64 n) e n :=
  ⟨ofInt_val e (by omega), ofInt_val n (by omega), e0, e1, n0, n1⟩
end Go.Proofs.Ytaofhjckliobpaa
