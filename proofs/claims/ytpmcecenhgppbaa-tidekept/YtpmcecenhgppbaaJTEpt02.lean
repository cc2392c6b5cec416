/- The plain mathematics of the double-precision numbers that marks are made of: values in units of two to the minus 1074, order, exact sums, whole parts. -/
import Derived.Laws.FloatArith
import Derived.Laws.ComplexArith
namespace Go.Proofs.Ytpmcecenhgppbaa
section
open Ieee

def uexp : Nat := 1074
/-- one, in units of 2^-1074 -/
def U : Int := ((2 ^ uexp : Nat) : Int)
theorem U_pos : 0 < U := by unfold U; exact Int.natCast_pos.2 (Nat.two_pow_pos uexp)

theorem signed_eq (s : Bool) (m k : Nat) : signed s m k = (if s then -1 else 1) * ((m * 2 ^ k : Nat) : Int) := by
  unfold signed
  rw [Nat.shiftLeft_eq]
  cases s <;> simp

/-- a datum's value in units; none where it is no number -/
def dval : Datum → Option Int
  | .number s m i => some (signed s m (i + 1074).toNat)
  | _ => none
def fval (b : Nat) : Option Int := dval (double.read b)

theorem binade_eq : double.binade = 2 ^ 52 := rfl
theorem infRung_eq : double.infRung = 2047 * 2 ^ 52 := rfl
theorem leastPlace_eq : double.leastPlace = -1074 := rfl
theorem signWeight_eq : double.signWeight = 2 ^ 63 := rfl

theorem read_eq (b : Nat) : double.read b = if b % 2 ^ 63 < 2 ^ 52 then Datum.number (b / 2 ^ 63 % 2 == 1) (b % 2 ^ 63) (-1074)
    else if b % 2 ^ 63 < 2047 * 2 ^ 52 then
        Datum.number (b / 2 ^ 63 % 2 == 1) (2 ^ 52 + b % 2 ^ 63 % 2 ^ 52) (-1074 + ((b % 2 ^ 63 / 2 ^ 52 - 1 : Nat) : Int))
      else if b % 2 ^ 63 = 2047 * 2 ^ 52 then Datum.infinity (b / 2 ^ 63 % 2 == 1)
        else Datum.nan (b / 2 ^ 63 % 2 == 1) (b % 2 ^ 63 - 2047 * 2 ^ 52) := by
  rfl

/-- a word that is a number: its parts are bounded -/
theorem read_num {b : Nat} {v : Int} (h : fval b = some v) : ∃ s m i, double.read b = .number s m i ∧ -1074 ≤ i ∧ i ≤ 971 ∧ m < 2 ^ 53 ∧ v = signed s m (i + 1074).toNat := by
  unfold fval at h
  rw [read_eq] at h ⊢
  by_cases h1 : b % 2 ^ 63 < 2 ^ 52
  · rw [if_pos h1] at h ⊢
    simp only [dval, Option.some.injEq] at h
    exact ⟨_, _, _, rfl, by omega, by omega, by omega, h.symm⟩
  · rw [if_neg h1] at h ⊢
    by_cases h2 : b % 2 ^ 63 < 2047 * 2 ^ 52
    · rw [if_pos h2] at h ⊢
      simp only [dval, Option.some.injEq] at h
      exact ⟨_, _, _, rfl, by omega, by omega, by omega, h.symm⟩
    · rw [if_neg h2] at h ⊢
      by_cases h3 : b % 2 ^ 63 = 2047 * 2 ^ 52
      · rw [if_pos h3] at h; simp [dval] at h
      · rw [if_neg h3] at h; simp [dval] at h

theorem cmp_lt {a b : Int} (h : a < b) : compare a b = .lt := by
  simp only [compare, compareOfLessAndEq, if_pos h]
theorem cmp_eq {a b : Int} (h : a = b) : compare a b = .eq := by
  subst h; simp [compare, compareOfLessAndEq]
theorem cmp_gt {a b : Int} (h : b < a) : compare a b = .gt := by
  simp only [compare, compareOfLessAndEq]; rw [if_neg (by omega), if_neg (by omega)]

theorem compare_mul (a b k : Int) (hk : 0 < k) : compare (a * k) (b * k) = compare a b := by
  rcases Int.lt_trichotomy a b with h | h | h
  · rw [cmp_lt h, cmp_lt (Int.mul_lt_mul_of_pos_right h hk)]
  · rw [cmp_eq h, cmp_eq (by rw [h])]
  · rw [cmp_gt h, cmp_gt (Int.mul_lt_mul_of_pos_right h hk)]

theorem signed_split (s : Bool) (m a b : Nat) : signed s m (a + b) = signed s m a * ((2 ^ b : Nat) : Int) := by
  rw [signed_eq, signed_eq, Nat.pow_add, ← Nat.mul_assoc]
  simp [Int.mul_assoc]

/-- two numbers are ordered as their values -/
theorem order_val {x y : Nat} {a b : Int} (hx : fval x = some a) (hy : fval y = some b) : double.order x y = some (compare a b) := by
  obtain ⟨s, m, i, hr, hi, _, _, rfl⟩ := read_num hx
  obtain ⟨t, n, j, hq, hj, _, _, rfl⟩ := read_num hy
  unfold Format.order
  rw [hr, hq]
  simp only [Datum.order, Option.some.injEq]
  have e1 : (i + 1074).toNat = (i - min i j).toNat + (min i j + 1074).toNat := by omega
  have e2 : (j + 1074).toNat = (j - min i j).toNat + (min i j + 1074).toNat := by omega
  rw [e1, e2, signed_split, signed_split, compare_mul _ _ _ (Int.natCast_pos.2 (Nat.two_pow_pos _))]

/-- what is no number is above every bound, below every bound, or nowhere -/
theorem order_none {x : Nat} (hx : fval x = none) : (∀ y b, fval y = some b → double.order x y = some .gt) ∨ (∀ y b, fval y = some b → double.order x y = some .lt) ∨ (∀ y, double.order x y = none) := by
  unfold fval at hx
  cases hr : double.read x with
  | number s m i => simp [hr, dval] at hx
  | infinity s =>
    cases s
    · left; intro y b hy; obtain ⟨t, n, j, hq, _⟩ := read_num hy; unfold Format.order; rw [hr, hq]; rfl
    · right; left; intro y b hy; obtain ⟨t, n, j, hq, _⟩ := read_num hy; unfold Format.order; rw [hr, hq]; rfl
  | nan s t => right; right; intro y; unfold Format.order; rw [hr]; cases double.read y <;> rfl

/-- cutting at a place -/
theorem cut_even_zero (neg : Bool) (n : Nat) : Toward.even.cut neg n 0 = n := by
  unfold Toward.cut
  simp [Nat.mod_one]

theorem log2_lt_pow {n : Nat} : n < 2 ^ (n.log2 + 1) := Nat.lt_log2_self

theorem cut_exact (neg : Bool) (q d : Nat) (hq : 0 < q) : Toward.even.cut neg (q * 2 ^ d) d = q := by
  unfold Toward.cut
  have hn : q * 2 ^ d ≠ 0 := Nat.mul_ne_zero (by omega) (Nat.pos_iff_ne_zero.1 (Nat.two_pow_pos d))
  have hd : d ≤ (q * 2 ^ d).log2 := (Nat.le_log2 hn).2 (Nat.le_mul_of_pos_left _ hq)
  have hm : min d ((q * 2 ^ d).log2 + 2) = d := by omega
  simp only [hm, Nat.shiftLeft_eq, Nat.one_mul, Nat.mul_mod_left]
  rw [Nat.mul_div_cancel _ (Nat.two_pow_pos d)]
  have hp := Nat.two_pow_pos d
  have h1 : ¬ (2 ^ d < 2 * 0) := by omega
  have h2 : (2 ^ d == 2 * 0) = false := by simp
  simp [h2]

theorem cut_le (neg : Bool) (n d : Nat) : Toward.even.cut neg n d ≤ n / 2 ^ d + 1 := by
  unfold Toward.cut
  have hb : ∀ b : Bool, b.toNat ≤ 1 := by intro b; cases b <;> simp
  by_cases h : d ≤ n.log2 + 2
  · have hm : min d (n.log2 + 2) = d := by omega
    simp only [hm, Nat.shiftLeft_eq, Nat.one_mul]
    exact Nat.add_le_add_left (hb _) _
  · have hm : min d (n.log2 + 2) = n.log2 + 2 := by omega
    simp only [hm, Nat.shiftLeft_eq, Nat.one_mul]
    have h1 : n < 2 ^ (n.log2 + 2) := Nat.lt_of_lt_of_le log2_lt_pow (Nat.pow_le_pow_right (by omega) (by omega))
    rw [Nat.div_eq_of_lt h1]
    exact Nat.le_trans (Nat.add_le_add_left (hb _) _) (by rw [Nat.zero_add]; exact Nat.le_add_left 1 _)

theorem word_mod (neg : Bool) (r : Nat) (h : r < 2 ^ 63) : double.word neg r % 2 ^ 63 = r ∧ (double.word neg r / 2 ^ 63 % 2 == 1) = neg := by
  unfold Format.word
  rw [signWeight_eq]
  cases neg
  · simp only [Bool.false_eq_true, if_false]; refine ⟨by omega, ?_⟩; rw [Nat.div_eq_of_lt h]; rfl
  · simp only [if_true]; refine ⟨by omega, ?_⟩
    have : (2 ^ 63 + r) / 2 ^ 63 = 1 := by omega
    rw [this]; rfl

/-- a rung below infinity's is a number: its value -/
theorem rung_val (neg : Bool) (e k : Nat) (hk : k ≤ 2 ^ 53) (h1 : e = 0 ∨ 2 ^ 52 ≤ k) (he : e ≤ 2044) :
    fval (double.word neg (e * 2 ^ 52 + k)) = some (signed neg k e) := by
  have hlt : e * 2 ^ 52 + k < 2 ^ 63 := by omega
  obtain ⟨hm, hs⟩ := word_mod neg _ hlt
  unfold fval
  rw [read_eq, hm, hs]
  by_cases c1 : e * 2 ^ 52 + k < 2 ^ 52
  · have e0 : e = 0 := by omega
    subst e0
    rw [if_pos c1]; simp only [dval]; simp
  · rw [if_neg c1, if_pos (by omega)]
    simp only [dval, Option.some.injEq]
    by_cases c2 : k = 2 ^ 53
    · subst c2
      have a1 : (e * 2 ^ 52 + 2 ^ 53) % 2 ^ 52 = 0 := by omega
      have a2 : (-1074 + ((((e * 2 ^ 52 + 2 ^ 53) / 2 ^ 52 - 1 : Nat)) : Int) + 1074).toNat = e + 1 := by omega
      have e3 : (2 ^ 52 + 0) * 2 ^ (e + 1) = 2 ^ 53 * 2 ^ e := by rw [Nat.pow_succ 2 e]; omega
      rw [a1, a2, signed_eq, signed_eq, e3]
    · by_cases c3 : k < 2 ^ 52
      · omega
      · have a1 : 2 ^ 52 + (e * 2 ^ 52 + k) % 2 ^ 52 = k := by omega
        have a2 : (-1074 + ((((e * 2 ^ 52 + k) / 2 ^ 52 - 1 : Nat)) : Int) + 1074).toNat = e := by omega
        rw [a1, a2]

theorem nearest_eq (neg : Bool) (mag : Nat) (place : Int) (h : mag ≠ 0) : double.nearest neg mag place =
    double.word neg (min (((max (place + mag.log2 - 52) (-1074)) + 1074).toNat * 2 ^ 52 + Toward.even.cut neg (mag <<< (place - max (place + mag.log2 - 52) (-1074)).toNat) (max (place + mag.log2 - 52) (-1074) - place).toNat) (2047 * 2 ^ 52)) := by
  unfold Format.nearest
  rw [if_neg h]
  have e : (double.fractionBits : Int) = 52 := rfl
  simp only [leastPlace_eq, binade_eq, infRung_eq, e]
  rw [show ∀ x : Int, x - -1074 = x + 1074 by intro x; omega]


theorem mul_pow_lt {k a b c : Nat} (h : k < 2 ^ a) (hle : a + b ≤ c) : k * 2 ^ b < 2 ^ c := by
  have h1 : k * 2 ^ b < 2 ^ a * 2 ^ b := Nat.mul_lt_mul_of_pos_right h (Nat.two_pow_pos b)
  rw [← Nat.pow_add] at h1
  exact Nat.lt_of_lt_of_le h1 (Nat.pow_le_pow_right (by omega) hle)

theorem mul_pow_ge {k a b c : Nat} (h : 2 ^ a ≤ k) (hle : c ≤ a + b) : 2 ^ c ≤ k * 2 ^ b := by
  have h1 : 2 ^ a * 2 ^ b ≤ k * 2 ^ b := Nat.mul_le_mul_right _ h
  rw [← Nat.pow_add] at h1
  exact Nat.le_trans (Nat.pow_le_pow_right (by omega) hle) h1

theorem log2_mul_pow {k : Nat} (h0 : k ≠ 0) (t : Nat) : (k * 2 ^ t).log2 = k.log2 + t := by
  have hm : k * 2 ^ t ≠ 0 := Nat.mul_ne_zero h0 (Nat.pos_iff_ne_zero.1 (Nat.two_pow_pos t))
  have h1 : k.log2 + t ≤ (k * 2 ^ t).log2 := (Nat.le_log2 hm).2 (mul_pow_ge (Nat.log2_self_le h0) (Nat.le_refl _))
  have h2 : (k * 2 ^ t).log2 < k.log2 + 1 + t := (Nat.log2_lt hm).2 (mul_pow_lt Nat.lt_log2_self (Nat.le_refl _))
  omega

theorem word_min (neg : Bool) (e q : Nat) (hq : q < 2 ^ 53) (h1 : e = 0 ∨ 2 ^ 52 ≤ q) (he : e ≤ 2044) :
    fval (double.word neg (min (e * 2 ^ 52 + q) (2047 * 2 ^ 52))) = some (signed neg q e) := by
  have hm2 : min (e * 2 ^ 52 + q) (2047 * 2 ^ 52) = e * 2 ^ 52 + q := by omega
  have h := rung_val neg e q (Nat.le_of_lt hq) h1 he
  rw [hm2]
  exact h

/-- a number whose digits fit is written as it is -/
theorem near_exact (neg : Bool) (k t : Nat) (place : Int) (hk : k < 2 ^ 53) (hp : -1074 ≤ place) (hb : place + (k * 2 ^ t).log2 ≤ 960) :
    fval (double.nearest neg (k * 2 ^ t) place) = some (signed neg (k * 2 ^ t) (place + 1074).toNat) := by
  by_cases h0 : k = 0
  · subst h0
    simp only [Nat.zero_mul]
    unfold Format.nearest
    rw [if_pos rfl]
    have := rung_val neg 0 0 (by omega) (.inl rfl) (by omega)
    simp only [Nat.zero_mul, Nat.add_zero] at this
    rw [this, signed_eq, signed_eq, Nat.zero_mul, Nat.zero_mul]
  have hpos : 0 < k := by omega
  have hm : k * 2 ^ t ≠ 0 := Nat.mul_ne_zero h0 (Nat.pos_iff_ne_zero.1 (Nat.two_pow_pos t))
  have hlog : (k * 2 ^ t).log2 = k.log2 + t := log2_mul_pow h0 t
  have hk52 : k.log2 ≤ 52 := by
    have := (Nat.log2_lt h0).2 hk
    omega
  rw [nearest_eq _ _ _ hm]
  rw [hlog] at hb ⊢
  generalize hl : max (place + ((k.log2 + t : Nat) : Int) - 52) (-1074) = last
  have low : 2 ^ k.log2 ≤ k := Nat.log2_self_le h0
  have hi : k < 2 ^ (k.log2 + 1) := Nat.lt_log2_self
  by_cases c : last ≤ place
  · -- nothing is dropped
    have e1 : (last - place).toNat = 0 := by omega
    rw [e1, cut_even_zero, Nat.shiftLeft_eq]
    generalize hd : (place - last).toNat = d
    have hv : k * 2 ^ t * 2 ^ d = k * 2 ^ (t + d) := by rw [Nat.mul_assoc, ← Nat.pow_add]
    have hlt : k * 2 ^ (t + d) < 2 ^ 53 := mul_pow_lt (c := 53) hi (by omega)
    have hge : (last + 1074).toNat = 0 ∨ 2 ^ 52 ≤ k * 2 ^ (t + d) := by
      by_cases cl : last = -1074
      · left; omega
      · right; exact mul_pow_ge (c := 52) low (by omega)
    have ep : (place + 1074).toNat = d + (last + 1074).toNat := by omega
    have hs : signed neg (k * 2 ^ t) (place + 1074).toNat = signed neg (k * 2 ^ (t + d)) (last + 1074).toNat := by
      rw [signed_eq, signed_eq, ep, Nat.pow_add 2 d, ← Nat.mul_assoc (k * 2 ^ t), hv]
    rw [hs, hv]
    have hr : (last + 1074).toNat ≤ 2044 := by omega
    exact word_min _ _ _ hlt hge hr
  · -- zeros are dropped
    have e1 : (place - last).toNat = 0 := by omega
    rw [e1, Nat.shiftLeft_eq, Nat.pow_zero, Nat.mul_one]
    generalize hd : (last - place).toNat = d
    have hdt : d ≤ t := by omega
    have hv : k * 2 ^ t = (k * 2 ^ (t - d)) * 2 ^ d := by rw [Nat.mul_assoc, ← Nat.pow_add, Nat.sub_add_cancel hdt]
    have hq : 0 < k * 2 ^ (t - d) := Nat.mul_pos hpos (Nat.two_pow_pos _)
    have hlt : k * 2 ^ (t - d) < 2 ^ 53 := mul_pow_lt (c := 53) hi (by omega)
    have hge : (last + 1074).toNat = 0 ∨ 2 ^ 52 ≤ k * 2 ^ (t - d) := .inr (mul_pow_ge (c := 52) low (by omega))
    have ep : (last + 1074).toNat = d + (place + 1074).toNat := by omega
    have hs : signed neg (k * 2 ^ t) (place + 1074).toNat = signed neg (k * 2 ^ (t - d)) (last + 1074).toNat := by
      rw [signed_eq, signed_eq, ep, Nat.pow_add 2 d, ← Nat.mul_assoc (k * 2 ^ (t - d)), ← hv]
    have hr : (last + 1074).toNat ≤ 2044 := by omega
    rw [hs, hv, cut_exact _ _ _ hq]
    exact word_min _ _ _ hlt hge hr

theorem near_zero (neg : Bool) (place : Int) (p : Nat) : fval (double.nearest neg 0 place) = some (signed neg 0 p) := by
  unfold Format.nearest
  rw [if_pos rfl]
  have := rung_val neg 0 0 (by omega) (.inl rfl) (by omega)
  simp only [Nat.zero_mul, Nat.add_zero] at this
  rw [this, signed_eq, signed_eq, Nat.zero_mul, Nat.zero_mul]

/-- a number that is not too great is written as a number -/
theorem near_fin (neg : Bool) (mag : Nat) (place : Int) (hb : place + mag.log2 ≤ 1021) : ∃ v, fval (double.nearest neg mag place) = some v := by
  by_cases h0 : mag = 0
  · unfold Format.nearest
    rw [if_pos h0]
    have := rung_val neg 0 0 (by omega) (.inl rfl) (by omega)
    simp only [Nat.zero_mul, Nat.add_zero] at this
    exact ⟨_, this⟩
  rw [nearest_eq _ _ _ h0]
  generalize hl : max (place + ((mag.log2 : Nat) : Int) - 52) (-1074) = last
  generalize hc : Toward.even.cut neg (mag <<< (place - last).toNat) (last - place).toNat = k
  have h2 : mag <<< (place - last).toNat / 2 ^ (last - place).toNat < 2 ^ 53 := by
    rw [Nat.shiftLeft_eq, Nat.div_lt_iff_lt_mul (Nat.two_pow_pos _), ← Nat.pow_add]
    exact mul_pow_lt Nat.lt_log2_self (by omega)
  have h1 := cut_le neg (mag <<< (place - last).toNat) (last - place).toNat
  rw [hc] at h1
  generalize mag <<< (place - last).toNat / 2 ^ (last - place).toNat = z at h1 h2
  have hr0 : (last + 1074).toNat ≤ 2044 := by omega
  generalize (last + 1074).toNat = e at hr0 ⊢
  clear hc hl hb
  have hr : e * 2 ^ 52 + k < 2047 * 2 ^ 52 := by omega
  have hm2 : min (e * 2 ^ 52 + k) (2047 * 2 ^ 52) = e * 2 ^ 52 + k := by omega
  rw [hm2]
  obtain ⟨hm, hs⟩ := word_mod neg (e * 2 ^ 52 + k) (by omega)
  unfold fval
  rw [read_eq, hm]
  by_cases c1 : e * 2 ^ 52 + k < 2 ^ 52
  · rw [if_pos c1]; exact ⟨_, rfl⟩
  · rw [if_neg c1, if_pos hr]; exact ⟨_, rfl⟩

theorem one_pow_uexp : (0 + 1074 : Int).toNat = uexp := rfl

theorem signed_U (s : Bool) (m : Nat) : signed s m uexp = (if s then -1 else 1) * (m : Int) * U := by
  rw [signed_eq, Int.natCast_mul, Int.mul_assoc]; rfl

theorem signed_abs (n : Int) : (if decide (n < 0) then (-1 : Int) else 1) * (n.natAbs : Int) = n := by
  by_cases h : n < 0
  · simp [h]; omega
  · simp [h]; omega

/-- an integer of at most 53 digits is a float just so -/
theorem ofInt_val (n : Int) (h : n.natAbs < 2 ^ 53) : fval (floatOfInt .f64 n) = some (n * U) := by
  have hl : (0 : Int) + ((n.natAbs * 2 ^ 0).log2 : Nat) ≤ 960 := by
    rw [Nat.pow_zero, Nat.mul_one]
    by_cases h0 : n.natAbs = 0
    · rw [h0]; decide
    · have := (Nat.log2_lt h0).2 h; omega
  have := near_exact (decide (n < 0)) n.natAbs 0 0 h (by omega) hl
  rw [Nat.pow_zero, Nat.mul_one, one_pow_uexp, signed_U, signed_abs] at this
  exact this

theorem ofInt_fin (n : Int) (h : n.natAbs ≤ 2 ^ 63) : ∃ v, fval (floatOfInt .f64 n) = some v := by
  refine near_fin (decide (n < 0)) n.natAbs 0 ?_
  by_cases h0 : n.natAbs = 0
  · rw [h0]; decide
  · have := (Nat.log2_lt (k := 64) h0).2 (by omega); omega

theorem read_four : double.read 4616189618054758400 = .number false (2 ^ 52) (-50) := by decide +kernel

/-- a quarter of a number is a number -/
theorem quarter {x : Nat} {a : Int} (hx : fval x = some a) : ∃ r v, floatBits .quo .f64 x 4616189618054758400 = some r ∧ fval r = some v := by
  obtain ⟨s, m, i, hr, hi, hi2, hm, rfl⟩ := read_num hx
  have e : floatBits .quo .f64 x 4616189618054758400 = double.div x 4616189618054758400 := rfl
  rw [e]
  unfold Format.div
  rw [hr, read_four]
  have hl52 : (2 ^ 52 : Nat).log2 = 52 := Nat.log2_two_pow
  have hfb : double.fractionBits = 52 := rfl
  simp only [Datum.quotient, hl52, hfb, Option.map]
  rw [if_neg (by omega)]
  obtain ⟨v, hv⟩ := near_fin (s ^^ false) (2 * (m <<< (52 + 2 + 52 - m.log2) / 2 ^ 52) + (m <<< (52 + 2 + 52 - m.log2) % 2 ^ 52 != 0).toNat) (i - -50 - ((52 + 2 + 52 - m.log2 : Nat) : Int) - 1) (by
    have hb : ∀ b : Bool, b.toNat ≤ 1 := by intro b; cases b <;> simp
    generalize hq : (m <<< (52 + 2 + 52 - m.log2) % 2 ^ 52 != 0).toNat = q
    have hq1 : q ≤ 1 := by rw [← hq]; exact hb _
    by_cases h0 : m = 0
    · subst h0
      rw [Nat.zero_shiftLeft] at hq ⊢
      have : q = 0 := by rw [← hq]; rfl
      subst this
      have : (2 * (0 / 2 ^ 52) + 0).log2 = 0 := by decide
      rw [this]; omega
    · have hl : m.log2 < 53 := (Nat.log2_lt h0).2 hm
      have h1 : m <<< (52 + 2 + 52 - m.log2) < 2 ^ 107 := by
        rw [Nat.shiftLeft_eq]; exact mul_pow_lt (c := 107) Nat.lt_log2_self (by omega)
      have h2 : m <<< (52 + 2 + 52 - m.log2) / 2 ^ 52 < 2 ^ 55 := by
        rw [Nat.div_lt_iff_lt_mul (Nat.two_pow_pos _)]; exact h1
      generalize m <<< (52 + 2 + 52 - m.log2) / 2 ^ 52 = z at h2 ⊢
      have h3 : 2 * z + q < 2 ^ 56 := by omega
      by_cases h4 : 2 * z + q = 0
      · rw [h4]
        have : Nat.log2 0 = 0 := by decide
        rw [this]; omega
      · have := (Nat.log2_lt h4).2 h3; omega)
  exact ⟨_, v, rfl, hv⟩

theorem signed_not (t : Bool) (n k : Nat) : signed (!t) n k = - signed t n k := by
  rw [signed_eq, signed_eq]; cases t <;> simp

theorem pow_ne (p : Nat) : ((2 ^ p : Nat) : Int) ≠ 0 := Int.ne_of_gt (Int.natCast_pos.2 (Nat.two_pow_pos p))

/-- a sum of numbers that fits is written as it is -/
theorem sum_exact (s t : Bool) (m n : Nat) (i j : Int) (hi : -1074 ≤ i) (hj : -1074 ≤ j) (M : Int) (q : Nat) (hM : M.natAbs < 2 ^ 53) (hq : q ≤ 1980)
    (h : signed s m (i + 1074).toNat + signed t n (j + 1074).toNat = M * ((2 ^ q : Nat) : Int)) :
    ∃ r, ((Datum.number s m i).sum (.number t n j)).map double.write = some r ∧ fval r = some (signed s m (i + 1074).toNat + signed t n (j + 1074).toNat) := by
  have e1 : (i + 1074).toNat = (i - min i j).toNat + (min i j + 1074).toNat := by omega
  have e2 : (j + 1074).toNat = (j - min i j).toNat + (min i j + 1074).toNat := by omega
  rw [e1, e2, signed_split, signed_split, ← Int.add_mul] at h ⊢
  simp only [Datum.sum, Option.map]
  have hb : -1074 ≤ min i j := by omega
  generalize min i j = base at h hb ⊢
  generalize signed s m (i - base).toNat + signed t n (j - base).toNat = total at h ⊢
  refine ⟨_, rfl, ?_⟩
  show fval (double.nearest _ total.natAbs base) = _
  generalize hsg : (if total = 0 then (s && t) else decide (total < 0)) = sg
  have hval : ∀ p, signed sg total.natAbs p = total * ((2 ^ p : Nat) : Int) := by
    intro p
    rw [signed_eq, Int.natCast_mul, ← Int.mul_assoc]
    by_cases h0 : total = 0
    · subst h0; simp
    · rw [if_neg h0] at hsg
      rw [← hsg, signed_abs]
  rw [← hval]
  generalize hp : (base + 1074).toNat = p at h ⊢
  by_cases c : p ≤ q
  · have ht : total = M * ((2 ^ (q - p) : Nat) : Int) := by
      have hqe : (2 ^ q : Nat) = 2 ^ (q - p) * 2 ^ p := by rw [← Nat.pow_add, Nat.sub_add_cancel c]
      rw [hqe, Int.natCast_mul, ← Int.mul_assoc] at h
      exact Int.eq_of_mul_eq_mul_right (pow_ne p) h
    have hn : total.natAbs = M.natAbs * 2 ^ (q - p) := by rw [ht, Int.natAbs_mul, Int.natAbs_natCast]
    rw [hn]
    have hl : base + ((M.natAbs * 2 ^ (q - p)).log2 : Nat) ≤ 960 := by
      by_cases h0 : M.natAbs = 0
      · rw [h0, Nat.zero_mul]
        have : Nat.log2 0 = 0 := by decide
        rw [this]; omega
      · rw [log2_mul_pow h0]
        have := (Nat.log2_lt h0).2 hM
        omega
    rw [near_exact sg M.natAbs (q - p) base hM hb hl, hp]
  · have ht : total * ((2 ^ (p - q) : Nat) : Int) = M := by
      have hqe : (2 ^ p : Nat) = 2 ^ (p - q) * 2 ^ q := by rw [← Nat.pow_add, Nat.sub_add_cancel (by omega)]
      rw [hqe, Int.natCast_mul, ← Int.mul_assoc] at h
      exact Int.eq_of_mul_eq_mul_right (pow_ne q) h
    have hn : total.natAbs * 2 ^ (p - q) = M.natAbs := by rw [← ht, Int.natAbs_mul, Int.natAbs_natCast]
    have hlt : total.natAbs < 2 ^ 53 := Nat.lt_of_le_of_lt (Nat.le_mul_of_pos_right _ (Nat.two_pow_pos (p - q))) (by rw [hn]; exact hM)
    by_cases h0 : total.natAbs = 0
    · rw [h0]; exact near_zero _ _ _
    have hl : base + ((total.natAbs * 2 ^ 0).log2 : Nat) ≤ 960 := by
      rw [Nat.pow_zero, Nat.mul_one]
      have h1 : total.natAbs.log2 + (p - q) < 53 := by
        rw [← log2_mul_pow h0, hn]
        exact (Nat.log2_lt (by rw [← hn]; exact Nat.mul_ne_zero h0 (Nat.pos_iff_ne_zero.1 (Nat.two_pow_pos _)))).2 hM
      omega
    have := near_exact sg total.natAbs 0 base hlt hb hl
    rw [Nat.pow_zero, Nat.mul_one, hp] at this
    exact this

/-- '+' of two numbers: never a NaN -/
theorem add_some {x y : Nat} {a b : Int} (hx : fval x = some a) (hy : fval y = some b) : ∃ r, floatBits .add .f64 x y = some r := by
  obtain ⟨s, m, i, hr, _⟩ := read_num hx
  obtain ⟨t, n, j, hq, _⟩ := read_num hy
  have e : floatBits .add .f64 x y = ((double.read x).sum (double.read y)).map double.write := rfl
  rw [e, hr, hq]
  exact ⟨_, rfl⟩
theorem add_exact {x y : Nat} {a b : Int} (hx : fval x = some a) (hy : fval y = some b) (M : Int) (q : Nat) (hM : M.natAbs < 2 ^ 53) (hq : q ≤ 1980) (h : a + b = M * ((2 ^ q : Nat) : Int)) :
    ∃ r, floatBits .add .f64 x y = some r ∧ fval r = some (a + b) := by
  obtain ⟨s, m, i, hr, hi, _, _, rfl⟩ := read_num hx
  obtain ⟨t, n, j, hs, hj, _, _, rfl⟩ := read_num hy
  have e : floatBits .add .f64 x y = ((double.read x).sum (double.read y)).map double.write := rfl
  rw [e, hr, hs]
  exact sum_exact s t m n i j hi hj M q hM hq h
theorem sub_exact {x y : Nat} {a b : Int} (hx : fval x = some a) (hy : fval y = some b) (M : Int) (q : Nat) (hM : M.natAbs < 2 ^ 53) (hq : q ≤ 1980) (h : a - b = M * ((2 ^ q : Nat) : Int)) :
    ∃ r, floatBits .sub .f64 x y = some r ∧ fval r = some (a - b) := by
  obtain ⟨s, m, i, hr, hi, _, _, rfl⟩ := read_num hx
  obtain ⟨t, n, j, hs, hj, _, _, rfl⟩ := read_num hy
  have e : floatBits .sub .f64 x y = ((double.read x).sum (double.read y).opposite).map double.write := rfl
  rw [e, hr, hs]
  have h' : signed s m (i + 1074).toNat + signed (!t) n (j + 1074).toNat = M * ((2 ^ q : Nat) : Int) := by rw [signed_not]; rw [← h]; omega
  obtain ⟨r, h1, h2⟩ := sum_exact s (!t) m n i j hi hj M q hM hq h'
  refine ⟨r, h1, ?_⟩
  rw [h2, signed_not]; congr 1

theorem cut_zero (neg : Bool) (n d : Nat) : Toward.zero.cut neg n d = n / 2 ^ d := by
  unfold Toward.cut
  simp only [Bool.toNat_false, Nat.add_zero, Nat.shiftLeft_eq, Nat.one_mul]
  by_cases h : d ≤ n.log2 + 2
  · rw [Nat.min_eq_left h]
  · rw [Nat.min_eq_right (by omega)]
    have h1 : n < 2 ^ (n.log2 + 2) := Nat.lt_of_lt_of_le log2_lt_pow (Nat.pow_le_pow_right (by omega) (by omega))
    have h2 : n < 2 ^ d := Nat.lt_of_lt_of_le h1 (Nat.pow_le_pow_right (by omega) (by omega))
    rw [Nat.div_eq_of_lt h1, Nat.div_eq_of_lt h2]

theorem cut_whole (m : Nat) (i : Int) (hi : -1074 ≤ i) : (m <<< i.toNat) / 2 ^ (-i).toNat = m * 2 ^ (i + 1074).toNat / 2 ^ uexp := by
  rw [Nat.shiftLeft_eq]
  by_cases c : 0 ≤ i
  · have e1 : (-i).toNat = 0 := by omega
    have e2 : (i + 1074).toNat = i.toNat + uexp := by unfold uexp; omega
    rw [e1, e2, Nat.pow_zero, Nat.div_one, Nat.pow_add, ← Nat.mul_assoc, Nat.mul_div_cancel _ (Nat.two_pow_pos uexp)]
  · have e1 : i.toNat = 0 := by omega
    have e2 : (i + 1074).toNat + (-i).toNat = uexp := by unfold uexp; omega
    rw [e1, Nat.pow_zero, Nat.mul_one, ← e2, Nat.add_comm, Nat.pow_add, Nat.mul_div_mul_right _ _ (Nat.two_pow_pos _)]

/-- what is not below 0: its digits by themselves -/
theorem read_pos {x : Nat} {a : Int} (hx : fval x = some a) (h0 : 0 ≤ a) : ∃ s m i, double.read x = .number s m i ∧ -1074 ≤ i ∧ a = ((m * 2 ^ (i + 1074).toNat : Nat) : Int) ∧ (s = true → m = 0) := by
  obtain ⟨s, m, i, hr, hi, _, _, rfl⟩ := read_num hx
  refine ⟨s, m, i, hr, hi, ?_, ?_⟩
  · rw [signed_eq] at h0 ⊢
    cases s
    · simp
    · simp only [if_true] at h0 ⊢
      generalize m * 2 ^ (i + 1074).toNat = z at h0 ⊢
      omega
  · rintro rfl
    rw [signed_eq] at h0
    simp only [if_true] at h0
    have h1 : m * 2 ^ (i + 1074).toNat = 0 := by
      generalize m * 2 ^ (i + 1074).toNat = z at h0 ⊢
      omega
    exact (Nat.mul_eq_zero.1 h1).resolve_right (Nat.pos_iff_ne_zero.1 (Nat.two_pow_pos _))

theorem div_U (z : Nat) : (z : Int) / U = ((z / 2 ^ uexp : Nat) : Int) := by
  unfold U; rw [Int.natCast_ediv]

/-- the whole part of what is not below 0 -/
theorem toInt_val {x : Nat} {a : Int} (hx : fval x = some a) (h0 : 0 ≤ a) : (double.read x).toInt .zero = some (a / U) := by
  obtain ⟨s, m, i, hr, hi, rfl, hs⟩ := read_pos hx h0
  rw [hr]
  simp only [Datum.toInt, Datum.integral, cut_zero, cut_whole _ _ hi, div_U]
  rw [signed_eq, Nat.pow_zero, Nat.mul_one]
  cases s
  · simp
  · rw [hs rfl, Nat.zero_mul, Nat.zero_div]; simp

theorem trunc_val {x : Nat} {a : Int} (hx : fval x = some a) (h0 : 0 ≤ a) (h1 : a / U < 2 ^ 53) : fval (double.write ((double.read x).integral .zero)) = some (a / U * U) := by
  obtain ⟨s, m, i, hr, hi, rfl, hs⟩ := read_pos hx h0
  rw [hr]
  rw [div_U] at h1 ⊢
  simp only [Datum.integral, cut_zero, cut_whole _ _ hi]
  show fval (double.nearest s _ 0) = _
  generalize hz : m * 2 ^ (i + 1074).toNat / 2 ^ uexp = z at h1 ⊢
  have hlt : z < 2 ^ 53 := by omega
  have hl : (0 : Int) + ((z * 2 ^ 0).log2 : Nat) ≤ 960 := by
    rw [Nat.pow_zero, Nat.mul_one]
    by_cases h0 : z = 0
    · rw [h0]; decide
    · have := (Nat.log2_lt h0).2 hlt; omega
  have := near_exact s z 0 0 hlt (by omega) hl
  rw [Nat.pow_zero, Nat.mul_one, one_pow_uexp, signed_U] at this
  rw [this]
  cases s
  · simp
  · have hz0 : z = 0 := by rw [← hz, hs rfl, Nat.zero_mul, Nat.zero_div]
    rw [hz0]; simp

/-- a part that a mark may have -/
def wholeB (x : Nat) : Bool := match fval x with
  | some a => decide (0 ≤ a ∧ a ≤ 1099511627776 * U ∧ a / U * U = a)
  | none => false
def part (x : Nat) : Int := match fval x with
  | some a => a / U
  | none => 0

theorem wholeB_iff (x : Nat) : wholeB x = true ↔ ∃ n : Int, 0 ≤ n ∧ n ≤ 1099511627776 ∧ fval x = some (n * U) := by
  have hu := U_pos
  unfold wholeB
  cases h : fval x with
  | none => simp
  | some a =>
    simp only [decide_eq_true_eq, Option.some.injEq]
    constructor
    · rintro ⟨h0, h1, h2⟩
      refine ⟨a / U, Int.ediv_nonneg h0 (Int.le_of_lt hu), ?_, h2.symm⟩
      exact Int.le_of_mul_le_mul_right (by rw [h2]; exact h1) hu
    · rintro ⟨n, h0, h1, rfl⟩
      refine ⟨Int.mul_nonneg h0 (Int.le_of_lt hu), Int.mul_le_mul_of_nonneg_right h1 (Int.le_of_lt hu), ?_⟩
      rw [Int.mul_ediv_cancel _ (Int.ne_of_gt hu)]

theorem part_of {x : Nat} {n : Int} (h : fval x = some (n * U)) : part x = n := by
  unfold part; rw [h]; exact Int.mul_ediv_cancel _ (Int.ne_of_gt U_pos)
end
end Go.Proofs.Ytpmcecenhgppbaa
