/- The groups of seven bits of a number. -/
import Derived.Test.YtboeiegfcmebjabWrD
namespace Go.Proofs.Ytboeiegfcmebjab

theorem div_step (n j : Nat) : n / 128 / 128 ^ j = n / 128 ^ (j + 1) := by
  rw [Nat.div_div_eq_div_mul, Nat.pow_succ, Nat.mul_comm]
theorem numB_get (n : Nat) : ∀ j, j < (numB n).length → (numB n)[j]? = some (if j + 1 < (numB n).length then ((n / 128 ^ j % 128 + 128 : Nat) : Int) else ((n / 128 ^ j : Nat) : Int)) := by
  induction n using Nat.strongRecOn with
  | ind n ih =>
    intro j hj
    by_cases h : n < 128
    · rw [numB_lt h] at hj ⊢
      obtain rfl : j = 0 := by simp at hj; omega
      simp
    · rw [numB_ge h] at hj ⊢
      have hp := numB_pos (n / 128)
      cases j with
      | zero => simp [hp]
      | succ j =>
        have := ih (n / 128) (by omega) j (by simp at hj; omega)
        rw [List.getElem?_cons_succ, this, div_step]
        simp
theorem numB_more (n : Nat) : ∀ j, j + 1 < (numB n).length → 128 ≤ n / 128 ^ j := by
  induction n using Nat.strongRecOn with
  | ind n ih =>
    intro j hj
    by_cases h : n < 128
    · rw [numB_lt h] at hj
      simp at hj
    · rw [numB_ge h] at hj
      cases j with
      | zero => simp; omega
      | succ j =>
        have := ih (n / 128) (by omega) j (by simp at hj; omega)
        rw [← div_step]
        exact this
theorem numB_pow (n : Nat) : n < 128 ^ (numB n).length := by
  induction n using Nat.strongRecOn with
  | ind n ih =>
    by_cases h : n < 128
    · rw [numB_lt h]; simpa using h
    · have := ih (n / 128) (by omega)
      rw [numB_ge h, List.length_cons, Nat.pow_succ]
      omega
theorem numB_low (n j : Nat) (h : j + 2 = (numB n).length) : 128 ^ (j + 1) ≤ n := by
  have h1 := numB_more n j (by omega)
  have h2 := (Nat.le_div_iff_mul_le (Nat.pow_pos (n := j) (by omega : 0 < 128))).1 h1
  rw [Nat.pow_succ, Nat.mul_comm]
  exact h2
theorem numB_mono {n m : Nat} (h : n ≤ m) : (numB n).length ≤ (numB m).length := by
  by_cases hc : (numB n).length ≤ (numB m).length
  · exact hc
  · have hp := numB_pos m
    have h1 := numB_low n ((numB n).length - 2) (by omega)
    have h2 := numB_pow m
    have h3 : 128 ^ (numB m).length ≤ 128 ^ ((numB n).length - 2 + 1) := Nat.pow_le_pow_right (by omega) (by omega)
    omega
theorem mod_step (n j : Nat) : n % 128 ^ j + n / 128 ^ j % 128 * 128 ^ j = n % 128 ^ (j + 1) := by
  rw [Nat.mod_pow_succ, Nat.mul_comm]
theorem u8_and127 (x : Nat) (h : x < 256) : bits .and .u8 (x : Int) 127 = ((x % 128 : Nat) : Int) := by
  have : ∀ y : Fin 256, bits .and .u8 ((y.val : Nat) : Int) 127 = ((y.val % 128 : Nat) : Int) := by decide +kernel
  exact this ⟨x, h⟩
end Go.Proofs.Ytboeiegfcmebjab
