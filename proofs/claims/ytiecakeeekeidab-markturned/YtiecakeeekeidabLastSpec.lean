/- What the last one of a list of marks is, and how far apart they lie: the plain mathematics. -/
import Derived.Test.YtiecakeeekeidabSpans
namespace Go.Proofs.Ytiecakeeekeidab
open Go.RowKit

theorem lastF_none (F G : Nat → Nat) (n : Nat) (h : lastF F G n = none) : ∀ i, i < n → goodB (F i) (G i) = false := by
  induction n with
  | zero => intro i hi; omega
  | succ n ih =>
    simp only [lastF] at h
    cases hg : goodB (F n) (G n)
    · rw [hg] at h
      intro i hi
      by_cases c : i = n
      · rw [c]; exact hg
      · exact ih (by simpa using h) i (by omega)
    · rw [hg] at h
      simp only [if_true] at h
      cases hl : lastF F G n with
      | none => rw [hl] at h; simp [lastStep] at h
      | some x => rw [hl] at h; simp only [lastStep] at h; split at h <;> simp at h

theorem lastF_some (F G : Nat → Nat) (n : Nat) (e m : Int) (h : lastF F G n = some (e, m)) :
    (∃ i, i < n ∧ goodB (F i) (G i) = true ∧ part (F i) = e ∧ part (G i) = m) ∧ ∀ j, j < n → goodB (F j) (G j) = true → ¬ (e < part (F j) ∨ part (F j) = e ∧ m < part (G j)) := by
  induction n generalizing e m with
  | zero => simp [lastF] at h
  | succ n ih =>
    simp only [lastF] at h
    cases hg : goodB (F n) (G n)
    · rw [hg] at h
      obtain ⟨⟨i, hi, h1⟩, h2⟩ := ih e m (by simpa using h)
      refine ⟨⟨i, by omega, h1⟩, fun j hj hgj => ?_⟩
      by_cases c : j = n
      · rw [c, hg] at hgj; cases hgj
      · exact h2 j (by omega) hgj
    · rw [hg] at h
      simp only [if_true] at h
      cases hl : lastF F G n with
      | none =>
        rw [hl] at h
        simp only [lastStep, Option.some.injEq, Prod.mk.injEq] at h
        refine ⟨⟨n, by omega, hg, h.1, h.2⟩, fun j hj hgj => ?_⟩
        by_cases c : j = n
        · rw [c]; omega
        · have := lastF_none F G n hl j (by omega)
          rw [this] at hgj; cases hgj
      | some x =>
        obtain ⟨e', m'⟩ := x
        obtain ⟨⟨i, hi, h1⟩, h2⟩ := ih e' m' hl
        rw [hl] at h
        simp only [lastStep] at h
        by_cases hc : e' < part (F n) ∨ part (F n) = e' ∧ m' < part (G n)
        · rw [if_pos hc] at h
          simp only [Option.some.injEq, Prod.mk.injEq] at h
          refine ⟨⟨n, by omega, hg, h.1, h.2⟩, fun j hj hgj => ?_⟩
          by_cases c : j = n
          · rw [c]; omega
          · have := h2 j (by omega) hgj
            omega
        · rw [if_neg hc] at h
          simp only [Option.some.injEq, Prod.mk.injEq] at h
          obtain ⟨rfl, rfl⟩ := h
          refine ⟨⟨i, by omega, h1⟩, fun j hj hgj => ?_⟩
          by_cases c : j = n
          · rw [c]; exact hc
          · exact h2 j (by omega) hgj

theorem later_iff' (a b c d : Nat) : laterB a b c d = true ↔ goodB a b = true ∧ goodB c d = true ∧ (part c < part a ∨ part a = part c ∧ part d < part b) := by
  unfold laterB; simp only [Bool.and_eq_true, decide_eq_true_eq, and_assoc]

/-- one to which none is later is the last one -/
theorem lastF_top (F G : Nat → Nat) (n i : Nat) (hi : i < n) (hg : goodB (F i) (G i) = true) (ht : ∀ j, j < n → laterB (F j) (G j) (F i) (G i) = false) :
    lastF F G n = some (part (F i), part (G i)) := by
  cases hl : lastF F G n with
  | none => have := lastF_none F G n hl i hi; rw [this] at hg; cases hg
  | some x =>
    obtain ⟨e, m⟩ := x
    obtain ⟨⟨k, hk, hgk, rfl, rfl⟩, h2⟩ := lastF_some F G n e m hl
    have h3 := h2 i hi hg
    have h4 : ¬ (part (F i) < part (F k) ∨ part (F k) = part (F i) ∧ part (G i) < part (G k)) := by
      intro hh
      have := (later_iff' (F k) (G k) (F i) (G i)).2 ⟨hgk, hg, hh⟩
      rw [ht k hk] at this; cases this
    have e1 : part (F k) = part (F i) := by omega
    have e2 : part (G k) = part (G i) := by omega
    rw [e1, e2]

/-- where none is such, there is none -/
theorem lastF_notop (F G : Nat → Nat) (n : Nat) (h : ∀ i, i < n → goodB (F i) (G i) = true → ∃ j, j < n ∧ laterB (F j) (G j) (F i) (G i) = true) : lastF F G n = none := by
  cases hl : lastF F G n with
  | none => rfl
  | some x =>
    obtain ⟨e, m⟩ := x
    obtain ⟨⟨k, hk, hgk, rfl, rfl⟩, h2⟩ := lastF_some F G n e m hl
    obtain ⟨j, hj, hlj⟩ := h k hk hgk
    have := (later_iff' _ _ _ _).1 hlj
    exact absurd this.2.2 (h2 j hj this.1)

end Go.Proofs.Ytiecakeeekeidab
