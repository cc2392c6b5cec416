/- Lists of marks that hold the same ones have the same last one and lie as far apart. -/
import Derived.Test.YtiecakeeekeidabLastSpec
namespace Go.Proofs.Ytiecakeeekeidab
open Go.RowKit

theorem boxF_none (F G : Nat → Nat) (n : Nat) (h : boxF F G n = none) : ∀ i, i < n → goodB (F i) (G i) = false := by
  induction n with
  | zero => intro i hi; omega
  | succ n ih =>
    simp only [boxF] at h
    cases hg : goodB (F n) (G n)
    · rw [hg] at h
      intro i hi
      by_cases c : i = n
      · rw [c]; exact hg
      · exact ih (by simpa using h) i (by omega)
    · rw [hg] at h; simp at h

theorem boxF_some (F G : Nat → Nat) (n : Nat) (b : Box) (h : boxF F G n = some b) :
    (∃ i, i < n ∧ goodB (F i) (G i) = true ∧ part (F i) = b.e0) ∧ (∃ i, i < n ∧ goodB (F i) (G i) = true ∧ part (F i) = b.e1) ∧
    (∃ i, i < n ∧ goodB (F i) (G i) = true ∧ part (G i) = b.n0) ∧ (∃ i, i < n ∧ goodB (F i) (G i) = true ∧ part (G i) = b.n1) ∧
    ∀ j, j < n → goodB (F j) (G j) = true → b.e0 ≤ part (F j) ∧ part (F j) ≤ b.e1 ∧ b.n0 ≤ part (G j) ∧ part (G j) ≤ b.n1 := by
  induction n generalizing b with
  | zero => simp [boxF] at h
  | succ n ih =>
    simp only [boxF] at h
    cases hg : goodB (F n) (G n)
    · rw [hg] at h
      obtain ⟨⟨i1, a1, b1⟩, ⟨i2, a2, b2⟩, ⟨i3, a3, b3⟩, ⟨i4, a4, b4⟩, hj⟩ := ih b (by simpa using h)
      refine ⟨⟨i1, by omega, b1⟩, ⟨i2, by omega, b2⟩, ⟨i3, by omega, b3⟩, ⟨i4, by omega, b4⟩, fun j hjn hgj => ?_⟩
      by_cases c : j = n
      · rw [c, hg] at hgj; cases hgj
      · exact hj j (by omega) hgj
    · rw [hg] at h
      simp only [if_true, Option.some.injEq] at h
      cases hl : boxF F G n with
      | none =>
        rw [hl] at h
        subst h
        refine ⟨⟨n, by omega, hg, rfl⟩, ⟨n, by omega, hg, rfl⟩, ⟨n, by omega, hg, rfl⟩, ⟨n, by omega, hg, rfl⟩, fun j hjn hgj => ?_⟩
        by_cases c : j = n
        · subst c; simp only [boxStep]; omega
        · have := boxF_none F G n hl j (by omega); rw [this] at hgj; cases hgj
      | some c =>
        rw [hl] at h
        subst h
        obtain ⟨⟨i1, a1, g1, b1⟩, ⟨i2, a2, g2, b2⟩, ⟨i3, a3, g3, b3⟩, ⟨i4, a4, g4, b4⟩, hj⟩ := ih c hl
        simp only [boxStep]
        refine ⟨?_, ?_, ?_, ?_, fun j hjn hgj => ?_⟩
        · by_cases q : c.e0 ≤ part (F n)
          · exact ⟨i1, by omega, g1, by omega⟩
          · exact ⟨n, by omega, hg, by omega⟩
        · by_cases q : part (F n) ≤ c.e1
          · exact ⟨i2, by omega, g2, by omega⟩
          · exact ⟨n, by omega, hg, by omega⟩
        · by_cases q : c.n0 ≤ part (G n)
          · exact ⟨i3, by omega, g3, by omega⟩
          · exact ⟨n, by omega, hg, by omega⟩
        · by_cases q : part (G n) ≤ c.n1
          · exact ⟨i4, by omega, g4, by omega⟩
          · exact ⟨n, by omega, hg, by omega⟩
        · by_cases q : j = n
          · subst q; omega
          · have := hj j (by omega) hgj; omega

/-- each good one of the first list is, by its parts, one of the second -/
def Cover (F G : Nat → Nat) (n : Nat) (F' G' : Nat → Nat) (n' : Nat) : Prop :=
  ∀ i, i < n → goodB (F i) (G i) = true → ∃ j, j < n' ∧ goodB (F' j) (G' j) = true ∧ part (F' j) = part (F i) ∧ part (G' j) = part (G i)

theorem last_same {F G F' G' : Nat → Nat} {n n' : Nat} (h : Cover F G n F' G' n') (h' : Cover F' G' n' F G n) : lastF F G n = lastF F' G' n' := by
  cases hl : lastF F G n with
  | none =>
    cases hm : lastF F' G' n' with
    | none => rfl
    | some x =>
      obtain ⟨e, m⟩ := x
      obtain ⟨⟨j, hj, hg, _⟩, _⟩ := lastF_some F' G' n' e m hm
      obtain ⟨i, hi, hg', _⟩ := h' j hj hg
      rw [lastF_none F G n hl i hi] at hg'; cases hg'
  | some x =>
    obtain ⟨e, m⟩ := x
    obtain ⟨⟨i, hi, hg, rfl, rfl⟩, h2⟩ := lastF_some F G n e m hl
    obtain ⟨j, hj, hgj, p1, p2⟩ := h i hi hg
    cases hm : lastF F' G' n' with
    | none => rw [lastF_none F' G' n' hm j hj] at hgj; cases hgj
    | some y =>
      obtain ⟨e', m'⟩ := y
      obtain ⟨⟨k, hk, hgk, rfl, rfl⟩, h3⟩ := lastF_some F' G' n' e' m' hm
      obtain ⟨l, hl', hgl, q1, q2⟩ := h' k hk hgk
      have t1 := h2 l hl' hgl
      have t2 := h3 j hj hgj
      have e1 : part (F i) = part (F' k) := by omega
      have e2 : part (G i) = part (G' k) := by omega
      rw [e1, e2]

theorem box_same {F G F' G' : Nat → Nat} {n n' : Nat} (h : Cover F G n F' G' n') (h' : Cover F' G' n' F G n) : boxE (boxF F G n) = boxE (boxF F' G' n') ∧ boxN (boxF F G n) = boxN (boxF F' G' n') := by
  cases hl : boxF F G n with
  | none =>
    cases hm : boxF F' G' n' with
    | none => exact ⟨rfl, rfl⟩
    | some b =>
      obtain ⟨⟨j, hj, hg, _⟩, _⟩ := boxF_some F' G' n' b hm
      obtain ⟨i, hi, hg', _⟩ := h' j hj hg
      rw [boxF_none F G n hl i hi] at hg'; cases hg'
  | some b =>
    obtain ⟨⟨i1, a1, g1, b1⟩, ⟨i2, a2, g2, b2⟩, ⟨i3, a3, g3, b3⟩, ⟨i4, a4, g4, b4⟩, hj⟩ := boxF_some F G n b hl
    cases hm : boxF F' G' n' with
    | none =>
      obtain ⟨j, hj', hgj, _⟩ := h i1 a1 g1
      rw [boxF_none F' G' n' hm j hj'] at hgj; cases hgj
    | some c =>
      obtain ⟨⟨k1, c1, f1, d1⟩, ⟨k2, c2, f2, d2⟩, ⟨k3, c3, f3, d3⟩, ⟨k4, c4, f4, d4⟩, hk⟩ := boxF_some F' G' n' c hm
      obtain ⟨j1, u1, v1, x1, y1⟩ := h i1 a1 g1
      obtain ⟨j2, u2, v2, x2, y2⟩ := h i2 a2 g2
      obtain ⟨j3, u3, v3, x3, y3⟩ := h i3 a3 g3
      obtain ⟨j4, u4, v4, x4, y4⟩ := h i4 a4 g4
      obtain ⟨l1, m1, n1, o1, p1⟩ := h' k1 c1 f1
      obtain ⟨l2, m2, n2, o2, p2⟩ := h' k2 c2 f2
      obtain ⟨l3, m3, n3, o3, p3⟩ := h' k3 c3 f3
      obtain ⟨l4, m4, n4, o4, p4⟩ := h' k4 c4 f4
      have q1 := hk j1 u1 v1
      have q2 := hk j2 u2 v2
      have q3 := hk j3 u3 v3
      have q4 := hk j4 u4 v4
      have r1 := hj l1 m1 n1
      have r2 := hj l2 m2 n2
      have r3 := hj l3 m3 n3
      have r4 := hj l4 m4 n4
      simp only [boxE, boxN]
      omega

/-- a list by its elements -/
def fstOf (l : List (Nat × Nat)) (i : Nat) : Nat := (l.getD i (0, 0)).1
def sndOf (l : List (Nat × Nat)) (i : Nat) : Nat := (l.getD i (0, 0)).2
def cxs (l : List (Nat × Nat)) : List Value := l.map fun x => .complex .f64 x.1 x.2
theorem cxs_eq (l : List (Nat × Nat)) : cxs l = CL (fstOf l) (sndOf l) l.length := by
  unfold cxs CL fstOf sndOf
  apply List.ext_getElem?
  intro i
  by_cases h : i < l.length
  · simp [h, List.getD]
  · simp [h]

/-- the good ones among the first k -/
def filt (F G : Nat → Nat) : Nat → List (Nat × Nat)
  | 0 => []
  | k + 1 => if goodB (F k) (G k) then filt F G k ++ [(F k, G k)] else filt F G k
theorem filt_len (F G : Nat → Nat) : ∀ k, (filt F G k).length ≤ k
  | 0 => by simp [filt]
  | k + 1 => by
    have := filt_len F G k
    simp only [filt]
    split
    · simp; omega
    · omega
theorem filt_mem (F G : Nat → Nat) (x : Nat × Nat) : ∀ k, x ∈ filt F G k ↔ ∃ i, i < k ∧ goodB (F i) (G i) = true ∧ x = (F i, G i)
  | 0 => by simp [filt]
  | k + 1 => by
    have ih := filt_mem F G x k
    simp only [filt]
    cases hg : goodB (F k) (G k)
    · simp only [Bool.false_eq_true, if_false]
      rw [ih]
      constructor
      · rintro ⟨i, hi, h⟩; exact ⟨i, by omega, h⟩
      · rintro ⟨i, hi, h1, h2⟩
        by_cases c : i = k
        · subst c; rw [hg] at h1; cases h1
        · exact ⟨i, by omega, h1, h2⟩
    · simp only [if_true, List.mem_append, List.mem_singleton]
      rw [ih]
      constructor
      · rintro (⟨i, hi, h⟩ | h)
        · exact ⟨i, by omega, h⟩
        · exact ⟨k, by omega, hg, h⟩
      · rintro ⟨i, hi, h1, h2⟩
        by_cases c : i = k
        · subst c; exact .inr h2
        · exact .inl ⟨i, by omega, h1, h2⟩

theorem cover_filt (F G : Nat → Nat) (n : Nat) : Cover F G n (fstOf (filt F G n)) (sndOf (filt F G n)) (filt F G n).length := by
  intro i hi hg
  have hm : (F i, G i) ∈ filt F G n := (filt_mem F G _ n).2 ⟨i, hi, hg, rfl⟩
  obtain ⟨j, hj, he⟩ := List.getElem_of_mem hm
  have e1 : fstOf (filt F G n) j = F i := by unfold fstOf; simp [List.getD, hj, he]
  have e2 : sndOf (filt F G n) j = G i := by unfold sndOf; simp [List.getD, hj, he]
  exact ⟨j, hj, by rw [e1, e2]; exact hg, by rw [e1], by rw [e2]⟩
theorem filt_cover (F G : Nat → Nat) (n : Nat) : Cover (fstOf (filt F G n)) (sndOf (filt F G n)) (filt F G n).length F G n := by
  intro j hj hg
  have hm : (filt F G n)[j] ∈ filt F G n := List.getElem_mem hj
  obtain ⟨i, hi, hgi, he⟩ := (filt_mem F G _ n).1 hm
  have e1 : fstOf (filt F G n) j = F i := by unfold fstOf; simp [List.getD, hj, he]
  have e2 : sndOf (filt F G n) j = G i := by unfold sndOf; simp [List.getD, hj, he]
  exact ⟨i, hi, hgi, by rw [e1], by rw [e2]⟩

/-- one more that is no mark -/
def plus (F : Nat → Nat) (n x i : Nat) : Nat := if i < n then F i else x
theorem CL_plus (F G : Nat → Nat) (n x y : Nat) : CL F G n ++ [.complex .f64 x y] = CL (plus F n x) (plus G n y) (n + 1) := by
  rw [CL_succ]
  have e1 : plus F n x n = x := by unfold plus; simp
  have e2 : plus G n y n = y := by unfold plus; simp
  rw [e1, e2]
  congr 1
  unfold CL
  apply List.map_congr_left
  intro i hi
  have := List.mem_range.1 hi
  unfold plus
  simp [this]
theorem cover_plus (F G : Nat → Nat) (n x y : Nat) : Cover F G n (plus F n x) (plus G n y) (n + 1) := by
  intro i hi hg
  have e1 : plus F n x i = F i := by unfold plus; simp [hi]
  have e2 : plus G n y i = G i := by unfold plus; simp [hi]
  exact ⟨i, by omega, by rw [e1, e2]; exact hg, by rw [e1], by rw [e2]⟩
theorem plus_cover (F G : Nat → Nat) (n x y : Nat) (hx : goodB x y = false) : Cover (plus F n x) (plus G n y) (n + 1) F G n := by
  intro i hi hg
  by_cases c : i < n
  · have e1 : plus F n x i = F i := by unfold plus; simp [c]
    have e2 : plus G n y i = G i := by unfold plus; simp [c]
    rw [e1, e2] at hg
    exact ⟨i, c, hg, by rw [e1], by rw [e2]⟩
  · have e1 : plus F n x i = x := by unfold plus; simp [c]
    have e2 : plus G n y i = y := by unfold plus; simp [c]
    rw [e1, e2, hx] at hg; cases hg

theorem some_iff (F G : Nat → Nat) (n : Nat) : (lastF F G n).isSome = decide ((0 : Int) < ((filt F G n).length : Int)) := by
  cases h : lastF F G n with
  | none =>
    have : filt F G n = [] := by
      apply List.eq_nil_iff_forall_not_mem.2
      intro x hx
      obtain ⟨i, hi, hg, _⟩ := (filt_mem F G x n).1 hx
      rw [lastF_none F G n h i hi] at hg; cases hg
    rw [this]; rfl
  | some x =>
    obtain ⟨e, m⟩ := x
    obtain ⟨⟨i, hi, hg, _⟩, _⟩ := lastF_some F G n e m h
    have hm : (F i, G i) ∈ filt F G n := (filt_mem F G _ n).2 ⟨i, hi, hg, rfl⟩
    have := List.length_pos_of_mem hm
    simp; exact this

end Go.Proofs.Ytiecakeeekeidab
