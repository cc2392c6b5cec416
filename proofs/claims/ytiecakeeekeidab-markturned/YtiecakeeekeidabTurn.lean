/- What the law MarkTurned needs: lists turned round, negated numbers, how far each mark lies from the last one. -/
import Derived.Test.YtiecakeeekeidabLawsK
namespace Go.Proofs.Ytiecakeeekeidab
open Go.RowKit

/-- turned round -/
def rev (F : Nat → Nat) (n i : Nat) : Nat := F (n - 1 - i)
theorem cover_rev (F G : Nat → Nat) (n : Nat) : Cover F G n (rev F n) (rev G n) n := by
  intro i hi hg
  have e : n - 1 - (n - 1 - i) = i := by omega
  refine ⟨n - 1 - i, by omega, ?_, ?_, ?_⟩ <;> unfold rev <;> rw [e]
  exact hg
theorem rev_cover (F G : Nat → Nat) (n : Nat) : Cover (rev F n) (rev G n) n F G n := by
  intro i hi hg
  exact ⟨n - 1 - i, by omega, hg, rfl, rfl⟩

theorem neg_read (x : Nat) : (Op.negFloat .f64 x) % 2 ^ 63 = x % 2 ^ 63 ∧ ((Op.negFloat .f64 x) / 2 ^ 63 % 2 == 1) = !(x / 2 ^ 63 % 2 == 1) := by
  have e : Op.negFloat .f64 x = x ^^^ 2 ^ 63 := rfl
  rw [e]
  constructor
  · rw [Nat.xor_mod_two_pow, Nat.mod_self, Nat.xor_zero]
  · rw [Nat.xor_div_two_pow, Nat.div_self (Nat.two_pow_pos 63)]
    have h := Nat.xor_mod_two_pow (a := x / 2 ^ 63) (b := 1) (n := 1)
    rw [Nat.pow_one] at h
    rw [h]
    rcases Nat.mod_two_eq_zero_or_one (x / 2 ^ 63) with h0 | h0 <;> rw [h0] <;> rfl

theorem neg_val {x : Nat} {v : Int} (h : fval x = some v) : fval (Op.negFloat .f64 x) = some (-v) := by
  obtain ⟨h1, h2⟩ := neg_read x
  unfold fval at h ⊢
  rw [read_eq] at h ⊢
  rw [h1, h2]
  by_cases c1 : x % 2 ^ 63 < 2 ^ 52
  · rw [if_pos c1] at h ⊢
    simp only [dval, Option.some.injEq] at h ⊢
    rw [signed_not, h]
  · rw [if_neg c1] at h ⊢
    by_cases c2 : x % 2 ^ 63 < 2047 * 2 ^ 52
    · rw [if_pos c2] at h ⊢
      simp only [dval, Option.some.injEq] at h ⊢
      rw [signed_not, h]
    · rw [if_neg c2] at h
      by_cases c3 : x % 2 ^ 63 = 2047 * 2 ^ 52
      · rw [if_pos c3] at h; simp [dval] at h
      · rw [if_neg c3] at h; simp [dval] at h

theorem not_gt {x y : Nat} {n k : Int} (hx : fval x = some (n * U)) (hy : fval y = some (k * U)) (h : n ≤ k) : (FloatKind.f64.format.order x y == some .gt) = false := by
  rw [order_whole hx hy, beq_cmp_gt]; simp; omega
theorem not_lt {x y : Nat} {n k : Int} (hx : fval x = some (n * U)) (hy : fval y = some (k * U)) (h : k ≤ n) : (FloatKind.f64.format.order x y == some .lt) = false := by
  rw [order_whole hx hy, beq_cmp_lt]; simp; omega

/-- each mark lies at most so far from the last one -/
theorem turn_round (F G : Nat → Nat) (n k : Nat) (hk : k < n) (hg : goodB (F k) (G k) = true) (sx sy : Nat) (hx : ValIs sx (boxE (boxF F G n))) (hy : ValIs sy (boxN (boxF F G n))) :
    (lastF F G n).isSome = true ∧ laterB (F k) (G k) (lastRe (lastF F G n)) (lastIm (lastF F G n)) = false ∧
    ∃ dx dy, cSumBits .sub .f64 (lastRe (lastF F G n)) (lastIm (lastF F G n)) (F k) (G k) = some (dx, dy) ∧
      (FloatKind.f64.format.order dx 0 == some .lt) = false ∧ (FloatKind.f64.format.order dx sx == some .gt) = false ∧
      (FloatKind.f64.format.order dy sy == some .gt) = false ∧ (FloatKind.f64.format.order (Op.negFloat .f64 dy) sy == some .gt) = false := by
  cases hl : lastF F G n with
  | none => rw [lastF_none F G n hl k hk] at hg; cases hg
  | some x =>
    obtain ⟨e, m⟩ := x
    obtain ⟨⟨i, hi, hgi, pe, pm⟩, htop⟩ := lastF_some F G n e m hl
    have hbd := lastF_bd F G n e m hl
    have ht := htop k hk hg
    obtain ⟨p1, p2, p3, p4, v1, v2⟩ := good_parts hg
    cases hb : boxF F G n with
    | none => rw [boxF_none F G n hb k hk] at hg; cases hg
    | some b =>
      rw [hb] at hx hy
      obtain ⟨_, _, _, _, hj⟩ := boxF_some F G n b hb
      have q1 := hj k hk hg
      have q2 := hj i hi hgi
      rw [pe, pm] at q2
      obtain ⟨dx, hdx, vdx⟩ := sub_whole (ofInt_val e (by omega)) v1 (by omega)
      obtain ⟨dy, hdy, vdy⟩ := sub_whole (ofInt_val m (by omega)) v2 (by omega)
      refine ⟨rfl, ?_, dx, dy, ?_, ?_, ?_, ?_, ?_⟩
      · simp only [lastRe, lastIm]
        rw [later_of hg hbd]
        exact decide_eq_false ht
      · simp only [lastRe, lastIm]
        unfold cSumBits; rw [hdx, hdy]; rfl
      · exact not_lt vdx val_zeroU (by omega)
      · exact not_gt vdx hx (by simp only [boxE]; omega)
      · exact not_gt vdy hy (by simp only [boxN]; omega)
      · have hn := neg_val vdy
        rw [← Int.neg_mul] at hn
        exact not_gt hn hy (by simp only [boxN]; omega)

/-- the same mark twice: no way apart -/
theorem twice (R I : Nat) (hg : goodB R I = true) : boxE (boxF (fun _ => R) (fun _ => I) 2) = 0 ∧ boxN (boxF (fun _ => R) (fun _ => I) 2) = 0 := by
  simp only [boxF, hg, if_true, boxStep, boxE, boxN]
  omega
theorem last_good (F G : Nat → Nat) (n : Nat) : goodB (lastRe (lastF F G n)) (lastIm (lastF F G n)) = true := by
  cases h : lastF F G n with
  | none => simp only [lastRe, lastIm]; rw [good_of val_zeroU val_zeroU]; decide
  | some x =>
    obtain ⟨e, m⟩ := x
    have := lastF_bd F G n e m h
    simp only [lastRe, lastIm]
    rw [good_of (ofInt_val e (by omega)) (ofInt_val m (by omega))]
    exact decide_eq_true this
theorem CL_two (R I : Nat) (F G : Nat → Nat) : CL F G 0 ++ [.complex .f64 R I, .complex .f64 R I] = CL (fun _ => R) (fun _ => I) 2 := rfl
theorem two_news (w : World) (x y : Nat) : ∀ (j : Nat) (u : Value), [Value.complex .f64 x y, Value.complex .f64 x y][j]? = some u → (w.alloc (.cells #[.complex .f64 x y, .complex .f64 x y] 24)).cell? ((⟨w.heap.size, 0, none⟩ : Addr).add j) = some u := by
  intro j u hj
  match j, hj with
  | 0, hj => simp at hj; subst hj; simp [Addr.add]
  | 1, hj => simp at hj; subst hj; simp [Addr.add]
theorem two_cell (x y : Nat) : ∀ u ∈ [Value.complex .f64 x y, Value.complex .f64 x y], u.oneCell' = true := by
  intro u hu; simp at hu; subst hu; rfl

end Go.Proofs.Ytiecakeeekeidab
