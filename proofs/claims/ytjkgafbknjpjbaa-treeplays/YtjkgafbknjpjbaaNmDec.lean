/- A range over a text, by the bytes: a rune below 128 is its byte, and no rune hides a slash or a byte 0. -/
import Derived.Test.YtjkgafbknjpjbaaNmSpec
namespace Go.Proofs.Ytjkgafbknjpjbaa

theorem bt_get (s : ByteArray) (i : Nat) (h : i < s.size) : (s.get! i).toNat = bt s i := by
  rw [bt_at s i h]
  have := get_at s i h
  rw [Nat.add_zero] at this
  rw [this]

def contP (t : ByteArray) (pos k : Nat) : Prop := pos + k < t.size ∧ (t.get! (pos + k)).toNat / 64 = 2
theorem contP_of {t : ByteArray} {pos k : Nat} (h : (decide (pos + k < t.size) && (t.get! (pos + k)).toNat / 64 == 2) = true) : contP t pos k := by
  rw [Bool.and_eq_true, decide_eq_true_eq, beq_iff_eq] at h; exact h
theorem contP_bt {t : ByteArray} {pos k : Nat} (h : contP t pos k) : pos + k < t.size ∧ 128 ≤ bt t (pos + k) := by
  refine ⟨h.1, ?_⟩
  rw [← bt_get t _ h.1]
  have := h.2; omega
theorem dec_cases (t : ByteArray) (pos : Nat) : (Utf8.decode t pos).2 = 1 ∨ ((Utf8.decode t pos).2 = 2 ∧ contP t pos 1) ∨ ((Utf8.decode t pos).2 = 3 ∧ contP t pos 1 ∧ contP t pos 2) ∨ ((Utf8.decode t pos).2 = 4 ∧ contP t pos 1 ∧ contP t pos 2 ∧ contP t pos 3) := by
  unfold Utf8.decode
  dsimp only
  split
  · exact .inl rfl
  · split
    · rename_i h
      rw [Bool.and_eq_true] at h
      split
      · exact .inr (.inl ⟨rfl, contP_of h.2⟩)
      · exact .inl rfl
    · split
      · rename_i h
        rw [Bool.and_eq_true, Bool.and_eq_true] at h
        split
        · exact .inr (.inr (.inl ⟨rfl, contP_of h.1.2, contP_of h.2⟩))
        · exact .inl rfl
      · split
        · rename_i h
          rw [Bool.and_eq_true, Bool.and_eq_true, Bool.and_eq_true] at h
          split
          · exact .inr (.inr (.inr ⟨rfl, contP_of h.1.1.2, contP_of h.1.2, contP_of h.2⟩))
          · exact .inl rfl
        · exact .inl rfl

theorem dec_step (t : ByteArray) (pos : Nat) (h : pos < t.size) :
    1 ≤ (Utf8.decode t pos).2 ∧ pos + (Utf8.decode t pos).2 ≤ t.size ∧ (∀ i, pos < i → i < pos + (Utf8.decode t pos).2 → 128 ≤ bt t i) ∧
      ((bt t pos < 128 ∧ (Utf8.decode t pos).1 = bt t pos ∧ (Utf8.decode t pos).2 = 1) ∨ (128 ≤ bt t pos ∧ 128 ≤ (Utf8.decode t pos).1)) := by
  have h4 : (bt t pos < 128 ∧ (Utf8.decode t pos).1 = bt t pos ∧ (Utf8.decode t pos).2 = 1) ∨ (128 ≤ bt t pos ∧ 128 ≤ (Utf8.decode t pos).1) := by
    by_cases ha : bt t pos < 128
    · have e := decode_ascii t pos h (by rw [← bt_at t pos h]; exact ha)
      rw [e]
      exact .inl ⟨ha, (bt_at t pos h).symm, rfl⟩
    · exact .inr ⟨by omega, (decode_high t pos h (by rw [← bt_at t pos h]; omega)).1⟩
  refine ⟨?_, ?_, ?_, h4⟩
  · rcases dec_cases t pos with e | ⟨e, _⟩ | ⟨e, _⟩ | ⟨e, _⟩ <;> rw [e] <;> omega
  · rcases dec_cases t pos with e | ⟨e, h1⟩ | ⟨e, _, h1⟩ | ⟨e, _, _, h1⟩ <;> rw [e]
    · omega
    · have := (contP_bt h1).1; omega
    · have := (contP_bt h1).1; omega
    · have := (contP_bt h1).1; omega
  · intro i h1 h2
    rcases dec_cases t pos with e | ⟨e, c1⟩ | ⟨e, c1, c2⟩ | ⟨e, c1, c2, c3⟩ <;> rw [e] at h2
    · omega
    · obtain rfl : i = pos + 1 := by omega
      exact (contP_bt c1).2
    · have : i = pos + 1 ∨ i = pos + 2 := by omega
      rcases this with rfl | rfl
      · exact (contP_bt c1).2
      · exact (contP_bt c2).2
    · have : i = pos + 1 ∨ i = pos + 2 ∨ i = pos + 3 := by omega
      rcases this with rfl | rfl | rfl
      · exact (contP_bt c1).2
      · exact (contP_bt c2).2
      · exact (contP_bt c3).2

/-- a slash behind turns no byte -/
theorem bt_slash (s : ByteArray) (i : Nat) (h : i < s.size + 1) : bt (s ++ ⟨#[47]⟩) i = bt s i := by
  have hz : (s ++ (⟨#[47]⟩ : ByteArray)).size = s.size + 1 := by rw [ByteArray.size_append]; rfl
  by_cases hi : i < s.size
  · rw [bt_at s i hi, bt_at _ i (by omega), ByteArray.getElem_append_left hi]
  · obtain rfl : i = s.size := by omega
    rw [bt_end s _ (Nat.le_refl _), bt_at _ _ (by omega), ByteArray.getElem_append_right (Nat.le_refl _)]
    simp
    rfl
theorem size_slash (s : ByteArray) : (s ++ (⟨#[47]⟩ : ByteArray)).size = s.size + 1 := by rw [ByteArray.size_append]; rfl

theorem toList_size (s : ByteArray) : s.toList.length = s.size := by rw [ByteArray.toList_eq]; cases s; rfl
theorem toList_nil (s : ByteArray) : (s.toList == []) = decide (s.size = 0) := by
  have h := toList_size s
  cases hl : s.toList with
  | nil => rw [hl] at h; simp at h; simp [← h]
  | cons a l => rw [hl] at h; simp at h; simp [← h]

theorem pcs_succ_cut {s : ByteArray} {i : Nat} (h : bt s i = 47) (hf : frm s i < i) : pcs s (i + 1) = pcs s i ++ [s.extract (frm s i) i] := by simp only [pcs]; rw [if_pos ⟨h, hf⟩]
theorem pcs_succ_not {s : ByteArray} {i : Nat} (h : ¬ (bt s i = 47 ∧ frm s i < i)) : pcs s (i + 1) = pcs s i := by simp only [pcs]; rw [if_neg h]
theorem frm_succ_cut {s : ByteArray} {i : Nat} (h : bt s i = 47) : frm s (i + 1) = i + 1 := by simp only [frm]; rw [if_pos h]
theorem frm_succ_not {s : ByteArray} {i : Nat} (h : bt s i ≠ 47) : frm s (i + 1) = frm s i := by simp only [frm]; rw [if_neg h]
end Go.Proofs.Ytjkgafbknjpjbaa
