/- The pieces of a text as a list of bytes: a slash parts a text into what stands ahead of it and what stands behind. -/
import Derived.Test.YtehpaanpkiidaabNmDec
namespace Go.Proofs.Ytehpaanpkiidaab

abbrev bl (s : ByteArray) : List UInt8 := s.data.toList
def mkB (l : List UInt8) : ByteArray := ⟨l.toArray⟩
theorem bl_mk (l : List UInt8) : bl (mkB l) = l := by simp [bl, mkB]
theorem mk_bl (s : ByteArray) : mkB (bl s) = s := by cases s; simp [bl, mkB]
theorem bl_inj {s t : ByteArray} (h : bl s = bl t) : s = t := by rw [← mk_bl s, ← mk_bl t, h]
theorem bl_len (s : ByteArray) : (bl s).length = s.size := by cases s; rfl
theorem bl_toList (s : ByteArray) : s.toList = bl s := ByteArray.toList_eq s
theorem bl_append (s t : ByteArray) : bl (s ++ t) = bl s ++ bl t := by simp [bl, ByteArray.data_append]
theorem bl_extract (s : ByteArray) (a b : Nat) : bl (s.extract a b) = ((bl s).drop a).take (b - a) := by
  simp [bl, ByteArray.data_extract]
theorem bt_bl (s : ByteArray) (i : Nat) (x : UInt8) (h : (bl s)[i]? = some x) : bt s i = x.toNat := by
  obtain ⟨hi, e⟩ := List.getElem?_eq_some_iff.1 h
  rw [bl_len] at hi
  rw [bt_at s i hi, ← e]
  rfl

def stp (st : List (List UInt8) × List UInt8) (b : UInt8) : List (List UInt8) × List UInt8 :=
  if b = 47 then (if st.2 = [] then (st.1, []) else (st.1 ++ [st.2], [])) else (st.1, st.2 ++ [b])
def fin (st : List (List UInt8) × List UInt8) : List (List UInt8) := if st.2 = [] then st.1 else st.1 ++ [st.2]
def comps (l : List UInt8) : List (List UInt8) := fin (l.foldl stp ([], []))

theorem stp_shift (a : List (List UInt8)) (st : List (List UInt8) × List UInt8) (b : UInt8) : stp (a ++ st.1, st.2) b = (a ++ (stp st b).1, (stp st b).2) := by
  unfold stp
  split
  · split <;> simp
  · rfl
theorem fold_shift (a : List (List UInt8)) (l : List UInt8) : ∀ st : List (List UInt8) × List UInt8, l.foldl stp (a ++ st.1, st.2) = (a ++ (l.foldl stp st).1, (l.foldl stp st).2) := by
  induction l with
  | nil => intro st; rfl
  | cons b l ih => intro st; simp only [List.foldl_cons]; rw [stp_shift]; exact ih _
theorem comps_slash (l m : List UInt8) : comps (l ++ 47 :: m) = comps l ++ comps m := by
  unfold comps
  rw [List.foldl_append, List.foldl_cons]
  generalize l.foldl stp ([], []) = st
  have h : stp st 47 = (fin st ++ ([] : List (List UInt8)), ([] : List UInt8)) := by
    unfold stp fin
    rw [if_pos rfl]
    split <;> simp
  rw [h, fold_shift (fin st) m ([], [])]
  generalize m.foldl stp ([], []) = su
  unfold fin
  simp only
  split <;> simp
theorem comps_nil : comps [] = [] := rfl
theorem fold_plain (l : List UInt8) (h : ∀ b ∈ l, b ≠ 47) : ∀ st : List (List UInt8) × List UInt8, l.foldl stp st = (st.1, st.2 ++ l) := by
  induction l with
  | nil => intro st; simp
  | cons b l ih =>
    intro st
    rw [List.foldl_cons, ih (fun c hc => h c (List.mem_cons_of_mem _ hc))]
    unfold stp
    rw [if_neg (h b List.mem_cons_self)]
    simp
theorem comps_word (l : List UInt8) (h : ∀ b ∈ l, b ≠ 47) (hl : l ≠ []) : comps l = [l] := by
  unfold comps
  rw [fold_plain l h]
  unfold fin
  simp [hl]

theorem extract_nil (s : ByteArray) (a i : Nat) (h : i ≤ s.size) : bl (s.extract a i) = [] ↔ ¬ a < i := by
  rw [← List.length_eq_zero_iff, bl_len, ByteArray.size_extract]
  omega
theorem fold_pcs (s : ByteArray) (i : Nat) (hi : i ≤ s.size) : ((bl s).take i).foldl stp ([], []) = ((pcs s i).map bl, bl (s.extract (frm s i) i)) := by
  induction i with
  | zero =>
    simp only [List.take_zero, List.foldl_nil, pcs, List.map_nil, frm]
    rw [(extract_nil s 0 0 (Nat.zero_le _)).2 (by omega)]
  | succ i ih =>
    have hlt : i < (bl s).length := by rw [bl_len]; omega
    rw [List.take_add_one, List.getElem?_eq_getElem hlt, List.foldl_append, ih (by omega)]
    have hb : bt s i = ((bl s)[i]).toNat := bt_bl s i _ (List.getElem?_eq_getElem hlt)
    show stp _ (bl s)[i] = _
    have hf := frm_le s i
    unfold stp
    by_cases h : bt s i = 47
    · have hx : (bl s)[i] = 47 := UInt8.toNat_inj.1 (by rw [← hb, h]; rfl)
      rw [if_pos hx, frm_succ_cut h]
      have hn : bl (s.extract (i + 1) (i + 1)) = [] := (extract_nil s _ _ (by omega)).2 (by omega)
      rw [hn]
      by_cases hfi : frm s i < i
      · rw [pcs_succ_cut h hfi, if_neg (by rw [extract_nil s _ _ (by omega)]; omega), List.map_append]
        rfl
      · rw [pcs_succ_not (by omega), if_pos ((extract_nil s _ _ (by omega)).2 hfi)]
    · have hx : (bl s)[i] ≠ 47 := fun e => h (by rw [hb, e]; rfl)
      rw [if_neg hx, frm_succ_not h, pcs_succ_not (fun c => h c.1)]
      simp only [Prod.mk.injEq, true_and]
      rw [bl_extract, bl_extract, Nat.succ_sub hf, List.take_add_one, List.getElem?_drop]
      have : frm s i + (i - frm s i) = i := by omega
      rw [this, List.getElem?_eq_getElem hlt]
      rfl
theorem pieces_comps (s : ByteArray) : (pieces s).map bl = comps (bl s) := by
  have h := fold_pcs s s.size (Nat.le_refl _)
  have ht : (bl s).take s.size = bl s := by rw [← bl_len]; exact List.take_length
  rw [ht] at h
  unfold comps
  rw [h]
  unfold fin pieces
  simp only
  have hb := bt_end s s.size (Nat.le_refl _)
  by_cases hfi : frm s s.size < s.size
  · rw [pcs_succ_cut hb hfi, if_neg (by rw [extract_nil s _ _ (Nat.le_refl _)]; omega), List.map_append]
    rfl
  · rw [pcs_succ_not (by omega), if_pos ((extract_nil s _ _ (Nat.le_refl _)).2 hfi)]
theorem map_bl_inj {l m : List ByteArray} (h : l.map bl = m.map bl) : l = m := by
  induction l generalizing m with
  | nil => cases m with
    | nil => rfl
    | cons a m => simp at h
  | cons a l ih => cases m with
    | nil => simp at h
    | cons b m => simp only [List.map_cons, List.cons.injEq] at h; rw [bl_inj h.1, ih h.2]
theorem pieces_eq {s : ByteArray} {l : List ByteArray} (h : comps (bl s) = l.map bl) : pieces s = l := map_bl_inj ((pieces_comps s).trans h)
theorem pieces_same {s t : ByteArray} (h : comps (bl s) = comps (bl t)) : pieces s = pieces t := map_bl_inj ((pieces_comps s).trans (h.trans (pieces_comps t).symm))

theorem hasB_iff (s : ByteArray) (c : Nat) : hasB s c = true ↔ ∃ b ∈ bl s, b.toNat = c := by
  unfold hasB
  rw [hasF_iff]
  constructor
  · rintro ⟨i, hi, e⟩
    have hlt : i < (bl s).length := by rw [bl_len]; exact hi
    exact ⟨(bl s)[i], List.getElem_mem hlt, by rw [← e]; exact (bt_bl s i _ (List.getElem?_eq_getElem hlt)).symm⟩
  · rintro ⟨b, hb, e⟩
    obtain ⟨i, hi⟩ := List.getElem?_of_mem hb
    exact ⟨i, by have := (List.getElem?_eq_some_iff.1 hi).1; rw [bl_len] at this; exact this, by rw [bt_bl s i b hi, e]⟩
theorem hasB_no {s : ByteArray} {c : Nat} (h : ∀ b ∈ bl s, b.toNat ≠ c) : hasB s c = false := by
  rw [← Bool.not_eq_true, hasB_iff]
  rintro ⟨b, hb, e⟩; exact h b hb e
theorem hasB_not {s : ByteArray} {c : Nat} (h : hasB s c = false) : ∀ b ∈ bl s, b.toNat ≠ c := by
  intro b hb e
  rw [← Bool.not_eq_true, hasB_iff] at h
  exact h ⟨b, hb, e⟩

/-- of a text's components each byte is one of the text's, and no slash -/
theorem fold_mem (l : List UInt8) : ∀ st : List (List UInt8) × List UInt8, (∀ x ∈ st.1, ∀ b ∈ x, b ≠ 47 ∧ b ∈ l) → (∀ b ∈ st.2, b ≠ 47 ∧ b ∈ l) → ∀ m : List UInt8, (∀ b ∈ m, b ∈ l) → (∀ x ∈ (m.foldl stp st).1, ∀ b ∈ x, b ≠ 47 ∧ b ∈ l) ∧ ∀ b ∈ (m.foldl stp st).2, b ≠ 47 ∧ b ∈ l := by
  intro st h1 h2 m
  induction m generalizing st with
  | nil => intro _; exact ⟨h1, h2⟩
  | cons c m ih =>
    intro hm
    rw [List.foldl_cons]
    apply ih
    · intro x hx
      unfold stp at hx
      split at hx
      · split at hx
        · exact h1 x hx
        · rcases List.mem_append.1 hx with hx | hx
          · exact h1 x hx
          · obtain rfl := List.mem_singleton.1 hx; exact h2
      · exact h1 x hx
    · intro b hb
      unfold stp at hb
      split at hb
      · split at hb <;> cases hb
      · rename_i hc
        rcases List.mem_append.1 hb with hb | hb
        · exact h2 b hb
        · obtain rfl := List.mem_singleton.1 hb; exact ⟨hc, hm _ List.mem_cons_self⟩
    · exact fun b hb => hm b (List.mem_cons_of_mem _ hb)
theorem comps_mem (l : List UInt8) : ∀ x ∈ comps l, ∀ b ∈ x, b ≠ 47 ∧ b ∈ l := by
  have h := fold_mem l ([], []) (fun x hx => by cases hx) (fun b hb => by cases hb) l (fun b hb => hb)
  intro x hx
  unfold comps fin at hx
  split at hx
  · exact h.1 x hx
  · rcases List.mem_append.1 hx with hx | hx
    · exact h.1 x hx
    · obtain rfl := List.mem_singleton.1 hx; exact h.2
theorem piece_bytes {s x : ByteArray} (h : x ∈ pieces s) : ∀ b ∈ bl x, b ≠ 47 ∧ b ∈ bl s := by
  have : bl x ∈ comps (bl s) := by rw [← pieces_comps]; exact List.mem_map_of_mem h
  exact comps_mem _ _ this
end Go.Proofs.Ytehpaanpkiidaab
