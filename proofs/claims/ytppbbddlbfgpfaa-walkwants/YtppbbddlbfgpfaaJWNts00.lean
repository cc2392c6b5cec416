/- The pieces of a text as a list of bytes: a slash parts a text into what stands ahead of it and what stands behind. -/
import Derived.Test.YtppbbddlbfgpfaaJWOme04
namespace Go.Proofs.Ytppbbddlbfgpfaa
section
abbrev bl (s : ByteArray) : List UInt8 := s.data.toList
def mkB (l : List UInt8) : ByteArray := ⟨l.toArray⟩
theorem bl_mk (l : List UInt8) : bl (mkB l) = l := by simp [bl, mkB]
theorem mk_bl (s : ByteArray) : mkB (bl s) = s := by cases s; simp [bl, mkB]
theorem bl_inj {s t : ByteArray} (h : bl s = bl t) : s = t := by rw [← mk_bl s, ← mk_bl t, h]
theorem bl_len (s : ByteArray) : (bl s).length = s.size := by cases s; rfl
theorem bl_toList (s : ByteArray) : s.toList = bl s := ByteArray.toList_eq s
theorem bl_append (s t : ByteArray) : bl (s ++ t) = bl s ++ bl t := by simp [bl, ByteArray.data_append]
theorem bl_extract (s : ByteArray) (a b : Nat) : bl (s.extract a b) = ((bl s).drop a).take (b - a) := by
  simp [bl, ByteArray.data_extract]
theorem bt_bl (s : ByteArray) (i : Nat) (x : UInt8) (h : (bl s)[i]? = some x) : bt s i = x.toNat := by
  obtain ⟨hi, e⟩ := List.getElem?_eq_some_iff.1 h
  rw [bl_len] at hi
  rw [bt_at s i hi, ← e]
  rfl

def stp (st : List (List UInt8) × List UInt8) (b : UInt8) : List (List UInt8) × List UInt8 :=
  if b = 47 then (if st.2 = [] then (st.1, []) else (st.1 ++ [st.2], [])) else (st.1, st.2 ++ [b])
def fin (st : List (List UInt8) × List UInt8) : List (List UInt8) := if st.2 = [] then st.1 else st.1 ++ [st.2]
def comps (l : List UInt8) : List (List UInt8) := fin (l.foldl stp ([], []))

theorem stp_shift (a : List (List UInt8)) (st : List (List UInt8) × List UInt8) (b : UInt8) : stp (a ++ st.1, st.2) b = (a ++ (stp st b).1, (stp st b).2) := by
  unfold stp
  split
  · split <;> simp
  · rfl
theorem fold_shift (a : List (List UInt8)) (l : List UInt8) : ∀ st : List (List UInt8) × List UInt8, l.foldl stp (a ++ st.1, st.2) = (a ++ (l.foldl stp st).1, (l.foldl stp st).2) := by
  induction l with
  | nil => intro st; rfl
  | cons b l ih => intro st; simp only [List.foldl_cons]; rw [stp_shift]; exact ih _
theorem comps_slash (l m : List UInt8) : comps (l ++ 47 :: m) = comps l ++ comps m := by
  unfold comps
  rw [List.foldl_append, List.foldl_cons]
  generalize l.foldl stp ([], []) = st
  have h : stp st 47 = (fin st ++ ([] : List (List UInt8)), ([] : List UInt8)) := by
    unfold stp fin
    rw [if_pos rfl]
    split <;> simp
  rw [h, fold_shift (fin st) m ([], [])]
  generalize m.foldl stp ([], []) = su
  unfold fin
  simp only
  split <;> simp
theorem comps_nil : comps [] = [] := rfl
theorem fold_plain (l : List UInt8) (h : ∀ b ∈ l, b ≠ 47) : ∀ st : List (List UInt8) × List UInt8, l.foldl stp st = (st.1, st.2 ++ l) := by
  induction l with
  | nil => intro st; simp
  | cons b l ih =>
    intro st
    rw [List.foldl_cons, ih (fun c hc => h c (List.mem_cons_of_mem _ hc))]
    unfold stp
    rw [if_neg (h b List.mem_cons_self)]
    simp
theorem comps_word (l : List UInt8) (h : ∀ b ∈ l, b ≠ 47) (hl : l ≠ []) : comps l = [l] := by
  unfold comps
  rw [fold_plain l h]
  unfold fin
  simp [hl]

theorem extract_nil (s : ByteArray) (a i : Nat) (h : i ≤ s.size) : bl (s.extract a i) = [] ↔ ¬ a < i := by
  rw [← List.length_eq_zero_iff, bl_len, ByteArray.size_extract]
  omega
theorem fold_pcs (s : ByteArray) (i : Nat) (hi : i ≤ s.size) : ((bl s).take i).foldl stp ([], []) = ((pcs s i).map bl, bl (s.extract (frm s i) i)) := by
  induction i with
  | zero =>
    simp only [List.take_zero, List.foldl_nil, pcs, List.map_nil, frm]
    rw [(extract_nil s 0 0 (Nat.zero_le _)).2 (by omega)]
  | succ i ih =>
    have hlt : i < (bl s).length := by rw [bl_len]; omega
    rw [List.take_add_one, List.getElem?_eq_getElem hlt, List.foldl_append, ih (by omega)]
    have hb : bt s i = ((bl s)[i]).toNat := bt_bl s i _ (List.getElem?_eq_getElem hlt)
    show stp _ (bl s)[i] = _
    have hf := frm_le s i
    unfold stp
    by_cases h : bt s i = 47
    · have hx : (bl s)[i] = 47 := UInt8.toNat_inj.1 (by rw [← hb, h]; rfl)
      rw [if_pos hx, frm_succ_cut h]
      have hn : bl (s.extract (i + 1) (i + 1)) = [] := (extract_nil s _ _ (by omega)).2 (by omega)
      rw [hn]
      by_cases hfi : frm s i < i
      · rw [pcs_succ_cut h hfi, if_neg (by rw [extract_nil s _ _ (by omega)]; omega), List.map_append]
        rfl
      · rw [pcs_succ_not (by omega), if_pos ((extract_nil s _ _ (by omega)).2 hfi)]
    · have hx : (bl s)[i] ≠ 47 := fun e => h (by rw [hb, e]; rfl)
      rw [if_neg hx, frm_succ_not h, pcs_succ_not (fun c => h c.1)]
      simp only [Prod.mk.injEq, true_and]
      rw [bl_extract, bl_extract, Nat.succ_sub hf, List.take_add_one, List.getElem?_drop]
      have : frm s i + (i - frm s i) = i := by omega
      rw [this, List.getElem?_eq_getElem hlt]
      rfl
theorem pieces_comps (s : ByteArray) : (pieces s).map bl = comps (bl s) := by
  have h := fold_pcs s s.size (Nat.le_refl _)
  have ht : (bl s).take s.size = bl s := by rw [← bl_len]; exact List.take_length
  rw [ht] at h
  unfold comps
  rw [h]
  unfold fin pieces
  simp only
  have hb := bt_end s s.size (Nat.le_refl _)
  by_cases hfi : frm s s.size < s.size
  · rw [pcs_succ_cut hb hfi, if_neg (by rw [extract_nil s _ _ (Nat.le_refl _)]; omega), List.map_append]
    rfl
  · rw [pcs_succ_not (by omega), if_pos ((extract_nil s _ _ (Nat.le_refl _)).2 hfi)]
theorem map_bl_inj {l m : List ByteArray} (h : l.map bl = m.map bl) : l = m := by
  induction l generalizing m with
  | nil => cases m with
    | nil => rfl
    | cons a m => simp at h
  | cons a l ih => cases m with
    | nil => simp at h
    | cons b m => simp only [List.map_cons, List.cons.injEq] at h; rw [bl_inj h.1, ih h.2]
theorem pieces_eq {s : ByteArray} {l : List ByteArray} (h : comps (bl s) = l.map bl) : pieces s = l := map_bl_inj ((pieces_comps s).trans h)
theorem pieces_same {s t : ByteArray} (h : comps (bl s) = comps (bl t)) : pieces s = pieces t := map_bl_inj ((pieces_comps s).trans (h.trans (pieces_comps t).symm))

theorem hasB_iff (s : ByteArray) (c : Nat) : hasB s c = true ↔ ∃ b ∈ bl s, b.toNat = c := by
  unfold hasB
  rw [hasF_iff]
  constructor
  · rintro ⟨i, hi, e⟩
    have hlt : i < (bl s).length := by rw [bl_len]; exact hi
    exact ⟨(bl s)[i], List.getElem_mem hlt, by rw [← e]; exact (bt_bl s i _ (List.getElem?_eq_getElem hlt)).symm⟩
  · rintro ⟨b, hb, e⟩
    obtain ⟨i, hi⟩ := List.getElem?_of_mem hb
    exact ⟨i, by have := (List.getElem?_eq_some_iff.1 hi).1; rw [bl_len] at this; exact this, by rw [bt_bl s i b hi, e]⟩
theorem hasB_no {s : ByteArray} {c : Nat} (h : ∀ b ∈ bl s, b.toNat ≠ c) : hasB s c = false := by
  rw [← Bool.not_eq_true, hasB_iff]
  rintro ⟨b, hb, e⟩; exact h b hb e
theorem hasB_not {s : ByteArray} {c : Nat} (h : hasB s c = false) : ∀ b ∈ bl s, b.toNat ≠ c := by
  intro b hb e
  rw [← Bool.not_eq_true, hasB_iff] at h
  exact h ⟨b, hb, e⟩

/-- of a text's components each byte is one of the text's, and no slash -/
theorem fold_mem (l : List UInt8) : ∀ st : List (List UInt8) × List UInt8, (∀ x ∈ st.1, ∀ b ∈ x, b ≠ 47 ∧ b ∈ l) → (∀ b ∈ st.2, b ≠ 47 ∧ b ∈ l) → ∀ m : List UInt8, (∀ b ∈ m, b ∈ l) → (∀ x ∈ (m.foldl stp st).1, ∀ b ∈ x, b ≠ 47 ∧ b ∈ l) ∧ ∀ b ∈ (m.foldl stp st).2, b ≠ 47 ∧ b ∈ l := by
  intro st h1 h2 m
  induction m generalizing st with
  | nil => intro _; exact ⟨h1, h2⟩
  | cons c m ih =>
    intro hm
    rw [List.foldl_cons]
    apply ih
    · intro x hx
      unfold stp at hx
      split at hx
      · split at hx
        · exact h1 x hx
        · rcases List.mem_append.1 hx with hx | hx
          · exact h1 x hx
          · obtain rfl := List.mem_singleton.1 hx; exact h2
      · exact h1 x hx
    · intro b hb
      unfold stp at hb
      split at hb
      · split at hb <;> cases hb
      · rename_i hc
        rcases List.mem_append.1 hb with hb | hb
        · exact h2 b hb
        · obtain rfl := List.mem_singleton.1 hb; exact ⟨hc, hm _ List.mem_cons_self⟩
    · exact fun b hb => hm b (List.mem_cons_of_mem _ hb)
theorem comps_mem (l : List UInt8) : ∀ x ∈ comps l, ∀ b ∈ x, b ≠ 47 ∧ b ∈ l := by
  have h := fold_mem l ([], []) (fun x hx => by cases hx) (fun b hb => by cases hb) l (fun b hb => hb)
  intro x hx
  unfold comps fin at hx
  split at hx
  · exact h.1 x hx
  · rcases List.mem_append.1 hx with hx | hx
    · exact h.1 x hx
    · obtain rfl := List.mem_singleton.1 hx; exact h.2
theorem piece_bytes {s x : ByteArray} (h : x ∈ pieces s) : ∀ b ∈ bl x, b ≠ 47 ∧ b ∈ bl s := by
  have : bl x ∈ comps (bl s) := by rw [← pieces_comps]; exact List.mem_map_of_mem h
  exact comps_mem _ _ this
end
section
theorem cut_ok (s : ByteArray) (b : Bool) : cutE s b = 0 ↔ s.size ≤ 96 ∧ b = true ∧ hasB s 0 = false ∧ longB (pieces s) = false := by
  unfold cutE
  by_cases h1 : 96 < s.size
  · rw [if_pos h1]; constructor
    · intro h; cases h
    · intro h; omega
  · rw [if_neg h1]
    by_cases h2 : b = false ∨ hasB s 0 = true
    · rw [if_pos h2]; constructor
      · intro h; cases h
      · intro h; rcases h2 with h2 | h2
        · rw [h2] at h; exact absurd h.2.1 (by simp)
        · rw [h2] at h; exact absurd h.2.2.1 (by simp)
    · rw [if_neg h2]
      have h3 : b = true := by cases b with
        | false => exact absurd (.inl rfl) h2
        | true => rfl
      have h4 : hasB s 0 = false := by cases h : hasB s 0 with
        | true => exact absurd (.inr h) h2
        | false => rfl
      cases h5 : longB (pieces s)
      · simp [h3, h4]; omega
      · simp
theorem cut_zero {s : ByteArray} {b : Bool} (h : cutE s b = 0) : cutD s b = dirB s ∧ cutL s b = pieces s := by
  constructor
  · unfold cutD; rw [h]; rfl
  · unfold cutL; rw [h]; rfl
theorem cut_bad {s : ByteArray} {b : Bool} (h : cutE s b ≠ 0) : cutD s b = false ∧ cutL s b = [] := by
  constructor
  · unfold cutD; rw [if_neg h]
  · unfold cutL; rw [if_neg h]

theorem dots_size {x : ByteArray} (h : dotsB x = true) : x.size = 1 ∨ x.size = 2 := by
  unfold dotsB at h
  rw [Bool.or_eq_true] at h
  rcases h with h | h
  · have := toList_size x; rw [beq_iff_eq.1 h] at this; exact .inl this.symm
  · have := toList_size x; rw [beq_iff_eq.1 h] at this; exact .inr this.symm
theorem dots_chk {x : ByteArray} (h : dotsB x = true) : chkE x = 10 := by
  have := dots_size h
  unfold chkE
  rw [if_neg (by omega), if_pos (.inr (.inl h))]
theorem chk_ok (x : ByteArray) : chkE x = 0 ↔ x.size ≤ 12 ∧ 0 < x.size ∧ dotsB x = false ∧ hasB x 0 = false ∧ hasB x 47 = false := by
  unfold chkE
  by_cases h1 : 12 < x.size
  · rw [if_pos h1]; constructor
    · intro h; cases h
    · intro h; omega
  · rw [if_neg h1]
    by_cases h2 : x.size = 0 ∨ dotsB x = true ∨ hasB x 0 = true ∨ hasB x 47 = true
    · rw [if_pos h2]; constructor
      · intro h; cases h
      · rintro ⟨_, a, b, c, d⟩
        rcases h2 with h2 | h2 | h2 | h2
        · omega
        · rw [b] at h2; cases h2
        · rw [c] at h2; cases h2
        · rw [d] at h2; cases h2
    · rw [if_neg h2]
      simp only [not_or, Bool.not_eq_true] at h2
      exact ⟨fun _ => ⟨by omega, by omega, h2.2.1, h2.2.2.1, h2.2.2.2⟩, fun _ => rfl⟩
theorem pcs_pos' (s : ByteArray) (i : Nat) (hi : i ≤ s.size + 1) : ∀ x ∈ pcs s i, 0 < x.size := by
  induction i with
  | zero => intro x hx; cases hx
  | succ i ih =>
    intro x hx
    simp only [pcs] at hx
    split at hx
    · rename_i h
      rcases List.mem_append.1 hx with hx | hx
      · exact ih (by omega) x hx
      · obtain rfl := List.mem_singleton.1 hx
        rw [ByteArray.size_extract]; omega
    · exact ih (by omega) x hx
theorem piece_pos {s x : ByteArray} (h : x ∈ pieces s) : 0 < x.size := pcs_pos' s _ (Nat.le_refl _) x h
theorem piece_no {s x : ByteArray} (h : x ∈ pieces s) : hasB x 47 = false ∧ (hasB s 0 = false → hasB x 0 = false) :=
  ⟨hasB_no fun b hb e => (piece_bytes h b hb).1 (UInt8.toNat_inj.1 e), fun h0 => hasB_no fun b hb => hasB_not h0 b (piece_bytes h b hb).2⟩
theorem piece_short {s x : ByteArray} (hl : longB (pieces s) = false) (h : x ∈ pieces s) : x.size ≤ 12 := by
  unfold longB at hl
  rw [List.any_eq_false] at hl
  have := hl x h
  simp only [decide_eq_true_eq] at this
  omega
/-- each component of what is split is . or .. or a name -/
theorem piece_chk {s x : ByteArray} {b : Bool} (h : cutE s b = 0) (hx : x ∈ pieces s) : dotsB x = true ∨ chkE x = 0 := by
  obtain ⟨h1, h2, h3, h4⟩ := (cut_ok s b).1 h
  cases hd : dotsB x
  · exact .inr ((chk_ok x).2 ⟨piece_short h4 hx, piece_pos hx, hd, (piece_no hx).2 h3, (piece_no hx).1⟩)
  · exact .inl rfl

theorem take_bl (s : ByteArray) (k : Nat) : bl (s.extract 0 k) = (bl s).take k := by rw [bl_extract]; simp
theorem drop_bl (s : ByteArray) (k : Nat) : bl (s.extract k s.size) = (bl s).drop k := by
  rw [bl_extract]; apply List.take_of_length_le; rw [List.length_drop, bl_len]; omega
/-- one slash more, at a place -/
def more (s : ByteArray) (k : Nat) : ByteArray := s.extract 0 k ++ ⟨#[47]⟩ ++ s.extract k s.size
theorem more_bl (s : ByteArray) (k : Nat) : bl (more s k) = (bl s).take k ++ 47 :: (bl s).drop k := by
  unfold more; rw [bl_append, bl_append, take_bl, drop_bl]; simp [bl]
theorem more_size (s : ByteArray) (k : Nat) : (more s k).size = s.size + 1 := by
  rw [← bl_len, more_bl, ← bl_len, List.length_append, List.length_cons, List.length_take, List.length_drop]; omega
theorem drop_slash {s : ByteArray} {k : Nat} (hk : k < s.size) (hb : bt s k = 47) : (bl s).drop k = 47 :: (bl s).drop (k + 1) := by
  have hlt : k < (bl s).length := by rw [bl_len]; exact hk
  rw [List.drop_eq_getElem_cons hlt]
  congr 1
  apply UInt8.toNat_inj.1
  rw [← bt_bl s k _ (List.getElem?_eq_getElem hlt), hb]; rfl
theorem more_pieces {s : ByteArray} {k : Nat} (hk : k ≤ s.size) (hb : k < s.size → bt s k = 47) : pieces (more s k) = pieces s := by
  apply pieces_same
  rw [more_bl, comps_slash]
  by_cases h : k < s.size
  · have e : bl s = (bl s).take k ++ 47 :: (bl s).drop (k + 1) := by
      rw [← drop_slash h (hb h), List.take_append_drop]
    rw [drop_slash h (hb h)]
    have e2 : comps (47 :: (bl s).drop (k + 1)) = comps ((bl s).drop (k + 1)) := comps_slash [] _
    rw [e2]
    conv => rhs; rw [e, comps_slash]
  · have hk' : k = (bl s).length := by rw [bl_len]; omega
    rw [hk', List.take_length, List.drop_length, comps_nil, List.append_nil]
theorem more_has {s : ByteArray} {k : Nat} (h : hasB s 0 = false) : hasB (more s k) 0 = false := by
  apply hasB_no
  intro b hb
  rw [more_bl] at hb
  rcases List.mem_append.1 hb with hb | hb
  · exact hasB_not h b (List.mem_of_mem_take hb)
  · rcases List.mem_cons.1 hb with rfl | hb
    · decide
    · exact hasB_not h b (List.mem_of_mem_drop hb)
theorem bt_last {s : ByteArray} {m : List UInt8} {b : UInt8} (h : bl s = m ++ [b]) : bt s (s.size - 1) = b.toNat := by
  apply bt_bl
  rw [← bl_len, h]
  simp
theorem bl_snoc {s : ByteArray} (h : 0 < s.size) : ∃ m b, bl s = m ++ [b] := by
  have hne : bl s ≠ [] := by intro e; have := bl_len s; rw [e] at this; simp at this; omega
  exact ⟨(bl s).dropLast, (bl s).getLast hne, (List.dropLast_concat_getLast hne).symm⟩
theorem bt_head {s : ByteArray} {l : List UInt8} {b : UInt8} (h : bl s = b :: l) : bt s 0 = b.toNat := by
  apply bt_bl; rw [h]; rfl
theorem root_iff (s : ByteArray) : rootB s = true ↔ ∃ l, bl s = 47 :: l := by
  unfold rootB
  rw [Bool.and_eq_true, decide_eq_true_eq, decide_eq_true_eq]
  constructor
  · rintro ⟨h1, h2⟩
    have := drop_slash h1 h2
    rw [List.drop_zero] at this
    exact ⟨_, this⟩
  · rintro ⟨l, h⟩
    exact ⟨by rw [← bl_len, h]; simp, by rw [bt_head h]; rfl⟩
theorem more_root {s : ByteArray} {k : Nat} (h : rootB s = true) : rootB (more s k) = true := by
  obtain ⟨l, hl⟩ := (root_iff s).1 h
  rw [root_iff, more_bl, hl]
  cases k with
  | zero => exact ⟨_, rfl⟩
  | succ k => exact ⟨_, rfl⟩
theorem more_last {s : ByteArray} {k : Nat} (hk : k < s.size) : bt (more s k) ((more s k).size - 1) = bt s (s.size - 1) := by
  obtain ⟨m, b, hm⟩ := bl_snoc (s := s) (by omega)
  rw [bt_last hm]
  have hd : ∃ m', (bl s).drop k = m' ++ [b] := by
    rw [hm]
    have hlen : m.length + 1 = s.size := by rw [← bl_len, hm]; simp
    exact ⟨m.drop k, by rw [List.drop_append_of_le_length (by omega)]⟩
  obtain ⟨m', hm'⟩ := hd
  apply bt_last (m := (bl s).take k ++ 47 :: m')
  rw [more_bl, hm']; simp
theorem more_end (s : ByteArray) : bt (more s s.size) ((more s s.size).size - 1) = 47 := by
  have : bl (more s s.size) = bl s ++ [47] := by rw [more_bl, ← bl_len, List.take_length, List.drop_length]
  rw [bt_last this]; rfl
theorem more_dir {s : ByteArray} {k : Nat} (hk : k < s.size) (hb : bt s k = 47) : dirB (more s k) = dirB s := by
  unfold dirB; rw [more_last hk, more_pieces (by omega) (fun _ => hb)]
theorem more_dir_end (s : ByteArray) : dirB (more s s.size) = true := by
  unfold dirB; rw [more_end]; rfl
theorem more_cut {s : ByteArray} {k : Nat} (h : cutE s (rootB s) = 0) (hs : s.size < 96) (hk : k ≤ s.size) (hb : k < s.size → bt s k = 47) : cutE (more s k) (rootB (more s k)) = 0 := by
  obtain ⟨h1, h2, h3, h4⟩ := (cut_ok _ _).1 h
  exact (cut_ok _ _).2 ⟨by rw [more_size]; omega, more_root h2, more_has h3, by rw [more_pieces hk hb]; exact h4⟩
theorem more_whole (s : ByteArray) : more s s.size = s ++ ⟨#[47]⟩ := by
  apply bl_inj
  rw [more_bl, bl_append, ← bl_len, List.take_length, List.drop_length]

/-- a path without its first slash -/
def tail (s : ByteArray) : ByteArray := s.extract 1 s.size
theorem tail_bl {s : ByteArray} {l : List UInt8} (h : bl s = 47 :: l) : bl (tail s) = l := by unfold tail; rw [drop_bl, h]; rfl
theorem tail_pieces {s : ByteArray} (h : rootB s = true) : pieces (tail s) = pieces s := by
  obtain ⟨l, hl⟩ := (root_iff s).1 h
  apply pieces_same
  rw [tail_bl hl, hl]
  exact (comps_slash [] l).symm
theorem tail_size (s : ByteArray) : (tail s).size = s.size - 1 := by unfold tail; rw [ByteArray.size_extract]; omega
theorem tail_has {s : ByteArray} (h : hasB s 0 = false) : hasB (tail s) 0 = false := hasB_no fun b hb => by
  unfold tail at hb; rw [drop_bl] at hb
  exact hasB_not h b (List.mem_of_mem_drop hb)
theorem tail_last {s : ByteArray} (h : 2 ≤ s.size) : bt (tail s) ((tail s).size - 1) = bt s (s.size - 1) := by
  obtain ⟨m, b, hm⟩ := bl_snoc (s := s) (by omega)
  rw [bt_last hm]
  have hlen : m.length + 1 = s.size := by rw [← bl_len, hm]; simp
  apply bt_last (m := m.drop 1)
  unfold tail
  rw [drop_bl, hm, List.drop_append_of_le_length (by omega)]
theorem tail_dir {s : ByteArray} (h : 2 ≤ s.size) (hr : rootB s = true) : dirB (tail s) = dirB s := by
  unfold dirB; rw [tail_last h, tail_pieces hr]
theorem tail_root {s : ByteArray} (h : 2 ≤ s.size) : rootB (tail s) = decide (bt s 1 = 47) := by
  unfold rootB
  have h1 : decide (0 < (tail s).size) = true := decide_eq_true (by rw [tail_size]; omega)
  rw [h1, Bool.true_and]
  have hlt : 1 < (bl s).length := by rw [bl_len]; omega
  have e1 : bt s 1 = ((bl s)[1]).toNat := bt_bl s 1 _ (List.getElem?_eq_getElem hlt)
  have e2 : bt (tail s) 0 = ((bl s)[1]).toNat := by
    apply bt_bl; unfold tail; rw [drop_bl, List.getElem?_drop]; exact List.getElem?_eq_getElem hlt
  rw [e1, e2]
theorem tail_cut {s : ByteArray} (h : cutE s (rootB s) = 0) : cutE (tail s) true = 0 := by
  obtain ⟨h1, h2, h3, h4⟩ := (cut_ok _ _).1 h
  exact (cut_ok _ _).2 ⟨by rw [tail_size]; omega, rfl, tail_has h3, by rw [tail_pieces h2]; exact h4⟩
theorem tail_cut_root {s : ByteArray} (h : cutE s (rootB s) = 0) (hr : rootB (tail s) = false) : cutE (tail s) (rootB (tail s)) = 12 := by
  obtain ⟨h1, h2, h3, h4⟩ := (cut_ok _ _).1 h
  unfold cutE
  rw [if_neg (by rw [tail_size]; omega), if_pos (.inl hr)]
end
end Go.Proofs.Ytppbbddlbfgpfaa
