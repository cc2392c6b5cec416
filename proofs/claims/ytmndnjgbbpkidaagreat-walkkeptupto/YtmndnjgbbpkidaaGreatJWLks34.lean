/- What follows for the plain functions: a slash more turns no component; components are names, or dots. -/
import Derived.Test.YtmndnjgbbpkidaaGreatJWLks33
namespace Go.Proofs.YtmndnjgbbpkidaaGreat
section
theorem cut_ok (s : ByteArray) (b : Bool) : cutE s b = 0 ↔ s.size ≤ 96 ∧ b = true ∧ hasB s 0 = false ∧ longB (pieces s) = false := by
  unfold cutE
  by_cases h1 : 96 < s.size
  · rw [if_pos h1]; constructor
    · intro h; cases h
    · intro h; omega
  · rw [if_neg h1]
    by_cases h2 : b = false ∨ hasB s 0 = true
    · rw [if_pos h2]; constructor
      · intro h; cases h
      · intro h; rcases h2 with h2 | h2
        · rw [h2] at h; exact absurd h.2.1 (by simp)
        · rw [h2] at h; exact absurd h.2.2.1 (by simp)
    · rw [if_neg h2]
      have h3 : b = true := by cases b with
        | false => exact absurd (.inl rfl) h2
        | true => rfl
      have h4 : hasB s 0 = false := by cases h : hasB s 0 with
        | true => exact absurd (.inr h) h2
        | false => rfl
      cases h5 : longB (pieces s)
      · simp [h3, h4]; omega
      · simp
theorem cut_zero {s : ByteArray} {b : Bool} (h : cutE s b = 0) : cutD s b = dirB s ∧ cutL s b = pieces s := by
  constructor
  · unfold cutD; rw [h]; rfl
  · unfold cutL; rw [h]; rfl
theorem cut_bad {s : ByteArray} {b : Bool} (h : cutE s b ≠ 0) : cutD s b = false ∧ cutL s b = [] := by
  constructor
  · unfold cutD; rw [if_neg h]
  · unfold cutL; rw [if_neg h]

theorem dots_size {x : ByteArray} (h : dotsB x = true) : x.size = 1 ∨ x.size = 2 := by
  unfold dotsB at h
  rw [Bool.or_eq_true] at h
  rcases h with h | h
  · have := toList_size x; rw [beq_iff_eq.1 h] at this; exact .inl this.symm
  · have := toList_size x; rw [beq_iff_eq.1 h] at this; exact .inr this.symm
theorem dots_chk {x : ByteArray} (h : dotsB x = true) : chkE x = 10 := by
  have := dots_size h
  unfold chkE
  rw [if_neg (by omega), if_pos (.inr (.inl h))]
theorem chk_ok (x : ByteArray) : chkE x = 0 ↔ x.size ≤ 12 ∧ 0 < x.size ∧ dotsB x = false ∧ hasB x 0 = false ∧ hasB x 47 = false := by
  unfold chkE
  by_cases h1 : 12 < x.size
  · rw [if_pos h1]; constructor
    · intro h; cases h
    · intro h; omega
  · rw [if_neg h1]
    by_cases h2 : x.size = 0 ∨ dotsB x = true ∨ hasB x 0 = true ∨ hasB x 47 = true
    · rw [if_pos h2]; constructor
      · intro h; cases h
      · rintro ⟨_, a, b, c, d⟩
        rcases h2 with h2 | h2 | h2 | h2
        · omega
        · rw [b] at h2; cases h2
        · rw [c] at h2; cases h2
        · rw [d] at h2; cases h2
    · rw [if_neg h2]
      simp only [not_or, Bool.not_eq_true] at h2
      exact ⟨fun _ => ⟨by omega, by omega, h2.2.1, h2.2.2.1, h2.2.2.2⟩, fun _ => rfl⟩
theorem pcs_pos' (s : ByteArray) (i : Nat) (hi : i ≤ s.size + 1) : ∀ x ∈ pcs s i, 0 < x.size := by
  induction i with
  | zero => intro x hx; cases hx
  | succ i ih =>
    intro x hx
    simp only [pcs] at hx
    split at hx
    · rename_i h
      rcases List.mem_append.1 hx with hx | hx
      · exact ih (by omega) x hx
      · obtain rfl := List.mem_singleton.1 hx
        rw [ByteArray.size_extract]; omega
    · exact ih (by omega) x hx
theorem piece_pos {s x : ByteArray} (h : x ∈ pieces s) : 0 < x.size := pcs_pos' s _ (Nat.le_refl _) x h
theorem piece_no {s x : ByteArray} (h : x ∈ pieces s) : hasB x 47 = false ∧ (hasB s 0 = false → hasB x 0 = false) :=
  ⟨hasB_no fun b hb e => (piece_bytes h b hb).1 (UInt8.toNat_inj.1 e), fun h0 => hasB_no fun b hb => hasB_not h0 b (piece_bytes h b hb).2⟩
theorem piece_short {s x : ByteArray} (hl : longB (pieces s) = false) (h : x ∈ pieces s) : x.size ≤ 12 := by
  unfold longB at hl
  rw [List.any_eq_false] at hl
  have := hl x h
  simp only [decide_eq_true_eq] at this
  omega
/-- each component of what is split is . or .. or a name -/
theorem piece_chk {s x : ByteArray} {b : Bool} (h : cutE s b = 0) (hx : x ∈ pieces s) : dotsB x = true ∨ chkE x = 0 := by
  obtain ⟨h1, h2, h3, h4⟩ := (cut_ok s b).1 h
  cases hd : dotsB x
  · exact .inr ((chk_ok x).2 ⟨piece_short h4 hx, piece_pos hx, hd, (piece_no hx).2 h3, (piece_no hx).1⟩)
  · exact .inl rfl

theorem take_bl (s : ByteArray) (k : Nat) : bl (s.extract 0 k) = (bl s).take k := by rw [bl_extract]; simp
theorem drop_bl (s : ByteArray) (k : Nat) : bl (s.extract k s.size) = (bl s).drop k := by
  rw [bl_extract]; apply List.take_of_length_le; rw [List.length_drop, bl_len]; omega
/-- one slash more, at a place -/
def more (s : ByteArray) (k : Nat) : ByteArray := s.extract 0 k ++ ⟨#[47]⟩ ++ s.extract k s.size
theorem more_bl (s : ByteArray) (k : Nat) : bl (more s k) = (bl s).take k ++ 47 :: (bl s).drop k := by
  unfold more; rw [bl_append, bl_append, take_bl, drop_bl]; simp [bl]
theorem more_size (s : ByteArray) (k : Nat) : (more s k).size = s.size + 1 := by
  rw [← bl_len, more_bl, ← bl_len, List.length_append, List.length_cons, List.length_take, List.length_drop]; omega
theorem drop_slash {s : ByteArray} {k : Nat} (hk : k < s.size) (hb : bt s k = 47) : (bl s).drop k = 47 :: (bl s).drop (k + 1) := by
  have hlt : k < (bl s).length := by rw [bl_len]; exact hk
  rw [List.drop_eq_getElem_cons hlt]
  congr 1
  apply UInt8.toNat_inj.1
  rw [← bt_bl s k _ (List.getElem?_eq_getElem hlt), hb]; rfl
theorem more_pieces {s : ByteArray} {k : Nat} (hk : k ≤ s.size) (hb : k < s.size → bt s k = 47) : pieces (more s k) = pieces s := by
  apply pieces_same
  rw [more_bl, comps_slash]
  by_cases h : k < s.size
  · have e : bl s = (bl s).take k ++ 47 :: (bl s).drop (k + 1) := by
      rw [← drop_slash h (hb h), List.take_append_drop]
    rw [drop_slash h (hb h)]
    have e2 : comps (47 :: (bl s).drop (k + 1)) = comps ((bl s).drop (k + 1)) := comps_slash [] _
    rw [e2]
    conv => rhs; rw [e, comps_slash]
  · have hk' : k = (bl s).length := by rw [bl_len]; omega
    rw [hk', List.take_length, List.drop_length, comps_nil, List.append_nil]
theorem more_has {s : ByteArray} {k : Nat} (h : hasB s 0 = false) : hasB (more s k) 0 = false := by
  apply hasB_no
  intro b hb
  rw [more_bl] at hb
  rcases List.mem_append.1 hb with hb | hb
  · exact hasB_not h b (List.mem_of_mem_take hb)
  · rcases List.mem_cons.1 hb with rfl | hb
    · decide
    · exact hasB_not h b (List.mem_of_mem_drop hb)
theorem bt_last {s : ByteArray} {m : List UInt8} {b : UInt8} (h : bl s = m ++ [b]) : bt s (s.size - 1) = b.toNat := by
  apply bt_bl
  rw [← bl_len, h]
  simp
theorem bl_snoc {s : ByteArray} (h : 0 < s.size) : ∃ m b, bl s = m ++ [b] := by
  have hne : bl s ≠ [] := by intro e; have := bl_len s; rw [e] at this; simp at this; omega
  exact ⟨(bl s).dropLast, (bl s).getLast hne, (List.dropLast_concat_getLast hne).symm⟩
theorem bt_head {s : ByteArray} {l : List UInt8} {b : UInt8} (h : bl s = b :: l) : bt s 0 = b.toNat := by
  apply bt_bl; rw [h]; rfl
theorem root_iff (s : ByteArray) : rootB s = true ↔ ∃ l, bl s = 47 :: l := by
  unfold rootB
  rw [Bool.and_eq_true, decide_eq_true_eq, decide_eq_true_eq]
  constructor
  · rintro ⟨h1, h2⟩
    have := drop_slash h1 h2
    rw [List.drop_zero] at this
    exact ⟨_, this⟩
  · rintro ⟨l, h⟩
    exact ⟨by rw [← bl_len, h]; simp, by rw [bt_head h]; rfl⟩
theorem more_root {s : ByteArray} {k : Nat} (h : rootB s = true) : rootB (more s k) = true := by
  obtain ⟨l, hl⟩ := (root_iff s).1 h
  rw [root_iff, more_bl, hl]
  cases k with
  | zero => exact ⟨_, rfl⟩
  | succ k => exact ⟨_, rfl⟩
theorem more_last {s : ByteArray} {k : Nat} (hk : k < s.size) : bt (more s k) ((more s k).size - 1) = bt s (s.size - 1) := by
  obtain ⟨m, b, hm⟩ := bl_snoc (s := s) (by omega)
  rw [bt_last hm]
  have hd : ∃ m', (bl s).drop k = m' ++ [b] := by
    rw [hm]
    have hlen : m.length + 1 = s.size := by rw [← bl_len, hm]; simp
    exact ⟨m.drop k, by rw [List.drop_append_of_le_length (by omega)]⟩
  obtain ⟨m', hm'⟩ := hd
  apply bt_last (m := (bl s).take k ++ 47 :: m')
  rw [more_bl, hm']; simp
theorem more_end (s : ByteArray) : bt (more s s.size) ((more s s.size).size - 1) = 47 := by
  have : bl (more s s.size) = bl s ++ [47] := by rw [more_bl, ← bl_len, List.take_length, List.drop_length]
  rw [bt_last this]; rfl
theorem more_dir {s : ByteArray} {k : Nat} (hk : k < s.size) (hb : bt s k = 47) : dirB (more s k) = dirB s := by
  unfold dirB; rw [more_last hk, more_pieces (by omega) (fun _ => hb)]
theorem more_dir_end (s : ByteArray) : dirB (more s s.size) = true := by
  unfold dirB; rw [more_end]; rfl
theorem more_cut {s : ByteArray} {k : Nat} (h : cutE s (rootB s) = 0) (hs : s.size < 96) (hk : k ≤ s.size) (hb : k < s.size → bt s k = 47) : cutE (more s k) (rootB (more s k)) = 0 := by
  obtain ⟨h1, h2, h3, h4⟩ := (cut_ok _ _).1 h
  exact (cut_ok _ _).2 ⟨by rw [more_size]; omega, more_root h2, more_has h3, by rw [more_pieces hk hb]; exact h4⟩
theorem more_whole (s : ByteArray) : more s s.size = s ++ ⟨#[47]⟩ := by
  apply bl_inj
  rw [more_bl, bl_append, ← bl_len, List.take_length, List.drop_length]

/-- a path without its first slash -/
def tail (s : ByteArray) : ByteArray := s.extract 1 s.size
theorem tail_bl {s : ByteArray} {l : List UInt8} (h : bl s = 47 :: l) : bl (tail s) = l := by unfold tail; rw [drop_bl, h]; rfl
theorem tail_pieces {s : ByteArray} (h : rootB s = true) : pieces (tail s) = pieces s := by
  obtain ⟨l, hl⟩ := (root_iff s).1 h
  apply pieces_same
  rw [tail_bl hl, hl]
  exact (comps_slash [] l).symm
theorem tail_size (s : ByteArray) : (tail s).size = s.size - 1 := by unfold tail; rw [ByteArray.size_extract]; omega
theorem tail_has {s : ByteArray} (h : hasB s 0 = false) : hasB (tail s) 0 = false := hasB_no fun b hb => by
  unfold tail at hb; rw [drop_bl] at hb
  exact hasB_not h b (List.mem_of_mem_drop hb)
theorem tail_last {s : ByteArray} (h : 2 ≤ s.size) : bt (tail s) ((tail s).size - 1) = bt s (s.size - 1) := by
  obtain ⟨m, b, hm⟩ := bl_snoc (s := s) (by omega)
  rw [bt_last hm]
  have hlen : m.length + 1 = s.size := by rw [← bl_len, hm]; simp
  apply bt_last (m := m.drop 1)
  unfold tail
  rw [drop_bl, hm, List.drop_append_of_le_length (by omega)]
theorem tail_dir {s : ByteArray} (h : 2 ≤ s.size) (hr : rootB s = true) : dirB (tail s) = dirB s := by
  unfold dirB; rw [tail_last h, tail_pieces hr]
theorem tail_root {s : ByteArray} (h : 2 ≤ s.size) : rootB (tail s) = decide (bt s 1 = 47) := by
  unfold rootB
  have h1 : decide (0 < (tail s).size) = true := decide_eq_true (by rw [tail_size]; omega)
  rw [h1, Bool.true_and]
  have hlt : 1 < (bl s).length := by rw [bl_len]; omega
  have e1 : bt s 1 = ((bl s)[1]).toNat := bt_bl s 1 _ (List.getElem?_eq_getElem hlt)
  have e2 : bt (tail s) 0 = ((bl s)[1]).toNat := by
    apply bt_bl; unfold tail; rw [drop_bl, List.getElem?_drop]; exact List.getElem?_eq_getElem hlt
  rw [e1, e2]
theorem tail_cut {s : ByteArray} (h : cutE s (rootB s) = 0) : cutE (tail s) true = 0 := by
  obtain ⟨h1, h2, h3, h4⟩ := (cut_ok _ _).1 h
  exact (cut_ok _ _).2 ⟨by rw [tail_size]; omega, rfl, tail_has h3, by rw [tail_pieces h2]; exact h4⟩
theorem tail_cut_root {s : ByteArray} (h : cutE s (rootB s) = 0) (hr : rootB (tail s) = false) : cutE (tail s) (rootB (tail s)) = 12 := by
  obtain ⟨h1, h2, h3, h4⟩ := (cut_ok _ _).1 h
  unfold cutE
  rw [if_neg (by rw [tail_size]; omega), if_pos (.inl hr)]
end
section
open Go.RowKit

theorem pcs_len14 (s : ByteArray) (i : Nat) : 2 * (pcs s i).length ≤ frm s i := by
  induction i with
  | zero => exact Nat.le_refl _
  | succ i ih =>
    simp only [pcs, frm]
    by_cases h : bt s i = 47
    · rw [if_pos h]
      have h2 := frm_le s i
      by_cases h3 : frm s i < i
      · rw [if_pos ⟨h, h3⟩, List.length_append]
        simp only [List.length_cons, List.length_nil]
        omega
      · rw [if_neg (fun hc => h3 hc.2)]
        omega
    · rw [if_neg h, if_neg (fun hc => h hc.1)]
      exact ih
theorem cut48 (s : ByteArray) (b : Bool) : (cutL s b).length ≤ 48 := by
  unfold cutL
  split
  · rename_i h
    have h1 : s.size ≤ 96 := by
      unfold cutE at h
      split at h
      · cases h
      · omega
    have h2 := pcs_len14 s (s.size + 1)
    have h3 := frm_le s (s.size + 1)
    unfold pieces
    omega
  · exact Nat.zero_le _
/-- where the document's walk is: the way has directories alone; it may stand on a node that is none -/
structure Dw (kn : Ky → Option En) (fol : Bool) (O : Ou) (lk : Nat) (L : List ByteArray) (way : List Nd) (pl : Nd) (used : List Ky) (mt : Nat) (dir : Bool) : Prop where
  le : mt ≤ lk
  dirs : ∀ n ∈ way, n.kind = 1
  head : way.head? = some rootN
  last : pl.kind = 1 → way.getLast? = some pl
  goal : goI kn fol (metL kn fol (lk - mt)) L ⟨if pl.kind = 1 then way else way ++ [pl], used, dir⟩ = O
theorem Dw.start (kn : Ky → Option En) (steps : List ByteArray) (dir fol : Bool) (links : Int) : Dw kn fol (stepsO kn steps dir fol links) (linksN links) steps [rootN] rootN [] 0 dir :=
  ⟨Nat.zero_le _, fun n hn => by simp at hn; rw [hn]; rfl, rfl, fun _ => rfl, (congrFun (congrFun (goW_eq kn fol (linksN links)) _) _).symm⟩
section
variable {kn : Ky → Option En} {fol : Bool} {O : Ou} {lk : Nat} {L rest : List ByteArray} {way : List Nd} {pl : Nd} {used : List Ky} {mt : Nat} {dir : Bool} {x : ByteArray}
theorem Dw.ne (h : Dw kn fol O lk L way pl used mt dir) : way ≠ [] := by
  intro e; have := h.head; rw [e] at this; cases this
theorem Dw.here (h : Dw kn fol O lk L way pl used mt dir) : (⟨if pl.kind = 1 then way else way ++ [pl], used, dir⟩ : Ws).here = pl := by
  unfold Ws.here
  by_cases hk : pl.kind = 1
  · simp only [if_pos hk, h.last hk]; rfl
  · simp only [if_neg hk]; simp
theorem Dw.fin (h : Dw kn fol O lk [] way pl used mt dir) : O = if dir = true ∧ pl.kind ≠ 1 then ⟨false, zeroKy, 42, zeroNd, used⟩ else ⟨false, zeroKy, 0, pl, used⟩ := by
  have g := h.goal
  rw [goI] at g
  rw [← g]
  unfold Ws.fin Ws.inD Ws.fail
  rw [h.here]
  cases dir <;> by_cases hk : pl.kind = 1 <;> simp [hk]
theorem Dw.noDir (h : Dw kn fol O lk (x :: rest) way pl used mt dir) (hk : pl.kind ≠ 1) : O = ⟨false, zeroKy, 42, zeroNd, used⟩ := by
  have g := h.goal
  rw [goI] at g
  rw [if_pos (by unfold Ws.inD; rw [h.here]; simp [hk])] at g
  exact g.symm
theorem Dw.inD (h : Dw kn fol O lk L way pl used mt dir) (hk : pl.kind = 1) : ¬ (⟨if pl.kind = 1 then way else way ++ [pl], used, dir⟩ : Ws).inD = false := by
  unfold Ws.inD; rw [h.here]; simp [hk]
theorem Dw.dot (h : Dw kn fol O lk (dot1 :: rest) way pl used mt dir) (hk : pl.kind = 1) : Dw kn fol O lk rest way pl used mt dir := by
  have g := h.goal
  rw [goI, if_neg (h.inD hk), if_pos rfl] at g
  exact ⟨h.le, h.dirs, h.head, h.last, g⟩
/-- one level up -/
def upW (way : List Nd) : List Nd := if 1 < way.length then way.dropLast else way
theorem upW_ne {way : List Nd} (h : way ≠ []) : upW way ≠ [] := by
  unfold upW
  split
  · intro e
    have := congrArg List.length e
    rw [List.length_dropLast] at this
    simp at this
    omega
  · exact h
theorem upW_head {way : List Nd} : (upW way).head? = way.head? := by
  unfold upW
  split
  · match way with
    | [] => rfl
    | [a] => simp at *
    | a :: b :: t => rfl
  · rfl
theorem upW_mem {way : List Nd} {n : Nd} (h : n ∈ upW way) : n ∈ way := by
  unfold upW at h
  split at h
  · exact List.dropLast_subset _ h
  · exact h
theorem Dw.up (h : Dw kn fol O lk (dot2 :: rest) way pl used mt dir) (hk : pl.kind = 1) : ∃ pl', (upW way).getLast? = some pl' ∧ Dw kn fol O lk rest (upW way) pl' used mt dir := by
  have g := h.goal
  rw [goI, if_neg (h.inD hk), if_neg (by decide), if_pos rfl, if_pos hk] at g
  obtain ⟨pl', hp⟩ : ∃ p, (upW way).getLast? = some p := by
    cases hc : (upW way).getLast? with
    | some p => exact ⟨p, rfl⟩
    | none => exact absurd (List.getLast?_eq_none_iff.1 hc) (upW_ne h.ne)
  have hk' : pl'.kind = 1 := h.dirs _ (upW_mem (List.mem_of_getLast? hp))
  refine ⟨pl', hp, h.le, fun n hn => h.dirs n (upW_mem hn), by rw [upW_head]; exact h.head, fun _ => hp, ?_⟩
  rw [if_pos hk']
  exact g
theorem Dw.step (h : Dw kn fol O lk (x :: rest) way pl used mt dir) (hk : pl.kind = 1) (h1 : x ≠ dot1) (h2 : x ≠ dot2) :
    (match kn ⟨pl.id, x⟩ with
      | none => ⟨true, ⟨pl.id, x⟩, 0, zeroNd, used⟩
      | some e =>
        if e.neg then ⟨false, zeroKy, 40, zeroNd, used ++ [⟨pl.id, x⟩]⟩
        else if meetsB fol ⟨way, used, dir⟩ e.nd rest then metL kn fol (lk - mt) e.tg rest ⟨way, used ++ [⟨pl.id, x⟩], dir⟩
        else goI kn fol (metL kn fol (lk - mt)) rest ⟨way ++ [e.nd], used ++ [⟨pl.id, x⟩], dir⟩) = O := by
  have g := h.goal
  rw [goI, if_neg (h.inD hk), if_neg h1, if_neg h2, h.here] at g
  simp only [if_pos hk] at g
  exact g
theorem Dw.none (h : Dw kn fol O lk (x :: rest) way pl used mt dir) (hk : pl.kind = 1) (h1 : x ≠ dot1) (h2 : x ≠ dot2) (hn : kn ⟨pl.id, x⟩ = none) : O = ⟨true, ⟨pl.id, x⟩, 0, zeroNd, used⟩ := by
  have g := h.step hk h1 h2
  rw [hn] at g
  exact g.symm
theorem Dw.neg (h : Dw kn fol O lk (x :: rest) way pl used mt dir) (hk : pl.kind = 1) (h1 : x ≠ dot1) (h2 : x ≠ dot2) {e : En} (hn : kn ⟨pl.id, x⟩ = some e) (hg : e.neg = true) : O = ⟨false, zeroKy, 40, zeroNd, used ++ [⟨pl.id, x⟩]⟩ := by
  have g := h.step hk h1 h2
  rw [hn] at g
  simp only [hg, if_true] at g
  exact g.symm
/-- is the document's link met? -/
def metB (fol dir : Bool) (e : En) (rest : List ByteArray) : Bool := decide (e.kind = 3) && (decide (0 < rest.length) || dir || fol)
theorem Dw.plain (h : Dw kn fol O lk (x :: rest) way pl used mt dir) (hk : pl.kind = 1) (h1 : x ≠ dot1) (h2 : x ≠ dot2) {e : En} (hn : kn ⟨pl.id, x⟩ = some e) (hg : e.neg = false) (hm : metB fol dir e rest = false) :
    Dw kn fol O lk rest (if e.kind = 1 then way ++ [e.nd] else way) e.nd (used ++ [⟨pl.id, x⟩]) mt dir := by
  have g := h.step hk h1 h2
  rw [hn] at g
  have hm2 : meetsB fol ⟨way, used, dir⟩ e.nd rest = false := hm
  simp only [hg, hm2, Bool.false_eq_true, if_false] at g
  have hke : e.nd.kind = e.kind := rfl
  by_cases h3 : e.kind = 1
  · refine ⟨h.le, ?_, ?_, ?_, ?_⟩
    · rw [if_pos h3]
      intro n hn
      rcases List.mem_append.1 hn with hn | hn
      · exact h.dirs n hn
      · simp at hn; rw [hn]; exact h3
    · rw [if_pos h3, List.head?_append, h.head]; rfl
    · intro _; rw [if_pos h3]; simp
    · rw [hke, if_pos h3, if_pos h3]; exact g
  · refine ⟨h.le, ?_, ?_, fun hc => absurd hc h3, ?_⟩
    · rw [if_neg h3]; exact h.dirs
    · rw [if_neg h3]; exact h.head
    · rw [hke, if_neg h3, if_neg h3]; exact g
theorem Dw.loop (h : Dw kn fol O lk (x :: rest) way pl used mt dir) (hk : pl.kind = 1) (h1 : x ≠ dot1) (h2 : x ≠ dot2) {e : En} (hn : kn ⟨pl.id, x⟩ = some e) (hg : e.neg = false) (hm : metB fol dir e rest = true) (hl : lk ≤ mt) : O = ⟨false, zeroKy, 49, zeroNd, used ++ [⟨pl.id, x⟩]⟩ := by
  have g := h.step hk h1 h2
  rw [hn] at g
  have hm2 : meetsB fol ⟨way, used, dir⟩ e.nd rest = true := hm
  have hz : lk - mt = 0 := by omega
  simp only [hg, hm2, hz, Bool.false_eq_true, if_false, if_true] at g
  exact g.symm
theorem Dw.bad (h : Dw kn fol O lk (x :: rest) way pl used mt dir) (hk : pl.kind = 1) (h1 : x ≠ dot1) (h2 : x ≠ dot2) {e : En} (hn : kn ⟨pl.id, x⟩ = some e) (hg : e.neg = false) (hm : metB fol dir e rest = true) (hl : mt < lk) (hE : cutE e.tg (fullB e.tg) ≠ 0) : O = ⟨false, zeroKy, cutE e.tg (fullB e.tg), zeroNd, used ++ [⟨pl.id, x⟩]⟩ := by
  have g := h.step hk h1 h2
  rw [hn] at g
  have hm2 : meetsB fol ⟨way, used, dir⟩ e.nd rest = true := hm
  obtain ⟨l, hz⟩ : ∃ l, lk - mt = l + 1 := ⟨lk - mt - 1, by omega⟩
  simp only [hg, hm2, hz, Bool.false_eq_true, if_false, if_true] at g
  have g2 : metW (goW kn fol l) e.tg rest ⟨way, used ++ [⟨pl.id, x⟩], dir⟩ = O := g
  unfold metW at g2
  rw [if_neg hE] at g2
  exact g2.symm
theorem Dw.link (h : Dw kn fol O lk (x :: rest) way pl used mt dir) (hk : pl.kind = 1) (h1 : x ≠ dot1) (h2 : x ≠ dot2) {e : En} (hn : kn ⟨pl.id, x⟩ = some e) (hg : e.neg = false) (hm : metB fol dir e rest = true) (hl : mt < lk) (hE : cutE e.tg (fullB e.tg) = 0) :
    Dw kn fol O lk (cutL e.tg (fullB e.tg) ++ rest) (if tgtW e.tg then [rootN] else way) (if tgtW e.tg then rootN else pl) (used ++ [⟨pl.id, x⟩]) (mt + 1) (if rest = [] then dir || cutD e.tg (fullB e.tg) else dir) := by
  have g := h.step hk h1 h2
  rw [hn] at g
  have hm2 : meetsB fol ⟨way, used, dir⟩ e.nd rest = true := hm
  obtain ⟨l, hz⟩ : ∃ l, lk - mt = l + 1 := ⟨lk - mt - 1, by omega⟩
  simp only [hg, hm2, hz, Bool.false_eq_true, if_false, if_true] at g
  have g2 : metW (goW kn fol l) e.tg rest ⟨way, used ++ [⟨pl.id, x⟩], dir⟩ = O := g
  unfold metW at g2
  rw [if_pos hE] at g2
  have hl2 : lk - (mt + 1) = l := by omega
  have hdr : (if rest = [] then dir || cutD e.tg (fullB e.tg) else dir) = (if decide (rest.length = 0) then dir || cutD e.tg (fullB e.tg) else dir) := by
    cases rest <;> simp
  cases hT : tgtW e.tg with
  | true =>
    refine ⟨by omega, ?_, rfl, fun _ => rfl, ?_⟩
    · intro n hn; simp at hn; rw [hn]; rfl
    · rw [hl2, ← goW_eq, hdr]
      unfold Ws.met at g2
      rw [hT] at g2
      exact g2
  | false =>
    refine ⟨by omega, h.dirs, h.head, h.last, ?_⟩
    rw [hl2, ← goW_eq, hdr]
    unfold Ws.met at g2
    rw [hT] at g2
    simp only [Bool.false_eq_true, if_false, if_pos hk]
    exact g2
end
end
end Go.Proofs.YtmndnjgbbpkidaaGreat
