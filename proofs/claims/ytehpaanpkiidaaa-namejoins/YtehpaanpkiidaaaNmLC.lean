/- The walk of the law NameJoins: it returns true. -/
import Derived.Test.YtehpaanpkiidaaaNmE
import Derived.Test.YtehpaanpkiidaaaNmFacts
import Derived.Deep.RegionHeld3
namespace Go.Proofs.Ytehpaanpkiidaaa
open Go.RowKit

/-- names with a slash ahead of each -/
def joinN (l : List ByteArray) : Nat → ByteArray
  | 0 => ⟨#[]⟩
  | k + 1 => if (joinN l k).size ≤ 96 then joinN l k ++ ⟨#[47]⟩ ++ (l[k]?.getD ⟨#[]⟩) else joinN l k
theorem joinN_le (l : List ByteArray) (hl : ∀ x ∈ l, x.size ≤ 12) (k : Nat) : (joinN l k).size ≤ 109 := by
  induction k with
  | zero => exact Nat.zero_le _
  | succ k ih =>
    simp only [joinN]
    split
    · rw [ByteArray.size_append, ByteArray.size_append]
      have : (l[k]?.getD ⟨#[]⟩).size ≤ 12 := by
        cases h : l[k]? with
        | none => exact Nat.zero_le _
        | some x => exact hl x (List.mem_of_getElem? h)
      have e : (⟨#[47]⟩ : ByteArray).size = 1 := rfl
      omega
    · exact ih
/-- behind the loop: all of them, or too long -/
theorem joinN_stop (l : List ByteArray) (k : Nat) (h : 96 < (joinN l k).size) : ∀ m, k ≤ m → joinN l m = joinN l k := by
  intro m hm
  induction m with
  | zero => have : k = 0 := by omega
            rw [this]
  | succ m ih =>
    by_cases hk : k = m + 1
    · rw [hk]
    · have e := ih (by omega)
      simp only [joinN]
      rw [e, if_neg (by omega)]
theorem joinN_grow (l : List ByteArray) (k : Nat) : (joinN l k).size ≤ (joinN l (k + 1)).size := by
  simp only [joinN]
  split
  · rw [ByteArray.size_append, ByteArray.size_append]; omega
  · exact Nat.le_refl _
theorem joinN_short (l : List ByteArray) (n : Nat) (h : (joinN l n).size ≤ 96) : ∀ k, k ≤ n → (joinN l k).size ≤ 96 := by
  intro k hk
  by_cases c : 96 < (joinN l k).size
  · rw [joinN_stop l k c n hk] at h; exact h
  · omega
theorem joinN_bl (l : List ByteArray) (n : Nat) (hn : n ≤ l.length) (h : (joinN l n).size ≤ 96) (hw : ∀ x ∈ l, chkE x = 0) : comps (bl (joinN l n)) = (l.take n).map bl := by
  induction n with
  | zero => rfl
  | succ n ih =>
    have hs := joinN_short l (n + 1) h n (by omega)
    have hlt : n < l.length := by omega
    have e : joinN l (n + 1) = joinN l n ++ ⟨#[47]⟩ ++ l[n] := by
      simp only [joinN]; rw [if_pos hs, List.getElem?_eq_getElem hlt]; rfl
    have hx := (chk_ok _).1 (hw l[n] (List.getElem_mem hlt))
    rw [e, bl_append, bl_append]
    have e2 : bl (joinN l n) ++ bl ⟨#[47]⟩ ++ bl l[n] = bl (joinN l n) ++ 47 :: bl l[n] := by simp [bl]
    rw [e2, comps_slash, ih (by omega) hs, comps_word]
    · rw [List.take_add_one, List.getElem?_eq_getElem hlt, List.map_append]; rfl
    · intro b hb e
      exact hasB_not hx.2.2.2.2 b hb (by rw [e]; rfl)
    · intro e; have := bl_len l[n]; rw [e] at this; simp at this; omega
theorem joinN_pieces (l : List ByteArray) (h : (joinN l l.length).size ≤ 96) (hw : ∀ x ∈ l, chkE x = 0) : pieces (joinN l l.length) = l :=
  pieces_eq (by rw [joinN_bl l l.length (Nat.le_refl _) h hw, List.take_length])
theorem joinN_has (l : List ByteArray) (n : Nat) (hw : ∀ x ∈ l, chkE x = 0) : hasB (joinN l n) 0 = false := by
  induction n with
  | zero => rfl
  | succ n ih =>
    simp only [joinN]
    split
    · apply hasB_no
      intro b hb
      rw [bl_append, bl_append] at hb
      rcases List.mem_append.1 hb with hb | hb
      · rcases List.mem_append.1 hb with hb | hb
        · exact hasB_not ih b hb
        · have : b = 47 := by simpa [bl] using hb
          rw [this]; decide
      · cases hx : l[n]? with
        | none => rw [hx] at hb; simp [bl] at hb
        | some x =>
          rw [hx] at hb
          exact hasB_not ((chk_ok x).1 (hw x (List.mem_of_getElem? hx))).2.2.2.1 b hb
    · exact ih
theorem joinN_root (l : List ByteArray) (n : Nat) : 0 < n → rootB (joinN l n) = true := by
  induction n with
  | zero => intro h; omega
  | succ n ih =>
    intro _
    by_cases h0 : n = 0
    · subst h0
      rw [root_iff]
      refine ⟨bl (l[0]?.getD ⟨#[]⟩), ?_⟩
      show bl (if (0 : Nat) ≤ 96 then _ else _) = _
      rw [if_pos (by omega), bl_append, bl_append]; simp [bl, joinN]
    · simp only [joinN]
      split
      · obtain ⟨m, hm⟩ := (root_iff _).1 (ih (by omega))
        rw [root_iff]
        exact ⟨_, by rw [bl_append, bl_append, hm]; rfl⟩
      · exact ih (by omega)
theorem long_chk {l : List ByteArray} (hw : ∀ x ∈ l, chkE x = 0) : longB l = false := by
  unfold longB
  rw [List.any_eq_false]
  intro x hx
  have := ((chk_ok x).1 (hw x hx)).1
  simp; omega
/-- a joined path: its answers -/
theorem joined_facts (l : List ByteArray) (hl : l ≠ []) (h : (joinN l l.length).size ≤ 96) (hw : ∀ x ∈ l, chkE x = 0) :
    rootB (joinN l l.length) = true ∧ cutE (joinN l l.length) (rootB (joinN l l.length)) = 0 ∧ pieces (joinN l l.length) = l ∧ dirB (joinN l l.length) = false ∧ 2 ≤ (joinN l l.length).size ∧ bt (joinN l l.length) 1 ≠ 47 := by
  have hpos : 0 < l.length := List.length_pos_iff.2 hl
  have hp := joinN_pieces l h hw
  have hr := joinN_root l l.length hpos
  have hc : cutE (joinN l l.length) (rootB (joinN l l.length)) = 0 := (cut_ok _ _).2 ⟨h, hr, joinN_has l _ hw, by rw [hp]; exact long_chk hw⟩
  -- the last component
  obtain ⟨n, hn⟩ : ∃ n, l.length = n + 1 := ⟨l.length - 1, by omega⟩
  have hs := joinN_short l l.length h n (by omega)
  have hlt : n < l.length := by omega
  have hx := (chk_ok _).1 (hw l[n] (List.getElem_mem hlt))
  have e : joinN l l.length = joinN l n ++ ⟨#[47]⟩ ++ l[n] := by
    rw [hn]; simp only [joinN]; rw [if_pos hs, List.getElem?_eq_getElem hlt]; rfl
  obtain ⟨m, b, hm⟩ := bl_snoc (s := l[n]) hx.2.1
  have hlast : bt (joinN l l.length) ((joinN l l.length).size - 1) = b.toNat := by
    apply bt_last (m := bl (joinN l n) ++ 47 :: m)
    rw [e, bl_append, bl_append, hm]; simp [bl]
  have hb47 : b.toNat ≠ 47 := hasB_not hx.2.2.2.2 b (by rw [hm]; simp)
  have hlt2 : lastT l = l[n] := by
    unfold lastT; rw [List.getLast?_eq_getElem?, hn, Nat.add_sub_cancel, List.getElem?_eq_getElem hlt]; rfl
  refine ⟨hr, hc, hp, ?_, ?_, ?_⟩
  · unfold dirB
    rw [hlast, decide_eq_false hb47, hp, hlt2, hx.2.2.1]; rfl
  · rw [e, ByteArray.size_append, ByteArray.size_append]
    have : (⟨#[47]⟩ : ByteArray).size = 1 := rfl
    have := hx.2.1; omega
  · -- the byte behind the first slash
    have h0 : 0 < l.length := hpos
    have hx0 := (chk_ok _).1 (hw l[0] (List.getElem_mem h0))
    have key : ∀ k, 0 < k → k ≤ l.length → ∃ b t, bl l[0] = b :: t ∧ (bl (joinN l k))[1]? = some b := by
      have hne : bl l[0] ≠ [] := by intro e; have := bl_len l[0]; rw [e] at this; simp at this; omega
      obtain ⟨b0, t0, ht⟩ : ∃ b0 t0, bl l[0] = b0 :: t0 := by
        cases hb : bl l[0] with
        | nil => exact absurd hb hne
        | cons b0 t0 => exact ⟨b0, t0, rfl⟩
      intro k
      induction k with
      | zero => intro h; omega
      | succ k ih =>
        intro _ hk
        refine ⟨b0, t0, ht, ?_⟩
        by_cases hk0 : k = 0
        · subst hk0
          have : joinN l 1 = ⟨#[]⟩ ++ ⟨#[47]⟩ ++ l[0] := by
            show (if (0 : Nat) ≤ 96 then _ else _) = _
            rw [if_pos (by omega), List.getElem?_eq_getElem h0]; rfl
          rw [this, bl_append, bl_append, ht]; rfl
        · obtain ⟨b', t', h1, h2⟩ := ih (by omega) (by omega)
          rw [ht] at h1
          simp only [List.cons.injEq] at h1
          rw [← h1.1] at h2
          simp only [joinN]
          split
          · rw [bl_append, bl_append, List.append_assoc, List.getElem?_append_left (List.getElem?_eq_some_iff.1 h2).1]; exact h2
          · exact h2
    obtain ⟨b1, t1, h1, h2⟩ := key l.length hpos (Nat.le_refl _)
    rw [bt_bl _ _ _ h2]
    exact hasB_not hx0.2.2.2.2 b1 (by rw [h1]; simp)

set_option maxHeartbeats 1000000 in
theorem joined_any (a : Option Addr) (l : List ByteArray) (cap : Nat) (w : World) (hrow : RowS w a l) (hl : l.length ≤ maxLen) (hw : ∀ x ∈ l, x.size ≤ 12) :
    Calls Try.prog 19 #[.slice a l.length cap] w fun e w' => e = .returned (.string (joinN l l.length)) ∧ w' = w := by
  have HS : Hid (∀ k, (joinN l k).size ≤ 109) := fun k => joinN_le l hw k
  unfold maxLen at hl
  clear hw
  go_enter Try.func19, Try.ntmps19
  go_wp2
  go_loop [3, 4] (fun t i => ∃ k : Nat, k ≤ l.length ∧ t = .string (joinN l k) ∧ i = .int .i64 k) (fun _ i => l.length - (intOf i).toNat)
  case atStart => exact ⟨0, Nat.zero_le _, rfl, rfl⟩
  case round =>
    obtain ⟨k, hk, rfl, rfl⟩ := hrel
    have hsz := HS.out k
    by_cases hlt : k < l.length
    · have hki : (k : Int) < (l.length : Int) := by omega
      by_cases h96 : (joinN l k).size ≤ 96
      · rcases hrow with h0 | ⟨g, off, rfl, hbs, hc⟩
        · rw [h0] at hlt; simp at hlt
        have hcell := hc k _ (List.getElem?_eq_getElem hlt)
        have e : Hid (joinN l (k + 1) = joinN l k ++ ⟨#[47]⟩ ++ l[k]) := by
          show joinN l (k + 1) = _
          simp only [joinN]; rw [if_pos h96, List.getElem?_eq_getElem hlt]; rfl
        obtain ⟨x, hx⟩ : ∃ x, l[k] = x := ⟨_, rfl⟩
        have hxs : x.size ≤ 109 := by
          have h1 := HS.out (k + 1)
          rw [e.out, ByteArray.size_append, hx] at h1; omega
        rw [hx] at hcell e
        have hjs : (joinN l k).size + 1 + x.size ≤ 9223372036854775807 := by omega
        obtain ⟨j, hj⟩ : ∃ j, joinN l k = j := ⟨_, rfl⟩
        rw [hj] at e hsz h96 hjs ⊢
        have HJ : Hid (joinN l k = j) := hj
        clear hc hx hj
        go_wp2
        go_round
        case rel => exact ⟨k + 1, by omega, by rw [e.out], by go_num⟩
        case measure => simp [intOf]; omega
      · have e : Hid (joinN l l.length = joinN l k) := joinN_stop l k (by omega) l.length hk
        go_wp2
        go_ret
        rw [e.out]
        exact ⟨rfl, rfl⟩
    · obtain rfl : k = l.length := by omega
      go_wp2
      go_ret
      exact ⟨rfl, rfl⟩

theorem same_n (a a' : Option Addr) (l : List ByteArray) (n n' cap cap' : Nat) (w : World) (h : RowS w a l) (h' : RowS w a' l) (hn : n = l.length) (hn' : n' = l.length) (hl : l.length ≤ 140737488355328) :
    Calls Try.prog 14 #[.slice a n cap, .slice a' n' cap'] w fun e w' => e = .returned (.bool true) ∧ Below w.heap.size w w' := by
  subst hn; subst hn'; exact same_any a a' l cap cap' w h h' hl
theorem RowS.init {w : World} {a : Option Addr} {l : List ByteArray} (h : RowS w a l) : RowS w a l.dropLast := by
  rcases h with h | ⟨b, off, rfl, hs, hc⟩
  · rw [h]; exact .inl rfl
  · refine .inr ⟨b, off, rfl, hs, fun i x hx => hc i x ?_⟩
    rw [List.getElem?_dropLast] at hx
    split at hx
    · exact hx
    · cases hx

set_option maxHeartbeats 4000000 in
theorem walk_NameJoins (a : Option Addr) (l : List ByteArray) (cap : Nat) (w : World) (hrow : RowS w a l) (hl : l.length ≤ cap ∧ cap ≤ maxLen) :
    Calls Try.prog 7 #[.slice a l.length cap] w fun e w' => e = .returned (.bool true) ∧ Below w.heap.size w w' := by
  obtain ⟨hlc, hcm⟩ := hl
  have hlm : l.length ≤ maxLen := Nat.le_trans hlc hcm
  have HM : Hid (l.length ≤ maxLen) := hlm
  unfold maxLen at hlm hcm
  go_enter Try.func7, Try.ntmps7
  go_wp2
  go_loopw [3] (fun i wr => ∃ k : Nat, k ≤ l.length ∧ i = .int .i64 k ∧ (∀ j x, j < k → l[j]? = some x → chkE x = 0) ∧ Below w.heap.size w wr) (fun i _ => l.length - (intOf i).toNat)
  case atStart => exact ⟨0, Nat.zero_le _, rfl, fun j x h => by omega, Below.refl _ _⟩
  case round =>
    obtain ⟨k, hk, rfl, hall, hb⟩ := hrel
    by_cases hlt : k < l.length
    · rcases RowS.below hrow hb with h0 | ⟨g, off, rfl, hbs, hc⟩
      · rw [h0] at hlt; simp at hlt
      obtain ⟨x, hx⟩ : ∃ x, l[k]? = some x := ⟨_, List.getElem?_eq_getElem hlt⟩
      have hcell := hc k x hx
      have hki : (k : Int) < (l.length : Int) := by omega
      clear hc
      obtain ⟨C, hC⟩ : ∃ C, chkE x = C := ⟨_, rfl⟩
      have HC : Hid (chkE x = C) := hC
      by_cases h0 : C = 0
      · have hall2 : ∀ j y, j < k + 1 → l[j]? = some y → chkE y = 0 := fun j y hj hy => by
          by_cases hjk : j = k
          · subst hjk; rw [hx] at hy; cases hy; rw [hC, h0]
          · exact hall j y (by omega) hy
        clear hall hx hC
        go_wp2_with (go_at_call 9; refine (check_any _ _).mono ?_; rintro e w3 ⟨rfl, hb3⟩; rw [HC.out, h0])
        go_roundw
        case rel => exact ⟨k + 1, by omega, by go_num, hall2, chainB hb hb3⟩
        case measure => simp [intOf]; omega
      · clear hall hx hC
        go_wp2_with (first
          | (go_at_call 9; refine (check_any _ _).mono ?_; rintro e w3 ⟨rfl, hb3⟩; rw [HC.out])
          | (go_at_call 11; refine (awake_any _).mono ?_; rintro e w4 ⟨rfl, hb4⟩))
        go_ret
        exact ⟨rfl, chainB hb (chainB hb3 hb4)⟩
    · obtain rfl : k = l.length := by omega
      have hw : ∀ x ∈ l, chkE x = 0 := fun x hx => by
        obtain ⟨i, hi⟩ := List.getElem?_of_mem hx
        exact hall i x (List.getElem?_eq_some_iff.1 hi).1 hi
      have HW : Hid (∀ x ∈ l, x.size ≤ 12) := fun x hx => ((chk_ok x).1 (hw x hx)).1
      have hrow2 := RowS.below hrow hb
      by_cases hne : l = []
      · subst hne
        have hj : ∀ w, Calls Try.prog 19 #[.slice a 0 cap] w fun e w' => e = .returned (.string ⟨#[]⟩) ∧ w' = w := fun w => joined_any a [] cap w (.inl rfl) HM.out HW.out
        clear hall hw
        go_wp2_with (first
          | (go_at_call 19; refine (hj _).mono ?_; rintro e w' ⟨rfl, rfl⟩)
          | (go_at_call 11; refine (awake_any _).mono ?_; rintro e w4 ⟨rfl, hb4⟩))
        go_ret
        exact ⟨rfl, chainB hb hb4⟩
      · have hlp : 0 < l.length := List.length_pos_iff.2 hne
        have hln : ((l.length : Int) == 0) = false := by rw [show (0 : Int) = ((0 : Nat) : Int) from rfl, int_beq]; exact decide_eq_false (by omega)
        have hj := fun w (h : RowS w a l) => joined_any a l cap w h HM.out HW.out
        have hX1 := joinN_le l HW.out l.length
        by_cases h96 : (joinN l l.length).size ≤ 96
        · obtain ⟨f1, f2, f3, f4, f5, f6⟩ := joined_facts l hne h96 hw
          have hget := lastT_get hne
          have hlast := (chk_ok _).1 (hw _ (List.mem_of_getElem? hget))
          obtain ⟨X, hX⟩ : ∃ X, joinN l l.length = X := ⟨_, rfl⟩
          rw [hX] at f1 f2 f3 f4 f5 f6 h96 hX1
          have HX : Hid (joinN l l.length = X) := hX
          have p0 : parE X = 0 := by unfold parE; rw [f2, if_pos rfl, f3, if_neg (by rw [hlast.2.2.1]; simp; intro e; rw [e] at hlast; exact absurd hlast.2.1 (by decide))]
          have HS : Hid (cutE X (rootB X) = 0 ∧ cutD X (rootB X) = false ∧ cutL X (rootB X) = l) := ⟨f2, by rw [(cut_zero f2).1, f4], by rw [(cut_zero f2).2, f3]⟩
          have HP : Hid (parE X = 0 ∧ parL X = l.dropLast ∧ parT X = lastT l) := ⟨p0, by unfold parL; rw [p0, f3]; rfl, by unfold parT; rw [p0, f3]; rfl⟩
          have t0 := tail_cut f2
          have tf : fullB (tail X) = true := by rw [full_iff]; exact decide_eq_true (by rw [tail_size]; omega)
          have tr : rootB (tail X) = false := by rw [tail_root f5]; exact decide_eq_false f6
          have HT : Hid (cutE (tail X) (fullB (tail X)) = 0 ∧ tgtW (tail X) = false ∧ cutD (tail X) (fullB (tail X)) = false ∧ cutL (tail X) (fullB (tail X)) = l) := by
            rw [tf]
            refine ⟨t0, ?_, ?_, ?_⟩
            · unfold tgtW; rw [tr, Bool.and_false]
            · rw [(cut_zero t0).1, tail_dir f5 f1, f4]
            · rw [(cut_zero t0).2, tail_pieces f1, f3]
          obtain ⟨Z, hZ⟩ : ∃ Z, lastT l = Z := ⟨_, rfl⟩
          rw [hZ] at hget HP
          have hdl : l.length - 1 = l.dropLast.length := by rw [List.length_dropLast]
          have HDL : Hid (l.length - 1 = l.dropLast.length) := hdl
          have hll : l.length ≤ 97 := by rw [← f3]; exact Nat.le_trans (pcs_len X _) (by omega)
          clear f1 f2 f3 f4 f6 hlast hX p0 t0 tf tr hZ hall hw hdl hrow
          rcases hrow2 with h0 | ⟨g, off, rfl, hbs, hc⟩
          · exact absurd h0 hne
          have hcell := hc _ _ hget
          have hrow2 : RowS wr (some ⟨g, off, none⟩) l := .inr ⟨g, off, rfl, hbs, hc⟩
          clear hc hget
          go_wp2_with (first
            | (go_at_call 19; refine (hj _ hrow2).mono ?_; rintro e w' ⟨rfl, rfl⟩; rw [HX.out])
            | (go_at_call 12; refine (split_any X _).mono ?_; rintro e w3 ⟨v3, rfl, hown3, hb3⟩; rw [HS.out.1, HS.out.2.1]; rw [HS.out.2.2] at hown3)
            | (go_at_call 17; refine (parent_any X _).mono ?_; rintro e w4 ⟨v4, rfl, hown4, hb4⟩; rw [HP.out.1, HP.out.2.2]; rw [HP.out.2.1] at hown4)
            | (go_at_call 15; refine (target_any (tail X) _).mono ?_; rintro e w5 ⟨v5, rfl, hown5, hb5⟩; rw [HT.out.1, HT.out.2.1, HT.out.2.2.1]; rw [HT.out.2.2.2] at hown5; obtain ⟨a3, cap3, rfl, r3⟩ := (hown3.below (chainB hb4 hb5)).row; obtain ⟨a4, cap4, rfl, r4⟩ := (hown4.below hb5).row; obtain ⟨a5, cap5, rfl, r5⟩ := hown5.row; have r0 := RowS.below hrow2 (chainB hb3 (chainB hb4 hb5)); have hcell5 : w5.cell? _ = _ := ((chainB hb3 (chainB hb4 hb5)).cell (by exact hbs)).trans hcell; clear hown3 hown4 hown5))
          have hz0 : (Z.toList == Z.toList) = true := by simp
          have hl5 : l.length ≤ 140737488355328 := by omega
          have hl6 : l.dropLast.length ≤ 140737488355328 := by rw [← HDL.out]; omega
          have hB := chainB hb (chainB hb3 (chainB hb4 hb5))
          have hs5 : g < w5.heap.size := Nat.lt_of_lt_of_le hbs (chainB hb3 (chainB hb4 hb5)).size
          clear hb hb3 hb4 hb5 hcell hrow2 hj
          go_wp2_with (first
            | (go_at_call_of 14 (Value.slice a3 l.length cap3); refine (same_n a3 _ l _ _ _ _ _ r3 r0 rfl rfl hl5).mono ?_; rintro e w6 ⟨rfl, hb6⟩; have r5' := RowS.below r5 hb6; have r4' := RowS.below r4 hb6; have r0' := RowS.below r0 hb6; have hcell6 : w6.cell? _ = _ := (hb6.cell (by exact hs5)).trans hcell5)
            | (go_at_call_of 14 (Value.slice a5 l.length cap5); refine (same_n a5 _ l _ _ _ _ _ r5' r0' rfl rfl hl5).mono ?_; rintro e w7 ⟨rfl, hb7⟩; have r4'' := RowS.below r4' hb7; have r0'' := RowS.init (RowS.below r0' hb7); have hcell7 : w7.cell? _ = _ := (hb7.cell (by exact Nat.lt_of_lt_of_le hs5 hb6.size)).trans hcell6)
            | (go_at_call 14; refine (same_n a4 _ l.dropLast _ _ _ _ _ r4'' r0'' HDL.out HDL.out hl6).mono ?_; rintro e w8 ⟨rfl, hb8⟩; have hcell8 : w8.cell? _ = _ := (hb8.cell (by exact Nat.lt_of_lt_of_le hs5 (chainB hb6 hb7).size)).trans hcell7)
            | (go_at_call 11; refine (awake_any _).mono ?_; rintro e w9 ⟨rfl, hb9⟩))
          go_ret
          exact ⟨rfl, chainB hB (chainB hb6 (chainB hb7 (chainB hb8 hb9)))⟩
        · go_wp2_with (first
            | (go_at_call 19; refine (hj _ hrow2).mono ?_; rintro e w' ⟨rfl, rfl⟩)
            | (go_at_call 11; refine (awake_any _).mono ?_; rintro e w4 ⟨rfl, hb4⟩))
          go_ret
          exact ⟨rfl, chainB hb hb4⟩
end Go.Proofs.Ytehpaanpkiidaaa
