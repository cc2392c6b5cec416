/- The walk of the law NameEnds: it returns true. -/
import Derived.Test.YtehpaanpkiidaabNmE
import Derived.Test.YtehpaanpkiidaabNmFacts
import Derived.Deep.RegionHeld3
namespace Go.Proofs.Ytehpaanpkiidaab
open Go.RowKit

/-- an append that is done under a guard -/
theorem wpList_append_wanted {P : Program} (w : World) {ops : Array Oper} {rest : List Oper} {o : Oper} {a : Act} {Q : Exit → Act → World → Prop} (hw : Region.wanted o (yielded ops a.tmps) = true) (s x : Operand) (t : TypeId)
    (ho : o.op = .call { callee := .builtin .append, args := #[s, x], argTypes := #[t, t] })
    (base : Nat) (e : TypeId) (i : TypeInfo) (z : Value) (size bytes : Nat) (ht : P.underlying t = some (.slice e)) (hi : P.info? e = some i) (hz : i.zero = some z)
    (hsize : i.size = size) (hby : i.bytes = bytes) (hzs : z.cells.size = size) (hsz : 0 < size)
    (v : Value) (n : Nat) (xs : List Value) (hs : a.eval s = v) (hown : w.ownsRow base e size v n xs)
    (ad : Addr) (m c : Nat) (news : List Value) (hx : a.eval x = .slice (some ad) m c) (hl : news.length = m * size) (hnews : ∀ j u, news[j]? = some u → w.cell? (ad.add j) = some u) (h1 : ∀ u ∈ news, u.oneCell' = true)
    (h63 : n + m ≤ maxLen) (hbytes : (n + m) * bytes ≤ 140737488355328) (hbase : base ≤ w.heap.size)
    (h : ∀ v' w', w'.ownsRow base e size v' (n + m) (xs ++ news) → w.grownBy w' v.ownBlock → wpList P ops Q rest (a.put o.dst v') w') : wpList P ops Q (o :: rest) a w :=
  wpList_step fun K hK => by
    rw [if_pos hw]
    exact wp_append_own w s x t ho base e i z size bytes ht hi hz hsize hby hzs hsz v n xs hs hown ad m c news hx hl hnews h1 h63 hbytes hbase fun v' w' h2 h3 _ => hK _ _ (h v' w' h2 h3)

theorem one_text (w : World) (x : ByteArray) : ∀ (j : Nat) (u : Value), [Value.string x][j]? = some u → (w.alloc (.cells #[.string x] 9)).cell? ((⟨w.heap.size, 0, none⟩ : Addr).add j) = some u := by
  intro j u hj
  match j, hj with
  | 0, hj => simp at hj; subst hj; simp [Addr.add]
theorem one_cell (x : ByteArray) : ∀ u ∈ [Value.string x], u.oneCell' = true := by
  intro u hu; simp at hu; subst hu; rfl
/-- behind an append of one text -/
theorem Own.more {W w w1 : World} {base n : Nat} {v v' : Value} {l : List ByteArray} {x : ByteArray} (hb : Below base W w) (hbs : base ≤ w.heap.size) (hown : Own w base v l)
    (ho : w1.ownsRow base 9 1 v' (l.length + 1) (l.map Value.string ++ [Value.string x])) (hg : (w.alloc (.cells #[.string x] 9)).grownBy w1 v.ownBlock) (hn : n = base) : Own w1 base v' (l ++ [x]) ∧ Below n W w1 := by
  subst hn
  refine ⟨?_, Below.grown (hb.alloc hbs _) hg (by simp; omega) (fun q hq => (hown.lt q hq).1)⟩
  unfold Own
  rw [List.length_append, List.map_append]; exact ho

set_option maxHeartbeats 1000000 in
theorem copy_any (v : Value) (l : List ByteArray) (base : Nat) (w : World) (h : Own w base v l) (hl : l.length ≤ 1000) :
    Calls Try.prog 13 #[v] w fun e w' => ∃ v', e = .returned v' ∧ Own w' w.heap.size v' l ∧ Below w.heap.size w w' := by
  obtain ⟨i0, hi, hz0, hz1, hz2⟩ := info_parts Try.infoS
  have h' := h
  unfold Own at h'
  go_enter Try.func13, Try.ntmps13
  rcases h.2 with ⟨rfl, h2⟩ | ⟨g, cap, cur, rfl, hg, hh, r⟩
  · obtain rfl : l = [] := List.length_eq_zero_iff.1 h2
    go_wp2
    go_ret
    exact ⟨_, rfl, Own.nil _ _, Below.refl _ _⟩
  · have hcells : ∀ j u, (l.map Value.string)[j]? = some u → w.cell? ((⟨g, 0, none⟩ : Addr).add j) = some u := h'.cells rfl
    clear h' hh r
    go_wp2_with (at_builtin; refine wpList_append_own _ rfl _ _ 22 rfl w.heap.size 9 i0 (.string ⟨#[]⟩) 1 16 Try.underlying22 hi hz0 hz1 hz2 rfl (by decide) _ 0 [] rfl (World.ownsRow_nil _ _ _ _) ⟨g, 0, none⟩ l.length cap (l.map Value.string) rfl (by simp) hcells ?c2 ?c3 ?c4 ?c5 ?_)
    case c2 => intro u hu; rw [List.mem_map] at hu; obtain ⟨x, _, rfl⟩ := hu; rfl
    case c3 => unfold maxLen; omega
    case c4 => omega
    case c5 => exact Nat.le_refl _
    intro v' w1 hown' hgrow _
    have hb1 : Below w.heap.size w w1 := Below.grown (Below.refl _ _) hgrow (Nat.le_refl _) (fun q hq => by cases hq)
    clear hgrow hcells
    go_wp2
    go_ret
    exact ⟨_, rfl, hown', hb1⟩

theorem par_zero {s : ByteArray} (h : cutE s (rootB s) = 0) : (parE s = 10 ∧ (pieces s = [] ∨ dotsB (lastT (pieces s)) = true)) ∨ (parE s = 0 ∧ pieces s ≠ [] ∧ dotsB (lastT (pieces s)) = false) := by
  unfold parE
  rw [h, if_pos rfl]
  by_cases c : (lastT (pieces s)).size = 0 ∨ dotsB (lastT (pieces s)) = true
  · rw [if_pos c]
    rcases c with c | c
    · exact .inl ⟨rfl, .inl ((last_zero s).1 c)⟩
    · exact .inl ⟨rfl, .inr c⟩
  · rw [if_neg c]
    simp only [not_or, Bool.not_eq_true] at c
    exact .inr ⟨rfl, fun e => c.1 ((last_zero s).2 e), c.2⟩
theorem par_of {s : ByteArray} (h : parE s = 0) : parL s = (pieces s).dropLast ∧ parT s = lastT (pieces s) := ⟨by unfold parL; rw [h]; rfl, by unfold parT; rw [h]; rfl⟩
theorem par_not {s : ByteArray} (h : parE s ≠ 0) : parL s = [] ∧ parT s = ⟨#[]⟩ := ⟨by unfold parL; rw [if_neg h], by unfold parT; rw [if_neg h]⟩
theorem drop_last {l : List ByteArray} (h : l ≠ []) : l.dropLast ++ [lastT l] = l := by
  have e : lastT l = l.getLast h := by unfold lastT; rw [List.getLast?_eq_some_getLast h]; rfl
  rw [e]; exact List.dropLast_concat_getLast h

set_option maxHeartbeats 4000000 in
theorem walk_NameEnds (s : ByteArray) (w : World) :
    Calls Try.prog 5 #[.string s] w fun e w' => e = .returned (.bool true) ∧ Below w.heap.size w w' := by
  obtain ⟨i0, hi, hz0, hz1, hz2⟩ := info_parts Try.infoS
  obtain ⟨E, hE⟩ : ∃ E, cutE s (rootB s) = E := ⟨_, rfl⟩
  go_enter Try.func5, Try.ntmps5
  by_cases h0 : E = 0
  · rw [h0] at hE
    clear h0
    obtain ⟨hD, hL⟩ := cut_zero hE
    obtain ⟨h1, h2, h3, h4⟩ := (cut_ok _ _).1 hE
    have hll : (pieces s).length ≤ 97 := Nat.le_trans (pcs_len s _) (by omega)
    have hchk : ∀ x ∈ pieces s, dotsB x = true ∨ chkE x = 0 := fun x hx => piece_chk hE hx
    rcases par_zero hE with ⟨p0, hcase⟩ | ⟨p0, hne, hnd⟩
    · obtain ⟨pl, pt⟩ := par_not (by rw [p0]; decide : parE s ≠ 0)
      have HP : Hid (parE s = 10 ∧ parL s = [] ∧ parT s = ⟨#[]⟩) := ⟨p0, pl, pt⟩
      by_cases hne : pieces s = []
      · have HI : Hid (cutE s (rootB s) = 0 ∧ cutL s (rootB s) = []) := ⟨hE, by rw [hL, hne]⟩
        clear hE hD hL h2 h3 h4 hll hchk p0 hcase pl pt hne
        go_wp2_with (first
          | (go_at_call 12; refine (parent_any s _).mono ?_; rintro e w1 ⟨v1, rfl, hown1, hb1⟩; rw [HP.out.1, HP.out.2.2]; rw [HP.out.2.1] at hown1; obtain ⟨a1, cap1, rfl, r1⟩ := hown1.row)
          | (go_at_call 7; refine (split_any s _).mono ?_; rintro e w2 ⟨v2, rfl, hown2, hb2⟩; rw [HI.out.1]; rw [HI.out.2] at hown2; obtain ⟨a2, cap2, rfl, r2⟩ := hown2.row)
          | (go_at_call 10; refine (awake_any _).mono ?_; rintro e w4 ⟨rfl, hb4⟩))
        go_ret
        exact ⟨rfl, chainB hb1 (chainB hb2 hb4)⟩
      · have hget := lastT_get hne
        have hd : dotsB (lastT (pieces s)) = true := by
          rcases hcase with h | h
          · exact absurd h hne
          · exact h
        have HC : Hid (chkE (lastT (pieces s)) = 10) := dots_chk hd
        obtain ⟨L, hLL⟩ : ∃ L, pieces s = L := ⟨_, rfl⟩
        rw [hLL] at HC hget hne hll
        have HI : Hid (cutE s (rootB s) = 0 ∧ cutL s (rootB s) = L) := ⟨hE, by rw [hL, hLL]⟩
        have hlp : 0 < L.length := List.length_pos_iff.2 hne
        have hln : ((L.length : Int) == 0) = false := by rw [show (0 : Int) = ((0 : Nat) : Int) from rfl, int_beq]; exact decide_eq_false (by omega)
        clear hE hD hL h2 h3 h4 hchk p0 hcase pl pt hLL hd
        go_wp2_with (first
          | (go_at_call 12; refine (parent_any s _).mono ?_; rintro e w1 ⟨v1, rfl, hown1, hb1⟩; rw [HP.out.1, HP.out.2.2]; rw [HP.out.2.1] at hown1; obtain ⟨a1, cap1, rfl, r1⟩ := hown1.row)
          | (go_at_call 7; refine (split_any s _).mono ?_; rintro e w2 ⟨v2, rfl, hown2, hb2⟩; rw [HI.out.1]; rw [HI.out.2] at hown2; obtain ⟨a2, cap2, rfl, r2⟩ := hown2.row; rcases r2 with h | ⟨g, off, rfl, hs, hc⟩; (· exact absurd h hne); have hcell := hc _ _ hget; clear hc hown2)
          | (go_at_call 9; refine (check_any _ _).mono ?_; rintro e w3 ⟨rfl, hb3⟩; rw [HC.out])
          | (go_at_call 10; refine (awake_any _).mono ?_; rintro e w4 ⟨rfl, hb4⟩))
        go_ret
        exact ⟨rfl, chainB hb1 (chainB hb2 (chainB hb3 hb4))⟩
    · obtain ⟨pl, pt⟩ := par_of p0
      have hget := lastT_get hne
      have hck : chkE (lastT (pieces s)) = 0 := by
        rcases hchk _ (List.mem_of_getElem? hget) with h | h
        · rw [hnd] at h; cases h
        · exact h
      have hdl := drop_last hne
      have HM : Hid (s.size < 96 → parE (s ++ ⟨#[47]⟩) = 0 ∧ parL (s ++ ⟨#[47]⟩) = (pieces s).dropLast ∧ parT (s ++ ⟨#[47]⟩) = lastT (pieces s)) := fun hs => by
        have m1 := more_cut (k := s.size) hE hs (Nat.le_refl _) (fun h => by omega)
        have m2 : pieces (more s s.size) = pieces s := more_pieces (Nat.le_refl _) (fun h => by omega)
        rw [more_whole] at m1 m2
        rcases par_zero m1 with ⟨q0, hc⟩ | ⟨q0, _, _⟩
        · rw [m2] at hc
          rcases hc with hc | hc
          · exact absurd hc hne
          · rw [hnd] at hc; cases hc
        · obtain ⟨ql, qt⟩ := par_of q0
          exact ⟨q0, by rw [ql, m2], by rw [qt, m2]⟩
      obtain ⟨L, hLL⟩ : ∃ L, pieces s = L := ⟨_, rfl⟩
      rw [hLL] at hck hget hne hll hdl HM pl pt
      obtain ⟨Z, hZ⟩ : ∃ Z, lastT L = Z := ⟨_, rfl⟩
      rw [hZ] at hck hdl HM pt
      have HI : Hid (cutE s (rootB s) = 0 ∧ cutL s (rootB s) = L) := ⟨hE, by rw [hL, hLL]⟩
      have HP : Hid (parE s = 0 ∧ parL s = L.dropLast ∧ parT s = Z) := ⟨p0, pl, pt⟩
      have HC : Hid (chkE Z = 0) := hck
      have HDL : Hid (L.dropLast ++ [Z] = L) := hdl
      have hdn : L.dropLast.length ≤ 97 := by rw [List.length_dropLast]; omega
      have HDN : Hid (L.dropLast.length ≤ 97) := hdn
      have hzz : (Z.toList == Z.toList) = true := by simp
      clear hE hD hL h2 h3 h4 hchk p0 pl pt hLL hZ hck hnd hget hdl hdn
      by_cases h96 : s.size = 96
      · have h96i : ((s.size : Int) == 96) = true := by rw [show (96 : Int) = ((96 : Nat) : Int) from rfl, int_beq]; exact decide_eq_true h96
        go_wp2_with (first
          | (go_at_call_of 12 (Value.string s); refine (parent_any s _).mono ?_; rintro e w1 ⟨v1, rfl, hown1, hb1⟩; rw [HP.out.1, HP.out.2.2]; rw [HP.out.2.1] at hown1)
          | (go_at_call 7; refine (split_any s _).mono ?_; rintro e w2 ⟨v2, rfl, hown2, hb2⟩; rw [HI.out.1]; rw [HI.out.2] at hown2; obtain ⟨a2, cap2, rfl, r2⟩ := hown2.row)
          | (go_at_call 9; refine (check_any _ _).mono ?_; rintro e w3 ⟨rfl, hb3⟩; rw [HC.out])
          | (go_at_call 13; refine (copy_any _ L.dropLast _ _ (hown1.below (chainB hb2 hb3)) (by have := HDN.out; omega)).mono ?_; rintro e w4 ⟨v4, rfl, hown4, hb4⟩; have hown4' : w4.ownsRow _ _ _ _ _ _ := hown4; have hdn := HDN.out)
          | (at_builtin; go_must (refine wpList_append_wanted _ (by rfl) _ _ 22 rfl _ 9 i0 (.string ⟨#[]⟩) 1 16 Try.underlying22 hi hz0 hz1 hz2 rfl (by decide) _ _ _ rfl (hown4'.alloc _) ⟨_, 0, none⟩ 1 1 [.string Z] rfl rfl (one_text _ _) (one_cell _) (by unfold maxLen; omega) (by omega) (by have := hb4.size; simp; omega) ?_; intro v5 w5 ho5 hg5; obtain ⟨hown5, hb5⟩ := Own.more hb4 hb4.size hown4 ho5 hg5 rfl; rw [HDL.out] at hown5; obtain ⟨a5, cap5, rfl, r5⟩ := hown5.row; have r2' := RowS.below r2 (chainB hb3 hb5); clear ho5 hg5 hown4' hown4 hown5 hb4))
          | (go_at_call 11; refine (same_any _ _ L _ _ _ r5 r2' (by omega)).mono ?_; rintro e w6 ⟨rfl, hb6⟩)
          | (go_at_call 10; refine (awake_any _).mono ?_; rintro e w7 ⟨rfl, hb7⟩))
        go_ret
        exact ⟨rfl, chainB hb1 (chainB hb2 (chainB hb3 (chainB hb5 (chainB hb6 hb7))))⟩
      · have h96i : ((s.size : Int) == 96) = false := by rw [show (96 : Int) = ((96 : Nat) : Int) from rfl, int_beq]; exact decide_eq_false h96
        have HQ : Hid (parE (s ++ ⟨#[47]⟩) = 0 ∧ parL (s ++ ⟨#[47]⟩) = L.dropLast ∧ parT (s ++ ⟨#[47]⟩) = Z) := HM.out (by omega)
        have hpq : ∀ w, Calls Try.prog 12 #[.string (s ++ ⟨#[47]⟩)] w fun e w' => ∃ v, e = .returned (.tuple #[v, .string Z, .int .i64 0]) ∧ Own w' w.heap.size v L.dropLast ∧ Below w.heap.size w w' := fun w => by
          have := parent_any (s ++ ⟨#[47]⟩) w
          rw [HQ.out.1, HQ.out.2.1, HQ.out.2.2] at this
          exact this
        clear HM h96 HQ
        go_wp2_with (first
          | (go_at_call_of 12 (Value.string s); refine (parent_any s _).mono ?_; rintro e w1 ⟨v1, rfl, hown1, hb1⟩; rw [HP.out.1, HP.out.2.2]; rw [HP.out.2.1] at hown1)
          | (go_at_call 7; refine (split_any s _).mono ?_; rintro e w2 ⟨v2, rfl, hown2, hb2⟩; rw [HI.out.1]; rw [HI.out.2] at hown2; obtain ⟨a2, cap2, rfl, r2⟩ := hown2.row)
          | (go_at_call 9; refine (check_any _ _).mono ?_; rintro e w3 ⟨rfl, hb3⟩; rw [HC.out])
          | (go_at_call 13; refine (copy_any _ L.dropLast _ _ (hown1.below (chainB hb2 hb3)) (by have := HDN.out; omega)).mono ?_; rintro e w4 ⟨v4, rfl, hown4, hb4⟩; have hown4' : w4.ownsRow _ _ _ _ _ _ := hown4; have hdn := HDN.out)
          | (at_builtin; go_must (refine wpList_append_wanted _ (by rfl) _ _ 22 rfl _ 9 i0 (.string ⟨#[]⟩) 1 16 Try.underlying22 hi hz0 hz1 hz2 rfl (by decide) _ _ _ rfl (hown4'.alloc _) ⟨_, 0, none⟩ 1 1 [.string Z] rfl rfl (one_text _ _) (one_cell _) (by unfold maxLen; omega) (by omega) (by have := hb4.size; simp; omega) ?_; intro v5 w5 ho5 hg5; obtain ⟨hown5, hb5⟩ := Own.more hb4 hb4.size hown4 ho5 hg5 rfl; rw [HDL.out] at hown5; obtain ⟨a5, cap5, rfl, r5⟩ := hown5.row; have r2' := RowS.below r2 (chainB hb3 hb5); clear ho5 hg5 hown4' hown4 hown5 hb4))
          | (go_at_call 11; refine (same_any _ _ L _ _ _ r5 r2' (by omega)).mono ?_; rintro e w6 ⟨rfl, hb6⟩; have r2'' := RowS.below r2' hb6; clear r2' r5))
        have hB := chainB hb1 (chainB hb2 (chainB hb3 (chainB hb5 hb6)))
        clear hb1 hb2 hb3 hb5 hb6 hown1 hown2 r2
        go_at_call 12
        refine (hpq _).mono ?_
        rintro e w8 ⟨v8, rfl, hown8, hb8⟩
        have hown8' : w8.ownsRow _ _ _ _ _ _ := hown8
        clear hpq
        go_wp2_with (first
          | (at_builtin; go_must (refine wpList_append_wanted _ (by rfl) _ _ 22 rfl _ 9 i0 (.string ⟨#[]⟩) 1 16 Try.underlying22 hi hz0 hz1 hz2 rfl (by decide) _ _ _ rfl (hown8'.alloc _) ⟨_, 0, none⟩ 1 1 [.string Z] rfl rfl (one_text _ _) (one_cell _) (by unfold maxLen; omega) (by omega) (by have := hb8.size; simp; omega) ?_; intro v9 w9 ho9 hg9; obtain ⟨hown9, hb9⟩ := Own.more hb8 hb8.size hown8 ho9 hg9 rfl; rw [HDL.out] at hown9; obtain ⟨a9, cap9, rfl, r9⟩ := hown9.row; have r3 := RowS.below r2'' hb9; clear ho9 hg9 hown8' hown8 hown9 hb8))
          | (go_at_call 11; refine (same_any _ _ L _ _ _ r9 r3 (by omega)).mono ?_; rintro e w10 ⟨rfl, hb10⟩)
          | (go_at_call 10; refine (awake_any _).mono ?_; rintro e w11 ⟨rfl, hb11⟩))
        go_ret
        exact ⟨rfl, chainB hB (chainB hb9 (chainB hb10 hb11))⟩
  · have he : parE s = E := by unfold parE; rw [hE, if_neg h0]
    obtain ⟨pl, pt⟩ := par_not (by rw [he]; exact h0)
    obtain ⟨hD, hL⟩ := cut_bad (by rw [hE]; exact h0)
    have HI : Hid (cutE s (rootB s) = E) := hE
    have HP : Hid (parE s = E ∧ parL s = [] ∧ parT s = ⟨#[]⟩) := ⟨he, pl, pt⟩
    clear hE he pl pt hD hL
    go_wp2_with (first
      | (go_at_call 12; refine (parent_any s _).mono ?_; rintro e w1 ⟨v1, rfl, hown1, hb1⟩; rw [HP.out.1, HP.out.2.2]; rw [HP.out.2.1] at hown1; obtain ⟨a1, cap1, rfl, r1⟩ := hown1.row)
      | (go_at_call 7; refine (split_any s _).mono ?_; rintro e w2 ⟨v2, rfl, hown2, hb2⟩; rw [HI.out])
      | (go_at_call 10; refine (awake_any _).mono ?_; rintro e w4 ⟨rfl, hb4⟩))
    go_ret
    exact ⟨rfl, chainB hb1 (chainB hb2 hb4)⟩
end Go.Proofs.Ytehpaanpkiidaab
