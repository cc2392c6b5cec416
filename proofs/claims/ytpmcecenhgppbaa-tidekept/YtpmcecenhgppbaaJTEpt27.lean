/- TideReplies: the law's run by phases; its tide, its reply and the acts so far, in memory. -/
import Derived.Test.YtpmcecenhgppbaaJTEpt23
import Derived.Test.YtpmcecenhgppbaaJTEpt24
import Derived.Test.YtpmcecenhgppbaaJTEpt26
import Derived.Test.YtpmcecenhgppbaaJTEpt22
namespace Go.Proofs.Ytpmcecenhgppbaa
section
open Go.RowKit Go.Shelf

/-- phase 0: the reply has not come; 1: it is held; 2: it is used -/
def phS (s : Int) (k : Nat) (es : List En) (c n : Nat) : Ts := if c = 0 then (if n = 0 then (Ts.new 1 1 8).ask s else tA s n) else if c = 1 then tH s k es n else tU k n
def phA (k M : Nat) (es : List En) (c n : Nat) : List Ac := if c = 0 then (if n = 0 then [] else allA :: actsN 0 n) else if c = 1 then allA :: actsN 0 n else allA :: (actsN 0 M ++ repA k M es :: actsN M n)
def phOk (k E c n : Nat) : Prop := (c = 0 ∧ n ≤ E) ∨ (c = 1 ∧ E ≤ n ∧ n < k) ∨ (c = 2 ∧ E ≤ n ∧ k ≤ n)
theorem actsN_snoc (n m : Nat) (h : n ≤ m) : actsN n (m + 1) = actsN n m ++ [keysA [kyN (m + 1)]] := by
  unfold actsN
  rw [show m + 1 - n = (m - n) + 1 by omega, List.range'_concat, List.map_append, Nat.one_mul, show n + 1 + (m - n) = m + 1 by omega]; rfl
theorem actsN_self (n : Nat) : actsN n n = [] := by unfold actsN; rw [Nat.sub_self]; rfl
theorem rp_counts (s : Int) (k : Nat) (es : List En) (hk : k ≤ 1000) : ((Ts.new 1 1 8).ask s).counts (rpN s k es) = true := by
  unfold Ts.counts
  rw [rpN_ep s k es hk, (rpN_mk s k es hk).good]
  simp [rpN, Ts.ask, Ts.new]
theorem ph_rep (s : Int) (k E : Nat) (es : List En) (hs : 0 < s) (hk : k ≤ 1000) : ∃ c A, c ≠ 0 ∧ (phS s k es 0 E).take (rpN s k es) = (phS s k es c E, A) ∧ phA k (max E k) es 0 E ++ A = phA k (max E k) es c E ∧ phOk k E c E := by
  have hr := tA_rep s k es hs E hk
  by_cases h0 : E = 0
  · subst h0
    have hf := first_t (rp_counts s k es hk) (rpN_ep s k es hk) hs
    by_cases h : k ≤ 0
    · rw [if_pos h] at hr
      refine ⟨2, [allA, repA k 0 es], by omega, ?_, ?_, .inr (.inr ⟨rfl, by omega, h⟩)⟩
      · show ((Ts.new 1 1 8).ask s).take _ = _
        rw [hf, hr]; rfl
      · have : max 0 k = 0 := by omega
        rw [this]; rfl
    · rw [if_neg h] at hr
      refine ⟨1, [allA], by omega, ?_, rfl, .inr (.inl ⟨rfl, by omega, by omega⟩)⟩
      show ((Ts.new 1 1 8).ask s).take _ = _
      rw [hf, hr]; rfl
  · have e1 : phS s k es 0 E = tA s E := by unfold phS; rw [if_pos rfl, if_neg h0]
    have e2 : phA k (max E k) es 0 E = allA :: actsN 0 E := by unfold phA; rw [if_pos rfl, if_neg h0]
    rw [e1, e2, hr]
    by_cases h : k ≤ E
    · rw [if_pos h]
      refine ⟨2, [repA k E es], by omega, rfl, ?_, .inr (.inr ⟨rfl, by omega, h⟩)⟩
      have : max E k = E := by omega
      rw [this]
      show _ = allA :: (actsN 0 E ++ repA k E es :: actsN E E)
      rw [actsN_self]; rfl
    · rw [if_neg h]
      exact ⟨1, [], by omega, rfl, by rw [List.append_nil]; rfl, .inr (.inl ⟨rfl, by omega, by omega⟩)⟩
theorem ph_brk (s : Int) (k E : Nat) (es : List En) (hs : 0 < s) (hk : k ≤ 1000) (c n : Nat) (hok : phOk k E c n) (h0 : c = 0 → n < E) (hn : n + 1 ≤ 1000) : ∃ c' A, (c = 0 ↔ c' = 0) ∧ (phS s k es c n).take (brkN (n + 1)) = (phS s k es c' (n + 1), A) ∧ phA k (max E k) es c n ++ A = phA k (max E k) es c' (n + 1) ∧ phOk k E c' (n + 1) := by
  rcases hok with ⟨rfl, h1⟩ | ⟨rfl, h1, h2⟩ | ⟨rfl, h1, h2⟩
  · have hlt := h0 rfl
    have e1 : phS s k es 0 (n + 1) = tA s (n + 1) := by unfold phS; rw [if_pos rfl, if_neg (by omega)]
    have e2 : phA k (max E k) es 0 (n + 1) = allA :: actsN 0 (n + 1) := by unfold phA; rw [if_pos rfl, if_neg (by omega)]
    by_cases hz : n = 0
    · subst hz
      have hf := first_t (s := s) (m := brkN (0 + 1)) (brk_counts (brkN_mk (0 + 1) (by omega)) rfl rfl (by show (0 : Int) ≤ 1; omega)) (brkN_ep (0 + 1) (by omega)) hs
      refine ⟨0, [allA, keysA [kyN (0 + 1)]], Iff.rfl, ?_, ?_, .inl ⟨rfl, hlt⟩⟩
      · show ((Ts.new 1 1 8).ask s).take _ = _
        rw [hf, tA_brk s hs 0 (by omega), e1]
      · rw [e2]; rfl
    · have e3 : phS s k es 0 n = tA s n := by unfold phS; rw [if_pos rfl, if_neg hz]
      have e4 : phA k (max E k) es 0 n = allA :: actsN 0 n := by unfold phA; rw [if_pos rfl, if_neg hz]
      refine ⟨0, [keysA [kyN (n + 1)]], Iff.rfl, ?_, ?_, .inl ⟨rfl, hlt⟩⟩
      · rw [e3, tA_brk s hs n hn, e1]
      · rw [e4, e2, actsN_snoc 0 n (Nat.zero_le _)]; rfl
  · have hb := tH_brk s k es hs n hn h2 hk
    have e4 : phA k (max E k) es 1 n = allA :: actsN 0 n := rfl
    by_cases hq : n + 1 = k
    · rw [if_pos hq] at hb
      have hM : max E k = n + 1 := by omega
      refine ⟨2, [keysA [kyN (n + 1)], repA k (n + 1) es], by omega, hb, ?_, .inr (.inr ⟨rfl, by omega, by omega⟩)⟩
      rw [e4, hM]
      show allA :: actsN 0 n ++ _ = allA :: (actsN 0 (n + 1) ++ repA k (n + 1) es :: actsN (n + 1) (n + 1))
      rw [actsN_self, actsN_snoc 0 n (Nat.zero_le _)]
      simp
    · rw [if_neg hq] at hb
      refine ⟨1, [keysA [kyN (n + 1)]], by omega, hb, ?_, .inr (.inl ⟨rfl, by omega, by omega⟩)⟩
      rw [e4]
      show allA :: actsN 0 n ++ _ = allA :: actsN 0 (n + 1)
      rw [actsN_snoc 0 n (Nat.zero_le _)]; rfl
  · have hb := tU_brk k n hn
    refine ⟨2, [keysA [kyN (n + 1)]], by omega, hb, ?_, .inr (.inr ⟨rfl, by omega, by omega⟩)⟩
    show allA :: (actsN 0 (max E k) ++ repA k (max E k) es :: actsN (max E k) n) ++ _ = allA :: (actsN 0 (max E k) ++ repA k (max E k) es :: actsN (max E k) (n + 1))
    rw [actsN_snoc (max E k) n (by omega)]
    simp
theorem actsN_len (n m : Nat) : (actsN n m).length = m - n := by unfold actsN; rw [List.length_map, List.length_range']
theorem ph_len (k M : Nat) (es : List En) (c n : Nat) : (phA k M es c n).length ≤ n + M + n + 2 := by
  unfold phA
  split
  · split
    · simp
    · rw [List.length_cons, actsN_len]; omega
  · split
    · rw [List.length_cons, actsN_len]; omega
    · rw [List.length_cons, List.length_append, List.length_cons, actsN_len, actsN_len]; omega
/-- how many keys the acts ahead of the j-th have -/
def apN (M j : Nat) : Nat := if j ≤ M + 1 then j - 1 else j - 2
def quA (k M N : Nat) (es : List En) : List Ac := allA :: (actsN 0 M ++ repA k M es :: actsN M N)
theorem quA_len (k M N : Nat) (es : List En) (h : M ≤ N) : (quA k M N es).length = N + 2 := by
  unfold quA
  rw [List.length_cons, List.length_append, List.length_cons, actsN_len, actsN_len]; omega
theorem actsN_get (n m j : Nat) (h : j < m - n) : (actsN n m)[j]? = some (keysA [kyN (n + 1 + j)]) := by
  unfold actsN
  rw [List.getElem?_map, List.getElem?_range' h]
  simp
theorem quA_get (k M N : Nat) (es : List En) (h : M ≤ N) (j : Nat) (hj : j < N + 2) : ∃ c, (quA k M N es)[j]? = some c ∧ apN M (j + 1) = apN M j + c.ks.length ∧ (j = M + 1 → c = repA k M es) ∧ (j ≠ M + 1 → c.reply = false) ∧ c.ks.length ≤ 1 := by
  unfold quA apN
  rcases Nat.eq_zero_or_pos j with h0 | h0
  · subst h0
    exact ⟨allA, rfl, by simp [allA], by omega, fun _ => rfl, by simp [allA]⟩
  · obtain ⟨i, rfl⟩ : ∃ i, j = i + 1 := ⟨j - 1, by omega⟩
    rw [List.getElem?_cons_succ]
    rcases Nat.lt_trichotomy i M with h1 | h1 | h1
    · rw [List.getElem?_append_left (by rw [actsN_len]; omega), actsN_get 0 M i (by omega)]
      refine ⟨_, rfl, ?_, by omega, fun _ => rfl, by simp [keysA]⟩
      simp only [keysA, List.length_singleton]
      split <;> split <;> omega
    · subst h1
      rw [List.getElem?_append_right (by rw [actsN_len]; omega), actsN_len]
      refine ⟨repA k i es, by simp, ?_, fun _ => rfl, fun h => absurd rfl h, by simp [repA]⟩
      simp only [repA, List.length_nil]
      split <;> split <;> omega
    · rw [List.getElem?_append_right (by rw [actsN_len]; omega), actsN_len, show i - (M - 0) = (i - M - 1) + 1 by omega, List.getElem?_cons_succ, actsN_get M N (i - M - 1) (by omega)]
      refine ⟨_, rfl, ?_, by omega, fun _ => rfl, by simp [keysA]⟩
      simp only [keysA, List.length_singleton]
      split <;> split <;> omega

theorem ec_append (a b : List En) : ec (a ++ b) = ec a ++ ec b := by unfold ec; rw [List.flatMap_append]
/-- entries behind entries -/
theorem ents_append {w : World} {B B2 : Nat} {v v2 : Value} {l l2 : List En} (h : Row7 w B v l) (h2 : Row7 w B2 v2 l2) (hB : B ≤ w.heap.size) (hl : l.length + l2.length ≤ 1000000) :
    ∃ v3 W, (∀ ty, (Builtin.append_ #[33, 33] ty #[v, v2]).run Try.prog w = .ok v3 W) ∧ Row7 W B v3 (l ++ l2) ∧ Only (fun k => v.ownBlock = some k) w W := by
  obtain ⟨i1, hi1, hw0, hw1, hw2⟩ := info_parts Try.infoE
  have hr2 := h2
  rcases h2.2 with ⟨rfl, e2⟩ | ⟨g, cap, cur, rfl, _⟩
  · obtain rfl := List.length_eq_zero_iff.1 e2
    refine ⟨v, w, fun ty => run_append_owned_none (P := Try.prog) (w := w) B 33 ty 57 i1 7 Try.underlying33 hi1 v l.length (ec l) h, by rw [List.append_nil]; exact h, Only.refl _ _⟩
  · obtain ⟨hc, _⟩ := owns_cells hr2
    have key : ∀ ty, ∃ v' w', (Builtin.append_ #[33, 33] ty #[v, .slice (some ⟨g, 0, none⟩) l2.length cap]).run Try.prog w = .ok v' w' ∧ w'.ownsRow B 57 7 v' (l.length + l2.length) (ec l ++ ec l2) ∧ w.grownBy w' v.ownBlock := fun ty => by
      obtain ⟨v', w', a1, a2, a3, _, _⟩ := run_append_own_at (P := Try.prog) w B 33 ty 57 i1 _ 7 72 Try.underlying33 hi1 hw0 hw1 hw2 rfl (by decide) v l.length (ec l) h ⟨g, 0, none⟩ l2.length cap (ec l2) (ec_len l2) (fun j u hu => by rw [add_plain', Nat.zero_add]; exact hc j u hu) (ec_one l2) (by unfold maxLen; omega) (by omega) hB
      exact ⟨v', w', a1, a2, a3⟩
    obtain ⟨v', W, a1, a2, a3⟩ := key 0
    refine ⟨v', W, fun ty => ?_, ?_, only_grown a3⟩
    · have : (Builtin.append_ #[33, 33] ty #[v, .slice (some ⟨g, 0, none⟩) l2.length cap]).run Try.prog w = (Builtin.append_ #[33, 33] 0 #[v, .slice (some ⟨g, 0, none⟩) l2.length cap]).run Try.prog w := rfl
      rw [this]; exact a1
    · show World.ownsRow _ _ _ _ _ _ _
      rw [List.length_append, ec_append]; exact a2
theorem row7_below {B : Nat} {v : Value} {w W w0 : World} {l : List En} (h : Row7 w B v l) (hb : Below B w0 w) (hB : B ≤ w.heap.size) (ho : Only (fun k => v.ownBlock = some k) w W) : Below B w0 W := ho.below hb hB fun k hk => (World.ownsRow.lt h k hk).1
theorem one_ent {w : World} (e : En) : Row7 (w.alloc (.cells e.vals.toArray 57)) 0 (.slice (some ⟨w.heap.size, 0, none⟩) 1 1) [e] := by
  show World.ownsRow _ _ _ _ _ 1 (ec [e])
  have : ec [e] = e.vals := by simp [ec]
  rw [this]
  exact owns_whole (Nat.zero_le _) (heap_new _ _) rfl (by unfold maxLen; omega)
/-- append as one step of a region that draws, by what the builtin does -/
theorem step_append_run {P : Program} {w : World} {ops : Array Oper} {o : Oper} {a : Act} {K : Act → World → Prop} {Q : Exit → Act → World → Prop} {E : Prop} (hgd : o.guard = none) (s x : Operand) (t : TypeId)
    (ho : o.op = .call { callee := .builtin .append, args := #[s, x], argTypes := #[t, t] }) (v xv r : Value) (W : World) (hs : a.eval s = v) (hx : a.eval x = xv) (hr : ∀ ty, (Builtin.append_ #[t, t] ty #[v, xv]).run P w = .ok r W)
    (h : K (a.put o.dst r) W) : if Region.wanted o (yielded ops a.tmps) = true then Oper.wp P o a w K Q else E := by
  have hw : Region.wanted o (yielded ops a.tmps) = true := by simp [Region.wanted, hgd]
  rw [if_pos hw]
  unfold Oper.wp execOp
  simp only [ho, resolve, invoke, builtin, Sem.run_bind, Sem.run_pure, Result.andThen_ok, List.map_toArray, List.map_cons, List.map_nil, hs, hx, hr]
  exact h
/-- the law's tide, its reply's box, and the acts so far -/
structure Rl (w W : World) (t : Nat) (a : Option Addr) (N c : Nat) (S : Ts) (F : Nat → Prop) (ms : List Hm) (rb : Nat) (x : Hm) (B : Nat) (v : Value) (l : List Am) : Prop where
  om : Om w W t a N c S F ms
  fb : F rb
  low : w.heap.size ≤ B
  box : W.heap[rb]? = some (.cells x.arr 45 (0, 0))
  ls : Lists W 0 x
  acts : Acts W B v l
  bl : B ≤ W.heap.size
theorem Lt.act {w0 w w' : World} {t : Nat} {S : Ts} {F G : Nat → Prop} (h : Lt w0 w t S F) (ho : Only G w w') (hG : ∀ k, G k → Tag w k 59 ∧ w0.heap.size ≤ k) : Lt w0 w' t S F := by
  obtain ⟨s, h1, h2, h3⟩ := h.ex
  exact ⟨⟨s, h1.moved fun k hk => ho.block k (h1.lt hk).2 fun g => h1.noAct (hG k g).1 k hk rfl, h2, h3⟩, ho.below h.bel h.bel.size (fun k g => (hG k g).2), fun k hk => Nat.lt_of_lt_of_le (h.flt k hk) ho.size⟩
def RlTk (w : World) (t : Nat) (a : Option Addr) (N c : Nat) (S' : Ts) (A : List Ac) (F : Nat → Prop) (ms : List Hm) (rb : Nat) (x : Hm) (B : Nat) (v : Value) (l : List Am) (e : Ending) (w' : World) : Prop :=
  ∃ v2 v3 W3 l3, e = .returned v2 ∧ (∀ ty, (Builtin.append_ #[41, 41] ty #[v, v2]).run Try.prog w' = .ok v3 W3) ∧ l3.map Am.c = l.map Am.c ++ A ∧ Rl w W3 t a N c S' F ms rb x B v3 l3
theorem Rl.take {w W : World} {t : Nat} {a : Option Addr} {N c : Nat} {S S' : Ts} {A : List Ac} {F : Nat → Prop} {ms : List Hm} {rb : Nat} {x : Hm} {B : Nat} {v : Value} {l : List Am} (h : Rl w W t a N c S F ms rb x B v l) (z : Hm) (hz : Lists W 0 z) (hs : S.take z.m = (S', A)) (hl : l.length + A.length ≤ 1000) : Calls Try.prog 12 #[.pointer (some ⟨t, 0, none⟩), .agg z.arr] W fun e w' => RlTk w t a N c S' A F ms rb x B v l e w' := by
  refine (lt_take h.om.lt z hz).mono ?_
  rintro q w' ⟨v2, l2, rfl, ha, hc, hlt, hk⟩
  rw [hs] at hlt hc
  have ho := h.om.on hlt hk
  have hbx : w'.heap[rb]? = some (.cells x.arr 45 (0, 0)) := (hk.mine rb h.fb (Array.getElem?_eq_some_iff.1 h.box).1).trans h.box
  have hls := hk.lists h.ls
  have hac := hk.acts h.acts
  have hB : B ≤ w'.heap.size := Nat.le_trans h.bl hk.size
  have hl2 : l2.length = A.length := by have := congrArg List.length hc; simpa using this
  obtain ⟨v3, W3, happ, ha3, hO, -⟩ := acts_append hac (ha.down h.bl) hB (by omega)
  have htg : ∀ k, v.ownBlock = some k → Tag w' k 59 := fun k hk => Tag.own hac.row hk
  have hge : ∀ k, v.ownBlock = some k → B ≤ k := fun k hk => (World.ownsRow.lt hac.row k hk).1
  refine ⟨v2, v3, W3, l ++ l2, rfl, happ, by rw [List.map_append, hc], ⟨⟨ho.lt.act hO (fun k hk => ⟨htg k hk, Nat.le_trans h.low (hge k hk)⟩), owns_moved ho.row fun q e => hO.block q (Tag.own ho.row e).lt fun hq => (htg q hq).ne (Tag.own ho.row e) (by decide) rfl, ho.own, fun y hy => (ho.each y hy).only hO fun q hq => ⟨(htg q hq).two (by decide), (htg q hq).two (by decide)⟩, ho.say⟩, h.fb, h.low, ?_, hls.only hO fun q hq => ⟨(htg q hq).two (by decide), (htg q hq).two (by decide)⟩, ha3, Nat.le_trans hB hO.size⟩⟩
  exact (hO.block rb (Array.getElem?_eq_some_iff.1 hbx).1 fun hq => (htg rb hq).ne (⟨_, _, hbx⟩ : Tag w' rb 45) (by decide) rfl).trans hbx
end
section
open Go.RowKit Go.Shelf
attribute [local go_sem ↓ high] loadMsg storeMsg buildMsg storeAct loadAct buildAct
attribute [local go_sem high] run_store_complex eqC

theorem Try.infoBk : (Try.prog.info? 100).map (fun i => (i.zero, i.size, i.bytes)) = some (some (.agg #[.complex .f64 0 0, .int .i64 0, .bool false, .slice none 0 0]), 4, 56) := by kernel_rfl
/-- keys behind keys, of any length -/
theorem keys_copy {w : World} {B2 : Nat} {v2 : Value} {l2 : List Ky} (h2 : RowK w B2 v2 l2) (hl : l2.length * 24 ≤ LB) :
    ∃ a3 q3 W, (∀ ty, (Builtin.append_ #[34, 34] ty #[.slice none 0 0, v2]).run Try.prog w = .ok (.slice a3 l2.length q3) W) ∧ RowK W w.heap.size (.slice a3 l2.length q3) l2 ∧ Below w.heap.size w W := by
  obtain ⟨i1, hi1, hw0, hw1, hw2⟩ := info_parts Try.infoKy
  unfold LB at hl
  have hr2 := h2
  rcases h2.2 with ⟨rfl, e2⟩ | ⟨g, cap, cur, rfl, _⟩
  · obtain rfl := List.length_eq_zero_iff.1 e2
    exact ⟨none, 0, w, fun ty => run_append_owned_none (P := Try.prog) (w := w) w.heap.size 34 ty 53 i1 2 Try.underlying34 hi1 (.slice none 0 0) 0 [] (World.ownsRow_nil _ _ _ _), World.ownsRow_nil _ _ _ _, Below.refl _ _⟩
  · obtain ⟨hc, _⟩ := owns_cells hr2
    have key : ∀ ty, ∃ v' w', (Builtin.append_ #[34, 34] ty #[.slice none 0 0, .slice (some ⟨g, 0, none⟩) l2.length cap]).run Try.prog w = .ok v' w' ∧ w'.ownsRow w.heap.size 53 2 v' (0 + l2.length) ([] ++ kc l2) ∧ w.grownBy w' none := fun ty => by
      obtain ⟨v', w', a1, a2, a3, _, _⟩ := run_append_own_at (P := Try.prog) w w.heap.size 34 ty 53 i1 _ 2 24 Try.underlying34 hi1 hw0 hw1 hw2 rfl (by decide) (.slice none 0 0) 0 [] (World.ownsRow_nil _ _ _ _) ⟨g, 0, none⟩ l2.length cap (kc l2) (kc_len l2) (fun j u hu => by rw [add_plain', Nat.zero_add]; exact hc j u hu) (kc_one l2) (by unfold maxLen; omega) (by omega) (Nat.le_refl _)
      exact ⟨v', w', a1, a2, a3⟩
    obtain ⟨v', W, a1, a2, a3⟩ := key 0
    rw [Nat.zero_add, List.nil_append] at a2
    obtain ⟨a', q', rfl⟩ := owns_len a2
    refine ⟨a', q', W, fun ty => ?_, a2, below_grown a3⟩
    have : (Builtin.append_ #[34, 34] ty #[.slice none 0 0, .slice (some ⟨g, 0, none⟩) l2.length cap]).run Try.prog w = (Builtin.append_ #[34, 34] 0 #[.slice none 0 0, .slice (some ⟨g, 0, none⟩) l2.length cap]).run Try.prog w := rfl
    rw [this]; exact a1
/-- one more fresh break -/
theorem fresh_push {w : World} {B B2 : Nat} {v : Value} {l : List Fm} {f : Fm} {g : Nat} (h : RowF w B v l) (hb : w.heap[g]? = some (.cells f.arr 100 (0, 0))) (_ : B2 ≤ g) (hB : B ≤ w.heap.size) (hl : (l.length + 1) * 56 ≤ 140737488351232) :
    ∃ a3 q3 W, (∀ ty, (Builtin.append_ #[69, 69] ty #[v, .slice (some ⟨g, 0, none⟩) 1 1]).run Try.prog w = .ok (.slice a3 (l.length + 1) q3) W) ∧ RowF W B (.slice a3 (l.length + 1) q3) (l ++ [f]) ∧ Only (fun k => v.ownBlock = some k) w W ∧ ((Value.slice a3 (l.length + 1) q3).ownBlock = v.ownBlock ∨ (Value.slice a3 (l.length + 1) q3).ownBlock = some w.heap.size) := by
  obtain ⟨i1, hi1, hw0, hw1, hw2⟩ := info_parts Try.infoBk
  have key : ∀ ty, ∃ v' w', (Builtin.append_ #[69, 69] ty #[v, .slice (some ⟨g, 0, none⟩) 1 1]).run Try.prog w = .ok v' w' ∧ w'.ownsRow B 100 4 v' (l.length + 1) (fc l ++ f.vals) ∧ w.grownBy w' v.ownBlock ∧ (v'.ownBlock = v.ownBlock ∨ v'.ownBlock = some w.heap.size) := fun ty => by
    obtain ⟨v', w', a1, a2, a3, _, a5⟩ := run_append_own_at (P := Try.prog) w B 69 ty 100 i1 _ 4 56 Try.underlying69 hi1 hw0 hw1 hw2 rfl (by decide) v l.length (fc l) h ⟨g, 0, none⟩ 1 1 f.vals rfl (fun j u hu => by rw [add_plain', Nat.zero_add, cell_of hb, ← Array.getElem?_toList]; exact hu) f.one' (by unfold maxLen; omega) (by omega) hB
    exact ⟨v', w', a1, a2, a3, a5⟩
  obtain ⟨v', W, a1, a2, a3, a5⟩ := key 0
  obtain ⟨a', q', rfl⟩ := owns_len a2
  refine ⟨a', q', W, fun ty => ?_, ?_, only_grown a3, a5⟩
  · have : (Builtin.append_ #[69, 69] ty #[v, .slice (some ⟨g, 0, none⟩) 1 1]).run Try.prog w = (Builtin.append_ #[69, 69] 0 #[v, .slice (some ⟨g, 0, none⟩) 1 1]).run Try.prog w := rfl
    rw [this]; exact a1
  · show World.ownsRow _ _ _ _ _ _ _
    rw [List.length_append, fc_app]
    have : fc [f] = f.vals := by simp [fc]
    rw [this]; exact a2
/-- the fresh list turned -/
theorem IsD.putF {w w1 : World} {B t : Nat} {s : Dt} (h : IsD w B t s) (hO : Only (fun x => s.fv.ownBlock = some x) w w1) (v' : Value) (f : Fm) (hr : RowF w1 B v' (s.fs ++ [f])) (hk : RowK w1 B f.vk f.ks) (hkl : f.ks.length * 24 ≤ LB) (hm : Mk f.re f.im s.e (part f.im)) (hn : v'.ownBlock = s.fv.ownBlock ∨ ∃ k, v'.ownBlock = some k ∧ w.heap.size ≤ k) (hnk : ∀ k, f.vk.ownBlock = some k → w.heap.size ≤ k) :
    SD w (w1.setCell ⟨t, 8, none⟩ v') B t s { s with fv := v', fs := s.fs ++ [f] } := by
  have htl := h.tt.lt
  have e1 : w1.heap[t]? = w.heap[t]? := hO.block t htl fun e => (Tag.own h.fresh e).ne h.tt (by decide) rfl
  have hh := e1.trans h.head
  have ht1 : Tag w1 t 71 := ⟨_, _, hh⟩
  have o2 := only1 w1 t 8 v'
  have mv : ∀ {k ty}, Tag w k ty → 71 ≠ ty → 100 ≠ ty → (w1.setCell ⟨t, 8, none⟩ v').heap[k]? = w.heap[k]? := fun {k ty} hk h1 h2 => by
    have e := hO.block k hk.lt fun e => (Tag.own h.fresh e).two h2 hk
    exact (o2.block k (Nat.lt_of_lt_of_le hk.lt hO.size) (fun e' => by rw [e'] at hk; exact h.tt.two h1 hk)).trans e
  refine ⟨⟨(heap_set hh 8 _).trans rfl, h.bt, h.held.moved fun k hk => mv (h.held.tag hk) (by decide) (by decide), fun m hm' => ⟨(h.each m hm').1.moved fun k hk => ?_, (h.each m hm').2⟩, owns_moved hr fun k hk => o2.block k (World.ownsRow.lt hr k hk).2 fun e => (Tag.own hr hk).ne ht1 (by decide) e, fun g hg => ?_, h.e0, h.e1, h.n0, h.n1, h.ask0, h.lh, h.l8⟩, ?_, ?_, ?_⟩
  · rcases hk with hk | hk
    · exact mv (Tag.own (h.each m hm').1.es hk) (by decide) (by decide)
    · exact mv (Tag.own (h.each m hm').1.ks hk) (by decide) (by decide)
  · rcases List.mem_append.1 hg with hg | hg
    · exact ⟨owns_moved (h.eachF g hg).1 fun k hk => mv (Tag.own (h.eachF g hg).1 hk) (by decide) (by decide), (h.eachF g hg).2⟩
    · rw [List.mem_singleton.1 hg]
      exact ⟨owns_moved hk fun k hk' => o2.block k (World.ownsRow.lt hk k hk').2 fun e => (Tag.own hk hk').ne ht1 (by decide) e, hkl, hm⟩
  · exact (hO.mono fun k hk => .inr (.inr hk)).trans (o2.mono fun k hk => .inl hk)
  · rintro k (e | e | e)
    · exact .inl (.inl e)
    · exact .inl (.inr (.inl e))
    · rcases hn with q | ⟨k', q, hq⟩
      · exact .inl (.inr (.inr (q ▸ e)))
      · have e' : v'.ownBlock = some k := e
        rw [q] at e'
        exact .inr (by rw [← Option.some.inj e']; exact hq)
  · rintro k ((e | e | e) | e | ⟨g, hg, e⟩)
    · exact .inl (.inl (.inl e))
    · exact .inl (.inl (.inr (.inl e)))
    · rcases hn with q | ⟨k', q, hq⟩
      · exact .inl (.inl (.inr (.inr (q ▸ e))))
      · have e' : v'.ownBlock = some k := e
        rw [q] at e'
        exact .inr (by rw [← Option.some.inj e']; exact hq)
    · exact .inl (.inr (.inl e))
    · rcases List.mem_append.1 hg with hg | hg
      · exact .inl (.inr (.inr ⟨g, hg, e⟩))
      · rw [List.mem_singleton.1 hg] at e
        exact .inr (hnk k e)
end
end Go.Proofs.Ytpmcecenhgppbaa
