/- The law TideRises. -/
import Derived.Test.YtpmcecenhgppbaaJTEpt39
import Derived.Test.YtpmcecenhgppbaaJTEpt22
import Derived.Test.YtpmcecenhgppbaaJTEpt21
namespace Go.Proofs.Ytpmcecenhgppbaa
section
open Go.RowKit Go.Shelf
theorem Try.sizeTop : (Try.prog.info? 38).map (·.size) = some 19 := by kernel_rfl
/-- a script's call loaded and stored whole, shut -/
def toLd (v : Value) : Sem Value := Instr.loadAt 38 v
theorem loadTo (v : Value) : Instr.loadAt 38 v = toLd v := rfl
theorem toLd_at {w : World} {g o : Nat} {cs : Array Value} (h : ∀ j v, cs[j]? = some v → w.cell? ⟨g, o + j, none⟩ = some v) (hs : cs.size = 19) : (toLd (.pointer (some ⟨g, o, none⟩))).run Try.prog w = .ok (.agg cs) w := by
  have := run_loadAt_mid (P := Try.prog) w g o 38 cs.toList _ (fun j v hv => h j v (by rw [← Array.getElem?_toList]; exact hv)) Try.underlying38 rfl (by rw [Array.length_toList, hs]; exact Try.sizeTop)
  unfold toLd
  rw [this, Array.toArray_toList]
attribute [irreducible] toLd
def toSt (a v : Value) : Sem Unit := Instr.storeAt 38 a v
theorem storeTo (a v : Value) : Instr.storeAt 38 a v = toSt a v := rfl
theorem toSt_of {w W : World} {g : Nat} {old cs : Array Value} {t : TypeId} (h : w.heap[g]? = some (.cells old t (0, 0))) (ho : old.size = 19) (hs : cs.size = 19) (h1 : cs.all (·.oneCell') = true) (hW : w.setRow g cs = W) : (toSt (.pointer (some ⟨g, 0, none⟩)) (.agg cs)).run Try.prog w = .ok () W := by
  subst hW
  unfold toSt Instr.storeAt Instr.sureAddr
  simp [run_storeVar_row w g t 38 old cs h (by rw [hs]; exact Try.sizeTop) (by rw [ho, hs]) h1]
attribute [irreducible] toSt
attribute [local go_sem ↓ high] loadMsg storeMsg buildMsg storeAct loadAct buildAct loadMm storeMm loadTo storeTo
attribute [local go_sem high] run_store_complex eqC
theorem neqC (w : World) (a b c d : Nat) : (binOp .neq 43 (.complex .f64 a b) (.complex .f64 c d)).run Try.prog w = .ok (.bool (!(Op.floatEq .f64 a c && Op.floatEq .f64 b d))) w := by
  simp [binOp, Op.complexOp, Op.Complex.cmp, Op.floatEq, Op.floatCmp, asBool]
attribute [local go_sem high] neqC
theorem TOp.size (x : TOp) : x.arr.size = 19 := rfl
theorem TOp.arr_get {x : TOp} {j : Nat} {v : Value} (h : x.m.arr[j]? = some v) : x.arr[j + 2]? = some v := by
  unfold TOp.arr TOp.vals
  rw [List.getElem?_toArray, List.getElem?_cons_succ, List.getElem?_cons_succ, Array.getElem?_toList]; exact h
theorem TOp.one {w : World} {x : TOp} (h : ArgM w x.m) : x.arr.all (·.oneCell') = true := by
  obtain ⟨ae, ce, he, _⟩ := h.es
  obtain ⟨ak, ck, hk, _⟩ := h.ks
  simp [TOp.arr, TOp.vals, Mm.arr, Value.oneCell', he, hk]
theorem Mk.same {a b c d : Nat} {e n : Int} (h : Mk a b e n) (k : Mk c d e n) : Op.floatEq .f64 a c = true ∧ Op.floatEq .f64 b d = true := by
  rw [floatEq_whole h.ha k.ha, floatEq_whole h.hb k.hb]; simp
theorem Mk.notLater {a b c d : Nat} {e n e' n' : Int} (h : Mk a b e n) (k : Mk c d e' n') (hr : e < e' ∨ (e' = e ∧ n ≤ n')) : laterB a b c d = false := by
  unfold laterB
  rw [h.good, k.good, h.pa, h.pb, k.pa, k.pb, decide_eq_false (by omega)]; rfl
/-- the law's tide, its message's box, and the messages that were held -/
structure Rz (w W : World) (t : Nat) (S : Ts) (F : Nat → Prop) (gm : Nat) (z : Hm) (v : Value) (l : List Hm) : Prop where
  lt : Lt w W t S F
  box : W.heap[gm]? = some (.cells z.arr 45 (0, 0))
  fg : F gm
  held : Msgs W 0 v l
  own : ∀ q, v.ownBlock = some q → F q
theorem Rz.below {w W V : World} {t : Nat} {S : Ts} {F : Nat → Prop} {gm : Nat} {z : Hm} {v : Value} {l : List Hm} (h : Rz w W t S F gm z v l) (hb : Below W.heap.size W V) : Rz w V t S F gm z v l := ⟨h.lt.below hb, hkeep h.box hb, h.fg, h.held.below hb, h.own⟩
theorem Rz.on {w W V : World} {t : Nat} {S S' : Ts} {F : Nat → Prop} {gm : Nat} {z : Hm} {v : Value} {l : List Hm} (h : Rz w W t S F gm z v l) (hl : Lt w V t S' F) (hk : Kt F W V) : Rz w V t S' F gm z v l := ⟨hl, (hk.mine gm h.fg (Array.getElem?_eq_some_iff.1 h.box).1).trans h.box, h.fg, ⟨hk.rowM h.held.row h.own, fun a ha => hk.lists (h.held.each a ha)⟩, h.own⟩
theorem Msgs.down {w : World} {B B' : Nat} {v : Value} {l : List Hm} (k : Msgs w B v l) (hb : B' ≤ B) : Msgs w B' v l := ⟨owns_le k.row hb, fun a ha => (k.each a ha).down hb⟩
/-- the message's box, filled -/
theorem rz_of {w wr w5 w6 W7 W8 : World} {t gm : Nat} {S : Ts} {z : Hm} {v : Value} {l : List Hm} {old : Array Value} (h : Lt w wr t S (fun _ => False)) (hm : Msgs w5 wr.heap.size v l) (hb5 : Below wr.heap.size wr w5) (hb6 : Below w5.heap.size w5 w6) (hz : Lists w6 w5.heap.size z) (hgm : w6.heap.size = gm) (hW7 : w6.alloc (.cells old 45) = W7) (hW8 : W7.setRow gm z.arr = W8) :
    (Rz w W8 t S (fun k => False ∨ (wr.heap.size ≤ k ∧ k < W8.heap.size)) gm z v l ∧ Lists W8 0 z) ∧ (msgLd (.pointer (some ⟨gm, 0, none⟩))).run Try.prog W8 = .ok (.agg z.arr) W8 := by
  have hb7 := boxB hW7
  rw [hgm] at hb7
  have b7 : Below w6.heap.size w6 W7 := by rw [hgm]; exact hb7.2
  have o8 : Only (· = gm) W7 W8 := by rw [← hW8]; exact onlyR _ _ _
  have hx8 : W8.heap[gm]? = some (.cells z.arr 45 (0, 0)) := by rw [← hW8]; exact setRow_heap _ _ _ _ _ _ hb7.1
  have b8 : Below w6.heap.size w6 W8 := o8.below b7 b7.size (fun k hk => by rw [hk, hgm]; exact Nat.le_refl _)
  have b58 : Below w5.heap.size w5 W8 := chainB hb6 b8
  have hlt8 : gm < W8.heap.size := (Array.getElem?_eq_some_iff.1 hx8).1
  have hlow : wr.heap.size ≤ gm := by rw [← hgm]; exact Nat.le_trans hb5.size hb6.size
  refine ⟨⟨⟨?_, hx8, .inr ⟨hlow, hlt8⟩, (hm.below b58).down (Nat.zero_le _), fun q hq => .inr ?_⟩, (hz.below b8).down (Nat.zero_le _)⟩, msgLd_of hx8 z.size⟩
  · exact h.add (chainB hb5 b58)
  · have := World.ownsRow.lt hm.row q hq
    exact ⟨this.1, Nat.lt_of_lt_of_le this.2 b58.size⟩
end
section
open Go.RowKit Go.Shelf
attribute [local go_sem ↓ high] loadMsg storeMsg buildMsg storeAct loadAct buildAct loadMm storeMm loadTo storeTo
attribute [local go_sem high] run_store_complex eqC

theorem settle_len (n : Nat) : ∀ s : Ts, s.held.length = n → s.settle.2.length ≤ n := by
  induction n with
  | zero =>
    intro s hs
    rw [Ts.settle_none (due_nil (List.length_eq_zero_iff.1 hs))]
    exact Nat.le_refl _
  | succ n ih =>
    intro s hs
    cases hd : s.due with
    | none => rw [Ts.settle_none hd]; exact Nat.zero_le _
    | some i =>
      obtain ⟨m, hm, hq⟩ := Ts.due_some hd
      rw [Ts.settle_some hd hm]
      have hp := due_pot hd hm
      have h1 := ih ((s.without i).meet m).1 (by omega)
      have h2 := meet_few (s.without i) m
      rw [List.length_append]; omega
theorem take_len (s : Ts) (m : Pm) : (s.take m).2.length ≤ s.held.length + 4 := by
  unfold Ts.take
  split
  · have h1 := settle_len _ ((s.begun m).meet m).1 rfl
    have h2 := meet_few (s.begun m) m
    have h3 := meet_len (s.begun m) m
    have h4 : (s.begun m).held.length ≤ s.held.length := by
      unfold Ts.begun
      split
      · exact Nat.zero_le _
      · exact Nat.le_refl _
    have h5 : (s.begunA m).length ≤ 1 := by
      unfold Ts.begunA
      split
      · exact Nat.le_refl _
      · exact Nat.zero_le _
    rw [List.length_append, List.length_append]; omega
  · exact Nat.zero_le _
theorem Pr.few {w0 w : World} {t u : Nat} {Sa Sb : Ts} (h : Pr w0 w t u Sa Sb) : Sa.held.length ≤ 8 := by
  obtain ⟨s, d, h1, rfl, -⟩ := h.ex
  have := h1.lh
  have := h1.l8
  show (s.hs.map Hm.m).length ≤ 8
  rw [List.length_map]; omega
set_option maxHeartbeats 16000000 in
set_option maxRecDepth 100000 in
theorem plays_no (x y z : Int) (a1 : Option Addr) (n1 cap1 : Nat) (w : World) (hx : newOk x y z = false) : Calls Try.prog 3 #[.int .i64 x, .int .i64 y, .int .i64 z, .slice a1 n1 cap1] w fun e w' => e = .returned (.bool true) ∧ Below w.heap.size w w' := by
  have HN := new_no x y z w hx
  have HD := new_noD x y z w hx
  have HAw : Hid (∀ W, Calls Try.prog 8 #[] W fun e w' => e = .returned (.bool true) ∧ Below W.heap.size W w') := awake_p
  clear hx
  go_enter Try.func3, Try.ntmps3
  go_wp2_with (first
    | (go_at_call 6; refine HN.mono ?_; rintro q w1 ⟨rfl, rfl⟩)
    | (go_at_call 7; refine HD.mono ?_; rintro q w1 ⟨rfl, rfl⟩)
    | (go_at_call 8; refine (HAw.out _).mono ?_; rintro q w12 ⟨rfl, hb12⟩))
  go_ret
  exact ⟨rfl, hb12⟩
set_option maxHeartbeats 16000000 in
set_option maxRecDepth 100000 in
theorem plays_walk (cl lf : Int) (h : Nat) (hok : newOk cl lf h = true) (a1 : Option Addr) (cap1 : Nat) (ops1 : List TOp) (w : World) (row1 : RowT w a1 ops1) (hlen1 : ops1.length ≤ 700000000000) : Calls Try.prog 3 #[.int .i64 cl, .int .i64 lf, .int .i64 h, .slice a1 ops1.length cap1] w fun e w' => e = .returned (.bool true) ∧ Below w.heap.size w w' := by
  have HN := new_yes cl lf h w hok
  have HD : Hid (∀ W, Calls Try.prog 7 #[.int .i64 cl, .int .i64 lf, .int .i64 h] W fun e w' => e = .returned (.tuple #[.pointer (some ⟨W.heap.size, 0, none⟩), .int .i64 0]) ∧ (∃ s, IsD w' W.heap.size W.heap.size s ∧ s.say = Ts.new cl lf h) ∧ Below W.heap.size W w') := fun W => (new_yesD cl lf h W hok).mono fun e w' hq => ⟨hq.1, by obtain ⟨s, a, b, -⟩ := hq.2.1; exact ⟨s, a, b⟩, hq.2.2⟩
  have HAw : Hid (∀ W, Calls Try.prog 8 #[] W fun e w' => e = .returned (.bool true) ∧ Below W.heap.size W w') := awake_p
  have HRow1 : Hid (RowT w a1 ops1) := row1
  obtain ⟨n1, hn1⟩ : ∃ n1, ops1.length = n1 := ⟨_, rfl⟩
  have HN1 : Hid (ops1.length = n1) := hn1
  rw [hn1] at hlen1
  rw [hn1]
  obtain ⟨t, ht⟩ : ∃ t, w.heap.size = t := ⟨_, rfl⟩
  have HT : Hid (w.heap.size = t) := ht
  rw [ht] at HN
  have HN2 : Hid (Calls Try.prog 6 #[.int .i64 cl, .int .i64 lf, .int .i64 h] w fun e w' => e = .returned (.tuple #[.pointer (some ⟨t, 0, none⟩), .int .i64 0]) ∧ (∃ s, IsT w' t t s ∧ s.say = Ts.new cl lf h ∧ ∀ k, s.blk t k → t ≤ k) ∧ Below t w w') := HN
  clear hn1 row1 ht hok HN
  go_enter Try.func3, Try.ntmps3
  go_wp2_with (first
    | (go_at_call 6; go_loud (refine HN2.out.mono ?_; rintro q w1 ⟨rfl, ⟨s1, hs1, hy1, -⟩, hb1⟩; have R1 : Hid (IsT w1 t t s1 ∧ s1.say = Ts.new cl lf h ∧ Below t w w1) := ⟨hs1, hy1, hb1⟩; clear hs1 hy1 hb1))
    | (go_at_call 7; refine (HD.out _).mono ?_; rintro q w2 ⟨rfl, ⟨d1, hd1, hz1⟩, hb2⟩; obtain ⟨u, hu⟩ : ∃ u, w1.heap.size = u := ⟨_, rfl⟩; have R2 : Hid (Pr w w2 t u (Ts.new cl lf h) (Ts.new cl lf h)) := (by have := pr_new (w0 := w) (by rw [HT.out]; exact R1.out.1) R1.out.2.1 (by rw [HT.out]; exact R1.out.2.2) hd1 hz1 hb2; rw [hu, HT.out] at this; exact this); rw [hu]; clear hd1 hz1 hb2 hu))
  clear HD HN2 R1
  go_loopw [13] (fun s13 wr => ∃ (i : Nat) (S : Ts), i ≤ n1 ∧ s13 = .int .i64 i ∧ Hid (Pr w wr t u S S ∧ S.due = none ∧ S.fr.length + S.held.length ≤ i)) (fun s13 _ => n1 - (intOf s13).toNat)
  case atStart => exact ⟨0, _, Nat.zero_le _, rfl, R2.out, new_due _ _ _, Nat.le_refl _⟩
  case round =>
    obtain ⟨i, S, hil, rfl, HR⟩ := hrel
    by_cases hlt : i < n1
    · have hlz : (i : Int) < (n1 : Int) := by omega
      have hbd : S.fr.length + S.held.length + 1 ≤ 700000000000 := Nat.le_trans (Nat.succ_le_succ HR.out.2.2) (Nat.le_trans hlt hlen1)
      have HBd : Hid ((S.fr.length + S.held.length + 1) * 56 ≤ 140737488351232) := Nat.le_trans (Nat.mul_le_mul_right 56 hbd) (by decide)
      clear hbd
      obtain ⟨bI, offI, o, rfl, hx, hcx, hax, -⟩ := (HRow1.out.below HR.out.1.bel).get (i := i) (by rw [HN1.out]; exact hlt)
      have HArg : Hid (∀ V, Below w.heap.size w V → ArgM V o.m) := fun V hV => by
        obtain ⟨_, _, o2, -, ho2, -, ha2, -⟩ := (HRow1.out.below hV).get (i := i) (by rw [HN1.out]; exact hlt)
        rw [hx] at ho2
        cases ho2
        exact ha2
      have ml : (toLd (.pointer (some ⟨bI, offI + i * 19, none⟩))).run Try.prog wr = .ok (.agg o.arr) wr := toLd_at (fun j v hv => hcx j v (by unfold TOp.arr at hv; rw [List.getElem?_toArray] at hv; exact hv)) o.size
      obtain ⟨gx, hgx⟩ : ∃ gx, wr.heap.size = gx := ⟨_, rfl⟩
      obtain ⟨W1, hW1⟩ : ∃ W1, wr.alloc (.cells #[.bool false, .int .i64 0, .int .i64 0, .int .i64 0, .int .i64 0, .int .i64 0, .int .i64 0, .int .i64 0, .int .i64 0, .int .i64 0, .int .i64 0, .int .i64 0, .string ⟨#[]⟩, .int .i64 0, .string ⟨#[]⟩, .int .i64 0, .string ⟨#[]⟩, .slice none 0 0, .slice none 0 0] 38) = W1 := ⟨_, rfl⟩
      have hb1 := boxB hW1
      obtain ⟨W2, hW2⟩ : ∃ W2, W1.setRow gx o.arr = W2 := ⟨_, rfl⟩
      rw [hgx] at hb1
      have ms := toSt_of hb1.1 rfl o.size (TOp.one hax) hW2
      have hx2 : W2.heap[gx]? = some (.cells o.arr 38 (0, 0)) := by rw [← hW2]; exact setRow_heap _ _ _ _ _ _ hb1.1
      have hb2 : Below wr.heap.size wr W2 := by
        have o1 : Only (· = gx) W1 W2 := by rw [← hW2]; exact onlyR _ _ _
        have b5 : Below wr.heap.size wr W1 := by rw [hgx]; exact hb1.2
        exact o1.below b5 b5.size (fun k hk => by rw [hk, hgx]; exact Nat.le_refl _)
      have P2 : Hid (Pr w W2 t u S S) := HR.out.1.below hb2
      have HX2 : Hid (W2.heap[gx]? = some (.cells o.arr 38 (0, 0))) := hx2
      obtain ⟨X2, hX2⟩ : ∃ X, o.arr = X := ⟨_, rfl⟩
      rw [hX2] at ml ms
      cases hask : o.ask with
      | true =>
        have c0 : W2.cell? ⟨gx, 0, none⟩ = some (.bool true) := by rw [cell_of hx2 0, ← hask]; rfl
        have c1 : W2.cell? ⟨gx, 1, none⟩ = some (.int .i64 o.seq) := cell_of hx2 1
        clear hx hcx hax hb1 hW2 hx2 hb2 hX2 hask
        go_wp2_with (first
          | (go_at_call 9; refine (P2.out.ask_p o.seq).mono ?_; rintro q w5 ⟨rfl, hp5, hk5⟩; have P5 : Hid (Pr w w5 t u (S.ask o.seq) S) := hp5; have d1 : w5.cell? ⟨gx, 1, none⟩ = some (.int .i64 o.seq) := cell_of ((hk5.tag gx _ ⟨_, _, HX2.out⟩ (by decide) (by decide)).trans HX2.out) 1; clear hp5 hk5 ml ms)
          | (go_at_call 10; refine (P5.out.ask_d o.seq).mono ?_; rintro q w6 ⟨rfl, hp6, -⟩; have P6 : Hid (Pr w w6 t u (S.ask o.seq) (S.ask o.seq)) := hp6; clear hp6)
          | (go_at_call 15; refine (like_yes P6.out).mono ?_; rintro q w7 ⟨rfl, hb7⟩; have P7 : Hid (Pr w w7 t u (S.ask o.seq) (S.ask o.seq)) := P6.out.below hb7; clear hb7))
        exact ⟨⟨i + 1, _, by omega, by simp, P7.out, ask_due HR.out.2.1, Nat.le_trans (ask_pot S o.seq) (Nat.le_succ_of_le HR.out.2.2)⟩, by simp [intOf]; omega⟩
      | false =>
        have c0 : W2.cell? ⟨gx, 0, none⟩ = some (.bool false) := by rw [cell_of hx2 0, ← hask]; rfl
        obtain ⟨Z, hZ⟩ : ∃ Z, o.m.arr = Z := ⟨_, rfl⟩
        have HMm : Hid (∀ V, V.heap[gx]? = some (.cells o.arr 38 (0, 0)) → (mmLd (.pointer (some ⟨gx, 2, none⟩))).run Try.prog V = .ok (.agg Z) V) := fun V hV => by
          rw [← hZ]
          exact mmLd_at (fun j v hv => (by rw [Nat.add_comm, cell_of hV (j + 2)]; exact TOp.arr_get hv)) o.m.size
        have HMs : Hid (∀ V, Below w.heap.size w V → Calls Try.prog 13 #[.agg Z] V fun e w' => MsgR o.m V e w') := fun V hV => by
          rw [← hZ]
          exact msg_p o.m V (HArg.out V hV)
        clear hx hcx hax hb1 hW2 hx2 hb2 hX2 hask hZ
        go_upto_region 14 with fail
        clear ml ms
        have kS := HMm.out W2.drew HX2.out
        go_region_held3 (fun V => (mmLd (.pointer (some ⟨gx, 2, none⟩))).run Try.prog V = .ok (.agg Z) V)
          (with_reducible first | exact k7 | exact k6 | exact k5 | exact k4 | exact k3 | exact kS)
          (first
            | (go_at_call 11; refine HSA.out.mono ?_; rintro q w7 ⟨rfl, hb7⟩; have P7 : Hid (Pr w w7 t u (S.take z.m).1 (S.take z.m).1) := P6.out.1.below hb7; have k7 := HMm.out w7 (hkeep P6.out.2 hb7); clear hb7)
            | (go_at_call 14; refine (P5.out.1.take_d z2 P5.out.2.2.1 HR.out.2.1 HBd.out).mono ?_; rintro q w6 ⟨v6, l6, rfl, ha6, hc6, hp6, hk6⟩; rw [P5.out.2.2.2.1] at hc6 hp6; have h6 := (hk6.tag gx _ ⟨_, _, P5.out.2.2.2.2⟩ (by decide) (by decide) (by decide)).trans P5.out.2.2.2.2; have P6 : Hid (Pr w w6 t u (S.take z.m).1 (S.take z.m).1 ∧ w6.heap[gx]? = some (.cells o.arr 38 (0, 0))) := ⟨hp6, h6⟩; have HSA : Hid (Calls Try.prog 11 #[v4, v6] w6 fun e w' => e = .returned (.bool true) ∧ Below w6.heap.size w6 w') := sameActs_yes _ _ _ _ w6 _ _ (hk6.acts P5.out.2.1) ha6 (R4c.out.trans hc6.symm) (by have h1 := take_len S z.m; have h2 := P2.out.few; have h3 := congrArg List.length R4c.out; rw [List.length_map] at h3; omega); have k6 := HMm.out w6 h6; clear ha6 hc6 hp6 hk6 h6)
            | (have _q := P4; clear _q; go_at_call 13; refine (HMs.out _ P4.out.1.bel).mono ?_; rintro q w5 ⟨z2, rfl, hzm2, hLz2, hb5⟩; have h5 := hkeep P4.out.2.2 hb5; have P5 : Hid (Pr w w5 t u (S.take z.m).1 S ∧ Acts w5 w3.heap.size v4 l4 ∧ Lists w5 0 z2 ∧ z2.m = z.m ∧ w5.heap[gx]? = some (.cells o.arr 38 (0, 0))) := ⟨P4.out.1.below hb5, P4.out.2.1.below hb5, hLz2.down (Nat.zero_le _), hzm2.trans P3.out.2.2.1.symm, h5⟩; have k5 := HMm.out w5 h5; clear hzm2 hLz2 hb5 h5)
            | (go_at_call 12; refine (P3.out.1.take_p z P3.out.2.1).mono ?_; rintro q w4 ⟨v4, l4, rfl, ha4, hc4, hp4, hk4⟩; have h4 := (hk4.tag gx _ ⟨_, _, P3.out.2.2.2⟩ (by decide) (by decide)).trans P3.out.2.2.2; have P4 : Hid (Pr w w4 t u (S.take z.m).1 S ∧ Acts w4 w3.heap.size v4 l4 ∧ w4.heap[gx]? = some (.cells o.arr 38 (0, 0))) := ⟨hp4, ha4, h4⟩; have R4c : Hid (l4.map Am.c = (S.take z.m).2) := hc4; have k4 := HMm.out w4 h4; clear ha4 hc4 hp4 hk4 h4)
            | (go_at_call 13; refine (HMs.out _ P2.out.bel.drew).mono ?_; rintro q w3 ⟨z, rfl, hzm, hLz, hb3⟩; have h3 := hkeep HX2.out (undrew hb3); have P3 : Hid (Pr w w3 t u S S ∧ Lists w3 0 z ∧ z.m = o.m.pm ∧ w3.heap[gx]? = some (.cells o.arr 38 (0, 0))) := ⟨P2.out.below (undrew hb3), hLz.down (Nat.zero_le _), hzm, h3⟩; have k3 := HMm.out w3 h3; clear hzm hLz hb3 h3))
        clear kS k3 k4 k5 k6 k7
        go_wp2_with (go_at_call 15; refine (like_yes P7.out).mono ?_; rintro q w8 ⟨rfl, hb8⟩; have P8 : Hid (Pr w w8 t u (S.take z.m).1 (S.take z.m).1) := P7.out.below hb8; clear hb8)
        exact ⟨⟨i + 1, _, by omega, by simp, P8.out, take_due HR.out.2.1, Nat.le_trans (take_pot S z.m) (Nat.succ_le_succ HR.out.2.2)⟩, by simp [intOf]; omega⟩
    · have hlz : ¬ (i : Int) < (n1 : Int) := by omega
      have HBe : Hid (Below w.heap.size w wr) := HR.out.1.bel
      go_wp2_with (first
        | (go_at_call 8; refine (HAw.out _).mono ?_; rintro q w12 ⟨rfl, hb12⟩))
      go_ret
      exact ⟨rfl, chainB HBe.out hb12⟩
theorem walk_TidePlays (x y z : Int) (a1 : Option Addr) (cap1 : Nat) (ops1 : List TOp) (w : World) (_ : (Lit.int .i64 x).wf = true) (_ : (Lit.int .i64 y).wf = true) (_ : (Lit.int .i64 z).wf = true) (row1 : RowT w a1 ops1) (hlen1 : ops1.length ≤ 700000000000) : Calls Try.prog 3 #[.int .i64 x, .int .i64 y, .int .i64 z, .slice a1 ops1.length cap1] w fun e w' => e = .returned (.bool true) ∧ Below w.heap.size w w' := by
  cases hx : newOk x y z with
  | false => exact plays_no x y z a1 _ cap1 w hx
  | true =>
    have hz := ((newOk_parts x y z).1 hx).2.2.2.2.1
    obtain ⟨h, rfl⟩ : ∃ h : Nat, z = (h : Int) := ⟨z.toNat, by omega⟩
    exact plays_walk x y h hx a1 cap1 ops1 w row1 hlen1
end
section
open Go.RowKit Go.Shelf

theorem feq_int {n : Int} (h : (Lit.int .i64 n).wf = true) : Op.floatEq .f64 (floatOfInt .f64 n) (floatOfInt .f64 n) = true := by
  have hb : n.natAbs ≤ 2 ^ 63 := by
    have := h
    simp [Lit.wf, IntKind.min, IntKind.max, IntKind.bits, IntKind.signed] at this
    omega
  obtain ⟨v, hv⟩ := ofInt_fin n hb
  have ho := order_val hv hv
  rw [cmp_eq rfl] at ho
  show (FloatKind.f64.format.order _ _ == some .eq) = true
  rw [show FloatKind.f64.format.order (floatOfInt .f64 n) (floatOfInt .f64 n) = some .eq from ho]; rfl
/-- all but keys and entries stand as they stood -/
def Keeps (W0 V : World) : Prop := ∀ q ty, Tag W0 q ty → 53 ≠ ty → 57 ≠ ty → V.heap[q]? = W0.heap[q]?
theorem Kw.keeps {w W0 W : World} {t u : Nat} {S : Ts} {F : Nat → Prop} {LK LE : List (Value × Nat)} (h : Kw w W0 W t u S F LK LE) : Keeps W0 W := h.same
def HeldF (w0 w : World) (t u : Nat) (S : Ts) (F : Nat → Prop) (e : Ending) (w' : World) : Prop := ∃ v l, e = .returned v ∧ Msgs w' w.heap.size v l ∧ l.length ≤ 8 ∧ Pf w0 w' t u S S (fun k => F k ∨ (w.heap.size ≤ k ∧ k < w'.heap.size))
theorem Pf.held {w0 w : World} {t u : Nat} {S : Ts} {F : Nat → Prop} (h : Pf w0 w t u S S F) : Calls Try.prog 17 #[.pointer (some ⟨t, 0, none⟩)] w fun e w' => HeldF w0 w t u S F e w' := by
  obtain ⟨s, d, h1, h2, -⟩ := h.ex
  refine (held_p t _ s w h1).mono ?_
  rintro e w' ⟨v, l, rfl, a, b, c⟩
  refine ⟨v, l, rfl, a, ?_, h.add c⟩
  have e1 := congrArg List.length b
  rw [List.length_map, List.length_map] at e1
  have := h1.lh
  have := h1.l8
  omega
/-- a list of structs with two lists in each -/
def Two (W0 : World) (a : Option Addr) (m c oK oE : Nat) (LK LE : List (Value × Nat)) : Prop := ∀ j, j < m → ∃ g ak nk ck ae ne ce, a = some ⟨g, 0, none⟩ ∧ (Value.slice ak nk ck, nk) ∈ LK ∧ (Value.slice ae ne ce, ne) ∈ LE ∧ nk ≤ 140737488351232 ∧ ne ≤ 140737488351232 ∧ ∀ V, Keeps W0 V → V.cell? ⟨g, j * c + oK, none⟩ = some (.slice ak nk ck) ∧ V.cell? ⟨g, j * c + oE, none⟩ = some (.slice ae ne ce)
def keysOfA (l : List Am) : List (Value × Nat) := l.map fun a => (a.vk, a.c.ks.length)
def entsOfA (l : List Am) : List (Value × Nat) := l.map fun a => (a.ve, a.c.es.length)
def keysOfM (l : List Hm) : List (Value × Nat) := l.map fun z => (z.vk, z.m.ks.length)
def entsOfM (l : List Hm) : List (Value × Nat) := l.map fun z => (z.ve, z.m.es.length)
theorem two_acts {W0 : World} {B : Nat} {a : Option Addr} {c : Nat} {l : List Am} {LK LE : List (Value × Nat)} (h : Acts W0 B (.slice a l.length c) l) (h1 : ∀ p ∈ keysOfA l, p ∈ LK) (h2 : ∀ p ∈ entsOfA l, p ∈ LE) : Two W0 a l.length 7 4 6 LK LE := fun j hj => by
  obtain ⟨y, hy⟩ : ∃ y, l[j]? = some y := ⟨_, List.getElem?_eq_getElem hj⟩
  have hm := List.mem_of_getElem? hy
  obtain ⟨g, rfl, -, -, -, -⟩ := owns_act h.row hy
  have few := acl_few (h.each y hm)
  refine ⟨g, y.ak, y.c.ks.length, y.ck, y.ae, y.c.es.length, y.ce, rfl, h1 _ (List.mem_map.2 ⟨y, hm, rfl⟩), h2 _ (List.mem_map.2 ⟨y, hm, rfl⟩), few.2, few.1, fun V hV => ?_⟩
  have hr : RowA V B (.slice (some ⟨g, 0, none⟩) l.length c) l := owns_moved h.row fun q e => hV q _ (Tag.own h.row e) (by decide) (by decide)
  obtain ⟨g', e, -, -, -, q⟩ := owns_act hr hy
  cases e
  exact ⟨q 4 _ rfl, q 6 _ rfl⟩
theorem two_msgs {W0 : World} {B : Nat} {a : Option Addr} {c : Nat} {l : List Hm} {LK LE : List (Value × Nat)} (h : Msgs W0 B (.slice a l.length c) l) (h1 : ∀ p ∈ keysOfM l, p ∈ LK) (h2 : ∀ p ∈ entsOfM l, p ∈ LE) : Two W0 a l.length 16 15 14 LK LE := fun j hj => by
  obtain ⟨y, hy⟩ : ∃ y, l[j]? = some y := ⟨_, List.getElem?_eq_getElem hj⟩
  have hm := List.mem_of_getElem? hy
  obtain ⟨g, rfl, -, -, -, -⟩ := owns_msg h.row hy
  have few := lists_few (h.each y hm)
  refine ⟨g, y.ak, y.m.ks.length, y.ck, y.ae, y.m.es.length, y.ce, rfl, h1 _ (List.mem_map.2 ⟨y, hm, rfl⟩), h2 _ (List.mem_map.2 ⟨y, hm, rfl⟩), few.2, few.1, fun V hV => ?_⟩
  have hr : RowM V B (.slice (some ⟨g, 0, none⟩) l.length c) l := owns_moved h.row fun q e => hV q _ (Tag.own h.row e) (by decide) (by decide)
  obtain ⟨g', e, -, -, -, q⟩ := owns_msg hr hy
  cases e
  exact ⟨q 15 _ rfl, q 14 _ rfl⟩
/-- the message's lists and the acts', all the law's own -/
theorem kw_acts {w W0 : World} {t u B B2 : Nat} {S : Ts} {F : Nat → Prop} {z : Hm} {v : Value} {l : List Am} (h : Pf w W0 t u S S F) (hz : Lists W0 B z) (ha : Acts W0 B2 v l) (hB : w.heap.size ≤ B) (hB2 : w.heap.size ≤ B2) (hF : ∀ k, z.ve.ownBlock = some k ∨ z.vk.ownBlock = some k → F k) (hF2 : ∀ k, AtB l k → F k) :
    Kw w W0 W0 t u S F ((z.vk, z.m.ks.length) :: keysOfA l) ((z.ve, z.m.es.length) :: entsOfA l) := by
  refine Kw.start h (fun p hp => ?_) (fun p hp => ?_)
  · rcases List.mem_cons.1 hp with rfl | hp
    · exact ⟨Rom.of hz.ks, fun q e => ⟨hF q (.inr e), Nat.le_trans hB (World.ownsRow.lt hz.ks q e).1⟩⟩
    · obtain ⟨a, hal, rfl⟩ := List.mem_map.1 hp
      exact ⟨Rom.of (ha.each a hal).ks, fun q e => ⟨hF2 q ⟨a, hal, .inr e⟩, Nat.le_trans hB2 (World.ownsRow.lt (ha.each a hal).ks q e).1⟩⟩
  · rcases List.mem_cons.1 hp with rfl | hp
    · exact ⟨Rom.of hz.es, fun q e => ⟨hF q (.inl e), Nat.le_trans hB (World.ownsRow.lt hz.es q e).1⟩⟩
    · obtain ⟨a, hal, rfl⟩ := List.mem_map.1 hp
      exact ⟨Rom.of (ha.each a hal).es, fun q e => ⟨hF2 q ⟨a, hal, .inl e⟩, Nat.le_trans hB2 (World.ownsRow.lt (ha.each a hal).es q e).1⟩⟩
theorem kw_held {w w1 W0 : World} {t u : Nat} {S : Ts} {F : Nat → Prop} {v : Value} {l : List Hm} (h : Pf w W0 t u S S (fun k => F k ∨ (w1.heap.size ≤ k ∧ k < W0.heap.size))) (hm : Msgs W0 w1.heap.size v l) (hB : w.heap.size ≤ w1.heap.size) :
    Kw w W0 W0 t u S (fun k => F k ∨ (w1.heap.size ≤ k ∧ k < W0.heap.size)) (keysOfM l) (entsOfM l) := by
  refine Kw.start h (fun p hp => ?_) (fun p hp => ?_)
  · obtain ⟨a, hal, rfl⟩ := List.mem_map.1 hp
    exact ⟨Rom.of (hm.each a hal).ks, fun q e => ⟨.inr (World.ownsRow.lt (hm.each a hal).ks q e), Nat.le_trans hB (World.ownsRow.lt (hm.each a hal).ks q e).1⟩⟩
  · obtain ⟨a, hal, rfl⟩ := List.mem_map.1 hp
    exact ⟨Rom.of (hm.each a hal).es, fun q e => ⟨.inr (World.ownsRow.lt (hm.each a hal).es q e), Nat.le_trans hB (World.ownsRow.lt (hm.each a hal).es q e).1⟩⟩
end
end Go.Proofs.Ytpmcecenhgppbaa
