/- The law TideRises. -/
import Derived.Test.YtnklhdoiggomkaaJTSes28
import Derived.Test.YtnklhdoiggomkaaJTSes30
namespace Go.Proofs.Ytnklhdoiggomkaa
section
open Go.RowKit Go.Shelf
theorem Try.sizeTop : (Try.prog.info? 38).map (·.size) = some 19 := by kernel_rfl
/-- a script's call loaded and stored whole, shut -/
def toLd (v : Value) : Sem Value := Instr.loadAt 38 v
theorem loadTo (v : Value) : Instr.loadAt 38 v = toLd v := rfl
theorem toLd_at {w : World} {g o : Nat} {cs : Array Value} (h : ∀ j v, cs[j]? = some v → w.cell? ⟨g, o + j, none⟩ = some v) (hs : cs.size = 19) : (toLd (.pointer (some ⟨g, o, none⟩))).run Try.prog w = .ok (.agg cs) w := by
  have := run_loadAt_mid (P := Try.prog) w g o 38 cs.toList _ (fun j v hv => h j v (by rw [← Array.getElem?_toList]; exact hv)) Try.underlying38 rfl (by rw [Array.length_toList, hs]; exact Try.sizeTop)
  unfold toLd
  rw [this, Array.toArray_toList]
attribute [irreducible] toLd
def toSt (a v : Value) : Sem Unit := Instr.storeAt 38 a v
theorem storeTo (a v : Value) : Instr.storeAt 38 a v = toSt a v := rfl
theorem toSt_of {w W : World} {g : Nat} {old cs : Array Value} {t : TypeId} (h : w.heap[g]? = some (.cells old t (0, 0))) (ho : old.size = 19) (hs : cs.size = 19) (h1 : cs.all (·.oneCell') = true) (hW : w.setRow g cs = W) : (toSt (.pointer (some ⟨g, 0, none⟩)) (.agg cs)).run Try.prog w = .ok () W := by
  subst hW
  unfold toSt Instr.storeAt Instr.sureAddr
  simp [run_storeVar_row w g t 38 old cs h (by rw [hs]; exact Try.sizeTop) (by rw [ho, hs]) h1]
attribute [irreducible] toSt
attribute [local go_sem ↓ high] loadMsg storeMsg buildMsg storeAct loadAct buildAct loadMm storeMm loadTo storeTo
attribute [local go_sem high] run_store_complex eqC
theorem neqC (w : World) (a b c d : Nat) : (binOp .neq 43 (.complex .f64 a b) (.complex .f64 c d)).run Try.prog w = .ok (.bool (!(Op.floatEq .f64 a c && Op.floatEq .f64 b d))) w := by
  simp [binOp, Op.complexOp, Op.Complex.cmp, Op.floatEq, Op.floatCmp, asBool]
attribute [local go_sem high] neqC
theorem TOp.size (x : TOp) : x.arr.size = 19 := rfl
theorem TOp.arr_get {x : TOp} {j : Nat} {v : Value} (h : x.m.arr[j]? = some v) : x.arr[j + 2]? = some v := by
  unfold TOp.arr TOp.vals
  rw [List.getElem?_toArray, List.getElem?_cons_succ, List.getElem?_cons_succ, Array.getElem?_toList]; exact h
theorem TOp.one {w : World} {x : TOp} (h : ArgM w x.m) : x.arr.all (·.oneCell') = true := by
  obtain ⟨ae, ce, he, _⟩ := h.es
  obtain ⟨ak, ck, hk, _⟩ := h.ks
  simp [TOp.arr, TOp.vals, Mm.arr, Value.oneCell', he, hk]
theorem Mk.same {a b c d : Nat} {e n : Int} (h : Mk a b e n) (k : Mk c d e n) : Op.floatEq .f64 a c = true ∧ Op.floatEq .f64 b d = true := by
  rw [floatEq_whole h.ha k.ha, floatEq_whole h.hb k.hb]; simp
theorem Mk.notLater {a b c d : Nat} {e n e' n' : Int} (h : Mk a b e n) (k : Mk c d e' n') (hr : e < e' ∨ (e' = e ∧ n ≤ n')) : laterB a b c d = false := by
  unfold laterB
  rw [h.good, k.good, h.pa, h.pb, k.pa, k.pb, decide_eq_false (by omega)]; rfl
/-- the law's tide, its message's box, and the messages that were held -/
structure Rz (w W : World) (t : Nat) (S : Ts) (F : Nat → Prop) (gm : Nat) (z : Hm) (v : Value) (l : List Hm) : Prop where
  lt : Lt w W t S F
  box : W.heap[gm]? = some (.cells z.arr 45 (0, 0))
  fg : F gm
  held : Msgs W 0 v l
  own : ∀ q, v.ownBlock = some q → F q
theorem Rz.below {w W V : World} {t : Nat} {S : Ts} {F : Nat → Prop} {gm : Nat} {z : Hm} {v : Value} {l : List Hm} (h : Rz w W t S F gm z v l) (hb : Below W.heap.size W V) : Rz w V t S F gm z v l := ⟨h.lt.below hb, hkeep h.box hb, h.fg, h.held.below hb, h.own⟩
theorem Rz.on {w W V : World} {t : Nat} {S S' : Ts} {F : Nat → Prop} {gm : Nat} {z : Hm} {v : Value} {l : List Hm} (h : Rz w W t S F gm z v l) (hl : Lt w V t S' F) (hk : Kt F W V) : Rz w V t S' F gm z v l := ⟨hl, (hk.mine gm h.fg (Array.getElem?_eq_some_iff.1 h.box).1).trans h.box, h.fg, ⟨hk.rowM h.held.row h.own, fun a ha => hk.lists (h.held.each a ha)⟩, h.own⟩
theorem Msgs.down {w : World} {B B' : Nat} {v : Value} {l : List Hm} (k : Msgs w B v l) (hb : B' ≤ B) : Msgs w B' v l := ⟨owns_le k.row hb, fun a ha => (k.each a ha).down hb⟩
/-- the message's box, filled -/
theorem rz_of {w wr w5 w6 W7 W8 : World} {t gm : Nat} {S : Ts} {z : Hm} {v : Value} {l : List Hm} {old : Array Value} (h : Lt w wr t S (fun _ => False)) (hm : Msgs w5 wr.heap.size v l) (hb5 : Below wr.heap.size wr w5) (hb6 : Below w5.heap.size w5 w6) (hz : Lists w6 w5.heap.size z) (hgm : w6.heap.size = gm) (hW7 : w6.alloc (.cells old 45) = W7) (hW8 : W7.setRow gm z.arr = W8) :
    (Rz w W8 t S (fun k => False ∨ (wr.heap.size ≤ k ∧ k < W8.heap.size)) gm z v l ∧ Lists W8 0 z) ∧ (msgLd (.pointer (some ⟨gm, 0, none⟩))).run Try.prog W8 = .ok (.agg z.arr) W8 := by
  have hb7 := boxB hW7
  rw [hgm] at hb7
  have b7 : Below w6.heap.size w6 W7 := by rw [hgm]; exact hb7.2
  have o8 : Only (· = gm) W7 W8 := by rw [← hW8]; exact onlyR _ _ _
  have hx8 : W8.heap[gm]? = some (.cells z.arr 45 (0, 0)) := by rw [← hW8]; exact setRow_heap _ _ _ _ _ _ hb7.1
  have b8 : Below w6.heap.size w6 W8 := o8.below b7 b7.size (fun k hk => by rw [hk, hgm]; exact Nat.le_refl _)
  have b58 : Below w5.heap.size w5 W8 := chainB hb6 b8
  have hlt8 : gm < W8.heap.size := (Array.getElem?_eq_some_iff.1 hx8).1
  have hlow : wr.heap.size ≤ gm := by rw [← hgm]; exact Nat.le_trans hb5.size hb6.size
  refine ⟨⟨⟨?_, hx8, .inr ⟨hlow, hlt8⟩, (hm.below b58).down (Nat.zero_le _), fun q hq => .inr ?_⟩, (hz.below b8).down (Nat.zero_le _)⟩, msgLd_of hx8 z.size⟩
  · exact h.add (chainB hb5 b58)
  · have := World.ownsRow.lt hm.row q hq
    exact ⟨this.1, Nat.lt_of_lt_of_le this.2 b58.size⟩
set_option maxHeartbeats 16000000 in
set_option maxRecDepth 100000 in
theorem rises_no (x : Int) (a1 : Option Addr) (n1 cap1 : Nat) (w : World) (hx : newOk 2 3 x = false) (hn : x < 0 ∨ 8 < x) : Calls Try.prog 5 #[.int .i64 x, .slice a1 n1 cap1] w fun e w' => e = .returned (.bool true) ∧ Below w.heap.size w w' := by
  have HN := new_no 2 3 x w hx
  have HAw : Hid (∀ W, Calls Try.prog 11 #[] W fun e w' => e = .returned (.bool true) ∧ Below W.heap.size W w') := awake_p
  clear hx
  rcases hn with hn | hn
  · go_enter Try.func5, Try.ntmps5
    go_wp2_with (first
      | (go_at_call 9; refine HN.mono ?_; rintro q w1 ⟨rfl, rfl⟩)
      | (go_at_call 11; refine (HAw.out _).mono ?_; rintro q w12 ⟨rfl, hb12⟩))
    go_ret
    exact ⟨rfl, hb12⟩
  · have hn2 : ¬ x < 0 := by omega
    go_enter Try.func5, Try.ntmps5
    go_wp2_with (first
      | (go_at_call 9; refine HN.mono ?_; rintro q w1 ⟨rfl, rfl⟩)
      | (go_at_call 11; refine (HAw.out _).mono ?_; rintro q w12 ⟨rfl, hb12⟩))
    go_ret
    exact ⟨rfl, hb12⟩
set_option maxHeartbeats 16000000 in
set_option maxRecDepth 100000 in
theorem rises_walk (h : Nat) (hh : h ≤ 8) (a1 : Option Addr) (cap1 : Nat) (ops1 : List TOp) (w : World) (row1 : RowT w a1 ops1) (hlen1 : ops1.length ≤ 3000000000000) : Calls Try.prog 5 #[.int .i64 h, .slice a1 ops1.length cap1] w fun e w' => e = .returned (.bool true) ∧ Below w.heap.size w w' := by
  have HN : Hid (Calls Try.prog 9 #[.int .i64 2, .int .i64 3, .int .i64 h] w fun e w' => e = .returned (.tuple #[.pointer (some ⟨w.heap.size, 0, none⟩), .int .i64 0]) ∧ Lt w w' w.heap.size (Ts.new 2 3 h) (fun _ => False) ∧ Below w.heap.size w w') := lt_new 2 3 h w w (Below.refl _ _) _ (fun k hk => hk.elim) (by
    unfold newOk withB
    simp; omega)
  have HAw : Hid (∀ W, Calls Try.prog 11 #[] W fun e w' => e = .returned (.bool true) ∧ Below W.heap.size W w') := awake_p
  have HRow1 : Hid (RowT w a1 ops1) := row1
  obtain ⟨n1, hn1⟩ : ∃ n1, ops1.length = n1 := ⟨_, rfl⟩
  have HN1 : Hid (ops1.length = n1) := hn1
  rw [hn1] at hlen1
  rw [hn1]
  obtain ⟨t, ht⟩ : ∃ t, w.heap.size = t := ⟨_, rfl⟩
  have HT : Hid (w.heap.size = t) := ht
  rw [ht] at HN
  clear hn1 row1 ht
  go_enter Try.func5, Try.ntmps5
  go_wp2_with (first
    | (go_at_call 9; refine HN.out.mono ?_; rintro q w1 ⟨rfl, hL1, hb1⟩; have R1 : Hid (Lt w w1 t (Ts.new 2 3 h) (fun _ => False)) := hL1; clear hL1 hb1))
  go_loopw [7] (fun s7 wr => ∃ (i : Nat) (S : Ts), i ≤ n1 ∧ s7 = .int .i64 i ∧ Hid (Lt w wr t S (fun _ => False) ∧ S.client = 2 ∧ S.life = 3 ∧ S.hold = h)) (fun s7 _ => n1 - (intOf s7).toNat)
  case atStart => exact ⟨0, _, Nat.zero_le _, rfl, R1.out, rfl, rfl, rfl⟩
  case round =>
    obtain ⟨i, S, hil, rfl, HR⟩ := hrel
    by_cases hlt : i < n1
    · have hlz : (i : Int) < (n1 : Int) := by omega
      obtain ⟨bI, offI, x, rfl, hx, hcx, hax, -⟩ := (HRow1.out.below HR.out.1.bel).get (i := i) (by rw [HN1.out]; exact hlt)
      have ml : (toLd (.pointer (some ⟨bI, offI + i * 19, none⟩))).run Try.prog wr = .ok (.agg x.arr) wr := toLd_at (fun j v hv => hcx j v (by unfold TOp.arr at hv; rw [List.getElem?_toArray] at hv; exact hv)) x.size
      obtain ⟨gx, hgx⟩ : ∃ gx, wr.heap.size = gx := ⟨_, rfl⟩
      obtain ⟨W1, hW1⟩ : ∃ W1, wr.alloc (.cells #[.bool false, .int .i64 0, .int .i64 0, .int .i64 0, .int .i64 0, .int .i64 0, .int .i64 0, .int .i64 0, .int .i64 0, .int .i64 0, .int .i64 0, .int .i64 0, .string ⟨#[]⟩, .int .i64 0, .string ⟨#[]⟩, .int .i64 0, .string ⟨#[]⟩, .slice none 0 0, .slice none 0 0] 38) = W1 := ⟨_, rfl⟩
      have hb1 := boxB hW1
      obtain ⟨W2, hW2⟩ : ∃ W2, W1.setRow gx x.arr = W2 := ⟨_, rfl⟩
      rw [hgx] at hb1
      have ms := toSt_of hb1.1 rfl x.size (TOp.one hax) hW2
      have hx2 : W2.heap[gx]? = some (.cells x.arr 38 (0, 0)) := by rw [← hW2]; exact setRow_heap _ _ _ _ _ _ hb1.1
      have hb2 : Below wr.heap.size wr W2 := by
        have o1 : Only (· = gx) W1 W2 := by rw [← hW2]; exact onlyR _ _ _
        have b5 : Below wr.heap.size wr W1 := by rw [hgx]; exact hb1.2
        exact o1.below b5 b5.size (fun k hk => by rw [hk, hgx]; exact Nat.le_refl _)
      have R2 : Hid (Lt w W2 t S (fun _ => False)) := HR.out.1.below hb2
      have HX : Hid (∀ V, Below W2.heap.size W2 V → V.heap[gx]? = some (.cells x.arr 38 (0, 0)) ∧ ArgM V x.m) := fun V hV => ⟨hkeep hx2 hV, (hax.below hb2).below hV⟩
      have HB2 : Hid (Below wr.heap.size wr W2) := hb2
      obtain ⟨xa, ya, hmk, -, -, hcm⟩ := R2.out.marke
      have HMk : Hid (Mk xa ya S.e S.n) := hmk
      have HCm : Hid (Calls Try.prog 19 #[.pointer (some ⟨t, 0, none⟩)] W2 fun e w' => e = .returned (.complex .f64 xa ya) ∧ W2 = w') := hcm
      have HCv : Hid (Calls Try.prog 20 #[.pointer (some ⟨t, 0, none⟩)] W2 fun e w' => e = .returned (.int .i64 S.ver) ∧ W2 = w') := lt_version R2.out
      obtain ⟨vr, hvr⟩ : ∃ vr, S.ver = vr := ⟨_, rfl⟩
      have HVr : Hid (S.ver = vr) := hvr
      rw [hvr] at HCv
      obtain ⟨sq, hsq⟩ : ∃ sq, S.asked = sq := ⟨_, rfl⟩
      have HSq : Hid (S.asked = sq) := hsq
      obtain ⟨X2, hX2⟩ : ∃ X, x.arr = X := ⟨_, rfl⟩
      rw [hX2] at ml ms
      clear hx hcx hax hb1 hW2 hx2 hb2 hmk hcm hvr hsq hX2
      cases hask : x.ask with
      | true =>
        have HAsk : Hid (x.ask = true) := hask
        clear hask
        go_wp2_with (first
          | (go_at_call 21; refine (lt_held R2.out).mono ?_; rintro q w5 ⟨v5, l5, rfl, hm5, hc5, hb5⟩; obtain ⟨a5, q5, rfl⟩ := owns_len hm5.row; have R5 : Hid (Lt w w5 t S (fun _ => False)) := R2.out.below hb5; have c0 : w5.cell? ⟨gx, 0, none⟩ = some (.bool true) := (by rw [cell_of (HX.out w5 hb5).1 0, ← HAsk.out]; rfl); have c1 : w5.cell? ⟨gx, 1, none⟩ = some (.int .i64 x.seq) := cell_of (HX.out w5 hb5).1 1; clear ml ms hm5 hc5 hb5)
          | (go_at_call 22; refine (lt_asked R5.out).mono ?_; rintro q w' ⟨rfl, rfl⟩; rw [HSq.out])
          | (go_at_call 12; refine (lt_ask R5.out x.seq).mono ?_; rintro q w6 ⟨rfl, hl6, -⟩; have R6 : Hid (Lt w w6 t (S.ask x.seq) (fun _ => False)) := hl6; obtain ⟨xb, yb, hmk6, -, -, hcm6⟩ := hl6.marke; obtain ⟨f1, f2⟩ := Mk.same hmk6 (show Mk xa ya (S.ask x.seq).e (S.ask x.seq).n from HMk.out); have HCm6 : Hid (Calls Try.prog 19 #[.pointer (some ⟨t, 0, none⟩)] w6 fun e w' => e = .returned (.complex .f64 xb yb) ∧ w6 = w') := hcm6; have HCv6 : Hid (Calls Try.prog 20 #[.pointer (some ⟨t, 0, none⟩)] w6 fun e w' => e = .returned (.int .i64 vr) ∧ w6 = w') := (by have := lt_version hl6; rw [show (S.ask x.seq).ver = vr from HVr.out] at this; exact this); clear hl6 hmk6 hcm6)
          | (have _q := HCm6; clear _q; go_at_call 19; refine HCm6.out.mono ?_; rintro q w' ⟨rfl, rfl⟩)
          | (have _q := HCv6; clear _q; go_at_call 20; refine HCv6.out.mono ?_; rintro q w' ⟨rfl, rfl⟩)
          | (go_at_call 19; refine HCm.out.mono ?_; rintro q w' ⟨rfl, rfl⟩)
          | (go_at_call 20; refine HCv.out.mono ?_; rintro q w' ⟨rfl, rfl⟩))
        exact ⟨⟨i + 1, _, by omega, by simp, R6.out, HR.out.2.1, HR.out.2.2.1, HR.out.2.2.2⟩, by simp [intOf]; omega⟩
      | false =>
        have HAsk : Hid (x.ask = false) := hask
        clear hask
        go_upto_region 20 with (first
          | (go_at_call 21; refine (lt_held R2.out).mono ?_; rintro q w5 ⟨v5, l5, rfl, hm5, hc5, hb5⟩; obtain ⟨a5, q5, rfl⟩ := owns_len hm5.row; have R5 : Hid (Lt w w5 t S (fun _ => False) ∧ Msgs w5 wr.heap.size (.slice a5 l5.length q5) l5 ∧ l5.map Hm.m = S.held ∧ Below wr.heap.size wr w5) := ⟨R2.out.below hb5, ⟨owns_le hm5.row HB2.out.size, fun z hz => (hm5.each z hz).down HB2.out.size⟩, hc5, chainB HB2.out hb5⟩; have c0 : w5.cell? ⟨gx, 0, none⟩ = some (.bool false) := (by rw [cell_of (HX.out w5 hb5).1 0, ← HAsk.out]; rfl); have mlm : (mmLd (.pointer (some ⟨gx, 2, none⟩))).run Try.prog w5 = .ok (.agg x.m.arr) w5 := mmLd_at (fun j v hv => (by rw [Nat.add_comm, cell_of (HX.out w5 hb5).1 (j + 2)]; exact TOp.arr_get hv)) x.m.size; have HM : Hid (Calls Try.prog 16 #[.agg x.m.arr] w5 fun e w' => MsgR x.m w5 e w') := msg_p x.m w5 (HX.out w5 hb5).2; obtain ⟨Z5, hZ5⟩ : ∃ Z, x.m.arr = Z := ⟨_, rfl⟩; rw [hZ5] at mlm HM; clear ml ms hm5 hc5 hb5 hZ5)
          | (go_at_call 22; refine (lt_asked R5.out.1).mono ?_; rintro q w' ⟨rfl, rfl⟩; rw [HSq.out])
          | (go_at_call 16; refine HM.out.mono ?_; rintro q w6 ⟨z, rfl, -, hLz, hb6⟩; obtain ⟨gm, hgm⟩ : ∃ gm, w6.heap.size = gm := ⟨_, rfl⟩; obtain ⟨W7, hW7⟩ : ∃ W7, w6.alloc (.cells #[.int .i64 0, .int .i64 0, .int .i64 0, .int .i64 0, .complex .f64 0 0, .int .i64 0, .int .i64 0, .int .i64 0, .int .i64 0, .string ⟨#[]⟩, .int .i64 0, .string ⟨#[]⟩, .int .i64 0, .string ⟨#[]⟩, .slice none 0 0, .slice none 0 0] 45) = W7 := ⟨_, rfl⟩; have hb7 := boxB hW7; obtain ⟨W8, hW8⟩ : ∃ W8, W7.setRow gm z.arr = W8 := ⟨_, rfl⟩; rw [hgm] at hb7; have ms8 := msgSt_of hb7.1 rfl z.size z.one hW8; obtain ⟨R8, ml8⟩ := rz_of HR.out.1 R5.out.2.1 R5.out.2.2.2 hb6 hLz hgm hW7 hW8; have HR8 : Hid (Rz w W8 t S (fun k => False ∨ (wr.heap.size ≤ k ∧ k < W8.heap.size)) gm z (.slice a5 l5.length q5) l5 ∧ Lists W8 0 z) := R8; obtain ⟨Z8, hZ8⟩ : ∃ Z, z.arr = Z := ⟨_, rfl⟩; have HZ8 : Hid (z.arr = Z8) := hZ8; rw [hZ8] at ms8 ml8; rw [hZ8]; clear hLz hb6 hb7 hW8 R8 hZ8 mlm c0)
          | (go_at_call 15; rw [← HZ8.out]; refine (lt_take HR8.out.1.lt z HR8.out.2).mono ?_; rintro q w9 ⟨v9, l9, rfl, ha9, hc9, hl9, hk9⟩; obtain ⟨a9, q9, rfl⟩ := owns_len ha9.row; obtain ⟨S', hS'⟩ : ∃ S', (S.take z.m).1 = S' := ⟨_, rfl⟩; have hri := rise_take S z.m; rw [hS'] at hl9 hri; have R9 : Hid (Rz w w9 t S' (fun k => False ∨ (wr.heap.size ≤ k ∧ k < W8.heap.size)) gm z (.slice a5 l5.length q5) l5 ∧ Rise S S' ∧ (S.take z.m).1 = S' ∧ l9.map Am.c = (S.take z.m).2) := ⟨HR8.out.1.on hl9 hk9, hri, hS', hc9⟩; obtain ⟨xb, yb, hmk9, -, -, hcm9⟩ := hl9.marke; have HCm9 : Hid (Calls Try.prog 19 #[.pointer (some ⟨t, 0, none⟩)] w9 fun e w' => e = .returned (.complex .f64 xb yb) ∧ w9 = w') := hcm9; have HLt9 : Hid (∀ W, Calls Try.prog 23 #[.complex .f64 xa ya, .complex .f64 xb yb] W fun e w' => e = .returned (.bool false) ∧ W = w') := (fun W => (later_any xa ya xb yb W).mono fun e w' hh => ⟨by rw [hh.1, HMk.out.notLater hmk9 hri.up], hh.2.symm⟩); have hve : ¬ S'.ver < vr := (by have := hri.ve; rw [HVr.out] at this; omega); obtain ⟨m9, hm9⟩ : ∃ m9, l9.length = m9 := ⟨_, rfl⟩; have HM9 : Hid (l9.length = m9) := hm9; rw [hm9]; clear ha9 hc9 hl9 hk9 hS' hri hmk9 hcm9 ms8 ml8 hm9)
          | (have _q := HCm9; clear _q; go_at_call 19; refine HCm9.out.mono ?_; rintro q w' ⟨rfl, rfl⟩)
          | (go_at_call 23; refine (HLt9.out _).mono ?_; rintro q w' ⟨rfl, rfl⟩)
          | (have _q := HCm9; clear _q; go_at_call 20; refine (lt_version R9.out.1.lt).mono ?_; rintro q w' ⟨rfl, rfl⟩)
          | (have _q := HCm9; clear _q; go_at_call 21; refine (lt_held R9.out.1.lt).mono ?_; rintro q w10 ⟨v10, l10, rfl, hm10, hc10, hb10⟩; obtain ⟨a10, q10, rfl⟩ := owns_len hm10.row; have hl10 : ¬ (h : Int) < (l10.length : Int) := (by have h1 := R9.out.1.lt.goods.2.1; have h2 := R9.out.2.1.ho; have h3 := HR.out.2.2.2; have h4 := congrArg List.length hc10; rw [List.length_map] at h4; omega); have R10 : Hid (Rz w w10 t S' (fun k => False ∨ (wr.heap.size ≤ k ∧ k < W8.heap.size)) gm z (.slice a5 l5.length q5) l5) := R9.out.1.below hb10; clear hm10 hc10 hb10)
          | (go_at_call 19; refine HCm.out.mono ?_; rintro q w' ⟨rfl, rfl⟩)
          | (go_at_call 20; refine HCv.out.mono ?_; rintro q w' ⟨rfl, rfl⟩))
        have d1 : w10.cell? ⟨gm, 1, none⟩ = some (.int .i64 z.m.client) := cell_of R10.out.box 1
        have d2 : w10.cell? ⟨gm, 2, none⟩ = some (.int .i64 z.m.life) := cell_of R10.out.box 2
        have d4 : w10.cell? ⟨gm, 4, none⟩ = some (.complex .f64 z.m.re z.m.im) := cell_of R10.out.box 4
        have HEa : Hid (∀ W, Calls Try.prog 25 #[.complex .f64 xa ya] W fun e w' => e = .returned (.int .i64 S.e) ∧ W = w') := fun W => (epoch_any xa ya W).mono fun e w' hh => by
          refine ⟨?_, hh.2.symm⟩
          rw [hh.1, if_pos HMk.out.good, HMk.out.pa]
        obtain ⟨gd, hgd⟩ : ∃ gd, goodB z.m.re z.m.im = gd := ⟨_, rfl⟩
        have HGd : Hid (∀ W, Calls Try.prog 24 #[.complex .f64 z.m.re z.m.im] W fun e w' => e = .returned (.bool gd) ∧ W = w') := fun W => (good_any _ _ W).mono fun e w' hh => ⟨by rw [hh.1, hgd], hh.2.symm⟩
        obtain ⟨pe, hpe⟩ : ∃ pe, (if goodB z.m.re z.m.im then part z.m.re else 0) = pe := ⟨_, rfl⟩
        have HEm : Hid (∀ W, Calls Try.prog 25 #[.complex .f64 z.m.re z.m.im] W fun e w' => e = .returned (.int .i64 pe) ∧ W = w') := fun W => (epoch_any _ _ W).mono fun e w' hh => ⟨by rw [hh.1, hpe], hh.2.symm⟩
        have HPe : Hid (gd = true → part z.m.re = pe) := fun hg => by rw [hgd, if_pos hg] at hpe; exact hpe
        have HGd2 : Hid (goodB z.m.re z.m.im = gd) := hgd
        have HCl : Hid (S.client = 2 ∧ S.life = 3) := ⟨HR.out.2.1, HR.out.2.2.1⟩
        obtain ⟨cl, hcl⟩ : ∃ cl, z.m.client = cl := ⟨_, rfl⟩
        obtain ⟨li, hli⟩ : ∃ li, z.m.life = li := ⟨_, rfl⟩
        have HLi : Hid (z.m.client = cl ∧ z.m.life = li) := ⟨hcl, hli⟩
        rw [hcl] at d1
        rw [hli] at d2
        obtain ⟨re, hre⟩ : ∃ re, z.m.re = re := ⟨_, rfl⟩
        obtain ⟨im, him⟩ : ∃ im, z.m.im = im := ⟨_, rfl⟩
        have HRi : Hid (z.m.re = re ∧ z.m.im = im) := ⟨hre, him⟩
        rw [hre, him] at d4 HGd HEm
        clear hgd hpe hcl hli hre him hl10
        have hcase : (cl ≠ 2 ∨ cl = 2) := by omega
        rcases hcase with hc1 | rfl
        · have HSt : Hid (S.counts z.m = false) := by
            show S.counts z.m = false
            unfold Ts.counts
            rw [HLi.out.1, HCl.out.1, decide_eq_false hc1]; simp
          have h0 : l9 = [] := by
            have := R9.out.2.2.2
            rw [take_strange HSt.out] at this
            exact List.map_eq_nil_iff.1 this
          have hm0 : m9 = 0 := by rw [← HM9.out, h0]; rfl
          have hSS : S' = S := by
            have := R9.out.2.2.1
            rw [take_strange HSt.out] at this
            exact this.symm
          subst hm0
          have R11 : Hid (Rz w w10 t S (fun k => False ∨ (wr.heap.size ≤ k ∧ k < W8.heap.size)) gm z (.slice a5 l5.length q5) l5) := by have := R10.out; rw [hSS] at this; exact this
          obtain ⟨xc, yc, hmk11, -, -, hcm11⟩ := R11.out.lt.marke
          obtain ⟨f1, f2⟩ := Mk.same hmk11 HMk.out
          have HCm11 : Hid (Calls Try.prog 19 #[.pointer (some ⟨t, 0, none⟩)] w10 fun e w' => e = .returned (.complex .f64 xc yc) ∧ w10 = w') := hcm11
          have HCv11 : Hid (Calls Try.prog 20 #[.pointer (some ⟨t, 0, none⟩)] w10 fun e w' => e = .returned (.int .i64 vr) ∧ w10 = w') := by have := lt_version R11.out.lt; rw [HVr.out] at this; exact this
          have HCq11 : Hid (Calls Try.prog 22 #[.pointer (some ⟨t, 0, none⟩)] w10 fun e w' => e = .returned (.int .i64 sq) ∧ w10 = w') := by have := lt_asked R11.out.lt; rw [HSq.out] at this; exact this
          clear h0 hSS hmk11 hcm11 HCm HCv
          go_wp2_with (first
            | (go_at_call 24; refine (HGd.out _).mono ?_; rintro q w' ⟨rfl, rfl⟩)
            | (go_at_call_of 25 (Value.complex .f64 xa ya); refine (HEa.out _).mono ?_; rintro q w' ⟨rfl, rfl⟩)
            | (go_at_call 25; refine (HEm.out _).mono ?_; rintro q w' ⟨rfl, rfl⟩)
            | (go_at_call 19; refine HCm11.out.mono ?_; rintro q w' ⟨rfl, rfl⟩)
            | (go_at_call 20; refine HCv11.out.mono ?_; rintro q w' ⟨rfl, rfl⟩)
            | (go_at_call 22; refine HCq11.out.mono ?_; rintro q w' ⟨rfl, rfl⟩)
            | (go_at_call 21; refine (lt_held R11.out.lt).mono ?_; rintro q w11 ⟨v11, l11, rfl, hm11, hc11, hb11⟩; have HSm : Hid (Calls Try.prog 26 #[v11, .slice a5 l5.length q5] w11 fun e w' => e = .returned (.bool true) ∧ Below w11.heap.size w11 w') := sameMsgs_yes _ _ _ _ w11 _ _ hm11 (R11.out.below hb11).held (hc11.trans R5.out.2.2.1.symm) (fun y hy => ⟨_, _, (R11.out.lt.goods.1 y.m (by rw [← hc11]; exact List.mem_map.2 ⟨y, hy, rfl⟩)).mkk⟩) (by have h1 := R11.out.lt.goods.2.1; have h2 := R11.out.lt.goods.2.2.1; have h3 := congrArg List.length hc11; rw [List.length_map] at h3; omega); have R12 : Hid (Rz w w11 t S (fun k => False ∨ (wr.heap.size ≤ k ∧ k < W8.heap.size)) gm z (.slice a5 l5.length q5) l5) := R11.out.below hb11; obtain ⟨a11, q11, rfl⟩ := owns_len hm11.row; clear hm11 hc11 hb11)
            | (go_at_call 26; refine HSm.out.mono ?_; rintro q w13 ⟨rfl, hb13⟩; have R13 : Hid (Lt w w13 t S (fun _ => False)) := (R12.out.lt.below hb13).less (fun k hk => hk.elim); clear hb13))
          exact ⟨⟨i + 1, S, by omega, by simp, R13.out, HR.out.2.1, HR.out.2.2.1, HR.out.2.2.2⟩, by simp [intOf]; omega⟩
        · have hcase2 : (li ≠ 3 ∨ li = 3) := by omega
          rcases hcase2 with hc2 | rfl
          · have HSt : Hid (S.counts z.m = false) := by
              show S.counts z.m = false
              unfold Ts.counts
              rw [HLi.out.2, HCl.out.2, decide_eq_false hc2]; simp
            have h0 : l9 = [] := by
              have := R9.out.2.2.2
              rw [take_strange HSt.out] at this
              exact List.map_eq_nil_iff.1 this
            have hm0 : m9 = 0 := by rw [← HM9.out, h0]; rfl
            have hSS : S' = S := by
              have := R9.out.2.2.1
              rw [take_strange HSt.out] at this
              exact this.symm
            subst hm0
            have R11 : Hid (Rz w w10 t S (fun k => False ∨ (wr.heap.size ≤ k ∧ k < W8.heap.size)) gm z (.slice a5 l5.length q5) l5) := by have := R10.out; rw [hSS] at this; exact this
            obtain ⟨xc, yc, hmk11, -, -, hcm11⟩ := R11.out.lt.marke
            obtain ⟨f1, f2⟩ := Mk.same hmk11 HMk.out
            have HCm11 : Hid (Calls Try.prog 19 #[.pointer (some ⟨t, 0, none⟩)] w10 fun e w' => e = .returned (.complex .f64 xc yc) ∧ w10 = w') := hcm11
            have HCv11 : Hid (Calls Try.prog 20 #[.pointer (some ⟨t, 0, none⟩)] w10 fun e w' => e = .returned (.int .i64 vr) ∧ w10 = w') := by have := lt_version R11.out.lt; rw [HVr.out] at this; exact this
            have HCq11 : Hid (Calls Try.prog 22 #[.pointer (some ⟨t, 0, none⟩)] w10 fun e w' => e = .returned (.int .i64 sq) ∧ w10 = w') := by have := lt_asked R11.out.lt; rw [HSq.out] at this; exact this
            clear h0 hSS hmk11 hcm11 HCm HCv
            go_wp2_with (first
              | (go_at_call 24; refine (HGd.out _).mono ?_; rintro q w' ⟨rfl, rfl⟩)
              | (go_at_call_of 25 (Value.complex .f64 xa ya); refine (HEa.out _).mono ?_; rintro q w' ⟨rfl, rfl⟩)
              | (go_at_call 25; refine (HEm.out _).mono ?_; rintro q w' ⟨rfl, rfl⟩)
              | (go_at_call 19; refine HCm11.out.mono ?_; rintro q w' ⟨rfl, rfl⟩)
              | (go_at_call 20; refine HCv11.out.mono ?_; rintro q w' ⟨rfl, rfl⟩)
              | (go_at_call 22; refine HCq11.out.mono ?_; rintro q w' ⟨rfl, rfl⟩)
              | (go_at_call 21; refine (lt_held R11.out.lt).mono ?_; rintro q w11 ⟨v11, l11, rfl, hm11, hc11, hb11⟩; have HSm : Hid (Calls Try.prog 26 #[v11, .slice a5 l5.length q5] w11 fun e w' => e = .returned (.bool true) ∧ Below w11.heap.size w11 w') := sameMsgs_yes _ _ _ _ w11 _ _ hm11 (R11.out.below hb11).held (hc11.trans R5.out.2.2.1.symm) (fun y hy => ⟨_, _, (R11.out.lt.goods.1 y.m (by rw [← hc11]; exact List.mem_map.2 ⟨y, hy, rfl⟩)).mkk⟩) (by have h1 := R11.out.lt.goods.2.1; have h2 := R11.out.lt.goods.2.2.1; have h3 := congrArg List.length hc11; rw [List.length_map] at h3; omega); have R12 : Hid (Rz w w11 t S (fun k => False ∨ (wr.heap.size ≤ k ∧ k < W8.heap.size)) gm z (.slice a5 l5.length q5) l5) := R11.out.below hb11; obtain ⟨a11, q11, rfl⟩ := owns_len hm11.row; clear hm11 hc11 hb11)
              | (go_at_call 26; refine HSm.out.mono ?_; rintro q w13 ⟨rfl, hb13⟩; have R13 : Hid (Lt w w13 t S (fun _ => False)) := (R12.out.lt.below hb13).less (fun k hk => hk.elim); clear hb13))
            exact ⟨⟨i + 1, S, by omega, by simp, R13.out, HR.out.2.1, HR.out.2.2.1, HR.out.2.2.2⟩, by simp [intOf]; omega⟩
          · cases gd with
            | false =>
              have HSt : Hid (S.counts z.m = false) := by
                show S.counts z.m = false
                unfold Ts.counts
                rw [HGd2.out]; simp
              have h0 : l9 = [] := by
                have := R9.out.2.2.2
                rw [take_strange HSt.out] at this
                exact List.map_eq_nil_iff.1 this
              have hm0 : m9 = 0 := by rw [← HM9.out, h0]; rfl
              have hSS : S' = S := by
                have := R9.out.2.2.1
                rw [take_strange HSt.out] at this
                exact this.symm
              subst hm0
              have R11 : Hid (Rz w w10 t S (fun k => False ∨ (wr.heap.size ≤ k ∧ k < W8.heap.size)) gm z (.slice a5 l5.length q5) l5) := by have := R10.out; rw [hSS] at this; exact this
              obtain ⟨xc, yc, hmk11, -, -, hcm11⟩ := R11.out.lt.marke
              obtain ⟨f1, f2⟩ := Mk.same hmk11 HMk.out
              have HCm11 : Hid (Calls Try.prog 19 #[.pointer (some ⟨t, 0, none⟩)] w10 fun e w' => e = .returned (.complex .f64 xc yc) ∧ w10 = w') := hcm11
              have HCv11 : Hid (Calls Try.prog 20 #[.pointer (some ⟨t, 0, none⟩)] w10 fun e w' => e = .returned (.int .i64 vr) ∧ w10 = w') := by have := lt_version R11.out.lt; rw [HVr.out] at this; exact this
              have HCq11 : Hid (Calls Try.prog 22 #[.pointer (some ⟨t, 0, none⟩)] w10 fun e w' => e = .returned (.int .i64 sq) ∧ w10 = w') := by have := lt_asked R11.out.lt; rw [HSq.out] at this; exact this
              clear h0 hSS hmk11 hcm11 HCm HCv
              go_wp2_with (first
                | (go_at_call 24; refine (HGd.out _).mono ?_; rintro q w' ⟨rfl, rfl⟩)
                | (go_at_call_of 25 (Value.complex .f64 xa ya); refine (HEa.out _).mono ?_; rintro q w' ⟨rfl, rfl⟩)
                | (go_at_call 25; refine (HEm.out _).mono ?_; rintro q w' ⟨rfl, rfl⟩)
                | (go_at_call 19; refine HCm11.out.mono ?_; rintro q w' ⟨rfl, rfl⟩)
                | (go_at_call 20; refine HCv11.out.mono ?_; rintro q w' ⟨rfl, rfl⟩)
                | (go_at_call 22; refine HCq11.out.mono ?_; rintro q w' ⟨rfl, rfl⟩)
                | (go_at_call 21; refine (lt_held R11.out.lt).mono ?_; rintro q w11 ⟨v11, l11, rfl, hm11, hc11, hb11⟩; have HSm : Hid (Calls Try.prog 26 #[v11, .slice a5 l5.length q5] w11 fun e w' => e = .returned (.bool true) ∧ Below w11.heap.size w11 w') := sameMsgs_yes _ _ _ _ w11 _ _ hm11 (R11.out.below hb11).held (hc11.trans R5.out.2.2.1.symm) (fun y hy => ⟨_, _, (R11.out.lt.goods.1 y.m (by rw [← hc11]; exact List.mem_map.2 ⟨y, hy, rfl⟩)).mkk⟩) (by have h1 := R11.out.lt.goods.2.1; have h2 := R11.out.lt.goods.2.2.1; have h3 := congrArg List.length hc11; rw [List.length_map] at h3; omega); have R12 : Hid (Rz w w11 t S (fun k => False ∨ (wr.heap.size ≤ k ∧ k < W8.heap.size)) gm z (.slice a5 l5.length q5) l5) := R11.out.below hb11; obtain ⟨a11, q11, rfl⟩ := owns_len hm11.row; clear hm11 hc11 hb11)
                | (go_at_call 26; refine HSm.out.mono ?_; rintro q w13 ⟨rfl, hb13⟩; have R13 : Hid (Lt w w13 t S (fun _ => False)) := (R12.out.lt.below hb13).less (fun k hk => hk.elim); clear hb13))
              exact ⟨⟨i + 1, S, by omega, by simp, R13.out, HR.out.2.1, HR.out.2.2.1, HR.out.2.2.2⟩, by simp [intOf]; omega⟩
            | true =>
              obtain ⟨se, hse⟩ : ∃ se, S.e = se := ⟨_, rfl⟩
              have HSe : Hid (S.e = se) := hse
              rw [hse] at HEa
              clear hse
              by_cases hlow : pe < se
              · have HSt : Hid (S.counts z.m = false) := by
                  show S.counts z.m = false
                  unfold Ts.counts Pm.ep
                  rw [HPe.out rfl, HSe.out, decide_eq_false (p := se ≤ pe) (by omega)]; simp
                have h0 : l9 = [] := by
                  have := R9.out.2.2.2
                  rw [take_strange HSt.out] at this
                  exact List.map_eq_nil_iff.1 this
                have hm0 : m9 = 0 := by rw [← HM9.out, h0]; rfl
                have hSS : S' = S := by
                  have := R9.out.2.2.1
                  rw [take_strange HSt.out] at this
                  exact this.symm
                subst hm0
                have R11 : Hid (Rz w w10 t S (fun k => False ∨ (wr.heap.size ≤ k ∧ k < W8.heap.size)) gm z (.slice a5 l5.length q5) l5) := by have := R10.out; rw [hSS] at this; exact this
                obtain ⟨xc, yc, hmk11, -, -, hcm11⟩ := R11.out.lt.marke
                obtain ⟨f1, f2⟩ := Mk.same hmk11 HMk.out
                have HCm11 : Hid (Calls Try.prog 19 #[.pointer (some ⟨t, 0, none⟩)] w10 fun e w' => e = .returned (.complex .f64 xc yc) ∧ w10 = w') := hcm11
                have HCv11 : Hid (Calls Try.prog 20 #[.pointer (some ⟨t, 0, none⟩)] w10 fun e w' => e = .returned (.int .i64 vr) ∧ w10 = w') := by have := lt_version R11.out.lt; rw [HVr.out] at this; exact this
                have HCq11 : Hid (Calls Try.prog 22 #[.pointer (some ⟨t, 0, none⟩)] w10 fun e w' => e = .returned (.int .i64 sq) ∧ w10 = w') := by have := lt_asked R11.out.lt; rw [HSq.out] at this; exact this
                clear h0 hSS hmk11 hcm11 HCm HCv
                go_wp2_with (first
                  | (go_at_call 24; refine (HGd.out _).mono ?_; rintro q w' ⟨rfl, rfl⟩)
                  | (go_at_call_of 25 (Value.complex .f64 xa ya); refine (HEa.out _).mono ?_; rintro q w' ⟨rfl, rfl⟩)
                  | (go_at_call 25; refine (HEm.out _).mono ?_; rintro q w' ⟨rfl, rfl⟩)
                  | (go_at_call 19; refine HCm11.out.mono ?_; rintro q w' ⟨rfl, rfl⟩)
                  | (go_at_call 20; refine HCv11.out.mono ?_; rintro q w' ⟨rfl, rfl⟩)
                  | (go_at_call 22; refine HCq11.out.mono ?_; rintro q w' ⟨rfl, rfl⟩)
                  | (go_at_call 21; refine (lt_held R11.out.lt).mono ?_; rintro q w11 ⟨v11, l11, rfl, hm11, hc11, hb11⟩; have HSm : Hid (Calls Try.prog 26 #[v11, .slice a5 l5.length q5] w11 fun e w' => e = .returned (.bool true) ∧ Below w11.heap.size w11 w') := sameMsgs_yes _ _ _ _ w11 _ _ hm11 (R11.out.below hb11).held (hc11.trans R5.out.2.2.1.symm) (fun y hy => ⟨_, _, (R11.out.lt.goods.1 y.m (by rw [← hc11]; exact List.mem_map.2 ⟨y, hy, rfl⟩)).mkk⟩) (by have h1 := R11.out.lt.goods.2.1; have h2 := R11.out.lt.goods.2.2.1; have h3 := congrArg List.length hc11; rw [List.length_map] at h3; omega); have R12 : Hid (Rz w w11 t S (fun k => False ∨ (wr.heap.size ≤ k ∧ k < W8.heap.size)) gm z (.slice a5 l5.length q5) l5) := R11.out.below hb11; obtain ⟨a11, q11, rfl⟩ := owns_len hm11.row; clear hm11 hc11 hb11)
                  | (go_at_call 26; refine HSm.out.mono ?_; rintro q w13 ⟨rfl, hb13⟩; have R13 : Hid (Lt w w13 t S (fun _ => False)) := (R12.out.lt.below hb13).less (fun k hk => hk.elim); clear hb13))
                exact ⟨⟨i + 1, S, by omega, by simp, R13.out, HR.out.2.1, HR.out.2.2.1, HR.out.2.2.2⟩, by simp [intOf]; omega⟩
              · have R13 : Hid (Lt w w10 t S' (fun _ => False)) := R10.out.lt.less (fun k hk => hk.elim)
                go_wp2_with (first
                  | (go_at_call 24; refine (HGd.out _).mono ?_; rintro q w' ⟨rfl, rfl⟩)
                  | (go_at_call_of 25 (Value.complex .f64 xa ya); refine (HEa.out _).mono ?_; rintro q w' ⟨rfl, rfl⟩)
                  | (go_at_call 25; refine (HEm.out _).mono ?_; rintro q w' ⟨rfl, rfl⟩))
                exact ⟨⟨i + 1, S', by omega, by simp, R13.out, R9.out.2.1.cl.trans HR.out.2.1, R9.out.2.1.li.trans HR.out.2.2.1, R9.out.2.1.ho.trans HR.out.2.2.2⟩, by simp [intOf]; omega⟩
    · have hlz : ¬ (i : Int) < (n1 : Int) := by omega
      have HBe : Hid (Below w.heap.size w wr) := HR.out.1.bel
      go_wp2_with (first
        | (go_at_call 11; refine (HAw.out _).mono ?_; rintro q w12 ⟨rfl, hb12⟩))
      go_ret
      exact ⟨rfl, chainB HBe.out hb12⟩
theorem walk_TideRises (x : Int) (a1 : Option Addr) (cap1 : Nat) (ops1 : List TOp) (w : World) (_ : (Lit.int .i64 x).wf = true) (row1 : RowT w a1 ops1) (hlen1 : ops1.length ≤ 3000000000000) : Calls Try.prog 5 #[.int .i64 x, .slice a1 ops1.length cap1] w fun e w' => e = .returned (.bool true) ∧ Below w.heap.size w w' := by
  by_cases hx : 0 ≤ x ∧ x ≤ 8
  · obtain ⟨h, rfl⟩ : ∃ h : Nat, x = (h : Int) := ⟨x.toNat, by omega⟩
    exact rises_walk h (by omega) a1 cap1 ops1 w row1 hlen1
  · refine rises_no x a1 _ cap1 w ?_ (by omega)
    unfold newOk withB
    simp; omega
end
end Go.Proofs.Ytnklhdoiggomkaa
