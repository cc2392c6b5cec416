/- use: a reply. What a call leaves, plainly. -/
import Derived.Test.YtpmcecenhgppbaaJTEpt11
namespace Go.Proofs.Ytpmcecenhgppbaa
section
open Go.RowKit Go.Shelf

/-- later and names, by what is fresh -/
theorem later_q (t B : Nat) (s : Td) (re im : Nat) (n : Int) (w : World) (h : IsT w B t s) (hm : Mk re im (part s.a) n) : Calls Try.prog 61 #[.pointer (some ⟨t, 5, none⟩), .complex .f64 re im] w fun e w' => e = .returned (.bool (!wholeF s.fr n)) ∧ w' = w := by
  have := later_p t B s re im w h
  rw [h.isf.last.later hm] at this
  rw [whole_is s.fr h.frn n hm.n0, Bool.not_not]; exact this
theorem names_q (t B : Nat) (s : Td) (k : Ky) (re im : Nat) (n : Int) (w : World) (h : IsT w B t s) (hm : Mk re im (part s.a) n) : Calls Try.prog 62 #[.pointer (some ⟨t, 5, none⟩), .agg #[.int .i64 k.d, .string k.nm], .complex .f64 re im] w fun e w' => e = .returned (.bool (named s.fr n k)) ∧ Below w.heap.size w w' := by
  have := names_p t B s k re im w h
  rw [h.isf.flush.later hm, (h.isf.keys k).later hm, (h.isf.keys (bare k)).later hm] at this
  rw [named_is s.fr h.frn n k hm.n0]; exact this
/-- the version alone -/
theorem ver_mark {w W2 W4 : World} {B t r : Nat} {s : Td} {x : Hm} (h : IsT w B t s) (hb : Below w.heap.size w W2) (hbox : W2.heap[w.heap.size]? = some (.cells x.arr 45 (0, 0))) (hres : W2.heap[r]? = some (.cells zAct 59 (0, 0))) (hL : Lists w 0 x) (hr : w.heap.size < r) (v : Int)
    (hd : W4.heap[t]? = some (.cells ({ s with ver := v } : Td).arr 68 (0, 0))) (o : Only (· = t) W2 W4) :
    Ap w W4 B t r { s with ver := v } x ∧ ST w W4 B t s { s with ver := v } := by
  have h2 := h.below hb
  have tlt := h.tt.lt
  have is4 : IsT W4 B t { s with ver := v } := h2.put _ W4 hd o rfl h.mkk rfl rfl rfl (h2.map.moved fun g e => o.block g (h2.map.some' e).1.lt fun (e' : g = t) => by
    have := (h2.map.some' e).1.no (t := 68)
    rw [e'] at this; exact this h2.tt) h.isf h.frn h.ask0
  refine ⟨⟨is4, fun k hk => (h.wlt hk).2, (o.block _ (Array.getElem?_eq_some_iff.1 hbox).1 (fun (e : w.heap.size = t) => by omega)).trans hbox, (o.block _ (Array.getElem?_eq_some_iff.1 hres).1 (fun (e : r = t) => by omega)).trans hres, (hL.below hb).only o (fun q (e : q = t) => by rw [e]; exact ⟨h2.tt.two (by decide), h2.tt.two (by decide)⟩), hr⟩, is4, ?_, fun k hk => .inl hk, fun k hk => .inl hk⟩
  exact ((Only.of hb).mono (fun q e => e)).trans (o.mono fun q e => .inl e)
/-- the boxes while a reply is used -/
structure Us (w V wr : World) (r ab : Nat) (x : Hm) (whole : Bool) (es : List En) (v : Value) : Prop where
  bel : Below w.heap.size V wr
  wv : w.heap.size ≤ V.heap.size
  box : wr.heap[w.heap.size]? = some (.cells x.arr 45 (0, 0))
  res : wr.heap[r]? = some (.cells zAct 59 (0, 0))
  act : wr.heap[ab]? = some (.cells #[.bool false, .bool false, .bool true, .bool whole, .slice none 0 0, .int .i64 x.m.err, v] 59 (0, 0))
  row : Row7 wr w.heap.size v es
  rlt : w.heap.size < r
  rab : r < ab
theorem Us.on {w V wr wr' : World} {r ab : Nat} {x : Hm} {whole : Bool} {es : List En} {v : Value} (u : Us w V wr r ab x whole es v) (hb : Below wr.heap.size wr wr') : Us w V wr' r ab x whole es v := by
  have sz := u.bel.size
  have sw := u.wv
  exact ⟨⟨hb.os.trans u.bel.os, hb.tape.trans u.bel.tape, hb.output.trans u.bel.output, Nat.le_trans sz hb.size, fun k hk => (hb.block k (by omega)).trans (u.bel.block k hk)⟩, sw, hkeep u.box hb, hkeep u.res hb, hkeep u.act hb, u.row.below hb, u.rlt, u.rab⟩
theorem Us.is {w V wr : World} {B t r ab : Nat} {s : Td} {x : Hm} {whole : Bool} {es : List En} {v : Value} (u : Us w V wr r ab x whole es v) (h : IsT V B t s) (low : ∀ k, s.blk t k → k < w.heap.size) : IsT wr B t s := h.moved fun k hk => u.bel.block k (low k hk)
/-- one entry more -/
theorem Us.push {w V w2 w3 : World} {r ab : Nat} {x : Hm} {whole : Bool} {es : List En} {v v3 : Value} (u : Us w V w2 r ab x whole es v) (e : En)
    (ho : w3.ownsRow w.heap.size 57 7 v3 (es.length + 1) (ec es ++ e.vals)) (hg : (w2.alloc (.cells e.vals.toArray 57)).grownBy w3 v.ownBlock) :
    w3.heap[ab]? = some (.cells #[.bool false, .bool false, .bool true, .bool whole, .slice none 0 0, .int .i64 x.m.err, v] 59 (0, 0)) ∧ Us w V (w3.setCell ⟨ab, 6, none⟩ v3) r ab x whole (es ++ [e]) v3 := by
  have ua := u.on (below_alloc w2 (.cells e.vals.toArray 57))
  have hO := only_grown hg
  have tg : ∀ k, v.ownBlock = some k → Tag (w2.alloc (.cells e.vals.toArray 57)) k 57 ∧ w.heap.size ≤ k := fun k hk => ⟨Tag.own ua.row hk, (World.ownsRow.lt ua.row k hk).1⟩
  have keep : ∀ k ty, Tag (w2.alloc (.cells e.vals.toArray 57)) k ty → 57 ≠ ty → w3.heap[k]? = (w2.alloc (.cells e.vals.toArray 57)).heap[k]? := fun k ty hk hne => hO.block k hk.lt fun e' => (tg k e').1.two hne hk
  have a3 := (keep ab _ ⟨_, _, ua.act⟩ (by decide)).trans ua.act
  have b3 := (keep _ _ ⟨_, _, ua.box⟩ (by decide)).trans ua.box
  have r3 := (keep r _ ⟨_, _, ua.res⟩ (by decide)).trans ua.res
  have o4 : Only (· = ab) w3 (w3.setCell ⟨ab, 6, none⟩ v3) := only1 _ ab _ _
  have h1 := u.rlt
  have h2 := u.rab
  have sz := ua.bel.size
  have sw := u.wv
  have s3 := hO.size
  refine ⟨a3, ⟨o4.os.trans (hO.os.trans ua.bel.os), o4.tape.trans (hO.tape.trans ua.bel.tape), o4.output.trans (hO.output.trans ua.bel.output), by have := o4.size; omega, fun k hk => ?_⟩, sw, ?_, ?_, ?_, ?_, h1, h2⟩
  · have e1 := ua.bel.block k hk
    have e2 := hO.block k (by omega) (fun e' => by have := (tg k e').2; omega)
    have e3 := o4.block k (by omega) (fun (e' : k = ab) => by omega)
    exact e3.trans (e2.trans e1)
  · exact (o4.block _ (Array.getElem?_eq_some_iff.1 b3).1 (fun (e' : w.heap.size = ab) => by omega)).trans b3
  · exact (o4.block _ (Array.getElem?_eq_some_iff.1 r3).1 (fun (e' : r = ab) => by omega)).trans r3
  · have := heap_set a3 6 v3
    simpa using this
  · show World.ownsRow _ _ _ _ _ _ _
    rw [List.length_append, ec_app, show ec [e] = e.vals by simp [ec]]
    exact owns_moved ho fun k e' => o4.block k (Tag.own ho e').lt fun (e'' : k = ab) => by
      have t1 := Tag.own ho e'
      rw [e''] at t1
      exact Tag.two (⟨_, _, a3⟩ : Tag w3 ab 59) (by decide) t1
/-- behind the reply -/
theorem use_end {w V wr : World} {B t r ab : Nat} {s : Td} {x : Hm} {es : List En} {a : Option Addr} {c : Nat} (u : Us w V wr r ab x (wholeF s.fr x.m.num) es (.slice a es.length c)) (h0 : IsT w B t s) (h : IsT V B t { s with ver := max s.ver x.m.vers }) (hst : ST w V B t s { s with ver := max s.ver x.m.vers }) (he : x.m.err ≠ 70) (hes : es = left s.fr x.m.num x.m.es) (hle : x.m.es.length * 72 ≤ LB)
    {W6 W7 : World} (hW6 : (((wr.setCell ⟨t, 4, none⟩ (.int .i64 0)).setCell ⟨t, 5, none⟩ (.complex .f64 0 0)).setCell ⟨t, 6, none⟩ (.complex .f64 0 0)).setCell ⟨t, 7, none⟩ (.map none) = W6) (hW7 : W6.setRow r #[.bool false, .bool false, .bool true, .bool (wholeF s.fr x.m.num), .slice none 0 0, .int .i64 x.m.err, .slice a es.length c] = W7) :
    W6.heap[r]? = some (.cells zAct 59 (0, 0)) ∧ W6.heap[ab]? = some (.cells #[.bool false, .bool false, .bool true, .bool (wholeF s.fr x.m.num), .slice none 0 0, .int .i64 x.m.err, .slice a es.length c] 59 (0, 0)) ∧ W7.heap[r]? = some (.cells #[.bool false, .bool false, .bool true, .bool (wholeF s.fr x.m.num), .slice none 0 0, .int .i64 x.m.err, .slice a es.length c] 59 (0, 0)) ∧
    ActL W7 w.heap.size ⟨s.say.usedA x.m, none, 0, a, c⟩ ∧ Am.arr ⟨s.say.usedA x.m, none, 0, a, c⟩ = #[.bool false, .bool false, .bool true, .bool (wholeF s.fr x.m.num), .slice none 0 0, .int .i64 x.m.err, .slice a es.length c] ∧ ∃ s', ST w W7 B t s s' ∧ s'.say = s.say.used x.m ∧ s'.hs = s.hs := by
  have low : ∀ k, s.blk t k → k < w.heap.size := fun k hk => (h0.lt hk).2
  have isw : IsT wr B t { s with ver := max s.ver x.m.vers } := u.is h low
  have o6 : Only (· = t) wr W6 := by rw [← hW6]; exact (((only1 _ t _ _).trans (only1 _ t _ _)).trans (only1 _ t _ _)).trans (only1 _ t _ _)
  have o7 : Only (· = r) W6 W7 := by rw [← hW7]; exact onlyR _ _ _
  have tlt := h0.tt.lt
  have hr1 := u.rlt
  have hr2 := u.rab
  have r6 := (o6.block r (Array.getElem?_eq_some_iff.1 u.res).1 (fun (e : r = t) => by omega)).trans u.res
  have a6 := (o6.block ab (Array.getElem?_eq_some_iff.1 u.act).1 (fun (e : ab = t) => by omega)).trans u.act
  have hA : s.say.usedA x.m = ⟨false, false, true, wholeF s.fr x.m.num, [], x.m.err, es⟩ := by
    unfold Ts.usedA
    rw [if_neg he, hes]; rfl
  have hU : s.say.used x.m = { s.say with ver := max s.ver x.m.vers, asked := 0, fr := [] } := by
    unfold Ts.used
    rw [if_neg he]; rfl
  have is6 : IsT W6 B t { s with ver := max s.ver x.m.vers, asked := 0, la := 0, lb := 0, fa := 0, fb := 0, kv := none, ml := [], fr := [] } := by
    refine isw.put _ W6 ?_ o6 rfl h0.mkk rfl rfl rfl rfl (IsF.none _) (FrOk.nil _) (Int.le_refl _)
    rw [← hW6]
    have := heap_set (heap_set (heap_set (heap_set isw.head 4 (.int .i64 0)) 5 (.complex .f64 0 0)) 6 (.complex .f64 0 0)) 7 (.map none)
    simpa [Td.arr] using this
  have ten : Tag W6 r 59 := ⟨_, _, r6⟩
  have hrow6 : Row7 W6 w.heap.size (.slice a es.length c) es := rowE_only u.row o6 isw.tt (by decide)
  refine ⟨r6, a6, by rw [← hW7]; exact setRow_heap _ _ _ _ _ _ r6, ?_, by rw [hA]; rfl, _, ⟨is6.moved fun k hk => o7.block k (is6.lt hk).2 (is6.noAct ten k hk), ?_, ?_, ?_⟩, ?_, rfl⟩
  · rw [hA]
    refine ⟨World.ownsRow_nil _ _ _ _, rowE_only hrow6 o7 ten (by decide), ?_, Nat.zero_le _⟩
    show es.length * 72 ≤ LB
    have : es.length ≤ x.m.es.length := by rw [hes]; exact List.length_filter_le _ _
    have := Nat.mul_le_mul_right 72 this
    omega
  · refine ⟨o7.os.trans (o6.os.trans (u.bel.os.trans hst.only.os)), o7.tape.trans (o6.tape.trans (u.bel.tape.trans hst.only.tape)), o7.output.trans (o6.output.trans (u.bel.output.trans hst.only.output)), by have := o7.size; have := o6.size; have := u.bel.size; have := u.wv; omega, fun k hk hn => ?_⟩
    have sz1 := u.bel.size
    have sz2 := u.wv
    have sz3 := o6.size
    exact (o7.block k (by omega) (fun (e : k = r) => by omega)).trans ((o6.block k (by omega) (fun e => hn (.inl e))).trans ((u.bel.block k hk).trans (hst.only.block k hk hn)))
  · rintro k (e | e | e)
    · exact .inl (.inl e)
    · exact .inl (.inr (.inl e))
    · cases e
  · rintro k ((e | e | e) | ⟨m, hm, e⟩)
    · exact .inl (.inl (.inl e))
    · exact .inl (.inl (.inr (.inl e)))
    · cases e
    · exact .inl (.inr ⟨m, hm, e⟩)
  · rw [hU]; rfl
theorem left_take (fr : List Fb) (n : Int) (es : List En) (j : Nat) (e : En) (h : es[j]? = some e) : left fr n (es.take (j + 1)) = left fr n (es.take j) ++ (if named fr n ⟨e.d, e.nm⟩ then [] else [e]) := by
  unfold left
  rw [List.take_add_one, h, show (some e).toList = [e] from rfl, List.filter_append]
  cases hn : named fr n ⟨e.d, e.nm⟩ <;> simp [hn]
end
section
open Go.RowKit Go.Shelf
attribute [local go_sem ↓ high] loadMsg storeMsg buildMsg storeAct loadAct
attribute [local go_sem high] run_store_complex eqC

set_option maxHeartbeats 4000000 in
set_option maxRecDepth 100000 in
theorem use_70 (t B : Nat) (s : Td) (x : Hm) (w : World) (h : IsT w B t s) (hL : Lists w 0 x) (hm : Mk x.m.re x.m.im (part s.a) x.m.num) (he : x.m.err = 70) :
    Calls Try.prog 47 #[.pointer (some ⟨t, 0, none⟩), .agg x.arr] w fun e w' => ∃ a : Am, e = .returned (.agg a.arr) ∧ a.c = s.say.usedA x.m ∧ ActL w' w.heap.size a ∧ ∃ s', ST w w' B t s s' ∧ s'.say = s.say.used x.m ∧ s'.hs = s.hs := by
  obtain ⟨W, hW⟩ : ∃ W, w.alloc (.cells x.arr 45) = W := ⟨_, rfl⟩
  obtain ⟨W2, hW2⟩ : ∃ W2, W.alloc (.cells #[.bool false, .bool false, .bool false, .bool false, .slice none 0 0, .int .i64 0, .slice none 0 0] 59) = W2 := ⟨_, rfl⟩
  have b1 := boxB hW
  have b2 := boxB hW2
  obtain ⟨r, hr⟩ : ∃ r, W.heap.size = r := ⟨_, rfl⟩
  have hwr : w.heap.size < r := by rw [← hr]; exact (Array.getElem?_eq_some_iff.1 b1.1).1
  have hb0 : Below w.heap.size w W2 := chainB b1.2 b2.2
  have bx : W2.heap[w.heap.size]? = some (.cells x.arr 45 (0, 0)) := hkeep b1.1 b2.2
  have br : W2.heap[r]? = some (.cells zAct 59 (0, 0)) := by rw [← hr]; exact b2.1
  have h2 := h.below hb0
  obtain ⟨-, -, -, c3, -, -, -, -, -, -, cf⟩ := h2.cells
  have m5 : W2.cell? ⟨w.heap.size, 5, none⟩ = some (.int .i64 x.m.vers) := by rw [cell_of bx]; rfl
  have hne : t ≠ w.heap.size := by have := h.tt.lt; omega
  obtain ⟨X, hX⟩ : ∃ X, x.arr = X := ⟨_, rfl⟩
  rw [hX] at hW ⊢
  have HI : Hid (∀ W4, W4.heap[t]? = some (.cells ({ s with ver := max s.ver x.m.vers } : Td).arr 68 (0, 0)) → Only (· = t) W2 W4 → Ap w W4 B t r { s with ver := max s.ver x.m.vers } x ∧ ST w W4 B t s { s with ver := max s.ver x.m.vers }) := fun W4 hd o => ver_mark h hb0 bx br hL hwr _ hd o
  have H2 : Hid (x.arr = X ∧ Mk x.m.re x.m.im (part s.a) x.m.num ∧ IsT w B t s ∧ Lists w 0 x ∧ r < W2.heap.size) := ⟨hX, hm, h, hL, (Array.getElem?_eq_some_iff.1 br).1⟩
  have HS : Hid ((W2.setCell ⟨t, 3, none⟩ (.int .i64 (max s.ver x.m.vers))).heap[t]? = some (.cells ({ s with ver := max s.ver x.m.vers } : Td).arr 68 (0, 0))) := by
    have := heap_set h2.head 3 (.int .i64 (max s.ver x.m.vers))
    exact (by simpa [Td.arr] using this : (W2.setCell ⟨t, 3, none⟩ (.int .i64 (max s.ver x.m.vers))).heap[t]? = some (.cells ({ s with ver := max s.ver x.m.vers } : Td).arr 68 (0, 0)))
  clear h h2 b1 b2 hb0 bx br hX hL hm
  go_enter Try.func47, Try.ntmps47
  go_upto_region 1 with fail
  clear hW hW2
  go_cut [18] from 8 to 17 (fun u wx => u = undef ∧ wx.heap[t]? = some (.cells ({ s with ver := max s.ver x.m.vers } : Td).arr 68 (0, 0)) ∧ Only (· = t) W2 wx)
  case first =>
    go_region_law (fail)
    all_goals
      go_wp2_with fail
      go_meet
      exact ⟨rfl, HS.out, (only1 _ t _ _).drew⟩
  case rest =>
    obtain ⟨rfl, hd2, ho2⟩ := hcut
    have AP : Hid (Ap w wc B t r { s with ver := max s.ver x.m.vers } x ∧ ST w wc B t s { s with ver := max s.ver x.m.vers }) := HI.out wc hd2 ho2
    have HB : Hid (wc.heap[w.heap.size]? = some (.cells X 45 (0, 0)) ∧ r < wc.heap.size) := by
      have := AP.out.1.box; rw [H2.out.1] at this; exact ⟨this, (Array.getElem?_eq_some_iff.1 AP.out.1.res).1⟩
    have m6 : wc.cell? ⟨w.heap.size, 6, none⟩ = some (.int .i64 x.m.err) := by rw [cell_of HB.out.1, ← H2.out.1]; rfl
    clear hd2 ho2 HS HI
    rw [he] at m6
    obtain ⟨W6, hW6⟩ : ∃ W6, wc.setRow r #[.bool false, .bool true, .bool false, .bool false, .slice none 0 0, .int .i64 0, .slice none 0 0] = W6 := ⟨_, rfl⟩
    have ms := actSt_of (cs := #[.bool false, .bool true, .bool false, .bool false, .slice none 0 0, .int .i64 0, .slice none 0 0]) AP.out.1.res rfl rfl (by simp [Value.oneCell']) hW6
    have hrr : W6.heap[r]? = some (.cells #[.bool false, .bool true, .bool false, .bool false, .slice none 0 0, .int .i64 0, .slice none 0 0] 59 (0, 0)) := by rw [← hW6]; exact setRow_heap _ _ _ _ _ _ AP.out.1.res
    have HZ : Hid (∃ s', ST w W6 B t s s' ∧ s'.say = s.say.used x.m ∧ s'.hs = s.hs) := ⟨_, AP.out.2.box hwr (AP.out.1.is.noAct ⟨_, _, AP.out.1.res⟩) hW6, by unfold Ts.used; rw [if_pos he]; rfl, rfl⟩
    have HA : Hid (s.say.usedA x.m = againA) := by unfold Ts.usedA; exact if_pos he
    clear hW6 he
    go_wp2
    refine bodyPost_ret (results_cell_row rfl _ _ r _ _ _ _ rfl hrr Try.underlying59 rfl Try.sizeAc) rfl ?_
    exact ⟨plainAm againA rfl rfl, rfl, HA.out.symm, plain_l _ _ _ _ _, HZ.out⟩
end
end Go.Proofs.Ytpmcecenhgppbaa
