/- apply: a break or a flush. -/
import Derived.Test.YtpmcecenhgppbaaJTEpt10
namespace Go.Proofs.Ytpmcecenhgppbaa
section
open Go.RowKit Go.Shelf
attribute [local go_sem ↓ high] loadMsg storeMsg buildMsg storeAct loadAct
attribute [local go_sem high] run_store_complex eqC

/-- the boxes of a call beside a tide -/
structure Ap (w W : World) (B t r : Nat) (s : Td) (x : Hm) : Prop where
  is : IsT W B t s
  low : ∀ k, s.wr t k → k < w.heap.size
  box : W.heap[w.heap.size]? = some (.cells x.arr 45 (0, 0))
  res : W.heap[r]? = some (.cells zAct 59 (0, 0))
  ls : Lists W 0 x
  rlt : w.heap.size < r
/-- what a call on the tide leaves of them -/
theorem Ap.keep {w W W5 : World} {B t r : Nat} {s s2 : Td} {x : Hm} (a : Ap w W B t r s x) (h : ST W W5 B t s s2) : W5.heap[w.heap.size]? = some (.cells x.arr 45 (0, 0)) ∧ W5.heap[r]? = some (.cells zAct 59 (0, 0)) ∧ Lists W5 0 x := by
  refine ⟨(h.only.block _ (Array.getElem?_eq_some_iff.1 a.box).1 (fun e => by have := a.low _ e; omega)).trans a.box, (h.only.block _ (Array.getElem?_eq_some_iff.1 a.res).1 (fun e => by have := a.low _ e; have := a.rlt; omega)).trans a.res, a.ls.only h.only fun q e => ⟨a.is.wno e (by decide) (by decide), a.is.wno e (by decide) (by decide)⟩⟩
/-- the mark and the version -/
theorem apply_mark {w W2 W4 : World} {B t r : Nat} {s : Td} {x : Hm} (h : IsT w B t s) (hb : Below w.heap.size w W2) (hbox : W2.heap[w.heap.size]? = some (.cells x.arr 45 (0, 0))) (hres : W2.heap[r]? = some (.cells zAct 59 (0, 0))) (hL : Lists w 0 x) (hr : w.heap.size < r) (hm : Mk x.m.re x.m.im (part s.a) x.m.num) (hn : part s.b < x.m.num)
    (hd : W4.heap[t]? = some (.cells ({ s with b := x.m.im, ver := max s.ver x.m.vers } : Td).arr 68 (0, 0))) (o : Only (· = t) W2 W4) :
    Ap w W4 B t r { s with b := x.m.im, ver := max s.ver x.m.vers } x ∧ ST w W4 B t s { s with b := x.m.im, ver := max s.ver x.m.vers } := by
  have h2 := h.below hb
  have tlt := h.tt.lt
  have hmk : Mk s.a x.m.im (part s.a) x.m.num := ⟨h.mkk.ha, hm.hb, h.mkk.e0, h.mkk.e1, hm.n0, hm.n1⟩
  have is4 : IsT W4 B t { s with b := x.m.im, ver := max s.ver x.m.vers } := h2.put _ W4 hd o rfl hmk rfl rfl rfl (h2.map.moved fun g e => o.block g (h2.map.some' e).1.lt fun (e' : g = t) => by
    have := (h2.map.some' e).1.no (t := 68)
    rw [e'] at this; exact this h2.tt) h.isf ⟨fun b hb => ⟨(h.frn.pos b hb).1, by have := (h.frn.pos b hb).2; exact Int.le_trans this (Int.le_of_lt hn)⟩, h.frn.up⟩ h.ask0
  refine ⟨⟨is4, fun k hk => (h.wlt hk).2, (o.block _ (Array.getElem?_eq_some_iff.1 hbox).1 (fun (e : w.heap.size = t) => by omega)).trans hbox, (o.block _ (Array.getElem?_eq_some_iff.1 hres).1 (fun (e : r = t) => by omega)).trans hres, (hL.below hb).only o (fun q (e : q = t) => by rw [e]; exact ⟨h2.tt.two (by decide), h2.tt.two (by decide)⟩), hr⟩, is4, ?_, fun k hk => .inl hk, fun k hk => .inl hk⟩
  exact ((Only.of hb).mono (fun q e => e)).trans (o.mono fun q e => .inl e)
theorem ST.box {w W W2 : World} {B t r : Nat} {s s2 : Td} {cs : Array Value} (h : ST w W B t s s2) (hr : w.heap.size < r) (hlow : ∀ k, s2.blk t k → k ≠ r) (hW : W.setRow r cs = W2) : ST w W2 B t s s2 := by
  have o : Only (· = r) W W2 := by rw [← hW]; exact onlyR _ _ _
  refine ⟨h.is.moved fun k hk => o.block k (h.is.lt hk).2 (hlow k hk), ⟨o.os.trans h.only.os, o.tape.trans h.only.tape, o.output.trans h.only.output, Nat.le_trans h.only.size o.size, fun k hk hn => ?_⟩, h.nwr, h.nblk⟩
  exact (o.block k (Nat.lt_of_lt_of_le hk h.only.size) (fun (e : k = r) => by omega)).trans (h.only.block k hk hn)
/-- no block of a tide is an act's -/
theorem IsT.noAct {w : World} {B t r : Nat} {s : Td} (h : IsT w B t s) (hr : Tag w r 59) : ∀ k, s.blk t k → k ≠ r := by
  rintro k hk rfl
  rcases hk with hk | ⟨m, hm, e | e⟩
  · exact h.wno hk (by decide) (by decide) hr
  · exact (Tag.own (h.each m hm).1.es e).two (by decide) hr
  · exact (Tag.own (h.each m hm).1.ks e).two (by decide) hr
set_option maxHeartbeats 4000000 in
set_option maxRecDepth 100000 in
theorem apply_04 (t B : Nat) (s : Td) (x : Hm) (w : World) (h : IsT w B t s) (hL : Lists w 0 x) (hm : Mk x.m.re x.m.im (part s.a) x.m.num) (hn : part s.b < x.m.num) (ha : s.asked = 0) (hk : x.m.kind = 4) :
    Calls Try.prog 48 #[.pointer (some ⟨t, 0, none⟩), .agg x.arr] w fun e w' => ∃ a : Am, e = .returned (.agg a.arr) ∧ a.c = actOf x.m ∧ ActL w' w.heap.size a ∧ ∃ s', ST w w' B t s s' ∧ s'.say = s.say.apply x.m ∧ s'.hs = s.hs := by
  obtain ⟨W, hW⟩ : ∃ W, w.alloc (.cells x.arr 45) = W := ⟨_, rfl⟩
  obtain ⟨W2, hW2⟩ : ∃ W2, W.alloc (.cells #[.bool false, .bool false, .bool false, .bool false, .slice none 0 0, .int .i64 0, .slice none 0 0] 59) = W2 := ⟨_, rfl⟩
  have b1 := boxB hW
  have b2 := boxB hW2
  obtain ⟨r, hr⟩ : ∃ r, W.heap.size = r := ⟨_, rfl⟩
  have hwr : w.heap.size < r := by rw [← hr]; exact (Array.getElem?_eq_some_iff.1 b1.1).1
  have hb0 : Below w.heap.size w W2 := chainB b1.2 b2.2
  have bx : W2.heap[w.heap.size]? = some (.cells x.arr 45 (0, 0)) := hkeep b1.1 b2.2
  have br : W2.heap[r]? = some (.cells zAct 59 (0, 0)) := by rw [← hr]; exact b2.1
  have h2 := h.below hb0
  obtain ⟨-, -, c2, -, -, -, -, -, -, -, cf⟩ := h2.cells
  have m4 : W2.cell? ⟨w.heap.size, 4, none⟩ = some (.complex .f64 x.m.re x.m.im) := by rw [cell_of bx]; rfl
  have hne : t ≠ w.heap.size := by have := h.tt.lt; omega
  have n0 := h.mkk.n0
  obtain ⟨X, hX⟩ : ∃ X, x.arr = X := ⟨_, rfl⟩
  rw [hX] at hW ⊢
  have HI : Hid (∀ W4, W4.heap[t]? = some (.cells ({ s with b := x.m.im, ver := max s.ver x.m.vers } : Td).arr 68 (0, 0)) → Only (· = t) W2 W4 → Ap w W4 B t r { s with b := x.m.im, ver := max s.ver x.m.vers } x ∧ ST w W4 B t s { s with b := x.m.im, ver := max s.ver x.m.vers }) := fun W4 hd o => apply_mark h hb0 bx br hL hwr hm hn hd o
  have H2 : Hid (W2.heap[t]? = some (.cells s.arr 68 (0, 0)) ∧ W2.heap[w.heap.size]? = some (.cells X 45 (0, 0)) ∧ x.arr = X ∧ Mk x.m.re x.m.im (part s.a) x.m.num ∧ FrOk (part s.b) s.fr) := ⟨h2.head, by rw [← hX]; exact bx, hX, hm, h.frn⟩
  have HS : Hid ((W2.setCell ⟨t, 2, none⟩ (.complex .f64 s.a x.m.im)).heap[t]? = some (.cells ({ s with b := x.m.im } : Td).arr 68 (0, 0))) := by
    have := heap_set h2.head 2 (.complex .f64 s.a x.m.im)
    exact (by simpa [Td.arr] using this : (W2.setCell ⟨t, 2, none⟩ (.complex .f64 s.a x.m.im)).heap[t]? = some (.cells ({ s with b := x.m.im } : Td).arr 68 (0, 0)))
  clear h h2 b1 b2 hb0 bx br hX hL hm
  go_enter Try.func48, Try.ntmps48
  go_upto_region 1 with fail
  clear hW hW2
  go_cut [17] from 5 to 16 (fun u wx => u = undef ∧ wx.heap[t]? = some (.cells ({ s with b := x.m.im } : Td).arr 68 (0, 0)) ∧ Only (· = t) W2 wx)
  case first =>
    go_region_law (fail)
    all_goals
      go_wp2_with fail
      go_meet
      exact ⟨rfl, HS.out, (only1 _ t _ _).drew⟩
  case rest =>
    rename World => w3
    obtain ⟨rfl, hd1, ho1⟩ := hcut
    have k0 := (ho1.block _ (Array.getElem?_eq_some_iff.1 H2.out.2.1).1 (fun e => hne e.symm)).trans H2.out.2.1
    have m5 : w3.cell? ⟨w.heap.size, 5, none⟩ = some (.int .i64 x.m.vers) := by rw [cell_of k0, ← H2.out.2.2.1]; rfl
    have c3 : w3.cell? ⟨t, 3, none⟩ = some (.int .i64 s.ver) := by rw [cell_of hd1]; rfl
    have cf1 := free_of hd1
    have HD : Hid (w3.heap[t]? = some (.cells ({ s with b := x.m.im } : Td).arr 68 (0, 0)) ∧ Only (· = t) W2 w3) := ⟨hd1, ho1⟩
    have HS2 : Hid ((w3.setCell ⟨t, 3, none⟩ (.int .i64 (max s.ver x.m.vers))).heap[t]? = some (.cells ({ s with b := x.m.im, ver := max s.ver x.m.vers } : Td).arr 68 (0, 0))) := by
      have := heap_set hd1 3 (.int .i64 (max s.ver x.m.vers))
      exact (by simpa [Td.arr] using this : (w3.setCell ⟨t, 3, none⟩ (.int .i64 (max s.ver x.m.vers))).heap[t]? = some (.cells ({ s with b := x.m.im, ver := max s.ver x.m.vers } : Td).arr 68 (0, 0)))
    clear hd1 ho1 k0 HS
    go_upto_region 2 with fail
    go_cut [27] from 5 to 26 (fun u wx => u = undef ∧ wx.heap[t]? = some (.cells ({ s with b := x.m.im, ver := max s.ver x.m.vers } : Td).arr 68 (0, 0)) ∧ Only (· = t) w3 wx)
    case first =>
      go_region_law (fail)
      all_goals
        go_wp2_with fail
        go_meet
        exact ⟨rfl, HS2.out, (only1 _ t _ _).drew⟩
    case rest =>
      obtain ⟨rfl, hd2, ho2⟩ := hcut
      obtain ⟨s1, hs1⟩ : ∃ s1 : Td, s1 = { s with b := x.m.im, ver := max s.ver x.m.vers } := ⟨_, rfl⟩
      have AP : Hid (Ap w wc B t r s1 x ∧ ST w wc B t s s1) := by rw [hs1]; exact HI.out wc hd2 (HD.out.2.trans ho2)
      have c4 : wc.cell? ⟨t, 4, none⟩ = some (.int .i64 s.asked) := by rw [cell_of hd2]; rfl
      have HB : Hid (wc.heap[w.heap.size]? = some (.cells X 45 (0, 0))) := by have := AP.out.1.box; rw [H2.out.2.2.1] at this; exact this
      clear hd2 ho2 HS2 HD HI
      have HQ : Hid (ST w wc B t s s1 ∧ (s1.say = s.say.apply x.m ∧ s1.hs = s.hs) ∧ wc.heap[w.heap.size]? = some (.cells X 45 (0, 0)) ∧ wc.heap[r]? = some (.cells zAct 59 (0, 0)) ∧ Lists wc 0 x) := by
        refine ⟨AP.out.2, ⟨?_, by rw [hs1]⟩, HB.out, AP.out.1.res, AP.out.1.ls⟩
        rw [hs1]
        unfold Ts.apply
        rw [if_neg (show ¬ (0 : Int) < s.say.asked by show ¬ (0 : Int) < s.asked; omega)]; rfl
      have hnz : ¬ (0 : Int) < s.asked := by omega
      have m0 : wc.cell? ⟨w.heap.size, 0, none⟩ = some (.int .i64 x.m.kind) := by rw [cell_of HB.out, ← H2.out.2.2.1]; rfl
      rw [hk] at m0
      clear hs1 AP hn
      rename World => w5
      obtain ⟨W6, hW6⟩ : ∃ W6, w5.setRow r #[.bool true, .bool false, .bool false, .bool false, .slice none 0 0, .int .i64 0, .slice none 0 0] = W6 := ⟨_, rfl⟩
      have ms := actSt_of (cs := #[.bool true, .bool false, .bool false, .bool false, .slice none 0 0, .int .i64 0, .slice none 0 0]) HQ.out.2.2.2.1 rfl rfl (by simp [Value.oneCell']) hW6
      have hrr : W6.heap[r]? = some (.cells #[.bool true, .bool false, .bool false, .bool false, .slice none 0 0, .int .i64 0, .slice none 0 0] 59 (0, 0)) := by rw [← hW6]; exact setRow_heap _ _ _ _ _ _ HQ.out.2.2.2.1
      have HZ : Hid (∃ s', ST w W6 B t s s' ∧ s'.say = s.say.apply x.m ∧ s'.hs = s.hs) := ⟨_, HQ.out.1.box hwr (HQ.out.1.is.noAct ⟨_, _, HQ.out.2.2.2.1⟩) hW6, HQ.out.2.1⟩
      have HA : Hid (actOf x.m = allA) := by unfold actOf; exact if_pos hk
      clear hW6 hk
      go_wp2
      refine bodyPost_ret (results_cell_row rfl _ _ r _ _ _ _ rfl hrr Try.underlying59 rfl Try.sizeAc) rfl ?_
      exact ⟨plainAm allA rfl rfl, rfl, HA.out.symm, plain_l _ _ _ _ _, HZ.out⟩
set_option maxHeartbeats 4000000 in
set_option maxRecDepth 100000 in
theorem apply_03 (t B : Nat) (s : Td) (x : Hm) (w : World) (h : IsT w B t s) (hL : Lists w 0 x) (hm : Mk x.m.re x.m.im (part s.a) x.m.num) (hn : part s.b < x.m.num) (ha : s.asked = 0) (hk : x.m.kind = 3) :
    Calls Try.prog 48 #[.pointer (some ⟨t, 0, none⟩), .agg x.arr] w fun e w' => ∃ a : Am, e = .returned (.agg a.arr) ∧ a.c = actOf x.m ∧ ActL w' w.heap.size a ∧ ∃ s', ST w w' B t s s' ∧ s'.say = s.say.apply x.m ∧ s'.hs = s.hs := by
  obtain ⟨W, hW⟩ : ∃ W, w.alloc (.cells x.arr 45) = W := ⟨_, rfl⟩
  obtain ⟨W2, hW2⟩ : ∃ W2, W.alloc (.cells #[.bool false, .bool false, .bool false, .bool false, .slice none 0 0, .int .i64 0, .slice none 0 0] 59) = W2 := ⟨_, rfl⟩
  have b1 := boxB hW
  have b2 := boxB hW2
  obtain ⟨r, hr⟩ : ∃ r, W.heap.size = r := ⟨_, rfl⟩
  have hwr : w.heap.size < r := by rw [← hr]; exact (Array.getElem?_eq_some_iff.1 b1.1).1
  have hb0 : Below w.heap.size w W2 := chainB b1.2 b2.2
  have bx : W2.heap[w.heap.size]? = some (.cells x.arr 45 (0, 0)) := hkeep b1.1 b2.2
  have br : W2.heap[r]? = some (.cells zAct 59 (0, 0)) := by rw [← hr]; exact b2.1
  have h2 := h.below hb0
  obtain ⟨-, -, c2, -, -, -, -, -, -, -, cf⟩ := h2.cells
  have m4 : W2.cell? ⟨w.heap.size, 4, none⟩ = some (.complex .f64 x.m.re x.m.im) := by rw [cell_of bx]; rfl
  have hne : t ≠ w.heap.size := by have := h.tt.lt; omega
  have n0 := h.mkk.n0
  obtain ⟨X, hX⟩ : ∃ X, x.arr = X := ⟨_, rfl⟩
  rw [hX] at hW ⊢
  have HI : Hid (∀ W4, W4.heap[t]? = some (.cells ({ s with b := x.m.im, ver := max s.ver x.m.vers } : Td).arr 68 (0, 0)) → Only (· = t) W2 W4 → Ap w W4 B t r { s with b := x.m.im, ver := max s.ver x.m.vers } x ∧ ST w W4 B t s { s with b := x.m.im, ver := max s.ver x.m.vers }) := fun W4 hd o => apply_mark h hb0 bx br hL hwr hm hn hd o
  have H2 : Hid (W2.heap[t]? = some (.cells s.arr 68 (0, 0)) ∧ W2.heap[w.heap.size]? = some (.cells X 45 (0, 0)) ∧ x.arr = X ∧ Mk x.m.re x.m.im (part s.a) x.m.num ∧ FrOk (part s.b) s.fr) := ⟨h2.head, by rw [← hX]; exact bx, hX, hm, h.frn⟩
  have HS : Hid ((W2.setCell ⟨t, 2, none⟩ (.complex .f64 s.a x.m.im)).heap[t]? = some (.cells ({ s with b := x.m.im } : Td).arr 68 (0, 0))) := by
    have := heap_set h2.head 2 (.complex .f64 s.a x.m.im)
    exact (by simpa [Td.arr] using this : (W2.setCell ⟨t, 2, none⟩ (.complex .f64 s.a x.m.im)).heap[t]? = some (.cells ({ s with b := x.m.im } : Td).arr 68 (0, 0)))
  clear h h2 b1 b2 hb0 bx br hX hL hm
  go_enter Try.func48, Try.ntmps48
  go_upto_region 1 with fail
  clear hW hW2
  go_cut [17] from 5 to 16 (fun u wx => u = undef ∧ wx.heap[t]? = some (.cells ({ s with b := x.m.im } : Td).arr 68 (0, 0)) ∧ Only (· = t) W2 wx)
  case first =>
    go_region_law (fail)
    all_goals
      go_wp2_with fail
      go_meet
      exact ⟨rfl, HS.out, (only1 _ t _ _).drew⟩
  case rest =>
    rename World => w3
    obtain ⟨rfl, hd1, ho1⟩ := hcut
    have k0 := (ho1.block _ (Array.getElem?_eq_some_iff.1 H2.out.2.1).1 (fun e => hne e.symm)).trans H2.out.2.1
    have m5 : w3.cell? ⟨w.heap.size, 5, none⟩ = some (.int .i64 x.m.vers) := by rw [cell_of k0, ← H2.out.2.2.1]; rfl
    have c3 : w3.cell? ⟨t, 3, none⟩ = some (.int .i64 s.ver) := by rw [cell_of hd1]; rfl
    have cf1 := free_of hd1
    have HD : Hid (w3.heap[t]? = some (.cells ({ s with b := x.m.im } : Td).arr 68 (0, 0)) ∧ Only (· = t) W2 w3) := ⟨hd1, ho1⟩
    have HS2 : Hid ((w3.setCell ⟨t, 3, none⟩ (.int .i64 (max s.ver x.m.vers))).heap[t]? = some (.cells ({ s with b := x.m.im, ver := max s.ver x.m.vers } : Td).arr 68 (0, 0))) := by
      have := heap_set hd1 3 (.int .i64 (max s.ver x.m.vers))
      exact (by simpa [Td.arr] using this : (w3.setCell ⟨t, 3, none⟩ (.int .i64 (max s.ver x.m.vers))).heap[t]? = some (.cells ({ s with b := x.m.im, ver := max s.ver x.m.vers } : Td).arr 68 (0, 0)))
    clear hd1 ho1 k0 HS
    go_upto_region 2 with fail
    go_cut [27] from 5 to 26 (fun u wx => u = undef ∧ wx.heap[t]? = some (.cells ({ s with b := x.m.im, ver := max s.ver x.m.vers } : Td).arr 68 (0, 0)) ∧ Only (· = t) w3 wx)
    case first =>
      go_region_law (fail)
      all_goals
        go_wp2_with fail
        go_meet
        exact ⟨rfl, HS2.out, (only1 _ t _ _).drew⟩
    case rest =>
      obtain ⟨rfl, hd2, ho2⟩ := hcut
      obtain ⟨s1, hs1⟩ : ∃ s1 : Td, s1 = { s with b := x.m.im, ver := max s.ver x.m.vers } := ⟨_, rfl⟩
      have AP : Hid (Ap w wc B t r s1 x ∧ ST w wc B t s s1) := by rw [hs1]; exact HI.out wc hd2 (HD.out.2.trans ho2)
      have c4 : wc.cell? ⟨t, 4, none⟩ = some (.int .i64 s.asked) := by rw [cell_of hd2]; rfl
      have HB : Hid (wc.heap[w.heap.size]? = some (.cells X 45 (0, 0))) := by have := AP.out.1.box; rw [H2.out.2.2.1] at this; exact this
      clear hd2 ho2 HS2 HD HI
      have HQ : Hid (ST w wc B t s s1 ∧ (s1.say = s.say.apply x.m ∧ s1.hs = s.hs) ∧ wc.heap[w.heap.size]? = some (.cells X 45 (0, 0)) ∧ wc.heap[r]? = some (.cells zAct 59 (0, 0)) ∧ Lists wc 0 x) := by
        refine ⟨AP.out.2, ⟨?_, by rw [hs1]⟩, HB.out, AP.out.1.res, AP.out.1.ls⟩
        rw [hs1]
        unfold Ts.apply
        rw [if_neg (show ¬ (0 : Int) < s.say.asked by show ¬ (0 : Int) < s.asked; omega)]; rfl
      have hnz : ¬ (0 : Int) < s.asked := by omega
      have m0 : wc.cell? ⟨w.heap.size, 0, none⟩ = some (.int .i64 x.m.kind) := by rw [cell_of HB.out, ← H2.out.2.2.1]; rfl
      rw [hk] at m0
      clear hs1 AP hn
      rename World => w5
      have m15 : w5.cell? ⟨w.heap.size, 15, none⟩ = some (.slice x.ak x.m.ks.length x.ck) := by rw [cell_of HQ.out.2.2.1, ← H2.out.2.2.1]; rfl
      have hcl : Hid (Calls Try.prog 58 #[.slice x.ak x.m.ks.length x.ck] w5 fun e w' => ∃ a c, e = .returned (.slice a x.m.ks.length c) ∧ RowK w' w5.heap.size (.slice a x.m.ks.length c) x.m.ks ∧ Below w5.heap.size w5 w') := clone_k _ x.m.ks 0 w5 HQ.out.2.2.2.2.ks HQ.out.2.2.2.2.lk
      have HA : Hid (actOf x.m = keysA x.m.ks) := by unfold actOf; exact if_neg (by omega)
      have HL : Hid (x.m.ks.length * 24 ≤ LB) := HQ.out.2.2.2.2.lk
      clear hk
      go_wp2_with (go_at_call 58; refine hcl.out.mono ?_; rintro e w6 ⟨a6, q6, rfl, hr6, hb6⟩; obtain ⟨W7, hW7⟩ : ∃ W7, w6.setRow r #[.bool false, .bool false, .bool false, .bool false, .slice a6 x.m.ks.length q6, .int .i64 0, .slice none 0 0] = W7 := ⟨_, rfl⟩; have hz6 := hkeep HQ.out.2.2.2.1 hb6; have ms := actSt_of (cs := #[.bool false, .bool false, .bool false, .bool false, .slice a6 x.m.ks.length q6, .int .i64 0, .slice none 0 0]) hz6 rfl rfl (by simp [Value.oneCell']) hW7; have HZ : Hid ((∃ s', ST w W7 B t s s' ∧ s'.say = s.say.apply x.m ∧ s'.hs = s.hs) ∧ ActL W7 w.heap.size ⟨keysA x.m.ks, a6, q6, none, 0⟩ ∧ W7.heap[r]? = some (.cells #[.bool false, .bool false, .bool false, .bool false, .slice a6 x.m.ks.length q6, .int .i64 0, .slice none 0 0] 59 (0, 0))) := (by
          have st6 := HQ.out.1.on hb6
          have o7 : Only (· = r) w6 W7 := by rw [← hW7]; exact onlyR _ _ _
          refine ⟨⟨_, st6.box hwr (st6.is.noAct ⟨_, _, hz6⟩) hW7, HQ.out.2.1⟩, ⟨rowK_only (owns_le hr6 (Nat.le_trans HQ.out.1.only.size (Nat.le_refl _))) o7 ⟨_, _, hz6⟩ (by decide), World.ownsRow_nil _ _ _ _, Nat.zero_le _, HL.out⟩, by rw [← hW7]; exact setRow_heap _ _ _ _ _ _ hz6⟩); clear hr6 hz6)
      refine bodyPost_ret (results_cell_row rfl _ _ r _ _ _ _ rfl HZ.out.2.2 Try.underlying59 rfl Try.sizeAc) rfl ?_
      exact ⟨⟨keysA x.m.ks, a6, q6, none, 0⟩, rfl, HA.out.symm, HZ.out.2.1, HZ.out.1⟩
set_option maxHeartbeats 4000000 in
set_option maxRecDepth 100000 in
theorem apply_14 (t B : Nat) (s : Td) (x : Hm) (w : World) (h : IsT w B t s) (hL : Lists w 0 x) (hm : Mk x.m.re x.m.im (part s.a) x.m.num) (hn : part s.b < x.m.num) (ha : 0 < s.asked) (hk : x.m.kind = 4) :
    Calls Try.prog 48 #[.pointer (some ⟨t, 0, none⟩), .agg x.arr] w fun e w' => ∃ a : Am, e = .returned (.agg a.arr) ∧ a.c = actOf x.m ∧ ActL w' w.heap.size a ∧ ∃ s', ST w w' B t s s' ∧ s'.say = s.say.apply x.m ∧ s'.hs = s.hs := by
  obtain ⟨W, hW⟩ : ∃ W, w.alloc (.cells x.arr 45) = W := ⟨_, rfl⟩
  obtain ⟨W2, hW2⟩ : ∃ W2, W.alloc (.cells #[.bool false, .bool false, .bool false, .bool false, .slice none 0 0, .int .i64 0, .slice none 0 0] 59) = W2 := ⟨_, rfl⟩
  have b1 := boxB hW
  have b2 := boxB hW2
  obtain ⟨r, hr⟩ : ∃ r, W.heap.size = r := ⟨_, rfl⟩
  have hwr : w.heap.size < r := by rw [← hr]; exact (Array.getElem?_eq_some_iff.1 b1.1).1
  have hb0 : Below w.heap.size w W2 := chainB b1.2 b2.2
  have bx : W2.heap[w.heap.size]? = some (.cells x.arr 45 (0, 0)) := hkeep b1.1 b2.2
  have br : W2.heap[r]? = some (.cells zAct 59 (0, 0)) := by rw [← hr]; exact b2.1
  have h2 := h.below hb0
  obtain ⟨-, -, c2, -, -, -, -, -, -, -, cf⟩ := h2.cells
  have m4 : W2.cell? ⟨w.heap.size, 4, none⟩ = some (.complex .f64 x.m.re x.m.im) := by rw [cell_of bx]; rfl
  have hne : t ≠ w.heap.size := by have := h.tt.lt; omega
  have n0 := h.mkk.n0
  obtain ⟨X, hX⟩ : ∃ X, x.arr = X := ⟨_, rfl⟩
  rw [hX] at hW ⊢
  have HI : Hid (∀ W4, W4.heap[t]? = some (.cells ({ s with b := x.m.im, ver := max s.ver x.m.vers } : Td).arr 68 (0, 0)) → Only (· = t) W2 W4 → Ap w W4 B t r { s with b := x.m.im, ver := max s.ver x.m.vers } x ∧ ST w W4 B t s { s with b := x.m.im, ver := max s.ver x.m.vers }) := fun W4 hd o => apply_mark h hb0 bx br hL hwr hm hn hd o
  have H2 : Hid (W2.heap[t]? = some (.cells s.arr 68 (0, 0)) ∧ W2.heap[w.heap.size]? = some (.cells X 45 (0, 0)) ∧ x.arr = X ∧ Mk x.m.re x.m.im (part s.a) x.m.num ∧ FrOk (part s.b) s.fr) := ⟨h2.head, by rw [← hX]; exact bx, hX, hm, h.frn⟩
  have HS : Hid ((W2.setCell ⟨t, 2, none⟩ (.complex .f64 s.a x.m.im)).heap[t]? = some (.cells ({ s with b := x.m.im } : Td).arr 68 (0, 0))) := by
    have := heap_set h2.head 2 (.complex .f64 s.a x.m.im)
    exact (by simpa [Td.arr] using this : (W2.setCell ⟨t, 2, none⟩ (.complex .f64 s.a x.m.im)).heap[t]? = some (.cells ({ s with b := x.m.im } : Td).arr 68 (0, 0)))
  clear h h2 b1 b2 hb0 bx br hX hL hm
  go_enter Try.func48, Try.ntmps48
  go_upto_region 1 with fail
  clear hW hW2
  go_cut [17] from 5 to 16 (fun u wx => u = undef ∧ wx.heap[t]? = some (.cells ({ s with b := x.m.im } : Td).arr 68 (0, 0)) ∧ Only (· = t) W2 wx)
  case first =>
    go_region_law (fail)
    all_goals
      go_wp2_with fail
      go_meet
      exact ⟨rfl, HS.out, (only1 _ t _ _).drew⟩
  case rest =>
    rename World => w3
    obtain ⟨rfl, hd1, ho1⟩ := hcut
    have k0 := (ho1.block _ (Array.getElem?_eq_some_iff.1 H2.out.2.1).1 (fun e => hne e.symm)).trans H2.out.2.1
    have m5 : w3.cell? ⟨w.heap.size, 5, none⟩ = some (.int .i64 x.m.vers) := by rw [cell_of k0, ← H2.out.2.2.1]; rfl
    have c3 : w3.cell? ⟨t, 3, none⟩ = some (.int .i64 s.ver) := by rw [cell_of hd1]; rfl
    have cf1 := free_of hd1
    have HD : Hid (w3.heap[t]? = some (.cells ({ s with b := x.m.im } : Td).arr 68 (0, 0)) ∧ Only (· = t) W2 w3) := ⟨hd1, ho1⟩
    have HS2 : Hid ((w3.setCell ⟨t, 3, none⟩ (.int .i64 (max s.ver x.m.vers))).heap[t]? = some (.cells ({ s with b := x.m.im, ver := max s.ver x.m.vers } : Td).arr 68 (0, 0))) := by
      have := heap_set hd1 3 (.int .i64 (max s.ver x.m.vers))
      exact (by simpa [Td.arr] using this : (w3.setCell ⟨t, 3, none⟩ (.int .i64 (max s.ver x.m.vers))).heap[t]? = some (.cells ({ s with b := x.m.im, ver := max s.ver x.m.vers } : Td).arr 68 (0, 0)))
    clear hd1 ho1 k0 HS
    go_upto_region 2 with fail
    go_cut [27] from 5 to 26 (fun u wx => u = undef ∧ wx.heap[t]? = some (.cells ({ s with b := x.m.im, ver := max s.ver x.m.vers } : Td).arr 68 (0, 0)) ∧ Only (· = t) w3 wx)
    case first =>
      go_region_law (fail)
      all_goals
        go_wp2_with fail
        go_meet
        exact ⟨rfl, HS2.out, (only1 _ t _ _).drew⟩
    case rest =>
      obtain ⟨rfl, hd2, ho2⟩ := hcut
      obtain ⟨s1, hs1⟩ : ∃ s1 : Td, s1 = { s with b := x.m.im, ver := max s.ver x.m.vers } := ⟨_, rfl⟩
      have AP : Hid (Ap w wc B t r s1 x ∧ ST w wc B t s s1) := by rw [hs1]; exact HI.out wc hd2 (HD.out.2.trans ho2)
      have c4 : wc.cell? ⟨t, 4, none⟩ = some (.int .i64 s.asked) := by rw [cell_of hd2]; rfl
      have HB : Hid (wc.heap[w.heap.size]? = some (.cells X 45 (0, 0))) := by have := AP.out.1.box; rw [H2.out.2.2.1] at this; exact this
      clear hd2 ho2 HS2 HD HI
      have kS : (msgLd (.pointer (some ⟨w.heap.size, 0, none⟩))).run Try.prog wc.drew = .ok (.agg X) wc.drew := msgLd_of (w := wc.drew) HB.out (by rw [← H2.out.2.2.1]; rfl)
      have hb1 : s1.a = s.a ∧ s1.b = x.m.im ∧ s1.fr = s.fr := by rw [hs1]; exact ⟨rfl, rfl, rfl⟩
      have hadd : Hid (Calls Try.prog 63 #[.pointer (some ⟨t, 5, none⟩), .agg X] wc.drew fun e w' => e = .returned (.tuple #[]) ∧ ∃ s2, ST wc.drew w' B t s1 s2 ∧ s2.say = { s1.say with fr := s1.fr ++ [s1.fr1 x.m] } ∧ s2.hs = s1.hs) := by
        have := add_p t B s1 x wc.drew (AP.out.1.is.below (Below.refl _ _).drew) (AP.out.1.ls.ks.below (Below.refl _ _).drew) AP.out.1.ls.lk (by rw [hb1.1, hb1.2.1]; exact H2.out.2.2.2.1) (by rw [hb1.2.1]; exact Int.lt_of_le_of_lt n0 hn) (part s.b) (by rw [hb1.2.2]; exact H2.out.2.2.2.2) (by rw [hb1.2.1]; exact hn) n0 (.inr hk)
        rw [H2.out.2.2.1] at this; exact this
      have HS1 : Hid (s1 = { s with b := x.m.im, ver := max s.ver x.m.vers }) := hs1
      have hnz : (0 : Int) < s.asked := ha
      clear hs1 hb1
      go_upto_region 4 with fail
      go_region_held3 (fun w' => (msgLd (.pointer (some ⟨w.heap.size, 0, none⟩))).run Try.prog w' = .ok (.agg X) w')
        (with_reducible first | exact kS | exact kT)
        (first | (go_at_call 63; refine hadd.out.mono ?_; rintro e w5 ⟨rfl, s2, hst, hsay, hhs⟩; have HQ : Hid (ST w w5 B t s s2 ∧ (s2.say = s.say.apply x.m ∧ s2.hs = s.hs) ∧ w5.heap[w.heap.size]? = some (.cells X 45 (0, 0)) ∧ w5.heap[r]? = some (.cells zAct 59 (0, 0)) ∧ Lists w5 0 x) := (by
            have hst' : ST wc w5 B t s1 s2 := ST.pre (Below.refl _ _).drew AP.out.1.is hst
            have kp := AP.out.1.keep hst'
            refine ⟨AP.out.2.trans hst', ⟨?_, by rw [hhs, HS1.out]⟩, by rw [← H2.out.2.2.1]; exact kp.1, kp.2.1, kp.2.2⟩
            rw [hsay, HS1.out]
            unfold Ts.apply
            rw [if_pos (show (0 : Int) < s.say.asked from ha)]; rfl); have kT : (msgLd (.pointer (some ⟨w.heap.size, 0, none⟩))).run Try.prog w5 = .ok (.agg X) w5 := msgLd_of HQ.out.2.2.1 (by rw [← H2.out.2.2.1]; rfl); clear hst hsay hhs))
      have m0 : w5.cell? ⟨w.heap.size, 0, none⟩ = some (.int .i64 x.m.kind) := by rw [cell_of HQ.out.2.2.1, ← H2.out.2.2.1]; rfl
      rw [hk] at m0
      clear kS kT hadd AP HB c4 HS1 hn
      obtain ⟨W6, hW6⟩ : ∃ W6, w5.setRow r #[.bool true, .bool false, .bool false, .bool false, .slice none 0 0, .int .i64 0, .slice none 0 0] = W6 := ⟨_, rfl⟩
      have ms := actSt_of (cs := #[.bool true, .bool false, .bool false, .bool false, .slice none 0 0, .int .i64 0, .slice none 0 0]) HQ.out.2.2.2.1 rfl rfl (by simp [Value.oneCell']) hW6
      have hrr : W6.heap[r]? = some (.cells #[.bool true, .bool false, .bool false, .bool false, .slice none 0 0, .int .i64 0, .slice none 0 0] 59 (0, 0)) := by rw [← hW6]; exact setRow_heap _ _ _ _ _ _ HQ.out.2.2.2.1
      have HZ : Hid (∃ s', ST w W6 B t s s' ∧ s'.say = s.say.apply x.m ∧ s'.hs = s.hs) := ⟨_, HQ.out.1.box hwr (HQ.out.1.is.noAct ⟨_, _, HQ.out.2.2.2.1⟩) hW6, HQ.out.2.1⟩
      have HA : Hid (actOf x.m = allA) := by unfold actOf; exact if_pos hk
      clear hW6 hk
      go_wp2
      refine bodyPost_ret (results_cell_row rfl _ _ r _ _ _ _ rfl hrr Try.underlying59 rfl Try.sizeAc) rfl ?_
      exact ⟨plainAm allA rfl rfl, rfl, HA.out.symm, plain_l _ _ _ _ _, HZ.out⟩
set_option maxHeartbeats 4000000 in
set_option maxRecDepth 100000 in
theorem apply_13 (t B : Nat) (s : Td) (x : Hm) (w : World) (h : IsT w B t s) (hL : Lists w 0 x) (hm : Mk x.m.re x.m.im (part s.a) x.m.num) (hn : part s.b < x.m.num) (ha : 0 < s.asked) (hk : x.m.kind = 3) :
    Calls Try.prog 48 #[.pointer (some ⟨t, 0, none⟩), .agg x.arr] w fun e w' => ∃ a : Am, e = .returned (.agg a.arr) ∧ a.c = actOf x.m ∧ ActL w' w.heap.size a ∧ ∃ s', ST w w' B t s s' ∧ s'.say = s.say.apply x.m ∧ s'.hs = s.hs := by
  obtain ⟨W, hW⟩ : ∃ W, w.alloc (.cells x.arr 45) = W := ⟨_, rfl⟩
  obtain ⟨W2, hW2⟩ : ∃ W2, W.alloc (.cells #[.bool false, .bool false, .bool false, .bool false, .slice none 0 0, .int .i64 0, .slice none 0 0] 59) = W2 := ⟨_, rfl⟩
  have b1 := boxB hW
  have b2 := boxB hW2
  obtain ⟨r, hr⟩ : ∃ r, W.heap.size = r := ⟨_, rfl⟩
  have hwr : w.heap.size < r := by rw [← hr]; exact (Array.getElem?_eq_some_iff.1 b1.1).1
  have hb0 : Below w.heap.size w W2 := chainB b1.2 b2.2
  have bx : W2.heap[w.heap.size]? = some (.cells x.arr 45 (0, 0)) := hkeep b1.1 b2.2
  have br : W2.heap[r]? = some (.cells zAct 59 (0, 0)) := by rw [← hr]; exact b2.1
  have h2 := h.below hb0
  obtain ⟨-, -, c2, -, -, -, -, -, -, -, cf⟩ := h2.cells
  have m4 : W2.cell? ⟨w.heap.size, 4, none⟩ = some (.complex .f64 x.m.re x.m.im) := by rw [cell_of bx]; rfl
  have hne : t ≠ w.heap.size := by have := h.tt.lt; omega
  have n0 := h.mkk.n0
  obtain ⟨X, hX⟩ : ∃ X, x.arr = X := ⟨_, rfl⟩
  rw [hX] at hW ⊢
  have HI : Hid (∀ W4, W4.heap[t]? = some (.cells ({ s with b := x.m.im, ver := max s.ver x.m.vers } : Td).arr 68 (0, 0)) → Only (· = t) W2 W4 → Ap w W4 B t r { s with b := x.m.im, ver := max s.ver x.m.vers } x ∧ ST w W4 B t s { s with b := x.m.im, ver := max s.ver x.m.vers }) := fun W4 hd o => apply_mark h hb0 bx br hL hwr hm hn hd o
  have H2 : Hid (W2.heap[t]? = some (.cells s.arr 68 (0, 0)) ∧ W2.heap[w.heap.size]? = some (.cells X 45 (0, 0)) ∧ x.arr = X ∧ Mk x.m.re x.m.im (part s.a) x.m.num ∧ FrOk (part s.b) s.fr) := ⟨h2.head, by rw [← hX]; exact bx, hX, hm, h.frn⟩
  have HS : Hid ((W2.setCell ⟨t, 2, none⟩ (.complex .f64 s.a x.m.im)).heap[t]? = some (.cells ({ s with b := x.m.im } : Td).arr 68 (0, 0))) := by
    have := heap_set h2.head 2 (.complex .f64 s.a x.m.im)
    exact (by simpa [Td.arr] using this : (W2.setCell ⟨t, 2, none⟩ (.complex .f64 s.a x.m.im)).heap[t]? = some (.cells ({ s with b := x.m.im } : Td).arr 68 (0, 0)))
  clear h h2 b1 b2 hb0 bx br hX hL hm
  go_enter Try.func48, Try.ntmps48
  go_upto_region 1 with fail
  clear hW hW2
  go_cut [17] from 5 to 16 (fun u wx => u = undef ∧ wx.heap[t]? = some (.cells ({ s with b := x.m.im } : Td).arr 68 (0, 0)) ∧ Only (· = t) W2 wx)
  case first =>
    go_region_law (fail)
    all_goals
      go_wp2_with fail
      go_meet
      exact ⟨rfl, HS.out, (only1 _ t _ _).drew⟩
  case rest =>
    rename World => w3
    obtain ⟨rfl, hd1, ho1⟩ := hcut
    have k0 := (ho1.block _ (Array.getElem?_eq_some_iff.1 H2.out.2.1).1 (fun e => hne e.symm)).trans H2.out.2.1
    have m5 : w3.cell? ⟨w.heap.size, 5, none⟩ = some (.int .i64 x.m.vers) := by rw [cell_of k0, ← H2.out.2.2.1]; rfl
    have c3 : w3.cell? ⟨t, 3, none⟩ = some (.int .i64 s.ver) := by rw [cell_of hd1]; rfl
    have cf1 := free_of hd1
    have HD : Hid (w3.heap[t]? = some (.cells ({ s with b := x.m.im } : Td).arr 68 (0, 0)) ∧ Only (· = t) W2 w3) := ⟨hd1, ho1⟩
    have HS2 : Hid ((w3.setCell ⟨t, 3, none⟩ (.int .i64 (max s.ver x.m.vers))).heap[t]? = some (.cells ({ s with b := x.m.im, ver := max s.ver x.m.vers } : Td).arr 68 (0, 0))) := by
      have := heap_set hd1 3 (.int .i64 (max s.ver x.m.vers))
      exact (by simpa [Td.arr] using this : (w3.setCell ⟨t, 3, none⟩ (.int .i64 (max s.ver x.m.vers))).heap[t]? = some (.cells ({ s with b := x.m.im, ver := max s.ver x.m.vers } : Td).arr 68 (0, 0)))
    clear hd1 ho1 k0 HS
    go_upto_region 2 with fail
    go_cut [27] from 5 to 26 (fun u wx => u = undef ∧ wx.heap[t]? = some (.cells ({ s with b := x.m.im, ver := max s.ver x.m.vers } : Td).arr 68 (0, 0)) ∧ Only (· = t) w3 wx)
    case first =>
      go_region_law (fail)
      all_goals
        go_wp2_with fail
        go_meet
        exact ⟨rfl, HS2.out, (only1 _ t _ _).drew⟩
    case rest =>
      obtain ⟨rfl, hd2, ho2⟩ := hcut
      obtain ⟨s1, hs1⟩ : ∃ s1 : Td, s1 = { s with b := x.m.im, ver := max s.ver x.m.vers } := ⟨_, rfl⟩
      have AP : Hid (Ap w wc B t r s1 x ∧ ST w wc B t s s1) := by rw [hs1]; exact HI.out wc hd2 (HD.out.2.trans ho2)
      have c4 : wc.cell? ⟨t, 4, none⟩ = some (.int .i64 s.asked) := by rw [cell_of hd2]; rfl
      have HB : Hid (wc.heap[w.heap.size]? = some (.cells X 45 (0, 0))) := by have := AP.out.1.box; rw [H2.out.2.2.1] at this; exact this
      clear hd2 ho2 HS2 HD HI
      have kS : (msgLd (.pointer (some ⟨w.heap.size, 0, none⟩))).run Try.prog wc.drew = .ok (.agg X) wc.drew := msgLd_of (w := wc.drew) HB.out (by rw [← H2.out.2.2.1]; rfl)
      have hb1 : s1.a = s.a ∧ s1.b = x.m.im ∧ s1.fr = s.fr := by rw [hs1]; exact ⟨rfl, rfl, rfl⟩
      have hadd : Hid (Calls Try.prog 63 #[.pointer (some ⟨t, 5, none⟩), .agg X] wc.drew fun e w' => e = .returned (.tuple #[]) ∧ ∃ s2, ST wc.drew w' B t s1 s2 ∧ s2.say = { s1.say with fr := s1.fr ++ [s1.fr1 x.m] } ∧ s2.hs = s1.hs) := by
        have := add_p t B s1 x wc.drew (AP.out.1.is.below (Below.refl _ _).drew) (AP.out.1.ls.ks.below (Below.refl _ _).drew) AP.out.1.ls.lk (by rw [hb1.1, hb1.2.1]; exact H2.out.2.2.2.1) (by rw [hb1.2.1]; exact Int.lt_of_le_of_lt n0 hn) (part s.b) (by rw [hb1.2.2]; exact H2.out.2.2.2.2) (by rw [hb1.2.1]; exact hn) n0 (.inl hk)
        rw [H2.out.2.2.1] at this; exact this
      have HS1 : Hid (s1 = { s with b := x.m.im, ver := max s.ver x.m.vers }) := hs1
      have hnz : (0 : Int) < s.asked := ha
      clear hs1 hb1
      go_upto_region 4 with fail
      go_region_held3 (fun w' => (msgLd (.pointer (some ⟨w.heap.size, 0, none⟩))).run Try.prog w' = .ok (.agg X) w')
        (with_reducible first | exact kS | exact kT)
        (first | (go_at_call 63; refine hadd.out.mono ?_; rintro e w5 ⟨rfl, s2, hst, hsay, hhs⟩; have HQ : Hid (ST w w5 B t s s2 ∧ (s2.say = s.say.apply x.m ∧ s2.hs = s.hs) ∧ w5.heap[w.heap.size]? = some (.cells X 45 (0, 0)) ∧ w5.heap[r]? = some (.cells zAct 59 (0, 0)) ∧ Lists w5 0 x) := (by
            have hst' : ST wc w5 B t s1 s2 := ST.pre (Below.refl _ _).drew AP.out.1.is hst
            have kp := AP.out.1.keep hst'
            refine ⟨AP.out.2.trans hst', ⟨?_, by rw [hhs, HS1.out]⟩, by rw [← H2.out.2.2.1]; exact kp.1, kp.2.1, kp.2.2⟩
            rw [hsay, HS1.out]
            unfold Ts.apply
            rw [if_pos (show (0 : Int) < s.say.asked from ha)]; rfl); have kT : (msgLd (.pointer (some ⟨w.heap.size, 0, none⟩))).run Try.prog w5 = .ok (.agg X) w5 := msgLd_of HQ.out.2.2.1 (by rw [← H2.out.2.2.1]; rfl); clear hst hsay hhs))
      have m0 : w5.cell? ⟨w.heap.size, 0, none⟩ = some (.int .i64 x.m.kind) := by rw [cell_of HQ.out.2.2.1, ← H2.out.2.2.1]; rfl
      rw [hk] at m0
      clear kS kT hadd AP HB c4 HS1 hn
      have m15 : w5.cell? ⟨w.heap.size, 15, none⟩ = some (.slice x.ak x.m.ks.length x.ck) := by rw [cell_of HQ.out.2.2.1, ← H2.out.2.2.1]; rfl
      have hcl : Hid (Calls Try.prog 58 #[.slice x.ak x.m.ks.length x.ck] w5 fun e w' => ∃ a c, e = .returned (.slice a x.m.ks.length c) ∧ RowK w' w5.heap.size (.slice a x.m.ks.length c) x.m.ks ∧ Below w5.heap.size w5 w') := clone_k _ x.m.ks 0 w5 HQ.out.2.2.2.2.ks HQ.out.2.2.2.2.lk
      have HA : Hid (actOf x.m = keysA x.m.ks) := by unfold actOf; exact if_neg (by omega)
      have HL : Hid (x.m.ks.length * 24 ≤ LB) := HQ.out.2.2.2.2.lk
      clear hk
      go_wp2_with (go_at_call 58; refine hcl.out.mono ?_; rintro e w6 ⟨a6, q6, rfl, hr6, hb6⟩; obtain ⟨W7, hW7⟩ : ∃ W7, w6.setRow r #[.bool false, .bool false, .bool false, .bool false, .slice a6 x.m.ks.length q6, .int .i64 0, .slice none 0 0] = W7 := ⟨_, rfl⟩; have hz6 := hkeep HQ.out.2.2.2.1 hb6; have ms := actSt_of (cs := #[.bool false, .bool false, .bool false, .bool false, .slice a6 x.m.ks.length q6, .int .i64 0, .slice none 0 0]) hz6 rfl rfl (by simp [Value.oneCell']) hW7; have HZ : Hid ((∃ s', ST w W7 B t s s' ∧ s'.say = s.say.apply x.m ∧ s'.hs = s.hs) ∧ ActL W7 w.heap.size ⟨keysA x.m.ks, a6, q6, none, 0⟩ ∧ W7.heap[r]? = some (.cells #[.bool false, .bool false, .bool false, .bool false, .slice a6 x.m.ks.length q6, .int .i64 0, .slice none 0 0] 59 (0, 0))) := (by
          have st6 := HQ.out.1.on hb6
          have o7 : Only (· = r) w6 W7 := by rw [← hW7]; exact onlyR _ _ _
          refine ⟨⟨_, st6.box hwr (st6.is.noAct ⟨_, _, hz6⟩) hW7, HQ.out.2.1⟩, ⟨rowK_only (owns_le hr6 (Nat.le_trans HQ.out.1.only.size (Nat.le_refl _))) o7 ⟨_, _, hz6⟩ (by decide), World.ownsRow_nil _ _ _ _, Nat.zero_le _, HL.out⟩, by rw [← hW7]; exact setRow_heap _ _ _ _ _ _ hz6⟩); clear hr6 hz6)
      refine bodyPost_ret (results_cell_row rfl _ _ r _ _ _ _ rfl HZ.out.2.2 Try.underlying59 rfl Try.sizeAc) rfl ?_
      exact ⟨⟨keysA x.m.ks, a6, q6, none, 0⟩, rfl, HA.out.symm, HZ.out.2.1, HZ.out.1⟩
theorem apply_p (t B : Nat) (s : Td) (x : Hm) (w : World) (h : IsT w B t s) (hL : Lists w 0 x) (hm : Mk x.m.re x.m.im (part s.a) x.m.num) (hn : part s.b < x.m.num) (hk : x.m.kind = 3 ∨ x.m.kind = 4) :
    Calls Try.prog 48 #[.pointer (some ⟨t, 0, none⟩), .agg x.arr] w fun e w' => ∃ a : Am, e = .returned (.agg a.arr) ∧ a.c = actOf x.m ∧ ActL w' w.heap.size a ∧ ∃ s', ST w w' B t s s' ∧ s'.say = s.say.apply x.m ∧ s'.hs = s.hs := by
  have h0 := h.ask0
  by_cases ha : s.asked = 0
  · rcases hk with hk | hk
    · exact apply_03 t B s x w h hL hm hn ha hk
    · exact apply_04 t B s x w h hL hm hn ha hk
  · rcases hk with hk | hk
    · exact apply_13 t B s x w h hL hm hn (by omega) hk
    · exact apply_14 t B s x w h hL hm hn (by omega) hk
end
end Go.Proofs.Ytpmcecenhgppbaa
