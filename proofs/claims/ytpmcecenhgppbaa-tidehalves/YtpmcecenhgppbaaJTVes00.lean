/- Both tides, and the blocks that the law keeps beside them. -/
import Derived.Test.YtpmcecenhgppbaaJTAys39
import Derived.Test.YtpmcecenhgppbaaJTAys40
import Derived.Test.YtpmcecenhgppbaaJTAys41
import Derived.Laws.ComplexArith
namespace Go.Proofs.Ytpmcecenhgppbaa
section
open Go.RowKit Go.Shelf

/-- what a call on either tide leaves alone -/
structure Kf (F : Nat → Prop) (w w' : World) : Prop where
  size : w.heap.size ≤ w'.heap.size
  tag : ∀ k ty, Tag w k ty → 68 ≠ ty → 71 ≠ ty → 45 ≠ ty → 100 ≠ ty → w'.heap[k]? = w.heap[k]?
  mine : ∀ k, F k → k < w.heap.size → w'.heap[k]? = w.heap[k]?
theorem Kf.of {F : Nat → Prop} {w w' : World} (h : Below w.heap.size w w') : Kf F w w' := ⟨h.size, fun k _ ht _ _ _ _ => h.block k ht.lt, fun k _ hk => h.block k hk⟩
theorem Kf.trans {F : Nat → Prop} {a b c : World} (h : Kf F a b) (k : Kf F b c) : Kf F a c :=
  ⟨Nat.le_trans h.size k.size, fun q ty ht h1 h2 h3 h4 => (k.tag q ty (ht.moved (h.tag q ty ht h1 h2 h3 h4)) h1 h2 h3 h4).trans (h.tag q ty ht h1 h2 h3 h4), fun q hq hl => (k.mine q hq (Nat.lt_of_lt_of_le hl h.size)).trans (h.mine q hq hl)⟩
theorem Kf.less {F G : Nat → Prop} {w w' : World} (h : Kf F w w') (hg : ∀ k, G k → F k) : Kf G w w' := ⟨h.size, h.tag, fun k hk => h.mine k (hg k hk)⟩
theorem Kf.rowK {F : Nat → Prop} {w w' : World} (h : Kf F w w') {B : Nat} {v : Value} {l : List Ky} (k : RowK w B v l) : RowK w' B v l := owns_moved k fun q e => h.tag q _ (Tag.own k e) (by decide) (by decide) (by decide) (by decide)
theorem Kf.rowE {F : Nat → Prop} {w w' : World} (h : Kf F w w') {B : Nat} {v : Value} {l : List En} (k : Row7 w B v l) : Row7 w' B v l := owns_moved k fun q e => h.tag q _ (Tag.own k e) (by decide) (by decide) (by decide) (by decide)
theorem Kf.lists {F : Nat → Prop} {w w' : World} (h : Kf F w w') {B : Nat} {x : Hm} (k : Lists w B x) : Lists w' B x := ⟨h.rowE k.es, h.rowK k.ks, k.le, k.lk⟩
theorem Kf.acts {F : Nat → Prop} {w w' : World} (h : Kf F w w') {B : Nat} {v : Value} {l : List Am} (k : Acts w B v l) : Acts w' B v l :=
  ⟨owns_moved k.row fun q e => h.tag q _ (Tag.own k.row e) (by decide) (by decide) (by decide) (by decide), fun a ha => ⟨h.rowK (k.each a ha).ks, h.rowE (k.each a ha).es, (k.each a ha).le, (k.each a ha).lk⟩⟩
structure Pf (w0 w : World) (t u : Nat) (Sa Sb : Ts) (F : Nat → Prop) : Prop where
  ex : ∃ s d, IsT w w0.heap.size t s ∧ s.say = Sa ∧ IsD w w0.heap.size u d ∧ d.say = Sb ∧ (∀ k, s.blk t k → ¬ d.blk u k) ∧ ∀ k, F k → ¬ s.blk t k ∧ ¬ d.blk u k
  bel : Below w0.heap.size w0 w
  flt : ∀ k, F k → k < w.heap.size
theorem Pf.pr {w0 w : World} {t u : Nat} {Sa Sb : Ts} {F : Nat → Prop} (h : Pf w0 w t u Sa Sb F) : Pr w0 w t u Sa Sb := by
  obtain ⟨s, d, h1, h2, h3, h4, h5, -⟩ := h.ex
  exact ⟨⟨s, d, h1, h2, h3, h4, h5⟩, h.bel⟩
theorem Pr.pf {w0 w : World} {t u : Nat} {Sa Sb : Ts} (h : Pr w0 w t u Sa Sb) : Pf w0 w t u Sa Sb (fun _ => False) := by
  obtain ⟨s, d, h1, h2, h3, h4, h5⟩ := h.ex
  exact ⟨⟨s, d, h1, h2, h3, h4, h5, fun k hk => hk.elim⟩, h.bel, fun k hk => hk.elim⟩
theorem Pf.below {w0 w w' : World} {t u : Nat} {Sa Sb : Ts} {F : Nat → Prop} (h : Pf w0 w t u Sa Sb F) (hb : Below w.heap.size w w') : Pf w0 w' t u Sa Sb F := by
  obtain ⟨s, d, h1, h2, h3, h4, h5, h6⟩ := h.ex
  exact ⟨⟨s, d, h1.below hb, h2, h3.below hb, h4, h5, h6⟩, chainB h.bel hb, fun k hk => Nat.lt_of_lt_of_le (h.flt k hk) hb.size⟩
theorem Pf.less {w0 w : World} {t u : Nat} {Sa Sb : Ts} {F G : Nat → Prop} (h : Pf w0 w t u Sa Sb F) (hg : ∀ k, G k → F k) : Pf w0 w t u Sa Sb G := by
  obtain ⟨s, d, h1, h2, h3, h4, h5, h6⟩ := h.ex
  exact ⟨⟨s, d, h1, h2, h3, h4, h5, fun k hk => h6 k (hg k hk)⟩, h.bel, fun k hk => h.flt k (hg k hk)⟩
/-- what has been made since may be the law's -/
theorem Pf.add {w0 w w' : World} {t u : Nat} {Sa Sb : Ts} {F : Nat → Prop} (h : Pf w0 w t u Sa Sb F) (hb : Below w.heap.size w w') : Pf w0 w' t u Sa Sb (fun k => F k ∨ (w.heap.size ≤ k ∧ k < w'.heap.size)) := by
  obtain ⟨s, d, h1, h2, h3, h4, h5, h6⟩ := h.ex
  refine ⟨⟨s, d, h1.below hb, h2, h3.below hb, h4, h5, fun k hk => ?_⟩, chainB h.bel hb, fun k hk => ?_⟩
  · rcases hk with hk | hk
    · exact h6 k hk
    · exact ⟨fun e => by have := (h1.lt e).2; omega, fun e => by have := (h3.lt e).2; omega⟩
  · rcases hk with hk | hk
    · exact Nat.lt_of_lt_of_le (h.flt k hk) hb.size
    · exact hk.2
/-- a store into what is the law's -/
theorem Pf.mine {w0 w w' : World} {t u : Nat} {Sa Sb : Ts} {F G : Nat → Prop} (h : Pf w0 w t u Sa Sb F) (ho : Only G w w') (hG : ∀ k, G k → F k ∧ w0.heap.size ≤ k) : Pf w0 w' t u Sa Sb F := by
  obtain ⟨s, d, h1, h2, h3, h4, h5, h6⟩ := h.ex
  exact ⟨⟨s, d, h1.moved fun k hk => ho.block k (h1.lt hk).2 fun g => (h6 k (hG k g).1).1 hk, h2, h3.moved fun k hk => ho.block k (h3.lt hk).2 fun g => (h6 k (hG k g).1).2 hk, h4, h5, h6⟩, ho.below h.bel h.bel.size fun k hk => (hG k hk).2, fun k hk => Nat.lt_of_lt_of_le (h.flt k hk) ho.size⟩
theorem Pf.p {w0 w w' : World} {t u : Nat} {Sa Sb S' : Ts} {F : Nat → Prop} (h : Pf w0 w t u Sa Sb F) {s s' : Td} {d : Dt} (h1 : IsT w w0.heap.size t s) (h3 : IsD w w0.heap.size u d) (h4 : d.say = Sb) (h5 : ∀ k, s.blk t k → ¬ d.blk u k) (h6 : ∀ k, F k → ¬ s.blk t k ∧ ¬ d.blk u k) (k : ST w w' w0.heap.size t s s') (he : s'.say = S') : Pf w0 w' t u S' Sb F ∧ Kf F w w' := by
  refine ⟨⟨⟨s', d, k.is, he, h3.moved fun q hq => k.only.block q (h3.lt hq).2 fun e => h5 q (.inl e) hq, h4, fun q hq hd => ?_, fun q hq => ⟨fun e => ?_, (h6 q hq).2⟩⟩, k.only.below h.bel h.bel.size fun q hq => (h1.wlt hq).1, fun q hq => Nat.lt_of_lt_of_le (h.flt q hq) k.only.size⟩, ⟨k.only.size, fun q ty ht e1 _ e2 _ => k.only.block q ht.lt fun hw => h1.wno hw e1 e2 ht, fun q hq hl => k.only.block q hl fun hw => (h6 q hq).1 (.inl hw)⟩⟩
  · rcases k.nblk q hq with e | e
    · exact h5 q e hd
    · have := (h3.lt hd).2; omega
  · rcases k.nblk q e with e | e
    · exact (h6 q hq).1 e
    · have := h.flt q hq; omega
theorem Pf.d {w0 w w' : World} {t u : Nat} {Sa Sb S' : Ts} {F : Nat → Prop} (h : Pf w0 w t u Sa Sb F) {s : Td} {d d' : Dt} (h1 : IsT w w0.heap.size t s) (h2 : s.say = Sa) (h3 : IsD w w0.heap.size u d) (h5 : ∀ k, s.blk t k → ¬ d.blk u k) (h6 : ∀ k, F k → ¬ s.blk t k ∧ ¬ d.blk u k) (k : SD w w' w0.heap.size u d d') (he : d'.say = S') : Pf w0 w' t u Sa S' F ∧ Kf F w w' := by
  refine ⟨⟨⟨s, d', h1.moved fun q hq => k.only.block q (h1.lt hq).2 fun e => h5 q hq (.inl e), h2, k.is, he, fun q hq hd => ?_, fun q hq => ⟨(h6 q hq).1, fun e => ?_⟩⟩, k.only.below h.bel h.bel.size fun q hq => (h3.wlt hq).1, fun q hq => Nat.lt_of_lt_of_le (h.flt q hq) k.only.size⟩, ⟨k.only.size, fun q ty ht _ e1 e2 e3 => k.only.block q ht.lt fun hw => h3.wno hw e1 e2 e3 ht, fun q hq hl => k.only.block q hl fun hw => (h6 q hq).2 (.inl hw)⟩⟩
  · rcases k.nblk q hd with e | e
    · exact h5 q hq e
    · have := (h1.lt hq).2; omega
  · rcases k.nblk q e with e | e
    · exact (h6 q hq).2 e
    · have := h.flt q hq; omega
def PfP (w0 w : World) (t u : Nat) (Sa Sb : Ts) (F : Nat → Prop) (m : Pm) (e : Ending) (w' : World) : Prop := ∃ v l, e = .returned v ∧ Acts w' w.heap.size v l ∧ l.map Am.c = (Sa.take m).2 ∧ Pf w0 w' t u (Sa.take m).1 Sb F ∧ Kf F w w'
theorem Pf.take_p {w0 w : World} {t u : Nat} {Sa Sb : Ts} {F : Nat → Prop} (h : Pf w0 w t u Sa Sb F) (x : Hm) (hL : Lists w 0 x) : Calls Try.prog 12 #[.pointer (some ⟨t, 0, none⟩), .agg x.arr] w fun e w' => PfP w0 w t u Sa Sb F x.m e w' := by
  obtain ⟨s, d, h1, h2, h3, h4, h5, h6⟩ := h.ex
  refine (Go.Proofs.Ytpmcecenhgppbaa.take_p t w0.heap.size s x w h1 h.bel.size hL).mono ?_
  rintro e w' ⟨v, l, rfl, ha, hc, s', hst, hsay⟩
  rw [h2] at hc hsay
  obtain ⟨a, b⟩ := h.p h1 h3 h4 h5 h6 hst hsay
  exact ⟨v, l, rfl, ha, hc, a, b⟩
def PfD (w0 w : World) (t u : Nat) (Sa Sb : Ts) (F : Nat → Prop) (m : Pm) (e : Ending) (w' : World) : Prop := ∃ v l, e = .returned v ∧ Acts w' w.heap.size v l ∧ l.map Am.c = (Sb.take m).2 ∧ Pf w0 w' t u Sa (Sb.take m).1 F ∧ Kf F w w'
theorem Pf.take_d {w0 w : World} {t u : Nat} {Sa Sb : Ts} {F : Nat → Prop} (h : Pf w0 w t u Sa Sb F) (x : Hm) (hL : Lists w 0 x) (hd : Sb.due = none) (hf : (Sb.fr.length + Sb.held.length + 1) * 56 ≤ 140737488351232) : Calls Try.prog 14 #[.pointer (some ⟨u, 0, none⟩), .agg x.arr] w fun e w' => PfD w0 w t u Sa Sb F x.m e w' := by
  obtain ⟨s, d, h1, h2, h3, h4, h5, h6⟩ := h.ex
  subst h4
  rw [d.len.1, d.len.2] at hf
  refine (Go.Proofs.Ytpmcecenhgppbaa.take_d u w0.heap.size d x w h3 hL hd hf).mono ?_
  rintro e w' ⟨v, l, rfl, ha, hc, s', hst, hsay⟩
  obtain ⟨a, b⟩ := h.d h1 h2 h3 h5 h6 hst hsay
  exact ⟨v, l, rfl, ha, hc, a, b⟩
theorem Pf.ask_p {w0 w : World} {t u : Nat} {Sa Sb : Ts} {F : Nat → Prop} (h : Pf w0 w t u Sa Sb F) (q : Int) : Calls Try.prog 9 #[.pointer (some ⟨t, 0, none⟩), .int .i64 q] w fun e w' => e = .returned (.tuple #[]) ∧ Pf w0 w' t u (Sa.ask q) Sb F ∧ Kf F w w' := by
  obtain ⟨s, d, h1, h2, h3, h4, h5, h6⟩ := h.ex
  refine (Go.Proofs.Ytpmcecenhgppbaa.ask_p t w0.heap.size s q w h1).mono ?_
  rintro e w' ⟨rfl, s', hst, hsay⟩
  rw [h2] at hsay
  exact ⟨rfl, h.p h1 h3 h4 h5 h6 hst hsay⟩
theorem Pf.ask_d {w0 w : World} {t u : Nat} {Sa Sb : Ts} {F : Nat → Prop} (h : Pf w0 w t u Sa Sb F) (q : Int) : Calls Try.prog 10 #[.pointer (some ⟨u, 0, none⟩), .int .i64 q] w fun e w' => e = .returned (.tuple #[]) ∧ Pf w0 w' t u Sa (Sb.ask q) F ∧ Kf F w w' := by
  obtain ⟨s, d, h1, h2, h3, h4, h5, h6⟩ := h.ex
  refine (Go.Proofs.Ytpmcecenhgppbaa.ask_d u w0.heap.size d q w h3).mono ?_
  rintro e w' ⟨rfl, s', hst, hsay, -⟩
  rw [h4] at hsay
  exact ⟨rfl, h.d h1 h2 h3 h5 h6 hst hsay⟩
end
section
open Go.RowKit Go.Shelf
attribute [local go_sem ↓ high] loadMsg storeMsg buildMsg storeAct loadAct buildAct loadMm storeMm loadTo storeTo
attribute [local go_sem high] run_store_complex eqC

/-- a number halved, whatever its bits -/
theorem quo_two (x : Nat) (w : World) : ∃ r W, (binOp .quo 49 (.float .f64 x) (.float .f64 4611686018427387904)).run Try.prog w = .ok (.float .f64 r) W ∧ Below w.heap.size w W := by
  have e : binOp .quo 49 (.float .f64 x) (.float .f64 4611686018427387904) = Op.floatArith .quo .f64 x 4611686018427387904 := rfl
  cases h : floatBits .quo .f64 x 4611686018427387904 with
  | some r => exact ⟨r, w, by rw [e, run_floatArith _ h], Below.refl _ _⟩
  | none =>
    have h' : FloatKind.f64.format.div x 4611686018427387904 = none := h
    have hf : (Question.nanBits .f64 x 4611686018427387904).forced = false := rfl
    refine ⟨(Question.nanBits .f64 x 4611686018427387904).cut (w.tape w.drawn (.nanBits .f64 x 4611686018427387904)), w.drew, ?_, (Below.refl _ _).drew⟩
    rw [e]
    simp [Op.floatArith, h', hf]
def Hm.mark (z : Hm) (a b : Nat) : Hm := { z with m := { z.m with re := a, im := b } }
/-- the message with another mark, laid over its box -/
theorem halved {w0 w3 W5 : World} {t u gx : Nat} {S : Ts} {z : Hm} (h : Pr w0 w3 t u S S) (hL : Lists w3 0 z) (hb : Below w3.heap.size w3 W5) (hx : W5.heap[gx]? = some (.cells z.arr 45 (0, 0))) (hg : w3.heap.size = gx) (a b : Nat) {V : World} (hV : W5.setCell ⟨gx, 4, none⟩ (.complex .f64 a b) = V) :
    Pf w0 V t u S S (· = gx) ∧ Lists V 0 (z.mark a b) ∧ V.heap[gx]? = some (.cells (z.mark a b).arr 45 (0, 0)) := by
  have hlt := (Array.getElem?_eq_some_iff.1 hx).1
  have ho : Only (· = gx) W5 V := by rw [← hV]; exact only1 W5 gx 4 _
  have tg : Tag W5 gx 45 := ⟨_, _, hx⟩
  have l5 : Lists V 0 z := (hL.below hb).only ho fun q e => by rw [show q = gx from e]; exact ⟨tg.two (by decide), tg.two (by decide)⟩
  refine ⟨((h.pf.add hb).mine ho fun k e => ⟨.inr ⟨by rw [show k = gx from e, hg]; exact Nat.le_refl _, by rw [show k = gx from e]; exact hlt⟩, by rw [show k = gx from e, ← hg]; exact h.bel.size⟩).less fun k e => .inr ⟨by rw [show k = gx from e, hg]; exact Nat.le_refl _, by rw [show k = gx from e]; exact hlt⟩, ⟨l5.es, l5.ks, l5.le, l5.lk⟩, ?_⟩
  rw [← hV]
  exact heap_set hx 4 _
set_option maxHeartbeats 16000000 in
set_option maxRecDepth 100000 in
theorem walk_TideHalves (a1 : Option Addr) (cap1 : Nat) (ops1 : List TOp) (m : Mm) (w : World) (row1 : RowT w a1 ops1) (hlen1 : ops1.length ≤ 700000000000) (hm : ArgM w m) : Calls Try.prog 4 #[.slice a1 ops1.length cap1, .agg m.arr] w fun e w' => e = .returned (.bool true) ∧ Below w.heap.size w w' := by
  obtain ⟨W0, hW0⟩ : ∃ W0, w.alloc (.cells m.arr 36) = W0 := ⟨_, rfl⟩
  have hb0 := boxB hW0
  have HN : Hid (Calls Try.prog 6 #[.int .i64 1, .int .i64 1, .int .i64 4] W0 fun e w' => e = .returned (.tuple #[.pointer (some ⟨W0.heap.size, 0, none⟩), .int .i64 0]) ∧ (∃ s, IsT w' W0.heap.size W0.heap.size s ∧ s.say = Ts.new 1 1 4 ∧ ∀ k, s.blk W0.heap.size k → W0.heap.size ≤ k) ∧ Below W0.heap.size W0 w') := new_yes 1 1 4 W0 (by decide)
  have HD : Hid (∀ W, Calls Try.prog 7 #[.int .i64 1, .int .i64 1, .int .i64 4] W fun e w' => e = .returned (.tuple #[.pointer (some ⟨W.heap.size, 0, none⟩), .int .i64 0]) ∧ (∃ s, IsD w' W.heap.size W.heap.size s ∧ s.say = Ts.new 1 1 4) ∧ Below W.heap.size W w') := fun W => (new_yesD 1 1 4 W (by decide)).mono fun e w' hq => ⟨hq.1, by obtain ⟨s, a, b, -⟩ := hq.2.1; exact ⟨s, a, b⟩, hq.2.2⟩
  have HAw : Hid (∀ W, Calls Try.prog 8 #[] W fun e w' => e = .returned (.bool true) ∧ Below W.heap.size W w') := awake_p
  have HRow1 : Hid (RowT W0 a1 ops1) := row1.below hb0.2
  have HMm : Hid (ArgM W0 m) := hm.below hb0.2
  have HB0 : Hid (Below w.heap.size w W0 ∧ W0.heap[w.heap.size]? = some (.cells m.arr 36 (0, 0))) := ⟨hb0.2, hb0.1⟩
  obtain ⟨n1, hn1⟩ : ∃ n1, ops1.length = n1 := ⟨_, rfl⟩
  have HN1 : Hid (ops1.length = n1) := hn1
  rw [hn1] at hlen1
  rw [hn1]
  obtain ⟨g0, hg0⟩ : ∃ g, w.heap.size = g := ⟨_, rfl⟩
  have HG0 : Hid (w.heap.size = g0) := hg0
  obtain ⟨t, ht⟩ : ∃ t, W0.heap.size = t := ⟨_, rfl⟩
  have HT : Hid (W0.heap.size = t) := ht
  obtain ⟨X, hX⟩ : ∃ X, m.arr = X := ⟨_, rfl⟩
  rw [hX] at hW0
  rw [hX]
  have HX : Hid (m.arr = X) := hX
  rw [ht] at HN
  have HN2 : Hid (Calls Try.prog 6 #[.int .i64 1, .int .i64 1, .int .i64 4] W0 fun e w' => e = .returned (.tuple #[.pointer (some ⟨t, 0, none⟩), .int .i64 0]) ∧ (∃ s, IsT w' t t s ∧ s.say = Ts.new 1 1 4 ∧ ∀ k, s.blk t k → t ≤ k) ∧ Below t W0 w') := HN
  clear hn1 row1 hm hb0 ht HN hX
  go_enter Try.func4, Try.ntmps4
  go_wp2_with (first
    | (go_at_call 6; refine HN2.out.mono ?_; rintro q w1 ⟨rfl, ⟨s1, hs1, hy1, -⟩, hb1⟩; have R1 : Hid (IsT w1 t t s1 ∧ s1.say = Ts.new 1 1 4 ∧ Below t W0 w1) := ⟨hs1, hy1, hb1⟩; clear hs1 hy1 hb1)
    | (go_at_call 7; refine (HD.out _).mono ?_; rintro q w2 ⟨rfl, ⟨d1, hd1, hz1⟩, hb2⟩; obtain ⟨u, hu⟩ : ∃ u, w1.heap.size = u := ⟨_, rfl⟩; have R2 : Hid (Pr W0 w2 t u (Ts.new 1 1 4) (Ts.new 1 1 4)) := (by have := pr_new (w0 := W0) (by rw [HT.out]; exact R1.out.1) R1.out.2.1 (by rw [HT.out]; exact R1.out.2.2) hd1 hz1 hb2; rw [hu, HT.out] at this; exact this); rw [hu]; clear hd1 hz1 hb2 hu))
  clear HD HN2 R1 hW0
  go_loopw [9] (fun s9 wr => ∃ (i : Nat) (S : Ts), i ≤ n1 ∧ s9 = .int .i64 i ∧ Hid (Pr W0 wr t u S S ∧ S.due = none ∧ S.fr.length + S.held.length ≤ i)) (fun s9 _ => n1 - (intOf s9).toNat)
  case atStart => exact ⟨0, _, Nat.zero_le _, rfl, R2.out, new_due _ _ _, Nat.le_refl _⟩
  case round =>
    obtain ⟨i, S, hil, rfl, HR⟩ := hrel
    have hbd : S.fr.length + S.held.length + 1 ≤ 700000000001 := Nat.succ_le_succ (Nat.le_trans HR.out.2.2 (Nat.le_trans hil hlen1))
    have HBd : Hid ((S.fr.length + S.held.length + 1) * 56 ≤ 140737488351232) := Nat.le_trans (Nat.mul_le_mul_right 56 hbd) (by decide)
    clear hbd
    by_cases hlt : i < n1
    · have hlz : (i : Int) < (n1 : Int) := by omega
      obtain ⟨bI, offI, o, rfl, hx, hcx, hax, -⟩ := (HRow1.out.below HR.out.1.bel).get (i := i) (by rw [HN1.out]; exact hlt)
      obtain ⟨Z, hZ⟩ : ∃ Z, o.m.arr = Z := ⟨_, rfl⟩
      have HGet : Hid (∀ V, Below W0.heap.size W0 V → (mmLd (.pointer (some ⟨bI, offI + i * 19 + 2, none⟩))).run Try.prog V = .ok (.agg Z) V ∧ Calls Try.prog 13 #[.agg Z] V fun e w' => MsgR o.m V e w') := fun V hV => by
        obtain ⟨b2, off2, o2, e2, ho2, hc2, ha2, -⟩ := (HRow1.out.below hV).get (i := i) (by rw [HN1.out]; exact hlt)
        rw [hx] at ho2
        cases ho2
        cases e2
        rw [← hZ]
        exact ⟨RowT.msg hc2, msg_p o.m V ha2⟩
      have ml := (HGet.out wr HR.out.1.bel).1
      clear hx hcx hax hZ
      go_wp2_with (first
        | (go_at_call 14; refine (P5.out.1.take_d z2 P5.out.2.1 HR.out.2.1 HBd.out).mono ?_; rintro q w6 ⟨v6, l6, rfl, -, -, hp6, -⟩; rw [P5.out.2.2] at hp6; have P6 : Hid (Pr W0 w6 t u (S.take z.m).1 (S.take z.m).1) := hp6; clear hp6)
        | (have _q := P4; clear _q; go_at_call 13; refine (HGet.out _ P4.out.bel).2.mono ?_; rintro q w5 ⟨z2, rfl, hzm2, hLz2, hb5⟩; have P5 : Hid (Pr W0 w5 t u (S.take z.m).1 S ∧ Lists w5 0 z2 ∧ z2.m = z.m) := ⟨P4.out.below hb5, hLz2.down (Nat.zero_le _), hzm2.trans P3.out.2.2.symm⟩; clear hzm2 hLz2 hb5)
        | (go_at_call 12; refine (P3.out.1.take_p z P3.out.2.1).mono ?_; rintro q w4 ⟨v4, l4, rfl, -, -, hp4, -⟩; have P4 : Hid (Pr W0 w4 t u (S.take z.m).1 S) := hp4; have ml4 := (HGet.out w4 hp4.bel).1; clear hp4)
        | (go_at_call 13; refine (HGet.out _ HR.out.1.bel).2.mono ?_; rintro q w3 ⟨z, rfl, hzm, hLz, hb3⟩; have P3 : Hid (Pr W0 w3 t u S S ∧ Lists w3 0 z ∧ z.m = o.m.pm) := ⟨HR.out.1.below hb3, hLz.down (Nat.zero_le _), hzm⟩; clear hzm hLz hb3))
      exact ⟨⟨i + 1, _, by omega, by simp, P6.out, take_due HR.out.2.1, Nat.le_trans (take_pot S z.m) (Nat.succ_le_succ HR.out.2.2)⟩, by simp [intOf]; omega⟩
    · have hlz : ¬ (i : Int) < (n1 : Int) := by omega
      have hbx : wr.heap[g0]? = some (.cells m.arr 36 (0, 0)) := by rw [← HG0.out]; exact hkeep HB0.out.2 HR.out.1.bel
      have ml := mmLd_of hbx m.size
      have HMs : Hid (Calls Try.prog 13 #[.agg X] wr fun e w' => MsgR m wr e w') := by
        rw [← HX.out]
        exact msg_p m wr (HMm.out.below HR.out.1.bel)
      rw [HX.out] at ml
      have HBx : Hid (wr.heap[g0]? = some (.cells m.arr 36 (0, 0))) := hbx
      clear hbx
      go_upto_region 12 with (go_at_call 13; refine HMs.out.mono ?_; rintro q w3 ⟨z, rfl, hzm, hLz, hb3⟩; obtain ⟨V2, ms, hx2, hb2⟩ := msg_box w3 z.arr z.size z.one; obtain ⟨gx, hgx⟩ : ∃ g, w3.heap.size = g := ⟨_, rfl⟩; rw [hgx] at ms hx2; have b2 := hkeep (hkeep HBx.out hb3) hb2; have e4 : V2.cell? ⟨g0, 4, none⟩ = some (.int .i64 m.ep) := cell_of b2 4; obtain ⟨r1, W4, hq1, hbq1⟩ := quo_two (floatOfInt .f64 m.ep) V2; have e5 : W4.cell? ⟨g0, 5, none⟩ = some (.int .i64 m.nb) := cell_of (hkeep b2 hbq1) 5; obtain ⟨r2, W5, hq2, hbq2⟩ := quo_two (floatOfInt .f64 m.nb) W4; have hx5 := hkeep (hkeep hx2 hbq1) hbq2; have x4 : W5.cell? ⟨gx, 4, none⟩ = some (.complex .f64 z.m.re z.m.im) := cell_of hx5 4; have xf := free_of hx5; obtain ⟨V3, hV3⟩ : ∃ V3, W5.setCell ⟨gx, 4, none⟩ (.complex .f64 r1 r2) = V3 := ⟨_, rfl⟩; have PX : Hid (Pf W0 V3 t u S S (· = gx) ∧ Lists V3 0 (z.mark r1 r2) ∧ V3.heap[gx]? = some (.cells (z.mark r1 r2).arr 45 (0, 0))) := halved (HR.out.1.below hb3) (hLz.down (Nat.zero_le _)) (chainB hb2 (chainB hbq1 hbq2)) hx5 hgx r1 r2 hV3; obtain ⟨Z, hZ⟩ : ∃ Z, z.arr = Z := ⟨_, rfl⟩; rw [hZ] at ms; rw [hZ]; clear hzm hLz hb3 hb2 hx2 b2 hx5 hbq1 hbq2 hZ)
      obtain ⟨y, hy⟩ : ∃ y, z.mark r1 r2 = y := ⟨_, rfl⟩
      rw [hy] at PX
      clear ml ms hq1 hq2 e4 e5 x4 xf hV3 hy
      obtain ⟨Y, hY⟩ : ∃ Y, y.arr = Y := ⟨_, rfl⟩
      have HLd : Hid (∀ V, V.heap[gx]? = some (.cells y.arr 45 (0, 0)) → (msgLd (.pointer (some ⟨gx, 0, none⟩))).run Try.prog V = .ok (.agg Y) V) := fun V hV => by
        rw [← hY]
        exact msgLd_of hV y.size
      have HTp : Hid (∀ V, Pf W0 V t u S S (· = gx) → Lists V 0 y → Calls Try.prog 12 #[.pointer (some ⟨t, 0, none⟩), .agg Y] V fun e w' => PfP W0 V t u S S (· = gx) y.m e w') := fun V h1 h2 => by
        rw [← hY]; exact h1.take_p y h2
      have HTd : Hid (∀ V, Pf W0 V t u (S.take y.m).1 S (· = gx) → Lists V 0 y → Calls Try.prog 14 #[.pointer (some ⟨u, 0, none⟩), .agg Y] V fun e w' => PfD W0 V t u (S.take y.m).1 S (· = gx) y.m e w') := fun V h1 h2 => by
        rw [← hY]; exact h1.take_d y h2 HR.out.2.1 HBd.out
      have kS := HLd.out V3.drew PX.out.2.2
      clear hY
      go_region_held3 (fun V => (msgLd (.pointer (some ⟨gx, 0, none⟩))).run Try.prog V = .ok (.agg Y) V)
        (with_reducible first | exact k10 | exact k9 | exact k8 | exact k7 | exact k6 | exact kS)
        (first
          | (go_at_call 8; refine (HAw.out _).mono ?_; rintro q w10 ⟨rfl, hb10⟩; have P10 : Hid (Below W0.heap.size W0 w10) := chainB P9.out.1.bel hb10; have k10 := HLd.out w10 (hkeep P9.out.2 hb10); clear hb10)
          | (go_at_call 15; refine (like_yes P8.out.1.pr).mono ?_; rintro q w9 ⟨rfl, hb9⟩; have P9 : Hid (Pf W0 w9 t u (S.take y.m).1 (S.take y.m).1 (· = gx) ∧ w9.heap[gx]? = some (.cells y.arr 45 (0, 0))) := ⟨P8.out.1.below hb9, hkeep P8.out.2 hb9⟩; have k9 := HLd.out w9 P9.out.2; clear hb9)
          | (go_at_call 11; refine HSA.out.mono ?_; rintro q w8 ⟨rfl, hb8⟩; have P8 : Hid (Pf W0 w8 t u (S.take y.m).1 (S.take y.m).1 (· = gx) ∧ w8.heap[gx]? = some (.cells y.arr 45 (0, 0))) := ⟨P7.out.1.below hb8, hkeep P7.out.2 hb8⟩; have k8 := HLd.out w8 P8.out.2; clear hb8)
          | (go_at_call 14; refine (HTd.out _ P6.out.1 P6.out.2.1).mono ?_; rintro q w7 ⟨v7, l7, rfl, ha7, hc7, hp7, hk7⟩; have h7 := (hk7.mine gx rfl (Array.getElem?_eq_some_iff.1 P6.out.2.2.1).1).trans P6.out.2.2.1; have P7 : Hid (Pf W0 w7 t u (S.take y.m).1 (S.take y.m).1 (· = gx) ∧ w7.heap[gx]? = some (.cells y.arr 45 (0, 0))) := ⟨hp7, h7⟩; have HSA : Hid (Calls Try.prog 11 #[v6, v7] w7 fun e w' => e = .returned (.bool true) ∧ Below w7.heap.size w7 w') := sameActs_yes _ _ _ _ w7 _ _ (hk7.acts P6.out.2.2.2.1) ha7 (P6.out.2.2.2.2.trans hc7.symm) (by have h1 := take_len S y.m; have h2 := HR.out.1.few; have h3 := congrArg List.length P6.out.2.2.2.2; rw [List.length_map] at h3; omega); have k7 := HLd.out w7 h7; clear ha7 hc7 hp7 hk7 h7)
          | (go_at_call 12; refine (HTp.out _ (PX.out.1.below (Below.refl _ _).drew) (PX.out.2.1.below (Below.refl _ _).drew)).mono ?_; rintro q w6 ⟨v6, l6, rfl, ha6, hc6, hp6, hk6⟩; have h6 : w6.heap[gx]? = some (.cells y.arr 45 (0, 0)) := (hk6.mine gx rfl (Array.getElem?_eq_some_iff.1 PX.out.2.2).1).trans PX.out.2.2; have P6 : Hid (Pf W0 w6 t u (S.take y.m).1 S (· = gx) ∧ Lists w6 0 y ∧ w6.heap[gx]? = some (.cells y.arr 45 (0, 0)) ∧ Acts w6 V3.drew.heap.size v6 l6 ∧ l6.map Am.c = (S.take y.m).2) := ⟨hp6, hk6.lists (PX.out.2.1.below (Below.refl _ _).drew), h6, ha6, hc6⟩; have k6 := HLd.out w6 h6; clear ha6 hc6 hp6 hk6 h6))
      clear kS k6 k7 k8 k9 k10
      go_wp2
      go_ret
      first | exact ⟨rfl, chainB HB0.out.1 P10.out⟩ | exact ⟨rfl, by rw [← HG0.out]; exact chainB HB0.out.1 P10.out⟩
end
end Go.Proofs.Ytpmcecenhgppbaa
