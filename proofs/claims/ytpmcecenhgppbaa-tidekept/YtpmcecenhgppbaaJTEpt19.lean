/- A law's tide, with the blocks that the law keeps beside it. -/
import Derived.Test.YtpmcecenhgppbaaJTEpt18
namespace Go.Proofs.Ytpmcecenhgppbaa
section
open Go.RowKit Go.Shelf

theorem IsT.down {w : World} {B B' t : Nat} {s : Td} (h : IsT w B t s) (hb : B' ≤ B) : IsT w B' t s := by
  refine ⟨h.head, Nat.le_trans hb h.bt, h.mkk, owns_le h.held hb, fun m hm => ⟨(h.each m hm).1.down hb, (h.each m hm).2⟩, ?_, h.isf, h.frn, h.ask0, h.lh, h.l8⟩
  have := h.map
  cases hk : s.kv with
  | none => rw [hk] at this; exact this
  | some g => rw [hk] at this; exact ⟨this.1, Nat.le_trans hb this.2⟩
/-- what a call on a tide leaves alone -/
structure Kt (F : Nat → Prop) (w w' : World) : Prop where
  size : w.heap.size ≤ w'.heap.size
  tag : ∀ k ty, Tag w k ty → 68 ≠ ty → 45 ≠ ty → w'.heap[k]? = w.heap[k]?
  mine : ∀ k, F k → k < w.heap.size → w'.heap[k]? = w.heap[k]?
theorem Kt.of {F : Nat → Prop} {w w' : World} (h : Below w.heap.size w w') : Kt F w w' := ⟨h.size, fun k _ ht _ _ => h.block k ht.lt, fun k _ hk => h.block k hk⟩
theorem Kt.trans {F : Nat → Prop} {a b c : World} (h : Kt F a b) (k : Kt F b c) : Kt F a c :=
  ⟨Nat.le_trans h.size k.size, fun q ty ht h1 h2 => (k.tag q ty (ht.moved (h.tag q ty ht h1 h2)) h1 h2).trans (h.tag q ty ht h1 h2), fun q hq hl => (k.mine q hq (Nat.lt_of_lt_of_le hl h.size)).trans (h.mine q hq hl)⟩
theorem Kt.less {F G : Nat → Prop} {w w' : World} (h : Kt F w w') (hg : ∀ k, G k → F k) : Kt G w w' := ⟨h.size, h.tag, fun k hk => h.mine k (hg k hk)⟩
structure Lt (w0 w : World) (t : Nat) (S : Ts) (F : Nat → Prop) : Prop where
  ex : ∃ s, IsT w w0.heap.size t s ∧ s.say = S ∧ ∀ k, F k → ¬ s.blk t k
  bel : Below w0.heap.size w0 w
  flt : ∀ k, F k → k < w.heap.size
theorem Lt.below {w0 w w' : World} {t : Nat} {S : Ts} {F : Nat → Prop} (h : Lt w0 w t S F) (hb : Below w.heap.size w w') : Lt w0 w' t S F := by
  obtain ⟨s, h1, h2, h3⟩ := h.ex
  exact ⟨⟨s, h1.below hb, h2, h3⟩, chainB h.bel hb, fun k hk => Nat.lt_of_lt_of_le (h.flt k hk) hb.size⟩
/-- what has been made since may be the law's -/
theorem Lt.add {w0 w w' : World} {t : Nat} {S : Ts} {F : Nat → Prop} (h : Lt w0 w t S F) (hb : Below w.heap.size w w') : Lt w0 w' t S (fun k => F k ∨ (w.heap.size ≤ k ∧ k < w'.heap.size)) := by
  obtain ⟨s, h1, h2, h3⟩ := h.ex
  refine ⟨⟨s, h1.below hb, h2, fun k hk hb' => ?_⟩, chainB h.bel hb, fun k hk => ?_⟩
  · rcases hk with hk | hk
    · exact h3 k hk hb'
    · have := (h1.lt hb').2; omega
  · rcases hk with hk | hk
    · exact Nat.lt_of_lt_of_le (h.flt k hk) hb.size
    · exact hk.2
theorem Lt.less {w0 w : World} {t : Nat} {S : Ts} {F G : Nat → Prop} (h : Lt w0 w t S F) (hg : ∀ k, G k → F k) : Lt w0 w t S G := by
  obtain ⟨s, h1, h2, h3⟩ := h.ex
  exact ⟨⟨s, h1, h2, fun k hk => h3 k (hg k hk)⟩, h.bel, fun k hk => h.flt k (hg k hk)⟩
/-- a store into what is the law's -/
theorem Lt.mine {w0 w w' : World} {t : Nat} {S : Ts} {F G : Nat → Prop} (h : Lt w0 w t S F) (ho : Only G w w') (hG : ∀ k, G k → F k ∧ w0.heap.size ≤ k) : Lt w0 w' t S F := by
  obtain ⟨s, h1, h2, h3⟩ := h.ex
  exact ⟨⟨s, h1.moved fun k hk => ho.block k (h1.lt hk).2 fun g => h3 k (hG k g).1 hk, h2, h3⟩, ho.below h.bel h.bel.size fun k hk => (hG k hk).2, fun k hk => Nat.lt_of_lt_of_le (h.flt k hk) ho.size⟩
theorem ST.lt {w0 w w' : World} {t : Nat} {S S' : Ts} {F : Nat → Prop} (h : Lt w0 w t S F) {s s' : Td} (hs : IsT w w0.heap.size t s) (hF : ∀ k, F k → ¬ s.blk t k) (k : ST w w' w0.heap.size t s s') (he : s'.say = S') : Lt w0 w' t S' F ∧ Kt F w w' := by
  refine ⟨⟨⟨s', k.is, he, fun q hq hb => ?_⟩, k.only.below h.bel h.bel.size fun q hq => (hs.wlt hq).1, fun q hq => Nat.lt_of_lt_of_le (h.flt q hq) k.only.size⟩, ⟨k.only.size, fun q ty ht h1 h2 => k.only.block q ht.lt fun hw => hs.wno hw h1 h2 ht, fun q hq hl => k.only.block q hl fun hw => hF q hq (.inl hw)⟩⟩
  rcases k.nblk q hb with e | e
  · exact hF q hq e
  · have := h.flt q hq; omega
def TkL (w0 w : World) (t : Nat) (S : Ts) (F : Nat → Prop) (m : Pm) (e : Ending) (w' : World) : Prop := ∃ v l, e = .returned v ∧ Acts w' w.heap.size v l ∧ l.map Am.c = (S.take m).2 ∧ Lt w0 w' t (S.take m).1 F ∧ Kt F w w'
theorem lt_take {w0 w : World} {t : Nat} {S : Ts} {F : Nat → Prop} (h : Lt w0 w t S F) (x : Hm) (hL : Lists w 0 x) : Calls Try.prog 12 #[.pointer (some ⟨t, 0, none⟩), .agg x.arr] w fun e w' => TkL w0 w t S F x.m e w' := by
  obtain ⟨s, h1, h2, h3⟩ := h.ex
  refine (take_p t w0.heap.size s x w h1 h.bel.size hL).mono ?_
  rintro e w' ⟨v, l, rfl, ha, hc, s', hst, hsay, -⟩
  rw [h2] at hc hsay
  obtain ⟨a, b⟩ := ST.lt h h1 h3 hst hsay
  exact ⟨v, l, rfl, ha, hc, a, b⟩
theorem lt_ask {w0 w : World} {t : Nat} {S : Ts} {F : Nat → Prop} (h : Lt w0 w t S F) (q : Int) : Calls Try.prog 9 #[.pointer (some ⟨t, 0, none⟩), .int .i64 q] w fun e w' => e = .returned (.tuple #[]) ∧ Lt w0 w' t (S.ask q) F ∧ Kt F w w' := by
  obtain ⟨s, h1, h2, h3⟩ := h.ex
  refine (ask_p t w0.heap.size s q w h1).mono ?_
  rintro e w' ⟨rfl, s', hst, hsay⟩
  rw [h2] at hsay
  exact ⟨rfl, ST.lt h h1 h3 hst hsay⟩
theorem lt_mark {w0 w : World} {t : Nat} {S : Ts} {F : Nat → Prop} (h : Lt w0 w t S F) : ∃ a b, Mk a b S.e S.n ∧ Calls Try.prog 19 #[.pointer (some ⟨t, 0, none⟩)] w fun e w' => e = .returned (.complex .f64 a b) ∧ w = w' := by
  obtain ⟨s, h1, h2, -⟩ := h.ex
  refine ⟨s.a, s.b, by rw [← h2]; exact h1.mkk, (mark_p t _ s w h1).mono ?_⟩
  rintro e w' ⟨rfl, rfl⟩
  exact ⟨rfl, rfl⟩
theorem lt_version {w0 w : World} {t : Nat} {S : Ts} {F : Nat → Prop} (h : Lt w0 w t S F) : Calls Try.prog 20 #[.pointer (some ⟨t, 0, none⟩)] w fun e w' => e = .returned (.int .i64 S.ver) ∧ w = w' := by
  obtain ⟨s, h1, h2, -⟩ := h.ex
  refine (version_p t _ s w h1).mono ?_
  rintro e w' ⟨rfl, rfl⟩
  exact ⟨by rw [← h2]; rfl, rfl⟩
theorem lt_asked {w0 w : World} {t : Nat} {S : Ts} {F : Nat → Prop} (h : Lt w0 w t S F) : Calls Try.prog 40 #[.pointer (some ⟨t, 0, none⟩)] w fun e w' => e = .returned (.int .i64 S.asked) ∧ w = w' := by
  obtain ⟨s, h1, h2, -⟩ := h.ex
  refine (asked_p t _ s w h1).mono ?_
  rintro e w' ⟨rfl, rfl⟩
  exact ⟨by rw [← h2]; rfl, rfl⟩
def HdL (w : World) (S : Ts) (e : Ending) (w' : World) : Prop := ∃ v l, e = .returned v ∧ Msgs w' w.heap.size v l ∧ l.map Hm.m = S.held ∧ Below w.heap.size w w'
theorem lt_held {w0 w : World} {t : Nat} {S : Ts} {F : Nat → Prop} (h : Lt w0 w t S F) : Calls Try.prog 17 #[.pointer (some ⟨t, 0, none⟩)] w fun e w' => HdL w S e w' := by
  obtain ⟨s, h1, h2, -⟩ := h.ex
  refine (held_p t _ s w h1).mono ?_
  rintro e w' ⟨v, l, rfl, a, b, c⟩
  exact ⟨v, l, rfl, a, by rw [b, ← h2]; rfl, c⟩
theorem lt_new (client life : Int) (hold : Nat) (w0 w : World) (hb : Below w0.heap.size w0 w) (F : Nat → Prop) (hF : ∀ k, F k → k < w.heap.size) (h : newOk client life hold = true) : Calls Try.prog 6 #[.int .i64 client, .int .i64 life, .int .i64 hold] w fun e w' => e = .returned (.tuple #[.pointer (some ⟨w.heap.size, 0, none⟩), .int .i64 0]) ∧ Lt w0 w' w.heap.size (Ts.new client life hold) F ∧ Below w.heap.size w w' := by
  refine (new_yes client life hold w h).mono ?_
  rintro e w' ⟨rfl, ⟨s, h1, h2, h3⟩, hb'⟩
  exact ⟨rfl, ⟨⟨s, h1.down hb.size, h2, fun k hk hs => by have := hF k hk; have := h3 k hs; omega⟩, chainB hb hb', fun k hk => Nat.lt_of_lt_of_le (hF k hk) hb'.size⟩, hb'⟩
/-- rows that a call on a tide leaves -/
theorem Kt.rowK {F : Nat → Prop} {w w' : World} (h : Kt F w w') {B : Nat} {v : Value} {l : List Ky} (k : RowK w B v l) : RowK w' B v l := owns_moved k fun q e => h.tag q _ (Tag.own k e) (by decide) (by decide)
theorem Kt.rowE {F : Nat → Prop} {w w' : World} (h : Kt F w w') {B : Nat} {v : Value} {l : List En} (k : Row7 w B v l) : Row7 w' B v l := owns_moved k fun q e => h.tag q _ (Tag.own k e) (by decide) (by decide)
theorem Kt.lists {F : Nat → Prop} {w w' : World} (h : Kt F w w') {B : Nat} {x : Hm} (k : Lists w B x) : Lists w' B x := ⟨h.rowE k.es, h.rowK k.ks, k.le, k.lk⟩
theorem Kt.acts {F : Nat → Prop} {w w' : World} (h : Kt F w w') {B : Nat} {v : Value} {l : List Am} (k : Acts w B v l) : Acts w' B v l :=
  ⟨owns_moved k.row fun q e => h.tag q _ (Tag.own k.row e) (by decide) (by decide), fun a ha => ⟨h.rowK (k.each a ha).ks, h.rowE (k.each a ha).es, (k.each a ha).le, (k.each a ha).lk⟩⟩
theorem Kt.rowM {F : Nat → Prop} {w w' : World} (h : Kt F w w') {B : Nat} {v : Value} {l : List Hm} (k : RowM w B v l) (hm : ∀ q, v.ownBlock = some q → F q) : RowM w' B v l := owns_moved k fun q e => h.mine q (hm q e) (Tag.own k e).lt
/-- one act of a list -/
theorem owns_act {w : World} {base n cap i : Nat} {a : Option Addr} {l : List Am} {h : Am} (hr : RowA w base (.slice a n cap) l) (hi : l[i]? = some h) : ∃ g, a = some ⟨g, 0, none⟩ ∧ n = l.length ∧ base ≤ g ∧ g < w.heap.size ∧ (∀ j v, h.arr[j]? = some v → w.cell? ⟨g, i * 7 + j, none⟩ = some v) := by
  have hlt : i < l.length := (List.getElem?_eq_some_iff.1 hi).1
  obtain ⟨N, hN⟩ : ∃ N, l.length = N + 1 := ⟨l.length - 1, by omega⟩
  unfold RowA at hr
  rw [hN] at hr
  obtain ⟨g, cap', e'⟩ := owns_form hr
  cases e'
  obtain ⟨hc, hf, _, _, hb, hg⟩ := owns_cells hr
  refine ⟨g, rfl, hN.symm, hb, hg, fun j v hv => ?_⟩
  have hj : j < 7 := (Array.getElem?_eq_some_iff.1 hv).1
  apply hc
  rw [ac_get l i j h hi hj]
  rw [Am.vals, Array.getElem?_toList]; exact hv
end
section
open Go.RowKit Go.Shelf
attribute [local go_sem ↓ high] loadMsg storeMsg buildMsg storeAct loadAct buildAct
attribute [local go_sem high] run_store_complex eqC

theorem val_two : fval 4611686018427387904 = some (2 * U) := by decide +kernel
theorem mk_of {re im : Nat} {e n : Int} (h1 : fval re = some (e * U)) (h2 : fval im = some (n * U)) (a : 0 ≤ e ∧ e ≤ 1099511627776) (b : 0 ≤ n ∧ n ≤ 1099511627776) : Mk re im e n := ⟨h1, h2, a.1, a.2, b.1, b.2⟩
def nilOp : Opn := ⟨0, 0, ⟨#[]⟩, 0, ⟨#[]⟩, 0, ⟨#[]⟩⟩
/-- a break of client 1, life 1 -/
def brk (re im : Nat) (v : Int) (ks : List Ky) : Pm := ⟨3, 1, 1, 0, re, im, v, 0, nilOp, [], ks⟩
theorem brk_counts {re im : Nat} {e n v : Int} {ks : List Ky} {S : Ts} (h : Mk re im e n) (hc : S.client = 1) (hl : S.life = 1) (he : S.e ≤ e) : S.counts (brk re im v ks) = true := by
  unfold Ts.counts
  simp only [brk, hc, hl, h.good]
  have : Pm.ep (brk re im v ks) = e := h.pa
  simp only [Pm.ep, h.pa]
  simp [he]
def kyA : Ky := ⟨1, ⟨#[97]⟩⟩
def kyB : Ky := ⟨1, ⟨#[98]⟩⟩
def mA : Pm := brk 4607182418800017408 4611686018427387904 5 [kyA]
def mB : Pm := brk 4607182418800017408 4607182418800017408 4 [kyB]
theorem mkA : Mk 4607182418800017408 4611686018427387904 1 2 := mk_of val_one val_two (by omega) (by omega)
theorem mkB : Mk 4607182418800017408 4607182418800017408 1 1 := mk_of val_one val_one (by omega) (by omega)
theorem awake_a : (Ts.new 1 1 2).take mA = (⟨1, 1, 1, 0, 0, 0, [], [mA], 2⟩, [allA]) := by
  have hc : (Ts.new 1 1 2).counts mA = true := brk_counts mkA rfl rfl (by show (0 : Int) ≤ 1; omega)
  have he : mA.ep = 1 := mkA.pa
  have hn : mA.num = 2 := mkA.pb
  have hk : mA.kind = 3 := rfl
  unfold Ts.take
  rw [if_pos hc]
  have hb : (Ts.new 1 1 2).begun mA = ⟨1, 1, 1, 0, 0, 0, [], [], 2⟩ := by unfold Ts.begun Ts.restart Ts.new; simp [he]
  have hbA : (Ts.new 1 1 2).begunA mA = [allA] := by unfold Ts.begunA Ts.new; simp [he]
  have hm : (⟨1, 1, 1, 0, 0, 0, [], [], 2⟩ : Ts).meet mA = (⟨1, 1, 1, 0, 0, 0, [], [mA], 2⟩, []) := by
    unfold Ts.meet Ts.ahead Ts.holds
    simp [hk, hn]
  have hs : (⟨1, 1, 1, 0, 0, 0, [], [mA], 2⟩ : Ts).settle = (⟨1, 1, 1, 0, 0, 0, [], [mA], 2⟩, []) := by
    apply Ts.settle_none
    unfold Ts.due Ts.due1 Ts.due2 Ts.due3 Ts.ahead
    simp [hk, hn, List.findIdx?_cons]
  rw [hb, hbA, hm, hs]; rfl
theorem awake_b : (⟨1, 1, 1, 0, 0, 0, [], [mA], 2⟩ : Ts).take mB = (⟨1, 1, 1, 2, 5, 0, [], [], 2⟩, [keysA [kyB], keysA [kyA]]) := by
  have hc : (⟨1, 1, 1, 0, 0, 0, [], [mA], 2⟩ : Ts).counts mB = true := brk_counts mkB rfl rfl (by show (1 : Int) ≤ 1; omega)
  have he : mB.ep = 1 := mkB.pa
  have hn : mB.num = 1 := mkB.pb
  have hn2 : mA.num = 2 := mkA.pb
  have hk : mB.kind = 3 := rfl
  have hk2 : mA.kind = 3 := rfl
  unfold Ts.take
  rw [if_pos hc]
  have hb : (⟨1, 1, 1, 0, 0, 0, [], [mA], 2⟩ : Ts).begun mB = ⟨1, 1, 1, 0, 0, 0, [], [mA], 2⟩ := by unfold Ts.begun; simp [he]
  have hbA : (⟨1, 1, 1, 0, 0, 0, [], [mA], 2⟩ : Ts).begunA mB = [] := by unfold Ts.begunA; simp [he]
  have hm : (⟨1, 1, 1, 0, 0, 0, [], [mA], 2⟩ : Ts).meet mB = (⟨1, 1, 1, 1, 4, 0, [], [mA], 2⟩, [keysA [kyB]]) := by
    unfold Ts.meet Ts.ahead Ts.apply actOf
    simp [hk, hn]
    exact ⟨rfl, rfl⟩
  have hd : (⟨1, 1, 1, 1, 4, 0, [], [mA], 2⟩ : Ts).due = some 0 := by
    unfold Ts.due Ts.due1 Ts.ahead
    simp [hk2, hn2, List.findIdx?_cons]
  have hm2 : ((⟨1, 1, 1, 1, 4, 0, [], [mA], 2⟩ : Ts).without 0).meet mA = (⟨1, 1, 1, 2, 5, 0, [], [], 2⟩, [keysA [kyA]]) := by
    unfold Ts.without Ts.meet Ts.ahead Ts.apply actOf
    simp [hk2, hn2]
    exact ⟨rfl, rfl⟩
  have hs2 : (⟨1, 1, 1, 2, 5, 0, [], [], 2⟩ : Ts).settle = (⟨1, 1, 1, 2, 5, 0, [], [], 2⟩, []) := Ts.settle_none rfl
  rw [hb, hbA, hm]
  simp only []
  rw [Ts.settle_some hd rfl, hm2]
  simp only []
  rw [hs2]; rfl
theorem acts1 {l : List Am} {c : Ac} (h : l.map Am.c = [c]) : ∃ a, l = [a] ∧ a.c = c := by
  match l, h with
  | [a], h => exact ⟨a, rfl, by simpa using h⟩
theorem acts2 {l : List Am} {c d : Ac} (h : l.map Am.c = [c, d]) : ∃ a b, l = [a, b] ∧ a.c = c ∧ b.c = d := by
  match l, h with
  | [a, b], h => exact ⟨a, b, rfl, by simpa using h⟩
theorem one_key {w : World} (k : Ky) : RowK (w.alloc (.cells #[.int .i64 k.d, .string k.nm] 53)) 0 (.slice (some ⟨w.heap.size, 0, none⟩) 1 1) [k] := owns_whole (xs := kc [k]) (Nat.zero_le _) (heap_new _ _) rfl (by unfold maxLen; omega)
theorem lists_key {w : World} {x : Hm} (k : Ky) (h1 : x.m.es = []) (h2 : x.m.ks = [k]) (h3 : x.ve = .slice none 0 0) (h4 : x.vk = .slice (some ⟨w.heap.size, 0, none⟩) 1 1) : Lists (w.alloc (.cells #[.int .i64 k.d, .string k.nm] 53)) 0 x := by
  refine ⟨?_, ?_, ?_, ?_⟩
  · rw [h1, h3]; exact World.ownsRow_nil _ _ _ _
  · rw [h2, h4]; exact one_key k
  · rw [h1]; exact Nat.zero_le _
  · rw [h2]; unfold LB; simp
set_option maxHeartbeats 8000000 in
set_option maxRecDepth 100000 in
theorem awake_p (w : World) : Calls Try.prog 8 #[] w fun e w' => e = .returned (.bool true) ∧ Below w.heap.size w w' := by
  have HN : Hid (Calls Try.prog 6 #[.int .i64 1, .int .i64 1, .int .i64 2] w fun e w' => e = .returned (.tuple #[.pointer (some ⟨w.heap.size, 0, none⟩), .int .i64 0]) ∧ Lt w w' w.heap.size (Ts.new 1 1 2) (fun _ => False) ∧ Below w.heap.size w w') := lt_new 1 1 2 w w (Below.refl _ _) _ (fun k hk => hk.elim) (by decide)
  obtain ⟨t, ht⟩ : ∃ t, w.heap.size = t := ⟨_, rfl⟩
  rw [ht] at HN
  have HT : Hid (∀ (S : Ts) (W : World) (re im : Nat) (v : Int) (k : Ky), Lt w W t S (fun _ => False) → Calls Try.prog 12 #[.pointer (some ⟨t, 0, none⟩), .agg #[.int .i64 3, .int .i64 1, .int .i64 1, .int .i64 0, .complex .f64 re im, .int .i64 v, .int .i64 0, .int .i64 0, .int .i64 0, .string ⟨#[]⟩, .int .i64 0, .string ⟨#[]⟩, .int .i64 0, .string ⟨#[]⟩, .slice none 0 0, .slice (some ⟨W.heap.size, 0, none⟩) 1 1]] (W.alloc (.cells #[.int .i64 k.d, .string k.nm] 53)) fun e w' => TkL w (W.alloc (.cells #[.int .i64 k.d, .string k.nm] 53)) t S (fun _ => False) (brk re im v [k]) e w') := fun S W re im v k hL =>
    lt_take (hL.below (below_alloc _ _)) ⟨brk re im v [k], none, 0, some ⟨W.heap.size, 0, none⟩, 1⟩ (lists_key k rfl rfl rfl rfl)
  go_enter Try.func8, Try.ntmps8
  go_upto_region 6 with (first
    | (go_at_call 6; refine HN.out.mono ?_; rintro e w1 ⟨rfl, hL1, hb1⟩; have H1 : Hid _ := hL1; clear hL1)
    | (have _q := H2; go_at_call 12; refine (HT.out _ _ _ _ _ kyB H2.out.1).mono ?_; rintro e w3 ⟨v3, l3, rfl, ha3, hc3, hL3, hk3⟩; obtain ⟨a3, c3, rfl⟩ := owns_len ha3.row; have H3 : Hid (Acts w3 _ (.slice a3 l3.length c3) l3 ∧ l3.map Am.c = _ ∧ Lt w w3 t _ (fun _ => False) ∧ Kt (fun _ => False) _ w3) := ⟨ha3, hc3, hL3, hk3⟩; clear ha3 hc3 hL3 hk3)
    | (go_at_call 12; refine (HT.out _ _ _ _ _ kyA H1.out).mono ?_; rintro e w2 ⟨v2, l2, rfl, ha2, hc2, hL2, hk2⟩; obtain ⟨a2, c2, rfl⟩ := owns_len ha2.row; have H2 : Hid (Lt w w2 t _ (fun _ => False) ∧ Acts w2 _ (.slice a2 l2.length c2) l2 ∧ l2.map Am.c = _) := ⟨hL2, ha2, hc2⟩; clear ha2 hc2 hL2 hk2))
  have hA : (Ts.new 1 1 2).take (brk 4607182418800017408 4611686018427387904 5 [kyA]) = _ := awake_a
  have hB : (⟨1, 1, 1, 0, 0, 0, [], [mA], 2⟩ : Ts).take (brk 4607182418800017408 4607182418800017408 4 [kyB]) = _ := awake_b
  rw [hA] at H2 H3
  simp only [hB] at H3
  obtain ⟨x2, rfl, hx2⟩ := acts1 H2.out.2.2
  obtain ⟨y, z, rfl, hy, hz⟩ := acts2 H3.out.2.1
  have ac2 : Acts w3 _ (.slice a2 1 c2) [x2] := H3.out.2.2.2.acts (H2.out.2.1.below (below_alloc _ _))
  obtain ⟨g2, rfl, -, -, -, q2⟩ := owns_act ac2.row (i := 0) rfl
  obtain ⟨g3, rfl, -, -, -, q3⟩ := owns_act H3.out.1.row (i := 0) (h := y) rfl
  obtain ⟨g3', e3, -, -, -, q4⟩ := owns_act H3.out.1.row (i := 1) (h := z) rfl
  cases e3
  have c20 : w3.cell? ⟨g2, 0, none⟩ = some (.bool true) := by have := q2 0 (.bool x2.c.all) rfl; rw [hx2] at this; exact this
  have hyk : y.vk = .slice y.ak 1 y.ck := by unfold Am.vk; rw [hy]; rfl
  have hzk : z.vk = .slice z.ak 1 z.ck := by unfold Am.vk; rw [hz]; rfl
  have c34 : w3.cell? ⟨g3, 4, none⟩ = some (.slice y.ak 1 y.ck) := by rw [← hyk]; exact q3 4 y.vk rfl
  have c311 : w3.cell? ⟨g3, 11, none⟩ = some (.slice z.ak 1 z.ck) := by rw [← hzk]; exact q4 4 z.vk rfl
  have hrk := (H3.out.1.each y (by simp)).ks
  rw [hyk, hy] at hrk
  obtain ⟨gk, hgk, -, -, -, kn, -⟩ := RowK.key hrk (i := 0) (p := kyB) rfl
  rw [hgk] at c34
  have kn' : w3.cell? ⟨gk, 1, none⟩ = some (.string ⟨#[98]⟩) := kn
  obtain ⟨ma, mb, hmk, hmc⟩ := lt_mark H3.out.2.2.1
  have f1 : Op.floatEq .f64 ma 4607182418800017408 = true := by rw [floatEq_whole hmk.ha val_one]; rfl
  have f2 : Op.floatEq .f64 mb 4611686018427387904 = true := by rw [floatEq_whole hmk.hb val_two]; rfl
  have HV : Hid (Calls Try.prog 20 #[.pointer (some ⟨t, 0, none⟩)] w3 fun e w' => e = .returned (.int .i64 5) ∧ w3 = w') := lt_version H3.out.2.2.1
  have HM : Hid (Calls Try.prog 19 #[.pointer (some ⟨t, 0, none⟩)] w3 fun e w' => e = .returned (.complex .f64 ma mb) ∧ w3 = w') := hmc
  have HB : Hid (Below w.heap.size w w3) := H3.out.2.2.1.bel
  clear q2 q3 q4 ac2 hrk kn hmk hmc hA hB hx2 hy hz hyk hzk hgk
  go_wp2_with (first
    | (go_at_call 19; refine HM.out.mono ?_; rintro e w' ⟨rfl, rfl⟩)
    | (go_at_call 20; refine HV.out.mono ?_; rintro e w' ⟨rfl, rfl⟩))
  go_ret
  exact ⟨rfl, HB.out⟩
end
section
open Go.RowKit Go.Shelf
attribute [local go_sem ↓ high] loadMsg storeMsg buildMsg storeAct loadAct buildAct
attribute [local go_sem high] run_store_complex eqC

def plw (v : Int) (n : Nat) : Nat := (if v.tmod n < 0 then v.tmod n + n else v.tmod n).toNat
theorem plw_lt (v : Int) (n : Nat) (h : 1 ≤ n) : plw v n < n := by
  have h1 := Int.tmod_lt_of_pos v (show (0 : Int) < n by omega)
  have h2 := Int.lt_tmod_of_pos v (show (0 : Int) < n by omega)
  unfold plw
  split <;> omega
/-- the break of a number -/
def kyN (i : Nat) : Ky := ⟨(i : Int), ⟨#[107]⟩⟩
def brkN (i : Nat) : Pm := brk (floatOfInt .f64 1) (floatOfInt .f64 (i : Nat)) (2 * (i : Int)) [kyN i]
theorem brkN_mk (i : Nat) (h : i ≤ 1000) : Mk (brkN i).re (brkN i).im 1 i := show Mk (floatOfInt .f64 1) (floatOfInt .f64 (i : Int)) 1 (i : Int) from Mk.of (by omega) (by omega) (by omega) (by omega)
theorem brkN_ep (i : Nat) (h : i ≤ 1000) : (brkN i).ep = 1 := (brkN_mk i h).pa
theorem brkN_num (i : Nat) (h : i ≤ 1000) : (brkN i).num = i := (brkN_mk i h).pb
def stream (n : Nat) : List Pm := (List.range n).map fun i => brkN (i + 1)
def BrR (w : World) (n : Nat) (e : Ending) (w' : World) : Prop := ∃ v l, e = .returned v ∧ Msgs w' w.heap.size v l ∧ l.map Hm.m = stream n ∧ Below w.heap.size w w'
theorem stream_succ (n : Nat) : stream (n + 1) = stream n ++ [brkN (n + 1)] := by unfold stream; rw [List.range_succ, List.map_append]; rfl
end
end Go.Proofs.Ytpmcecenhgppbaa
