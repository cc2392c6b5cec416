/- Scripts among arguments of any size; two tables side by side. -/
import Derived.Test.YtaofhjckliobpaaVpH
namespace Go.Proofs.Ytaofhjckliobpaa
open Go.ChangeShapes Go.WideShapes Go.ChangeAt Go.RowKit Go.Joins

theorem Try.bytesOp : Try.prog.bytesOf 33 = 56 := by kernel_rfl
section
variable {H : Type} {enc : TypeId × Value → H} {W : World}
set_option maxRecDepth 100000 in
theorem ov_w {fuel : Nat} {cs' : List Value} {x : DataW H × List MemPlace} (ht : DataW.trod enc Try.prog W 0 (fun _ => true) true fuel 33 cs' = some x) (hw : ∀ n ∈ x.1.weights Try.prog 33, n ≤ reachBytes) :
    ∃ o : Ov, cs' = [.int .i64 o.kind, .int .i64 o.ver, .int .i64 o.ep, .int .i64 o.num, .slice o.va o.vn o.vc] ∧ ArgK W (.slice o.va o.vn o.vc) o.ks := by
  obtain ⟨xs, n, _, rfl, hl, hlen, hf⟩ := DataW.trod_struct Try.underlying33 ht
  rw [Try.cellsOp] at hl
  obtain ⟨c0, c1, c2, c3, c4, rfl⟩ := list5 hl
  obtain ⟨y0, y1, y2, y3, y4, rfl⟩ := list5 (l := xs) (by simpa using hlen)
  have h0 : DataW.trod enc Try.prog W 0 (fun _ => true) true n 3 (([c0, c1, c2, c3, c4].drop 0).take (Try.prog.cellsOf 3)) = some y0 := hf 0 _ rfl
  have h1 : DataW.trod enc Try.prog W 0 (fun _ => true) true n 3 (([c0, c1, c2, c3, c4].drop 1).take (Try.prog.cellsOf 3)) = some y1 := hf 1 _ rfl
  have h2 : DataW.trod enc Try.prog W 0 (fun _ => true) true n 3 (([c0, c1, c2, c3, c4].drop 2).take (Try.prog.cellsOf 3)) = some y2 := hf 2 _ rfl
  have h3 : DataW.trod enc Try.prog W 0 (fun _ => true) true n 3 (([c0, c1, c2, c3, c4].drop 3).take (Try.prog.cellsOf 3)) = some y3 := hf 3 _ rfl
  have h4 : DataW.trod enc Try.prog W 0 (fun _ => true) true n 31 (([c0, c1, c2, c3, c4].drop 4).take (Try.prog.cellsOf 31)) = some y4 := hf 4 _ rfl
  rw [Try.cellsWord] at h0 h1 h2 h3
  rw [Try.cellsSlK] at h4
  obtain ⟨p0, e0, _, _⟩ := DataW.trod_int Try.underlying3 h0
  obtain ⟨p1, e1, _, _⟩ := DataW.trod_int Try.underlying3 h1
  obtain ⟨p2, e2, _, _⟩ := DataW.trod_int Try.underlying3 h2
  obtain ⟨p3, e3, _, _⟩ := DataW.trod_int Try.underlying3 h3
  simp at e0 e1 e2 e3
  subst e0 e1 e2 e3
  obtain ⟨ks, hk⟩ := argK_of (v := c4) (x := y4) (by simpa using h4) (fun n hn => hw n (by
    simp only [DataW.weights, Try.underlying33]
    exact DataW.weights_mem_each (j := 4) rfl rfl n hn))
  obtain ⟨a4, cap4, rfl⟩ := hk.form
  exact ⟨⟨p0, p1, p2, p3, a4, ks.length, cap4, ks⟩, rfl, hk⟩
set_option maxRecDepth 100000 in
theorem rowG_w {a : Option Addr} {len cap : Nat} {d : DataW H} {ps : List MemPlace} (h : DataW.Trod enc Try.prog W 0 (fun _ => true) true 22 (.slice a len cap) d ps) (hw : ∀ n ∈ d.weights Try.prog 22, n ≤ reachBytes) :
    ∃ ops : List Ov, ops.length = len ∧ RowG W a ops ∧ len ≤ 3000000000000 := by
  obtain ⟨fuel, hf⟩ := h
  rcases Go.Deep.open_slice Try.underlying22 hf with ⟨hcs, hx⟩ | ⟨a', len', cap', m, n, D, Pl, hcs, hb, hl, hm, hmm, hx, hel⟩
  · simp [Value.cells] at hcs
    obtain ⟨rfl, rfl, rfl⟩ := hcs
    exact ⟨[], rfl, .inl rfl, by omega⟩
  · simp [Value.cells] at hcs
    obtain ⟨rfl, rfl, rfl⟩ := hcs
    simp only [if_true] at hmm
    subst hmm
    simp only [Prod.mk.injEq] at hx
    obtain ⟨rfl, -⟩ := hx
    obtain ⟨w1, w2⟩ := weights_slice Try.underlying22 hw
    rw [Try.bytesOp] at w1
    simp [reachBytes] at w1
    by_cases h0 : len = 0
    · exact ⟨[], h0.symm, .inl rfl, by omega⟩
    have key : ∀ i, i < len → ∃ o : Ov, (W.cell? (a'.add (i * 5)) = some (.int .i64 o.kind) ∧ W.cell? ((a'.add (i * 5)).add 1) = some (.int .i64 o.ver) ∧ W.cell? ((a'.add (i * 5)).add 2) = some (.int .i64 o.ep) ∧ W.cell? ((a'.add (i * 5)).add 3) = some (.int .i64 o.num) ∧ W.cell? ((a'.add (i * 5)).add 4) = some (.slice o.va o.vn o.vc)) ∧ ArgK W (.slice o.va o.vn o.vc) o.ks := by
      intro i hi
      obtain ⟨cs', hc, ht⟩ := hel i (by omega)
      rw [Try.cellsOp] at hc
      obtain ⟨_, hlen, hget⟩ := World.cells?_some hc
      obtain ⟨o, rfl, hk⟩ := ov_w ht (w2 (D i) (List.mem_map.2 ⟨i, List.mem_range.2 hi, rfl⟩))
      have g0 := hget 0 (by omega)
      have g1 := hget 1 (by omega)
      have g2 := hget 2 (by omega)
      have g3 := hget 3 (by omega)
      have g4 := hget 4 (by omega)
      simp at g0 g1 g2 g3 g4
      refine ⟨o, ⟨?_, g1, g2, g3, g4⟩, hk⟩
      simpa [Addr.add] using g0
    have iO : Inhabited Ov := ⟨⟨0, 0, 0, 0, none, 0, 0, []⟩⟩
    obtain ⟨X, hX⟩ := Go.Deep.choose_lt (α := Ov) key
    obtain ⟨b, off, spot⟩ := a'
    have hs := World.cell?_spot (hX 0 (by omega)).1.1
    have hspot : spot = none := by simpa [Addr.add] using hs
    subst hspot
    have hadd : ∀ i, (⟨b, off, none⟩ : Addr).add i = ⟨b, off + i, none⟩ := fun i => by rw [Go.WideShapes.add_plain]
    have hadd2 : ∀ i j, (⟨b, off + i, none⟩ : Addr).add j = ⟨b, off + i + j, none⟩ := fun i j => by rw [Go.WideShapes.add_plain]
    refine ⟨(List.range len).map X, by simp, .inr ⟨b, off, rfl, cellLt (hX 0 (by omega)).1.1, fun i o ho => ?_⟩, by omega⟩
    have hi : i < len := by have := (List.getElem?_eq_some_iff.1 ho).1; simpa using this
    rw [List.getElem?_map, List.getElem?_range hi] at ho
    cases ho
    have := hX i hi
    rw [hadd, hadd2, hadd2, hadd2, hadd2] at this
    exact ⟨this.1.1, this.1.2.1, this.1.2.2.1, this.1.2.2.2.1, this.1.2.2.2.2, this.2⟩
end

/-- two tables that have nothing in common -/
structure L2 (w0 wr : World) (t u : Nat) (S S' : Vs) (F : Nat → Prop) : Prop where
  ex : ∃ s s', IsV wr w0.heap.size t s ∧ s.say = S ∧ IsV wr w0.heap.size u s' ∧ s'.say = S' ∧ (∀ k, s.blk t k → ¬ s'.blk u k) ∧ ∀ k, F k → k < wr.heap.size ∧ ¬ s.blk t k ∧ ¬ s'.blk u k
  below : Below w0.heap.size w0 wr
  ks : S.ks.length ≤ S.mp
  q1 : 1 ≤ S.mq
  ks' : S'.ks.length ≤ S'.mp
  q1' : 1 ≤ S'.mq
theorem L2.symm {w0 wr : World} {t u : Nat} {S S' : Vs} {F : Nat → Prop} (h : L2 w0 wr t u S S' F) : L2 w0 wr u t S' S F := by
  obtain ⟨s, s', h1, h2, h3, h4, h5, h6⟩ := h.ex
  exact ⟨⟨s', s, h3, h4, h1, h2, fun k hk e => h5 k e hk, fun k hk => ⟨(h6 k hk).1, (h6 k hk).2.2, (h6 k hk).2.1⟩⟩, h.below, h.ks', h.q1', h.ks, h.q1⟩
theorem L2.mono {w0 wr : World} {t u : Nat} {S S' : Vs} {F G : Nat → Prop} (h : L2 w0 wr t u S S' F) (hG : ∀ k, G k → F k) : L2 w0 wr t u S S' G := by
  obtain ⟨s, s', h1, h2, h3, h4, h5, h6⟩ := h.ex
  exact ⟨⟨s, s', h1, h2, h3, h4, h5, fun k hk => h6 k (hG k hk)⟩, h.below, h.ks, h.q1, h.ks', h.q1'⟩
theorem L2.on {w0 wr w' : World} {t u : Nat} {S S' : Vs} {F : Nat → Prop} (h : L2 w0 wr t u S S' F) (hb : Below wr.heap.size wr w') : L2 w0 w' t u S S' (fun k => F k ∨ wr.heap.size ≤ k ∧ k < w'.heap.size) := by
  obtain ⟨s, s', h1, h2, h3, h4, h5, h6⟩ := h.ex
  refine ⟨⟨s, s', h1.below hb, h2, h3.below hb, h4, h5, fun k hk => ?_⟩, chainB h.below hb, h.ks, h.q1, h.ks', h.q1'⟩
  rcases hk with hk | hk
  · exact ⟨Nat.lt_of_lt_of_le (h6 k hk).1 hb.size, (h6 k hk).2⟩
  · exact ⟨hk.2, fun e => by have := (h1.lt e).2; omega, fun e => by have := (h3.lt e).2; omega⟩
/-- the law writes blocks of its own -/
theorem L2.own {w0 wr w' : World} {t u : Nat} {S S' : Vs} {F : Nat → Prop} (h : L2 w0 wr t u S S' F) (hO : Only F wr w') (hF : ∀ k, F k → w0.heap.size ≤ k) : L2 w0 w' t u S S' (fun k => F k ∨ wr.heap.size ≤ k ∧ k < w'.heap.size) := by
  obtain ⟨s, s', h1, h2, h3, h4, h5, h6⟩ := h.ex
  refine ⟨⟨s, s', h1.moved fun k hk => hO.block k (h1.lt hk).2 fun e => (h6 k e).2.1 hk, h2, h3.moved fun k hk => hO.block k (h3.lt hk).2 fun e => (h6 k e).2.2 hk, h4, h5, fun k hk => ?_⟩, hO.below h.below h.below.size hF, h.ks, h.q1, h.ks', h.q1'⟩
  rcases hk with hk | hk
  · exact ⟨Nat.lt_of_lt_of_le (h6 k hk).1 hO.size, (h6 k hk).2⟩
  · exact ⟨hk.2, fun e => by have := (h1.lt e).2; omega, fun e => by have := (h3.lt e).2; omega⟩
theorem L2.fst {w0 wr : World} {t u : Nat} {S S' : Vs} {F : Nat → Prop} (h : L2 w0 wr t u S S' F) : Lv w0 wr t S F := by
  obtain ⟨s, s', h1, h2, h3, h4, h5, h6⟩ := h.ex
  exact ⟨⟨s, h1, h2, fun k hk => ⟨(h6 k hk).1, (h6 k hk).2.1⟩⟩, h.below, h.ks, h.q1⟩
theorem L2.new {w0 wr w' : World} {t u : Nat} {S S' : Vs} {F : Nat → Prop} (h : Lv w0 wr t S F) (hb : Below wr.heap.size wr w') (h' : Lv w0 w' u S' (fun k => k < wr.heap.size)) : L2 w0 w' t u S S' F := by
  obtain ⟨s, h1, h2, h3⟩ := h.ex
  obtain ⟨s', k1, k2, k3⟩ := h'.ex
  exact ⟨⟨s, s', h1.below hb, h2, k1, k2, fun k hk => (k3 k (h1.lt hk).2).2, fun k hk => ⟨Nat.lt_of_lt_of_le (h3 k hk).1 hb.size, (h3 k hk).2, (k3 k (h3 k hk).1).2⟩⟩, h'.below, h.ks, h.q1, h'.ks, h'.q1⟩
/-- what a call on the first that makes breaks leaves -/
structure Lc2 (w0 wr w' : World) (t u : Nat) (F : Nat → Prop) (v' : Value) (r : Vs × List Bs) (S' : Vs) (e : Int) (Bq : Nat) : Prop where
  lv : L2 w0 w' t u r.1 S' (fun k => F k ∨ Bq ≤ k ∧ k < w'.heap.size)
  rt : Rt w' Bq v' r.2 e
  kept : ∀ k, F k → w'.heap[k]? = wr.heap[k]?
  bq : wr.heap.size ≤ Bq
theorem L2.call {w0 wr : World} {t u : Nat} {S S' : Vs} {F : Nat → Prop} (h : L2 w0 wr t u S S' F) : ∃ G : Nat → Prop, Lv w0 wr t S G ∧ ∀ {w' : World} {v' : Value} {r : Vs × List Bs} {e : Int} {Bq : Nat}, Lc w0 wr w' t G v' r e Bq → Lc2 w0 wr w' t u F v' r S' e Bq := by
  obtain ⟨s, s', h1, h2, h3, h4, h5, h6⟩ := h.ex
  refine ⟨fun k => s'.blk u k ∨ F k, ⟨⟨s, h1, h2, fun k hk => ?_⟩, h.below, h.ks, h.q1⟩, fun {w' v' r e Bq} hc => ?_⟩
  · rcases hk with hk | hk
    · exact ⟨(h3.lt hk).2, fun e => h5 k e hk⟩
    · exact ⟨(h6 k hk).1, (h6 k hk).2.1⟩
  · obtain ⟨s1, k1, k2, k3⟩ := hc.lv.ex
    have hsz : ∀ k, s'.blk u k → k < wr.heap.size := fun k hk => (h3.lt hk).2
    refine ⟨⟨⟨s1, s', k1, k2, h3.moved fun k hk => hc.kept k (.inl hk), h4, fun k hk e => (k3 k (.inl (.inl e))).2 hk, fun k hk => ?_⟩, hc.lv.below, hc.lv.ks, hc.lv.q1, h.ks', h.q1'⟩, hc.rt, fun k hk => hc.kept k (.inr hk), hc.bq⟩
    rcases hk with hk | hk
    · exact ⟨(k3 k (.inl (.inr hk))).1, (k3 k (.inl (.inr hk))).2, (h6 k hk).2.2⟩
    · exact ⟨hk.2, (k3 k (.inr hk)).2, fun e => by have := hsz k e; have := hc.bq; omega⟩
theorem l2_grant {w0 wr : World} {t u : Nat} {S S' : Vs} {F : Nat → Prop} (h : L2 w0 wr t u S S' F) (k : Ky) (ver : Int) :
    Calls Try.prog 17 #[.pointer (some ⟨t, 0, none⟩), k.agg, .int .i64 ver] wr fun x w' => ∃ v', x = .returned v' ∧ ∃ Bq, Lc2 w0 wr w' t u F v' (S.grant k ver) S' S.e Bq := by
  obtain ⟨G, hG, hc⟩ := h.call
  refine (lv_grant hG k ver).mono ?_
  rintro x w' ⟨v', rfl, Bq, h2⟩
  exact ⟨v', rfl, Bq, hc h2⟩
theorem l2_touch {w0 wr : World} {t u : Nat} {S S' : Vs} {F : Nat → Prop} (h : L2 w0 wr t u S S' F) (v : Value) (ks : List Ky) (ver : Int) (hr : RdK wr v ks) (hl : ks.length * 24 ≤ LK) :
    Calls Try.prog 19 #[.pointer (some ⟨t, 0, none⟩), v, .int .i64 ver] wr fun x w' => ∃ v', x = .returned v' ∧ ∃ Bq, Lc2 w0 wr w' t u F v' (S.touch ks ver) S' S.e Bq := by
  obtain ⟨G, hG, hc⟩ := h.call
  refine (lv_touch hG v ks ver hr hl).mono ?_
  rintro x w' ⟨v', rfl, Bq, h2⟩
  exact ⟨v', rfl, Bq, hc h2⟩

/-- the same table in another epoch -/
def Vs.re (S : Vs) (e : Int) : Vs := { S with e := e }
theorem tell_re (S : Vs) (e : Int) (ks : List Ky) (ver : Int) : (S.re e).tell ks ver = ((S.tell ks ver).1.re e, (S.tell ks ver).2) := by
  unfold Vs.tell
  show (if S.n < MX then if S.q.length = S.mq then _ else _ else _) = _
  split
  · split <;> rfl
  · rfl
theorem grant_re (S : Vs) (e : Int) (k : Ky) (ver : Int) : (S.re e).grant k ver = ((S.grant k ver).1.re e, (S.grant k ver).2) := by
  rcases grant_cases S k ver with ⟨h, h1⟩ | ⟨o, l, h1, h2, h⟩
  · rw [h]
    unfold Vs.grant
    rw [if_pos (show (dropK (S.re e).ks k ++ [k]).length ≤ (S.re e).mp from h1)]
    rfl
  · rw [h, ← tell_re]
    unfold Vs.grant
    rw [if_neg (show ¬ (dropK (S.re e).ks k ++ [k]).length ≤ (S.re e).mp from h2)]
    rw [show dropK (S.re e).ks k ++ [k] = o :: l from h1]
    rfl
theorem touch_re (S : Vs) (e : Int) (ks : List Ky) (ver : Int) : (S.re e).touch ks ver = ((S.touch ks ver).1.re e, (S.touch ks ver).2) := by
  have ht : (S.re e).told ks = S.told ks := rfl
  unfold Vs.touch
  rw [ht]
  split
  · rfl
  · exact tell_re { S with ks := minusK S.ks (srtK (S.told ks)) } e _ ver
end Go.Proofs.Ytaofhjckliobpaa
