/- Scripts of the laws among the arguments. -/
import Derived.Test.YtpmcecenhgppbaaJTAys27
import Derived.Test.YtpmcecenhgppbaaJTAys23
import Derived.Test.YtpmcecenhgppbaaJTAys22
namespace Go.Proofs.Ytpmcecenhgppbaa
section
open Go.ChangeShapes Go.WideShapes Go.ChangeAt Go.RowKit Go.Joins

theorem Try.cellsTo : Try.prog.cellsOf 38 = 19 := by kernel_rfl
theorem Try.bytesTo : Try.prog.bytesOf 38 = 208 := by kernel_rfl
/-- a call of a script -/
structure TOp where
  ask : Bool
  seq : Int
  m : Mm
def TOp.vals (x : TOp) : List Value := .bool x.ask :: .int .i64 x.seq :: x.m.arr.toList
def TOp.arr (x : TOp) : Array Value := x.vals.toArray
def TOp.wf (x : TOp) : Prop := (Lit.int .i64 x.m.ep).wf = true ∧ (Lit.int .i64 x.m.nb).wf = true
/-- a script that came in -/
def RowT (w : World) (a : Option Addr) (ops : List TOp) : Prop := ops = [] ∨ ∃ b off, a = some ⟨b, off, none⟩ ∧ b < w.heap.size ∧ ∀ i x, ops[i]? = some x → (∀ j u, x.vals[j]? = some u → w.cell? ⟨b, off + i * 19 + j, none⟩ = some u) ∧ ArgM w x.m ∧ x.wf
theorem RowT.below {w w' : World} {a : Option Addr} {ops : List TOp} (h : RowT w a ops) (hb : Below w.heap.size w w') : RowT w' a ops := by
  rcases h with h | ⟨b, off, rfl, hs, hc⟩
  · exact .inl h
  · exact .inr ⟨b, off, rfl, Nat.lt_of_lt_of_le hs hb.size, fun i x hx => ⟨fun j u hu => (hb.cell (p := ⟨b, off + i * 19 + j, none⟩) hs).trans ((hc i x hx).1 j u hu), (hc i x hx).2.1.below hb, (hc i x hx).2.2⟩⟩
/-- one of a script's calls -/
theorem RowT.get {w : World} {a : Option Addr} {ops : List TOp} (h : RowT w a ops) {i : Nat} (hi : i < ops.length) : ∃ b off x, a = some ⟨b, off, none⟩ ∧ ops[i]? = some x ∧ (∀ j u, x.vals[j]? = some u → w.cell? ⟨b, off + i * 19 + j, none⟩ = some u) ∧ ArgM w x.m ∧ x.wf := by
  rcases h with h | ⟨b, off, rfl, hs, hc⟩
  · subst h; simp at hi
  · exact ⟨b, off, ops[i], rfl, List.getElem?_eq_getElem hi, hc i _ (List.getElem?_eq_getElem hi)⟩
theorem weights_elems {H : Type} {P : Program} {t e : TypeId} {elems spare : List (DataW H)} (hu : P.underlying t = some (.slice e)) (h : ∀ n ∈ (DataW.slice elems spare).weights P t, n ≤ reachBytes) : ∀ d ∈ elems, ∀ n ∈ d.weights P e, n ≤ reachBytes := by
  simp only [DataW.weights, hu] at h
  exact fun d hd n hn => h n (List.mem_cons_of_mem _ (List.mem_append_left _ (weightsAll_mem hd hn)))
section
variable {H : Type} {enc : TypeId × Value → H} {W : World}
set_option maxRecDepth 100000 in
theorem mmF_of {fuel : Nat} {cs : List Value} {x : DataW H × List MemPlace} (h : DataW.trod enc Try.prog W 0 (fun _ => true) true fuel 36 cs = some x) (hw : ∀ n ∈ x.1.weights Try.prog 36, n ≤ reachBytes) : ∃ m : Mm, cs = m.arr.toList ∧ ArgM W m ∧ (Lit.int .i64 m.ep).wf = true ∧ (Lit.int .i64 m.nb).wf = true := by
  obtain ⟨xs, n, _, rfl, hl, hlen, hf⟩ := DataW.trod_struct Try.underlying36 h
  rw [Try.cellsMm] at hl
  obtain ⟨c0, c1, c2, c3, c4, c5, c6, c7, c8, c9, c10, c11, c12, c13, c14, c15, c16, rfl⟩ := seventeen hl
  obtain ⟨y0, y1, y2, y3, y4, y5, y6, y7, y8, y9, y10, rfl⟩ := eleven (l := xs) (by simpa using hlen)
  have h0 : DataW.trod enc Try.prog W 0 (fun _ => true) true n 3 (([c0, c1, c2, c3, c4, c5, c6, c7, c8, c9, c10, c11, c12, c13, c14, c15, c16].drop 0).take (Try.prog.cellsOf 3)) = some y0 := hf 0 _ rfl
  have h1 : DataW.trod enc Try.prog W 0 (fun _ => true) true n 3 (([c0, c1, c2, c3, c4, c5, c6, c7, c8, c9, c10, c11, c12, c13, c14, c15, c16].drop 1).take (Try.prog.cellsOf 3)) = some y1 := hf 1 _ rfl
  have h2 : DataW.trod enc Try.prog W 0 (fun _ => true) true n 3 (([c0, c1, c2, c3, c4, c5, c6, c7, c8, c9, c10, c11, c12, c13, c14, c15, c16].drop 2).take (Try.prog.cellsOf 3)) = some y2 := hf 2 _ rfl
  have h3 : DataW.trod enc Try.prog W 0 (fun _ => true) true n 3 (([c0, c1, c2, c3, c4, c5, c6, c7, c8, c9, c10, c11, c12, c13, c14, c15, c16].drop 3).take (Try.prog.cellsOf 3)) = some y3 := hf 3 _ rfl
  have h4 : DataW.trod enc Try.prog W 0 (fun _ => true) true n 3 (([c0, c1, c2, c3, c4, c5, c6, c7, c8, c9, c10, c11, c12, c13, c14, c15, c16].drop 4).take (Try.prog.cellsOf 3)) = some y4 := hf 4 _ rfl
  have h5 : DataW.trod enc Try.prog W 0 (fun _ => true) true n 3 (([c0, c1, c2, c3, c4, c5, c6, c7, c8, c9, c10, c11, c12, c13, c14, c15, c16].drop 5).take (Try.prog.cellsOf 3)) = some y5 := hf 5 _ rfl
  have h6 : DataW.trod enc Try.prog W 0 (fun _ => true) true n 3 (([c0, c1, c2, c3, c4, c5, c6, c7, c8, c9, c10, c11, c12, c13, c14, c15, c16].drop 6).take (Try.prog.cellsOf 3)) = some y6 := hf 6 _ rfl
  have h7 : DataW.trod enc Try.prog W 0 (fun _ => true) true n 3 (([c0, c1, c2, c3, c4, c5, c6, c7, c8, c9, c10, c11, c12, c13, c14, c15, c16].drop 7).take (Try.prog.cellsOf 3)) = some y7 := hf 7 _ rfl
  have h8 : DataW.trod enc Try.prog W 0 (fun _ => true) true n 32 (([c0, c1, c2, c3, c4, c5, c6, c7, c8, c9, c10, c11, c12, c13, c14, c15, c16].drop 8).take (Try.prog.cellsOf 32)) = some y8 := hf 8 _ rfl
  have h9 : DataW.trod enc Try.prog W 0 (fun _ => true) true n 33 (([c0, c1, c2, c3, c4, c5, c6, c7, c8, c9, c10, c11, c12, c13, c14, c15, c16].drop 15).take (Try.prog.cellsOf 33)) = some y9 := hf 9 _ rfl
  have h10 : DataW.trod enc Try.prog W 0 (fun _ => true) true n 34 (([c0, c1, c2, c3, c4, c5, c6, c7, c8, c9, c10, c11, c12, c13, c14, c15, c16].drop 16).take (Try.prog.cellsOf 34)) = some y10 := hf 10 _ rfl
  rw [Try.cellsWord] at h0 h1 h2 h3 h4 h5 h6 h7
  rw [Try.cellsOpn] at h8
  rw [Try.cellsSlE] at h9
  rw [Try.cellsSlK] at h10
  obtain ⟨p0, e0, _, _⟩ := DataW.trod_int Try.underlying3 h0
  obtain ⟨p1, e1, _, _⟩ := DataW.trod_int Try.underlying3 h1
  obtain ⟨p2, e2, _, _⟩ := DataW.trod_int Try.underlying3 h2
  obtain ⟨p3, e3, _, _⟩ := DataW.trod_int Try.underlying3 h3
  obtain ⟨p4, e4, _, w4⟩ := DataW.trod_int Try.underlying3 h4
  obtain ⟨p5, e5, _, w5⟩ := DataW.trod_int Try.underlying3 h5
  obtain ⟨p6, e6, _, _⟩ := DataW.trod_int Try.underlying3 h6
  obtain ⟨p7, e7, _, _⟩ := DataW.trod_int Try.underlying3 h7
  obtain ⟨q, e8⟩ := op_of h8
  simp [Opn.arr] at e0 e1 e2 e3 e4 e5 e6 e7 e8
  obtain ⟨es, hes⟩ := argE_of (v := c15) (x := y9) (by simpa using h9) (fun n hn => hw n (by
    simp only [DataW.weights, Try.underlying36]
    exact DataW.weights_mem_each (j := 9) rfl rfl n hn))
  obtain ⟨ks, hks⟩ := argK_of (v := c16) (x := y10) (by simpa using h10) (fun n hn => hw n (by
    simp only [DataW.weights, Try.underlying36]
    exact DataW.weights_mem_each (j := 10) rfl rfl n hn))
  refine ⟨⟨p0, p1, p2, p3, p4, p5, p6, p7, q, c15, c16, es, ks⟩, ?_, ⟨hes, hks⟩, w4, w5⟩
  obtain ⟨f0, f1, f2, f3, f4, f5, f6⟩ := e8
  rw [e0, e1, e2, e3, e4, e5, e6, e7, f0, f1, f2, f3, f4, f5, f6]; rfl
theorem top_of {fuel : Nat} {cs : List Value} {x : DataW H × List MemPlace} (h : DataW.trod enc Try.prog W 0 (fun _ => true) true fuel 38 cs = some x) (hw : ∀ n ∈ x.1.weights Try.prog 38, n ≤ reachBytes) : ∃ p : TOp, cs = p.vals ∧ ArgM W p.m ∧ p.wf := by
  obtain ⟨xs, n, _, rfl, hl, hlen, hf⟩ := DataW.trod_struct Try.underlying38 h
  rw [Try.cellsTo] at hl
  obtain ⟨c0, c1, cs', rfl⟩ : ∃ c0 c1 cs', cs = c0 :: c1 :: cs' := by
    cases cs with
    | nil => simp at hl
    | cons c0 cs =>
      cases cs with
      | nil => simp at hl
      | cons c1 cs' => exact ⟨c0, c1, cs', rfl⟩
  obtain ⟨y0, y1, y2, rfl⟩ := three (l := xs) (by simpa using hlen)
  have h0 : DataW.trod enc Try.prog W 0 (fun _ => true) true n 4 (((c0 :: c1 :: cs').drop 0).take (Try.prog.cellsOf 4)) = some y0 := hf 0 _ rfl
  have h1 : DataW.trod enc Try.prog W 0 (fun _ => true) true n 3 (((c0 :: c1 :: cs').drop 1).take (Try.prog.cellsOf 3)) = some y1 := hf 1 _ rfl
  have h2 : DataW.trod enc Try.prog W 0 (fun _ => true) true n 36 (((c0 :: c1 :: cs').drop 2).take (Try.prog.cellsOf 36)) = some y2 := hf 2 _ rfl
  rw [Try.cellsYes] at h0
  rw [Try.cellsWord] at h1
  rw [Try.cellsMm] at h2
  obtain ⟨p0, e0, _⟩ := DataW.trod_bool Try.underlying4 h0
  obtain ⟨p1, e1, _, _⟩ := DataW.trod_int Try.underlying3 h1
  simp at e0 e1
  have hl' : cs'.length = 17 := by simpa using hl
  have e2 : (((c0 :: c1 :: cs').drop 2).take 17) = cs' := by
    rw [List.drop_succ_cons, List.drop_succ_cons, List.drop_zero, List.take_of_length_le (by omega)]
  rw [e2] at h2
  obtain ⟨m, rfl, hm, we, wn⟩ := mmF_of h2 (fun n hn => hw n (by
    simp only [DataW.weights, Try.underlying38]
    exact DataW.weights_mem_each (j := 2) rfl rfl n hn))
  subst e0 e1
  exact ⟨⟨p0, p1, m⟩, rfl, hm, we, wn⟩
theorem rowT_of {a : Option Addr} {len cap : Nat} {d : DataW H} {ps : List MemPlace} (h : DataW.Trod enc Try.prog W 0 (fun _ => true) true 22 (.slice a len cap) d ps) (hw : ∀ n ∈ d.weights Try.prog 22, n ≤ reachBytes) :
    ∃ ops : List TOp, ops.length = len ∧ RowT W a ops ∧ len ≤ 700000000000 := by
  obtain ⟨fuel, hf⟩ := h
  rcases Go.Deep.open_slice Try.underlying22 hf with ⟨hcs, hx⟩ | ⟨a', len', cap', m, n, D, Pl, hcs, hb, hl, hm, hmm, hx, hel⟩
  · simp [Value.cells] at hcs
    obtain ⟨rfl, rfl, rfl⟩ := hcs
    exact ⟨[], rfl, .inl rfl, by omega⟩
  · simp [Value.cells] at hcs
    obtain ⟨rfl, rfl, rfl⟩ := hcs
    simp only [if_true] at hmm
    subst hmm
    simp only [Prod.mk.injEq] at hx
    obtain ⟨rfl, -⟩ := hx
    have w1 := weights_slice Try.underlying22 hw
    have w2 := weights_elems Try.underlying22 hw
    rw [Try.bytesTo] at w1
    simp [reachBytes] at w1
    by_cases h0 : len = 0
    · exact ⟨[], h0.symm, .inl rfl, by omega⟩
    have key : ∀ i, i < len → ∃ o : TOp, (∀ r u, o.vals[r]? = some u → W.cell? ((a'.add (i * 19)).add r) = some u) ∧ ArgM W o.m ∧ o.wf := by
      intro i hi
      obtain ⟨cs', hc, ht⟩ := hel i (by omega)
      rw [Try.cellsTo] at hc
      obtain ⟨_, hlen, hget⟩ := World.cells?_some hc
      obtain ⟨o, rfl, hk, ho⟩ := top_of ht (w2 (D i) (List.mem_map.2 ⟨i, List.mem_range.2 hi, rfl⟩))
      refine ⟨o, fun r u hu => ?_, hk, ho⟩
      have hr : r < 19 := by have := (List.getElem?_eq_some_iff.1 hu).1; rw [hlen] at this; exact this
      have := hget r (by omega)
      rw [hu] at this
      exact this
    have iO : Inhabited TOp := ⟨⟨false, 0, ⟨0, 0, 0, 0, 0, 0, 0, 0, ⟨0, 0, ⟨#[]⟩, 0, ⟨#[]⟩, 0, ⟨#[]⟩⟩, .slice none 0 0, .slice none 0 0, [], []⟩⟩⟩
    obtain ⟨X, hX⟩ := Go.Deep.choose_lt (α := TOp) key
    obtain ⟨b, off, spot⟩ := a'
    have hc0 := (hX 0 (by omega)).1 0 _ rfl
    have hs := World.cell?_spot hc0
    have hspot : spot = none := by simpa [Addr.add] using hs
    subst hspot
    refine ⟨(List.range len).map X, by simp, .inr ⟨b, off, rfl, cellLt hc0, fun i o ho => ?_⟩, by omega⟩
    have hi : i < len := by have := (List.getElem?_eq_some_iff.1 ho).1; simpa using this
    rw [List.getElem?_map, List.getElem?_range hi] at ho
    cases ho
    refine ⟨fun j u hu => ?_, (hX i hi).2⟩
    have := (hX i hi).1 j u hu
    rw [add_plain', add_plain'] at this
    exact this
end
/-- a message as plain data loaded whole, shut -/
theorem Try.sizeMmm : (Try.prog.info? 36).map (·.size) = some 17 := by kernel_rfl
def mmLd (v : Value) : Sem Value := Instr.loadAt 36 v
theorem loadMm (v : Value) : Instr.loadAt 36 v = mmLd v := rfl
theorem mmLd_at {w : World} {g o : Nat} {cs : Array Value} (h : ∀ j v, cs[j]? = some v → w.cell? ⟨g, o + j, none⟩ = some v) (hs : cs.size = 17) : (mmLd (.pointer (some ⟨g, o, none⟩))).run Try.prog w = .ok (.agg cs) w := by
  have := run_loadAt_mid (P := Try.prog) w g o 36 cs.toList _ (fun j v hv => h j v (by rw [← Array.getElem?_toList]; exact hv)) Try.underlying36 rfl (by rw [Array.length_toList, hs]; exact Try.sizeMmm)
  unfold mmLd
  rw [this, Array.toArray_toList]
theorem mmLd_of {w : World} {g : Nat} {cs : Array Value} {t : TypeId} {fr : Nat × Nat} (h : w.heap[g]? = some (.cells cs t fr)) (hs : cs.size = 17) : (mmLd (.pointer (some ⟨g, 0, none⟩))).run Try.prog w = .ok (.agg cs) w := by
  unfold mmLd Instr.loadAt Instr.sureAddr
  simp [run_loadVar_row w g t 36 cs fr _ h Try.underlying36 rfl (by rw [hs]; exact Try.sizeMmm)]
attribute [irreducible] mmLd
def mmSt (a v : Value) : Sem Unit := Instr.storeAt 36 a v
theorem storeMm (a v : Value) : Instr.storeAt 36 a v = mmSt a v := rfl
theorem mmSt_of {w W : World} {g : Nat} {old cs : Array Value} {t : TypeId} (h : w.heap[g]? = some (.cells old t (0, 0))) (ho : old.size = 17) (hs : cs.size = 17) (h1 : cs.all (·.oneCell') = true) (hW : w.setRow g cs = W) : (mmSt (.pointer (some ⟨g, 0, none⟩)) (.agg cs)).run Try.prog w = .ok () W := by
  subst hW
  unfold mmSt Instr.storeAt Instr.sureAddr
  simp [run_storeVar_row w g t 36 old cs h (by rw [hs]; exact Try.sizeMmm) (by rw [ho, hs]) h1]
attribute [irreducible] mmSt
theorem Mm.size (m : Mm) : m.arr.size = 17 := rfl
theorem RowT.msg {w : World} {b off i : Nat} {x : TOp} (h : ∀ j u, x.vals[j]? = some u → w.cell? ⟨b, off + i * 19 + j, none⟩ = some u) : (mmLd (.pointer (some ⟨b, off + i * 19 + 2, none⟩))).run Try.prog w = .ok (.agg x.m.arr) w :=
  mmLd_at (fun j v hv => by
    have := h (j + 2) v (by unfold TOp.vals; rw [List.getElem?_cons_succ, List.getElem?_cons_succ, Array.getElem?_toList]; exact hv)
    rw [show off + i * 19 + (j + 2) = off + i * 19 + 2 + j by omega] at this; exact this) x.m.size
end
section
open Go.RowKit Go.Shelf
theorem Try.sizeTop : (Try.prog.info? 38).map (·.size) = some 19 := by kernel_rfl
/-- a script's call loaded and stored whole, shut -/
def toLd (v : Value) : Sem Value := Instr.loadAt 38 v
theorem loadTo (v : Value) : Instr.loadAt 38 v = toLd v := rfl
theorem toLd_at {w : World} {g o : Nat} {cs : Array Value} (h : ∀ j v, cs[j]? = some v → w.cell? ⟨g, o + j, none⟩ = some v) (hs : cs.size = 19) : (toLd (.pointer (some ⟨g, o, none⟩))).run Try.prog w = .ok (.agg cs) w := by
  have := run_loadAt_mid (P := Try.prog) w g o 38 cs.toList _ (fun j v hv => h j v (by rw [← Array.getElem?_toList]; exact hv)) Try.underlying38 rfl (by rw [Array.length_toList, hs]; exact Try.sizeTop)
  unfold toLd
  rw [this, Array.toArray_toList]
attribute [irreducible] toLd
def toSt (a v : Value) : Sem Unit := Instr.storeAt 38 a v
theorem storeTo (a v : Value) : Instr.storeAt 38 a v = toSt a v := rfl
theorem toSt_of {w W : World} {g : Nat} {old cs : Array Value} {t : TypeId} (h : w.heap[g]? = some (.cells old t (0, 0))) (ho : old.size = 19) (hs : cs.size = 19) (h1 : cs.all (·.oneCell') = true) (hW : w.setRow g cs = W) : (toSt (.pointer (some ⟨g, 0, none⟩)) (.agg cs)).run Try.prog w = .ok () W := by
  subst hW
  unfold toSt Instr.storeAt Instr.sureAddr
  simp [run_storeVar_row w g t 38 old cs h (by rw [hs]; exact Try.sizeTop) (by rw [ho, hs]) h1]
attribute [irreducible] toSt
attribute [local go_sem ↓ high] loadMsg storeMsg buildMsg storeAct loadAct buildAct loadMm storeMm loadTo storeTo
attribute [local go_sem high] run_store_complex eqC
theorem neqC (w : World) (a b c d : Nat) : (binOp .neq 43 (.complex .f64 a b) (.complex .f64 c d)).run Try.prog w = .ok (.bool (!(Op.floatEq .f64 a c && Op.floatEq .f64 b d))) w := by
  simp [binOp, Op.complexOp, Op.Complex.cmp, Op.floatEq, Op.floatCmp, asBool]
attribute [local go_sem high] neqC
theorem TOp.size (x : TOp) : x.arr.size = 19 := rfl
theorem TOp.arr_get {x : TOp} {j : Nat} {v : Value} (h : x.m.arr[j]? = some v) : x.arr[j + 2]? = some v := by
  unfold TOp.arr TOp.vals
  rw [List.getElem?_toArray, List.getElem?_cons_succ, List.getElem?_cons_succ, Array.getElem?_toList]; exact h
theorem TOp.one {w : World} {x : TOp} (h : ArgM w x.m) : x.arr.all (·.oneCell') = true := by
  obtain ⟨ae, ce, he, _⟩ := h.es
  obtain ⟨ak, ck, hk, _⟩ := h.ks
  simp [TOp.arr, TOp.vals, Mm.arr, Value.oneCell', he, hk]
theorem Mk.same {a b c d : Nat} {e n : Int} (h : Mk a b e n) (k : Mk c d e n) : Op.floatEq .f64 a c = true ∧ Op.floatEq .f64 b d = true := by
  rw [floatEq_whole h.ha k.ha, floatEq_whole h.hb k.hb]; simp
theorem Mk.notLater {a b c d : Nat} {e n e' n' : Int} (h : Mk a b e n) (k : Mk c d e' n') (hr : e < e' ∨ (e' = e ∧ n ≤ n')) : laterB a b c d = false := by
  unfold laterB
  rw [h.good, k.good, h.pa, h.pb, k.pa, k.pb, decide_eq_false (by omega)]; rfl
/-- the law's tide, its message's box, and the messages that were held -/
structure Rz (w W : World) (t : Nat) (S : Ts) (F : Nat → Prop) (gm : Nat) (z : Hm) (v : Value) (l : List Hm) : Prop where
  lt : Lt w W t S F
  box : W.heap[gm]? = some (.cells z.arr 45 (0, 0))
  fg : F gm
  held : Msgs W 0 v l
  own : ∀ q, v.ownBlock = some q → F q
theorem Rz.below {w W V : World} {t : Nat} {S : Ts} {F : Nat → Prop} {gm : Nat} {z : Hm} {v : Value} {l : List Hm} (h : Rz w W t S F gm z v l) (hb : Below W.heap.size W V) : Rz w V t S F gm z v l := ⟨h.lt.below hb, hkeep h.box hb, h.fg, h.held.below hb, h.own⟩
theorem Rz.on {w W V : World} {t : Nat} {S S' : Ts} {F : Nat → Prop} {gm : Nat} {z : Hm} {v : Value} {l : List Hm} (h : Rz w W t S F gm z v l) (hl : Lt w V t S' F) (hk : Kt F W V) : Rz w V t S' F gm z v l := ⟨hl, (hk.mine gm h.fg (Array.getElem?_eq_some_iff.1 h.box).1).trans h.box, h.fg, ⟨hk.rowM h.held.row h.own, fun a ha => hk.lists (h.held.each a ha)⟩, h.own⟩
theorem Msgs.down {w : World} {B B' : Nat} {v : Value} {l : List Hm} (k : Msgs w B v l) (hb : B' ≤ B) : Msgs w B' v l := ⟨owns_le k.row hb, fun a ha => (k.each a ha).down hb⟩
/-- the message's box, filled -/
theorem rz_of {w wr w5 w6 W7 W8 : World} {t gm : Nat} {S : Ts} {z : Hm} {v : Value} {l : List Hm} {old : Array Value} (h : Lt w wr t S (fun _ => False)) (hm : Msgs w5 wr.heap.size v l) (hb5 : Below wr.heap.size wr w5) (hb6 : Below w5.heap.size w5 w6) (hz : Lists w6 w5.heap.size z) (hgm : w6.heap.size = gm) (hW7 : w6.alloc (.cells old 45) = W7) (hW8 : W7.setRow gm z.arr = W8) :
    (Rz w W8 t S (fun k => False ∨ (wr.heap.size ≤ k ∧ k < W8.heap.size)) gm z v l ∧ Lists W8 0 z) ∧ (msgLd (.pointer (some ⟨gm, 0, none⟩))).run Try.prog W8 = .ok (.agg z.arr) W8 := by
  have hb7 := boxB hW7
  rw [hgm] at hb7
  have b7 : Below w6.heap.size w6 W7 := by rw [hgm]; exact hb7.2
  have o8 : Only (· = gm) W7 W8 := by rw [← hW8]; exact onlyR _ _ _
  have hx8 : W8.heap[gm]? = some (.cells z.arr 45 (0, 0)) := by rw [← hW8]; exact setRow_heap _ _ _ _ _ _ hb7.1
  have b8 : Below w6.heap.size w6 W8 := o8.below b7 b7.size (fun k hk => by rw [hk, hgm]; exact Nat.le_refl _)
  have b58 : Below w5.heap.size w5 W8 := chainB hb6 b8
  have hlt8 : gm < W8.heap.size := (Array.getElem?_eq_some_iff.1 hx8).1
  have hlow : wr.heap.size ≤ gm := by rw [← hgm]; exact Nat.le_trans hb5.size hb6.size
  refine ⟨⟨⟨?_, hx8, .inr ⟨hlow, hlt8⟩, (hm.below b58).down (Nat.zero_le _), fun q hq => .inr ?_⟩, (hz.below b8).down (Nat.zero_le _)⟩, msgLd_of hx8 z.size⟩
  · exact h.add (chainB hb5 b58)
  · have := World.ownsRow.lt hm.row q hq
    exact ⟨this.1, Nat.lt_of_lt_of_le this.2 b58.size⟩
end
end Go.Proofs.Ytpmcecenhgppbaa
