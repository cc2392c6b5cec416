/- A message as plain data among the arguments, with the bounds of its mark's parts. -/
import Derived.Test.YtihjhaafmdobmaaWlG
namespace Go.Proofs.Ytihjhaafmdobmaa
open Go.ChangeShapes Go.WideShapes Go.ChangeAt Go.RowKit Go.Joins

set_option maxRecDepth 100000 in
/-- a message as plain data, by value -/
theorem mm_wof {H : Type} {enc : TypeId × Value → H} {W : World} {r : Reach} {b0 : Nat} {v : Value} {d : DataW H} {ps : List MemPlace} (hv : Value.okWide Try.prog W r b0 52 v) (h : DataW.Trod enc Try.prog W 0 (fun _ => true) true 52 v d ps) (hw : ∀ n ∈ d.weights Try.prog 52, n ≤ reachBytes) : ∃ m : Mm, v = .agg m.arr ∧ ArgM W m ∧ (Lit.int .i64 m.ep).wf = true ∧ (Lit.int .i64 m.nb).wf = true := by
  obtain ⟨cs, rfl, hsz⟩ := okWide_struct Try.underlying52 hv
  obtain ⟨fuel, hf0⟩ := h
  obtain ⟨xs, n, _, hx, hl, hlen, hf⟩ := DataW.trod_struct Try.underlying52 hf0
  rw [Try.cellsMm] at hl
  have e : (Value.agg cs).cells.toList = cs.toList := rfl
  rw [e] at hl hf
  obtain ⟨c0, c1, c2, c3, c4, c5, c6, c7, c8, c9, c10, c11, c12, c13, c14, c15, c16, hcs⟩ := seventeen hl
  obtain ⟨y0, y1, y2, y3, y4, y5, y6, y7, y8, y9, y10, rfl⟩ := eleven (l := xs) (by simpa using hlen)
  rw [hcs] at hf
  have h0 : DataW.trod enc Try.prog W 0 (fun _ => true) true n 3 (([c0, c1, c2, c3, c4, c5, c6, c7, c8, c9, c10, c11, c12, c13, c14, c15, c16].drop 0).take (Try.prog.cellsOf 3)) = some y0 := hf 0 _ rfl
  have h1 : DataW.trod enc Try.prog W 0 (fun _ => true) true n 3 (([c0, c1, c2, c3, c4, c5, c6, c7, c8, c9, c10, c11, c12, c13, c14, c15, c16].drop 1).take (Try.prog.cellsOf 3)) = some y1 := hf 1 _ rfl
  have h2 : DataW.trod enc Try.prog W 0 (fun _ => true) true n 3 (([c0, c1, c2, c3, c4, c5, c6, c7, c8, c9, c10, c11, c12, c13, c14, c15, c16].drop 2).take (Try.prog.cellsOf 3)) = some y2 := hf 2 _ rfl
  have h3 : DataW.trod enc Try.prog W 0 (fun _ => true) true n 3 (([c0, c1, c2, c3, c4, c5, c6, c7, c8, c9, c10, c11, c12, c13, c14, c15, c16].drop 3).take (Try.prog.cellsOf 3)) = some y3 := hf 3 _ rfl
  have h4 : DataW.trod enc Try.prog W 0 (fun _ => true) true n 3 (([c0, c1, c2, c3, c4, c5, c6, c7, c8, c9, c10, c11, c12, c13, c14, c15, c16].drop 4).take (Try.prog.cellsOf 3)) = some y4 := hf 4 _ rfl
  have h5 : DataW.trod enc Try.prog W 0 (fun _ => true) true n 3 (([c0, c1, c2, c3, c4, c5, c6, c7, c8, c9, c10, c11, c12, c13, c14, c15, c16].drop 5).take (Try.prog.cellsOf 3)) = some y5 := hf 5 _ rfl
  have h6 : DataW.trod enc Try.prog W 0 (fun _ => true) true n 3 (([c0, c1, c2, c3, c4, c5, c6, c7, c8, c9, c10, c11, c12, c13, c14, c15, c16].drop 6).take (Try.prog.cellsOf 3)) = some y6 := hf 6 _ rfl
  have h7 : DataW.trod enc Try.prog W 0 (fun _ => true) true n 3 (([c0, c1, c2, c3, c4, c5, c6, c7, c8, c9, c10, c11, c12, c13, c14, c15, c16].drop 7).take (Try.prog.cellsOf 3)) = some y7 := hf 7 _ rfl
  have h8 : DataW.trod enc Try.prog W 0 (fun _ => true) true n 38 (([c0, c1, c2, c3, c4, c5, c6, c7, c8, c9, c10, c11, c12, c13, c14, c15, c16].drop 8).take (Try.prog.cellsOf 38)) = some y8 := hf 8 _ rfl
  have h9 : DataW.trod enc Try.prog W 0 (fun _ => true) true n 22 (([c0, c1, c2, c3, c4, c5, c6, c7, c8, c9, c10, c11, c12, c13, c14, c15, c16].drop 15).take (Try.prog.cellsOf 22)) = some y9 := hf 9 _ rfl
  have h10 : DataW.trod enc Try.prog W 0 (fun _ => true) true n 34 (([c0, c1, c2, c3, c4, c5, c6, c7, c8, c9, c10, c11, c12, c13, c14, c15, c16].drop 16).take (Try.prog.cellsOf 34)) = some y10 := hf 10 _ rfl
  rw [Try.cellsWord] at h0 h1 h2 h3 h4 h5 h6 h7
  rw [Try.cellsOpn] at h8
  rw [Try.cellsSlE] at h9
  rw [Try.cellsSlK] at h10
  obtain ⟨p0, e0, _, _⟩ := DataW.trod_int Try.underlying3 h0
  obtain ⟨p1, e1, _, _⟩ := DataW.trod_int Try.underlying3 h1
  obtain ⟨p2, e2, _, _⟩ := DataW.trod_int Try.underlying3 h2
  obtain ⟨p3, e3, _, _⟩ := DataW.trod_int Try.underlying3 h3
  obtain ⟨p4, e4, _, w4⟩ := DataW.trod_int Try.underlying3 h4
  obtain ⟨p5, e5, _, w5⟩ := DataW.trod_int Try.underlying3 h5
  obtain ⟨p6, e6, _, _⟩ := DataW.trod_int Try.underlying3 h6
  obtain ⟨p7, e7, _, _⟩ := DataW.trod_int Try.underlying3 h7
  obtain ⟨q, e8⟩ := op_of h8
  simp [Opn.arr] at e0 e1 e2 e3 e4 e5 e6 e7 e8
  simp only [Prod.mk.injEq] at hx
  rw [hx.1] at hw
  obtain ⟨es, hes⟩ := argE_of (v := c15) (x := y9) (by simpa using h9) (fun n hn => hw n (by
    simp only [DataW.weights, Try.underlying52]
    exact DataW.weights_mem_each (j := 9) rfl rfl n hn))
  obtain ⟨ks, hks⟩ := argK_of (v := c16) (x := y10) (by simpa using h10) (fun n hn => hw n (by
    simp only [DataW.weights, Try.underlying52]
    exact DataW.weights_mem_each (j := 10) rfl rfl n hn))
  refine ⟨⟨p0, p1, p2, p3, p4, p5, p6, p7, q, c15, c16, es, ks⟩, ?_, ⟨hes, hks⟩, w4, w5⟩
  obtain ⟨f0, f1, f2, f3, f4, f5, f6⟩ := e8
  have : cs.toList = (Mm.arr ⟨p0, p1, p2, p3, p4, p5, p6, p7, q, c15, c16, es, ks⟩).toList := by
    rw [hcs, e0, e1, e2, e3, e4, e5, e6, e7, f0, f1, f2, f3, f4, f5, f6]; rfl
  rw [Array.toList_inj.1 this]
end Go.Proofs.Ytihjhaafmdobmaa
