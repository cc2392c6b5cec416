/- A script among the arguments: its cells, out of how it reads. -/
import Derived.Test.YtfomnnlilmahhaaRfT
import Derived.ProofKit
import Derived.OpenShut
import Derived.Deep.Slices
import Derived.Lib.SmallJoins
namespace Go.Proofs.Ytfomnnlilmahhaa
open Go.ChangeShapes Go.WideShapes Go.ChangeAt Go.RowKit Go.Joins

theorem Try.cellsOp : Try.prog.cellsOf 34 = 4 := by kernel_rfl
theorem Try.cellsWord : Try.prog.cellsOf 3 = 1 := by kernel_rfl
theorem Try.bytesOp : Try.prog.bytesOf 34 = 32 := by kernel_rfl

theorem rowO_of {H : Type} {enc : TypeId × Value → H} {W : World} {a : Option Addr} {len cap : Nat} {d : DataW H} {ps : List MemPlace}
    (h : DataW.Trod enc Try.prog W 0 (fun _ => true) true 22 (.slice a len cap) d ps) :
    (∃ K A L F, RowO W a len K A L F) ∧ (len = 0 ∨ ∃ elems spare, d = .slice elems spare ∧ elems.length = len) := by
  obtain ⟨fuel, hf⟩ := h
  rcases Go.Deep.open_slice Try.underlying22 hf with ⟨hcs, hx⟩ | ⟨a', len', cap', m, n, D, Pl, hcs, hb, hl, hm, hmm, hx, hel⟩
  · simp [Value.cells] at hcs
    obtain ⟨rfl, rfl, rfl⟩ := hcs
    exact ⟨⟨fun _ => 0, fun _ => 0, fun _ => 0, fun _ => 0, .inl rfl⟩, .inl rfl⟩
  · simp [Value.cells] at hcs
    obtain ⟨rfl, rfl, rfl⟩ := hcs
    simp only [if_true] at hmm
    subst hmm
    simp only [Prod.mk.injEq] at hx
    refine ⟨?_, .inr ⟨_, _, hx.1, by simp⟩⟩
    by_cases h0 : len = 0
    · exact ⟨fun _ => 0, fun _ => 0, fun _ => 0, fun _ => 0, .inl h0⟩
    have key : ∀ i, i < len → ∃ x : Int × Int × Int × Int, W.cell? (a'.add (i * 4)) = some (.int .i64 x.1) ∧ W.cell? ((a'.add (i * 4)).add 1) = some (.int .i64 x.2.1) ∧ W.cell? ((a'.add (i * 4)).add 2) = some (.int .i64 x.2.2.1) ∧ W.cell? ((a'.add (i * 4)).add 3) = some (.int .i64 x.2.2.2) ∧ (Lit.int .i64 x.2.1).wf = true := by
      intro i hi
      obtain ⟨cs', hc, ht⟩ := hel i (by omega)
      rw [Try.cellsOp] at hc
      obtain ⟨_, hlen, hget⟩ := World.cells?_some hc
      obtain ⟨c0, c1, c2, c3, rfl⟩ : ∃ c0 c1 c2 c3, cs' = [c0, c1, c2, c3] := by
        match cs', hlen with
        | [c0, c1, c2, c3], _ => exact ⟨c0, c1, c2, c3, rfl⟩
      obtain ⟨y0, y1, y2, y3, k, _, _, t0, t1, t2, t3⟩ := trod_struct4 Try.underlying34 ht
      obtain ⟨p0, e0, _, w0⟩ := DataW.trod_int Try.underlying3 t0
      obtain ⟨p1, e1, _, w1⟩ := DataW.trod_int Try.underlying3 t1
      obtain ⟨p2, e2, _, w2⟩ := DataW.trod_int Try.underlying3 t2
      obtain ⟨p3, e3, _, w3⟩ := DataW.trod_int Try.underlying3 t3
      have g0 := hget 0 (by omega)
      have g1 := hget 1 (by omega)
      have g2 := hget 2 (by omega)
      have g3 := hget 3 (by omega)
      rw [Try.cellsWord] at e0 e1 e2 e3
      simp at e0 e1 e2 e3 g0 g1 g2 g3
      subst e0 e1 e2 e3
      refine ⟨(p0, p1, p2, p3), ?_, g1, g2, g3, w1⟩
      simpa [Addr.add] using g0
    obtain ⟨X, hX⟩ := Go.Deep.choose_lt (α := Int × Int × Int × Int) key
    obtain ⟨b, off, spot⟩ := a'
    have hs := World.cell?_spot (hX 0 (by omega)).1
    have hspot : spot = none := by simpa [Addr.add] using hs
    subst hspot
    have hadd : ∀ i, (⟨b, off, none⟩ : Addr).add i = ⟨b, off + i, none⟩ := fun i => by rw [Go.WideShapes.add_plain]
    have hadd2 : ∀ i j, (⟨b, off + i, none⟩ : Addr).add j = ⟨b, off + i + j, none⟩ := fun i j => by rw [Go.WideShapes.add_plain]
    refine ⟨fun i => (X i).1, fun i => (X i).2.1, fun i => (X i).2.2.1, fun i => (X i).2.2.2, .inr ⟨b, off, rfl, ?_, fun i hi => ?_⟩⟩
    · exact cellLt (hX 0 (by omega)).1
    · have := hX i hi
      rw [hadd, hadd2, hadd2, hadd2] at this
      exact ⟨this.1, this.2.1, this.2.2.1, this.2.2.2.1, (bounds_i64 this.2.2.2.2).2⟩
end Go.Proofs.Ytfomnnlilmahhaa
