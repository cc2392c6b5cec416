/- A list of pairs among the arguments: its cells, out of how it reads. -/
import Derived.Test.YtiecakeeekeidabLists
import Derived.ProofKit
import Derived.OpenShut
import Derived.Deep.Slices
import Derived.Lib.SmallJoins
namespace Go.Proofs.Ytiecakeeekeidab
open Go.ChangeShapes Go.WideShapes Go.ChangeAt Go.RowKit Go.Joins

theorem Try.cellsPair : Try.prog.cellsOf 23 = 2 := by kernel_rfl
theorem Try.cellsWord : Try.prog.cellsOf 3 = 1 := by kernel_rfl
theorem Try.bytesPair : Try.prog.bytesOf 23 = 16 := by kernel_rfl

theorem cell_lt {w : World} {p : Addr} {v : Value} (h : w.cell? p = some v) : p.block < w.heap.size := by
  unfold World.cell? at h
  by_cases c : p.block < w.heap.size
  · exact c
  · rw [Array.getElem?_eq_none (by omega)] at h
    simp at h

theorem rowP_of {H : Type} {enc : TypeId × Value → H} {W : World} {a : Option Addr} {len cap : Nat} {d : DataW H} {ps : List MemPlace}
    (h : DataW.Trod enc Try.prog W 0 (fun _ => true) true 36 (.slice a len cap) d ps) :
    (∃ A B, RowP W a len A B) ∧ (len = 0 ∨ ∃ elems spare, d = .slice elems spare ∧ elems.length = len) := by
  obtain ⟨fuel, hf⟩ := h
  rcases Go.Deep.open_slice Try.underlying36 hf with ⟨hcs, hx⟩ | ⟨a', len', cap', m, n, D, Pl, hcs, hb, hl, hm, hmm, hx, hel⟩
  · simp [Value.cells] at hcs
    obtain ⟨rfl, rfl, rfl⟩ := hcs
    exact ⟨⟨fun _ => 0, fun _ => 0, .inl rfl⟩, .inl rfl⟩
  · simp [Value.cells] at hcs
    obtain ⟨rfl, rfl, rfl⟩ := hcs
    simp only [if_true] at hmm
    subst hmm
    simp only [Prod.mk.injEq] at hx
    refine ⟨?_, .inr ⟨_, _, hx.1, by simp⟩⟩
    by_cases h0 : len = 0
    · exact ⟨fun _ => 0, fun _ => 0, .inl h0⟩
    have key : ∀ i, i < len → ∃ x : Int × Int, W.cell? (a'.add (i * 2)) = some (.int .i64 x.1) ∧ W.cell? ((a'.add (i * 2)).add 1) = some (.int .i64 x.2) ∧ (Lit.int .i64 x.1).wf = true ∧ (Lit.int .i64 x.2).wf = true := by
      intro i hi
      obtain ⟨cs', hc, ht⟩ := hel i (by omega)
      rw [Try.cellsPair] at hc
      obtain ⟨_, hlen, hget⟩ := World.cells?_some hc
      obtain ⟨c0, c1, rfl⟩ : ∃ c0 c1, cs' = [c0, c1] := by
        match cs', hlen with
        | [c0, c1], _ => exact ⟨c0, c1, rfl⟩
      obtain ⟨y0, y1, k, _, _, t0, t1⟩ := trod_struct2 Try.underlying23 ht
      obtain ⟨p, e0, _, wp⟩ := DataW.trod_int Try.underlying3 t0
      obtain ⟨q, e1, _, wq⟩ := DataW.trod_int Try.underlying3 t1
      have g0 := hget 0 (by omega)
      have g1 := hget 1 (by omega)
      rw [Try.cellsWord] at e0 e1
      simp at e0 e1 g0 g1
      subst e0 e1
      refine ⟨(p, q), ?_, g1, wp, wq⟩
      simpa [Addr.add] using g0
    obtain ⟨X, hX⟩ := Go.Deep.choose_lt (α := Int × Int) key
    obtain ⟨b, off, spot⟩ := a'
    have hs := World.cell?_spot (hX 0 (by omega)).1
    have hspot : spot = none := by simpa [Addr.add] using hs
    subst hspot
    have hadd : ∀ i, (⟨b, off, none⟩ : Addr).add i = ⟨b, off + i, none⟩ := fun i => by rw [Go.WideShapes.add_plain]
    have hadd2 : ∀ i j, (⟨b, off + i, none⟩ : Addr).add j = ⟨b, off + i + j, none⟩ := fun i j => by rw [Go.WideShapes.add_plain]
    refine ⟨fun i => (X i).1, fun i => (X i).2, .inr ⟨b, off, rfl, ?_, fun i hi => ?_⟩⟩
    · exact cell_lt (hX 0 (by omega)).1
    · have := hX i hi
      rw [hadd, hadd2] at this
      exact this

end Go.Proofs.Ytiecakeeekeidab
