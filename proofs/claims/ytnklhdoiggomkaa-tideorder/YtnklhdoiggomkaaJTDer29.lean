/- A list of ints among the arguments: its cells, out of how it reads. -/
import Derived.Test.YtnklhdoiggomkaaJTDer26
import Derived.ProofKit
import Derived.OpenShut
import Derived.Deep.Slices
import Derived.Lib.SmallJoins
namespace Go.Proofs.Ytnklhdoiggomkaa
section
open Go.ChangeShapes Go.WideShapes Go.ChangeAt Go.RowKit Go.Joins

theorem Try.cellsWord : Try.prog.cellsOf 3 = 1 := by kernel_rfl
theorem Try.bytesWord : Try.prog.bytesOf 3 = 8 := by kernel_rfl

theorem cell_lt {w : World} {p : Addr} {v : Value} (h : w.cell? p = some v) : p.block < w.heap.size := by
  unfold World.cell? at h
  by_cases c : p.block < w.heap.size
  · exact c
  · rw [Array.getElem?_eq_none (by omega)] at h
    simp at h

theorem rowI_of {H : Type} {enc : TypeId × Value → H} {W : World} {a : Option Addr} {len cap : Nat} {d : DataW H} {ps : List MemPlace}
    (h : DataW.Trod enc Try.prog W 0 (fun _ => true) true 60 (.slice a len cap) d ps) :
    (∃ A, RowI W a len A) ∧ (len = 0 ∨ ∃ elems spare, d = .slice elems spare ∧ elems.length = len) := by
  obtain ⟨fuel, hf⟩ := h
  rcases Go.Deep.open_slice Try.underlying60 hf with ⟨hcs, hx⟩ | ⟨a', len', cap', m, n, D, Pl, hcs, hb, hl, hm, hmm, hx, hel⟩
  · simp [Value.cells] at hcs
    obtain ⟨rfl, rfl, rfl⟩ := hcs
    exact ⟨⟨fun _ => 0, .inl rfl⟩, .inl rfl⟩
  · simp [Value.cells] at hcs
    obtain ⟨rfl, rfl, rfl⟩ := hcs
    simp only [if_true] at hmm
    subst hmm
    simp only [Prod.mk.injEq] at hx
    refine ⟨?_, .inr ⟨_, _, hx.1, by simp⟩⟩
    by_cases h0 : len = 0
    · exact ⟨fun _ => 0, .inl h0⟩
    have key : ∀ i, i < len → ∃ x : Int, W.cell? (a'.add (i * 1)) = some (.int .i64 x) ∧ (Lit.int .i64 x).wf = true := by
      intro i hi
      obtain ⟨cs', hc, ht⟩ := hel i (by omega)
      rw [Try.cellsWord] at hc
      obtain ⟨_, hlen, hget⟩ := World.cells?_some hc
      obtain ⟨c0, rfl⟩ : ∃ c0, cs' = [c0] := by
        match cs', hlen with
        | [c0], _ => exact ⟨c0, rfl⟩
      obtain ⟨p, e0, _, wp⟩ := DataW.trod_int Try.underlying3 ht
      have g0 := hget 0 (by omega)
      simp at e0 g0
      subst e0
      refine ⟨p, ?_, wp⟩
      simpa [Addr.add] using g0
    obtain ⟨X, hX⟩ := Go.Deep.choose_lt (α := Int) key
    obtain ⟨b, off, spot⟩ := a'
    have hs := World.cell?_spot (hX 0 (by omega)).1
    have hspot : spot = none := by simpa [Addr.add] using hs
    subst hspot
    have hadd : ∀ i, (⟨b, off, none⟩ : Addr).add i = ⟨b, off + i, none⟩ := fun i => by rw [Go.WideShapes.add_plain]
    refine ⟨X, .inr ⟨b, off, rfl, ?_, fun i hi => ?_⟩⟩
    · exact cell_lt (hX 0 (by omega)).1
    · have := hX i hi
      rw [hadd, Nat.mul_one] at this
      exact this
end
end Go.Proofs.Ytnklhdoiggomkaa
