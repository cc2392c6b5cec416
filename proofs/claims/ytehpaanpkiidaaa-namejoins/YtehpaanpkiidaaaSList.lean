/- A list of texts among the arguments: its cells, out of how it reads. -/
import Derived.Test.YtehpaanpkiidaaaNmP
import Derived.ProofKit
import Derived.OpenShut
import Derived.Deep.Strs
import Derived.Lib.SmallJoins
namespace Go.Proofs.Ytehpaanpkiidaaa
open Go.ChangeShapes Go.WideShapes Go.ChangeAt Go.RowKit Go.Joins

theorem Try.cellsText : Try.prog.cellsOf 9 = 1 := by kernel_rfl
theorem cell_lt {w : World} {p : Addr} {v : Value} (h : w.cell? p = some v) : p.block < w.heap.size := by
  unfold World.cell? at h
  by_cases c : p.block < w.heap.size
  · exact c
  · rw [Array.getElem?_eq_none (by omega)] at h
    simp at h

theorem rowS_of {H : Type} {enc : TypeId × Value → H} {W : World} {a : Option Addr} {len cap : Nat} {d : DataW H} {ps : List MemPlace}
    (h : DataW.Trod enc Try.prog W 0 (fun _ => true) true 27 (.slice a len cap) d ps) :
    ∃ l : List ByteArray, len = l.length ∧ RowS W a l ∧ (l.length ≤ cap ∧ cap ≤ maxLen) := by
  obtain ⟨fuel, hf⟩ := h
  rcases Go.Deep.open_strs Try.underlying27 Try.underlying9 Try.cellsText hf with ⟨hcs, hx⟩ | ⟨a', len', cap', m, Sx, hcs, hb, hl, hm, hmm, hx, hel⟩
  · simp [Value.cells] at hcs
    obtain ⟨rfl, rfl, rfl⟩ := hcs
    exact ⟨[], rfl, .inl rfl, Nat.le_refl _, Nat.zero_le _⟩
  · simp [Value.cells] at hcs
    obtain ⟨rfl, rfl, rfl⟩ := hcs
    simp only [if_true] at hmm
    subst hmm
    refine ⟨(List.range len).map Sx, by simp, ?_, by simp; exact hl, hm⟩
    by_cases h0 : len = 0
    · subst h0; exact .inl rfl
    obtain ⟨b, off, spot⟩ := a'
    have hs := World.cell?_spot (hel 0 (by omega)).1
    have hspot : spot = none := by simpa [Addr.add] using hs
    subst hspot
    have hadd : ∀ i, (⟨b, off, none⟩ : Addr).add i = ⟨b, off + i, none⟩ := fun i => by rw [Go.WideShapes.add_plain]
    refine .inr ⟨b, off, rfl, cell_lt (hel 0 (by omega)).1, fun i x hx' => ?_⟩
    have hi : i < len := by have := (List.getElem?_eq_some_iff.1 hx').1; simpa using this
    have := (hel i (by omega)).1
    rw [hadd] at this
    rw [this]
    simp [hi] at hx'
    rw [hx']
end Go.Proofs.Ytehpaanpkiidaaa
