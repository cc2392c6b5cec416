/- Bytes, slices of bytes and scripts among the arguments: their cells, out of how they read. -/
import Derived.Test.YtminjmlneikllaaBgO
import Derived.ProofKit
import Derived.OpenShut
import Derived.Deep.Slices
import Derived.SizedLaws
import Derived.Lib.SmallJoins
namespace Go.Proofs.Ytminjmlneikllaa
open Go.ChangeShapes Go.WideShapes Go.ChangeAt Go.RowKit Go.Joins

theorem Try.cellsU : Try.prog.cellsOf 5 = 1 := by kernel_rfl
theorem Try.cellsS : Try.prog.cellsOf 31 = 1 := by kernel_rfl
theorem Try.cellsI : Try.prog.cellsOf 3 = 1 := by kernel_rfl
theorem Try.cellsOp : Try.prog.cellsOf 33 = 4 := by kernel_rfl
theorem Try.bytesU : Try.prog.bytesOf 5 = 1 := by kernel_rfl
theorem Try.bytesS : Try.prog.bytesOf 31 = 24 := by kernel_rfl
theorem Try.bytesOp : Try.prog.bytesOf 33 = 48 := by kernel_rfl

theorem weightsAll_mem {H : Type} {P : Program} {e : TypeId} {d : DataW H} {n : Nat} : ∀ {ds : List (DataW H)}, d ∈ ds → n ∈ d.weights P e → n ∈ DataW.weightsAll P e ds
  | [], h, _ => by cases h
  | d0 :: ds, h, hn => by
    simp only [DataW.weightsAll, List.mem_append]
    rcases List.mem_cons.1 h with rfl | h
    · exact .inl hn
    · exact .inr (weightsAll_mem h hn)
/-- what a slice weighs, and its elements -/
theorem weights_slice {H : Type} {P : Program} {t e : TypeId} {elems spare : List (DataW H)} (hu : P.underlying t = some (.slice e)) (h : ∀ n ∈ (DataW.slice elems spare).weights P t, n ≤ reachBytes) : elems.length * P.bytesOf e ≤ reachBytes ∧ ∀ d ∈ elems, ∀ n ∈ d.weights P e, n ≤ reachBytes := by
  simp only [DataW.weights, hu] at h
  refine ⟨Nat.le_trans (Nat.mul_le_mul_right _ (Nat.le_add_right _ _)) (h _ (List.mem_cons_self ..)), fun d hd n hn => h n ?_⟩
  exact List.mem_cons_of_mem _ (List.mem_append_left _ (weightsAll_mem hd hn))

/-- a script that came in -/
def RowQ (w : World) (a : Option Addr) (len : Nat) (K A T : Nat → Int) (V : Nat → Value) (L : Nat → List Int) : Prop :=
  len = 0 ∨ ∃ b off, a = some ⟨b, off, none⟩ ∧ b < w.heap.size ∧ ∀ i, i < len → w.cell? ⟨b, off + i * 4, none⟩ = some (.int .i64 (K i)) ∧ w.cell? ⟨b, off + i * 4 + 1, none⟩ = some (.int .i64 (A i)) ∧ w.cell? ⟨b, off + i * 4 + 2, none⟩ = some (.int .i64 (T i)) ∧ w.cell? ⟨b, off + i * 4 + 3, none⟩ = some (V i) ∧ RB w (V i) (L i) ∧ (L i).length ≤ LB

section
variable {H : Type} {enc : TypeId × Value → H} {W : World}

theorem bytes_tr {fuel : Nat} {v : Value} {x : DataW H × List MemPlace} (h : DataW.trod enc Try.prog W 0 (fun _ => true) true fuel 31 [v] = some x) (hw : ∀ n ∈ x.1.weights Try.prog 31, n ≤ reachBytes) : ∃ l, RB W v l ∧ l.length ≤ LB := by
  rcases Go.Deep.open_slice1 Try.underlying31 Try.cellsU h with ⟨hcs, hx⟩ | ⟨a, len, cap, m, n, V, D, Pl, hcs, hb, hl, hm, hmm, rfl, hel⟩
  · simp at hcs
    subst hcs
    exact ⟨[], RB.nil _, by decide⟩
  · simp at hcs
    subst hcs
    simp only [if_true] at hmm
    subst hmm
    have hlen : len ≤ LB := by
      have := (weights_slice Try.underlying31 hw).1
      rw [Try.bytesU] at this
      simp [reachBytes] at this
      unfold LB; omega
    have key : ∀ i, i < len → ∃ x : Int, W.cell? (a.add i) = some (.int .u8 x) := by
      intro i hi
      obtain ⟨h1, h2⟩ := hel i (by omega)
      obtain ⟨p, e0, _⟩ := DataW.trod_int Try.underlying5 h2
      simp at e0
      rw [e0] at h1
      exact ⟨p, h1⟩
    obtain ⟨X, hX⟩ := Go.Deep.choose_lt (α := Int) key
    refine ⟨(List.range len).map X, ⟨some a, _, by simp; rfl, ?_⟩, by simpa using hlen⟩
    by_cases h0 : len = 0
    · exact .inl (by simp [h0])
    · right
      obtain ⟨b, off, spot⟩ := a
      have hs := World.cell?_spot (hX 0 (by omega))
      have hspot : spot = none := by simpa [Addr.add] using hs
      subst hspot
      refine ⟨b, off, rfl, ?_, fun i x hx => ?_⟩
      · exact cellLt (hX 0 (by omega))
      · have hi : i < len := by have := (List.getElem?_eq_some_iff.1 hx).1; simpa using this
        rw [List.getElem?_map, List.getElem?_range hi] at hx
        cases hx
        have := hX i hi
        rw [add_plain'] at this
        exact this
theorem rowY_of {v : Value} {d : DataW H} {ps : List MemPlace} (h : DataW.Trod enc Try.prog W 0 (fun _ => true) true 31 v d ps) (hw : ∀ n ∈ d.weights Try.prog 31, n ≤ reachBytes) (hv : ∃ a len cap, v = .slice a len cap) : ∃ l, RB W v l ∧ l.length ≤ LB := by
  obtain ⟨fuel, hf⟩ := h
  obtain ⟨a, len, cap, rfl⟩ := hv
  exact bytes_tr (x := (d, ps)) hf hw

theorem rowB_of {a : Option Addr} {len cap : Nat} {d : DataW H} {ps : List MemPlace} (h : DataW.Trod enc Try.prog W 0 (fun _ => true) true 57 (.slice a len cap) d ps) (hw : ∀ n ∈ d.weights Try.prog 57, n ≤ reachBytes) : ∃ V L, RowB W a len V L ∧ len * 24 ≤ 140737488351232 := by
  obtain ⟨fuel, hf⟩ := h
  rcases Go.Deep.open_slice1 Try.underlying57 Try.cellsS hf with ⟨hcs, hx⟩ | ⟨a', len', cap', m, n, V, D, Pl, hcs, hb, hl, hm, hmm, hx, hel⟩
  · simp [Value.cells] at hcs
    obtain ⟨rfl, rfl, rfl⟩ := hcs
    exact ⟨fun _ => .slice none 0 0, fun _ => [], .inl rfl, by omega⟩
  · simp [Value.cells] at hcs
    obtain ⟨rfl, rfl, rfl⟩ := hcs
    simp only [if_true] at hmm
    subst hmm
    simp only [Prod.mk.injEq] at hx
    obtain ⟨rfl, _⟩ := hx
    obtain ⟨w1, w2⟩ := weights_slice Try.underlying57 hw
    rw [Try.bytesS] at w1
    simp [reachBytes] at w1
    have key : ∀ i, i < len → ∃ l : List Int, RB W (V i) l ∧ l.length ≤ LB := fun i hi => by
      obtain ⟨_, h2⟩ := hel i (by omega)
      exact bytes_tr (x := (D i, Pl i)) h2 (w2 _ (List.mem_map.2 ⟨i, List.mem_range.2 hi, rfl⟩))
    obtain ⟨L, hL⟩ := Go.Deep.choose_lt (α := List Int) key
    refine ⟨V, L, ?_, by omega⟩
    by_cases h0 : len = 0
    · exact .inl h0
    · right
      obtain ⟨b, off, spot⟩ := a'
      have hs := World.cell?_spot (hel 0 (by omega)).1
      have hspot : spot = none := by simpa [Addr.add] using hs
      subst hspot
      refine ⟨b, off, rfl, cellLt (hel 0 (by omega)).1, fun i hi => ⟨?_, (hL i hi).1, (hL i hi).2⟩⟩
      have := (hel i (by omega)).1
      rw [add_plain'] at this
      exact this

theorem rowQ_of {a : Option Addr} {len cap : Nat} {d : DataW H} {ps : List MemPlace} (h : DataW.Trod enc Try.prog W 0 (fun _ => true) true 22 (.slice a len cap) d ps) (hw : ∀ n ∈ d.weights Try.prog 22, n ≤ reachBytes) : ∃ K A T V L, RowQ W a len K A T V L ∧ len * 48 ≤ 140737488351232 := by
  obtain ⟨fuel, hf⟩ := h
  rcases Go.Deep.open_slice Try.underlying22 hf with ⟨hcs, hx⟩ | ⟨a', len', cap', m, n, D, Pl, hcs, hb, hl, hm, hmm, hx, hel⟩
  · simp [Value.cells] at hcs
    obtain ⟨rfl, rfl, rfl⟩ := hcs
    exact ⟨fun _ => 0, fun _ => 0, fun _ => 0, fun _ => .slice none 0 0, fun _ => [], .inl rfl, by omega⟩
  · simp [Value.cells] at hcs
    obtain ⟨rfl, rfl, rfl⟩ := hcs
    simp only [if_true] at hmm
    subst hmm
    simp only [Prod.mk.injEq] at hx
    obtain ⟨rfl, _⟩ := hx
    obtain ⟨w1, w2⟩ := weights_slice Try.underlying22 hw
    rw [Try.bytesOp] at w1
    simp [reachBytes] at w1
    have key : ∀ i, i < len → ∃ x : Int × Int × Int × Value × List Int, W.cell? (a'.add (i * 4)) = some (.int .i64 x.1) ∧ W.cell? ((a'.add (i * 4)).add 1) = some (.int .i64 x.2.1) ∧ W.cell? ((a'.add (i * 4)).add 2) = some (.int .i64 x.2.2.1) ∧ W.cell? ((a'.add (i * 4)).add 3) = some x.2.2.2.1 ∧ RB W x.2.2.2.1 x.2.2.2.2 ∧ x.2.2.2.2.length ≤ LB := by
      intro i hi
      obtain ⟨cs', hc, ht⟩ := hel i (by omega)
      rw [Try.cellsOp] at hc
      obtain ⟨_, hlen, hget⟩ := World.cells?_some hc
      obtain ⟨c0, c1, c2, c3, rfl⟩ : ∃ c0 c1 c2 c3, cs' = [c0, c1, c2, c3] := by
        match cs', hlen with
        | [c0, c1, c2, c3], _ => exact ⟨c0, c1, c2, c3, rfl⟩
      obtain ⟨y0, y1, y2, y3, k, hx, _, t0, t1, t2, t3⟩ := trod_struct4 Try.underlying33 ht
      obtain ⟨p0, e0, _, _⟩ := DataW.trod_int Try.underlying3 t0
      obtain ⟨p1, e1, _, _⟩ := DataW.trod_int Try.underlying3 t1
      obtain ⟨p2, e2, _, _⟩ := DataW.trod_int Try.underlying3 t2
      have hwi := w2 (D i) (List.mem_map.2 ⟨i, List.mem_range.2 hi, rfl⟩)
      simp only [Prod.mk.injEq] at hx
      rw [hx.1] at hwi
      rw [Try.cellsS] at t3
      obtain ⟨l, hl1, hl2⟩ := bytes_tr (v := c3) (x := y3) (by simpa using t3) (fun n hn => hwi n (by
        simp only [DataW.weights, Try.underlying33]
        exact DataW.weights_mem_each (j := 3) rfl rfl n hn))
      have g0 := hget 0 (by omega)
      have g1 := hget 1 (by omega)
      have g2 := hget 2 (by omega)
      have g3 := hget 3 (by omega)
      rw [Try.cellsI] at e0 e1 e2
      simp at e0 e1 e2 g0 g1 g2 g3
      subst e0 e1 e2
      refine ⟨(p0, p1, p2, c3, l), ?_, g1, g2, g3, hl1, hl2⟩
      simpa [Addr.add] using g0
    obtain ⟨X, hX⟩ := Go.Deep.choose_lt (α := Int × Int × Int × Value × List Int) key
    refine ⟨fun i => (X i).1, fun i => (X i).2.1, fun i => (X i).2.2.1, fun i => (X i).2.2.2.1, fun i => (X i).2.2.2.2, ?_, by omega⟩
    by_cases h0 : len = 0
    · exact .inl h0
    · right
      obtain ⟨b, off, spot⟩ := a'
      have hs := World.cell?_spot (hX 0 (by omega)).1
      have hspot : spot = none := by simpa [Addr.add] using hs
      subst hspot
      refine ⟨b, off, rfl, cellLt (hX 0 (by omega)).1, fun i hi => ?_⟩
      have := hX i hi
      rw [add_plain', add_plain', add_plain', add_plain'] at this
      exact this
end
end Go.Proofs.Ytminjmlneikllaa
