/- Entries among the arguments: their cells, out of how they read. -/
import Derived.Test.YtjelggpkeogebaaArE
import Derived.Test.YtjelggpkeogebaaOpL
namespace Go.Proofs.Ytjelggpkeogebaa
open Go.ChangeShapes Go.WideShapes Go.ChangeAt Go.RowKit Go.Joins

theorem Try.cellsYes : Try.prog.cellsOf 4 = 1 := by kernel_rfl
theorem Try.cellsKey : Try.prog.cellsOf 52 = 2 := by kernel_rfl
theorem Try.cellsNode : Try.prog.cellsOf 54 = 4 := by kernel_rfl
theorem Try.cellsEnt : Try.prog.cellsOf 56 = 7 := by kernel_rfl
theorem Try.bytesEnt : Try.prog.bytesOf 56 = 72 := by kernel_rfl
theorem two {α : Type} {l : List α} (h : l.length = 2) : ∃ c0 c1, l = [c0, c1] := by
  match l, h with
  | [c0, c1], _ => exact ⟨c0, c1, rfl⟩
theorem three {α : Type} {l : List α} (h : l.length = 3) : ∃ c0 c1 c2, l = [c0, c1, c2] := by
  match l, h with
  | [c0, c1, c2], _ => exact ⟨c0, c1, c2, rfl⟩
theorem four {α : Type} {l : List α} (h : l.length = 4) : ∃ c0 c1 c2 c3, l = [c0, c1, c2, c3] := by
  match l, h with
  | [c0, c1, c2, c3], _ => exact ⟨c0, c1, c2, c3, rfl⟩
/-- what a slice weighs -/
theorem weights_slice {H : Type} {P : Program} {t e : TypeId} {elems spare : List (DataW H)} (hu : P.underlying t = some (.slice e)) (h : ∀ n ∈ (DataW.slice elems spare).weights P t, n ≤ reachBytes) : elems.length * P.bytesOf e ≤ reachBytes := by
  simp only [DataW.weights, hu] at h
  exact Nat.le_trans (Nat.mul_le_mul_right _ (Nat.le_add_right _ _)) (h _ (List.mem_cons_self ..))

section
variable {H : Type} {enc : TypeId × Value → H} {W : World}
theorem ky_of {fuel : Nat} {cs : List Value} {x : DataW H × List MemPlace} (h : DataW.trod enc Try.prog W 0 (fun _ => true) true fuel 52 cs = some x) : ∃ p : Ky, cs = [.int .i64 p.d, .string p.nm] := by
  obtain ⟨xs, n, _, rfl, hl, hlen, hf⟩ := DataW.trod_struct Try.underlying52 h
  rw [Try.cellsKey] at hl
  obtain ⟨c0, c1, rfl⟩ := two hl
  obtain ⟨y0, y1, rfl⟩ := two (l := xs) (by simpa using hlen)
  have h0 : DataW.trod enc Try.prog W 0 (fun _ => true) true n 3 (([c0, c1].drop 0).take (Try.prog.cellsOf 3)) = some y0 := hf 0 _ rfl
  have h1 : DataW.trod enc Try.prog W 0 (fun _ => true) true n 9 (([c0, c1].drop 1).take (Try.prog.cellsOf 9)) = some y1 := hf 1 _ rfl
  rw [Try.cellsWord] at h0
  rw [Try.cellsText] at h1
  obtain ⟨p0, e0, _, _⟩ := DataW.trod_int Try.underlying3 h0
  obtain ⟨p1, e1, _, _⟩ := DataW.trod_string Try.underlying9 h1
  simp at e0 e1
  subst e0 e1
  exact ⟨⟨p0, p1⟩, rfl⟩
theorem nd_of {fuel : Nat} {cs : List Value} {x : DataW H × List MemPlace} (h : DataW.trod enc Try.prog W 0 (fun _ => true) true fuel 54 cs = some x) : ∃ (i k m : Int) (t : ByteArray), cs = [.int .i64 i, .int .i64 k, .int .i64 m, .string t] := by
  obtain ⟨xs, n, _, rfl, hl, hlen, hf⟩ := DataW.trod_struct Try.underlying54 h
  rw [Try.cellsNode] at hl
  obtain ⟨c0, c1, c2, c3, rfl⟩ := four hl
  obtain ⟨y0, y1, y2, y3, rfl⟩ := four (l := xs) (by simpa using hlen)
  have h0 : DataW.trod enc Try.prog W 0 (fun _ => true) true n 3 (([c0, c1, c2, c3].drop 0).take (Try.prog.cellsOf 3)) = some y0 := hf 0 _ rfl
  have h1 : DataW.trod enc Try.prog W 0 (fun _ => true) true n 3 (([c0, c1, c2, c3].drop 1).take (Try.prog.cellsOf 3)) = some y1 := hf 1 _ rfl
  have h2 : DataW.trod enc Try.prog W 0 (fun _ => true) true n 3 (([c0, c1, c2, c3].drop 2).take (Try.prog.cellsOf 3)) = some y2 := hf 2 _ rfl
  have h3 : DataW.trod enc Try.prog W 0 (fun _ => true) true n 9 (([c0, c1, c2, c3].drop 3).take (Try.prog.cellsOf 9)) = some y3 := hf 3 _ rfl
  rw [Try.cellsWord] at h0 h1 h2
  rw [Try.cellsText] at h3
  obtain ⟨p0, e0, _, _⟩ := DataW.trod_int Try.underlying3 h0
  obtain ⟨p1, e1, _, _⟩ := DataW.trod_int Try.underlying3 h1
  obtain ⟨p2, e2, _, _⟩ := DataW.trod_int Try.underlying3 h2
  obtain ⟨p3, e3, _, _⟩ := DataW.trod_string Try.underlying9 h3
  simp at e0 e1 e2 e3
  subst e0 e1 e2 e3
  exact ⟨p0, p1, p2, p3, rfl⟩
theorem en_of {fuel : Nat} {cs : List Value} {x : DataW H × List MemPlace} (h : DataW.trod enc Try.prog W 0 (fun _ => true) true fuel 56 cs = some x) : ∃ p : En, cs = p.vals := by
  obtain ⟨xs, n, _, rfl, hl, hlen, hf⟩ := DataW.trod_struct Try.underlying56 h
  rw [Try.cellsEnt] at hl
  obtain ⟨c0, c1, c2, c3, c4, c5, c6, rfl⟩ := seven hl
  obtain ⟨y0, y1, y2, rfl⟩ := three (l := xs) (by simpa using hlen)
  have h0 : DataW.trod enc Try.prog W 0 (fun _ => true) true n 52 (([c0, c1, c2, c3, c4, c5, c6].drop 0).take (Try.prog.cellsOf 52)) = some y0 := hf 0 _ rfl
  have h1 : DataW.trod enc Try.prog W 0 (fun _ => true) true n 4 (([c0, c1, c2, c3, c4, c5, c6].drop 2).take (Try.prog.cellsOf 4)) = some y1 := hf 1 _ rfl
  have h2 : DataW.trod enc Try.prog W 0 (fun _ => true) true n 54 (([c0, c1, c2, c3, c4, c5, c6].drop 3).take (Try.prog.cellsOf 54)) = some y2 := hf 2 _ rfl
  rw [Try.cellsKey] at h0
  rw [Try.cellsYes] at h1
  rw [Try.cellsNode] at h2
  obtain ⟨p0, e0⟩ := ky_of h0
  obtain ⟨p1, e1, _⟩ := DataW.trod_bool Try.underlying4 h1
  obtain ⟨i, k, m, t, e2⟩ := nd_of h2
  simp at e0 e1 e2
  obtain ⟨rfl, rfl⟩ := e0
  subst e1
  obtain ⟨rfl, rfl, rfl, rfl⟩ := e2
  exact ⟨⟨p0.d, p0.nm, p1, i, k, m, t⟩, rfl⟩
theorem argE_of {fuel : Nat} {v : Value} {x : DataW H × List MemPlace} (h : DataW.trod enc Try.prog W 0 (fun _ => true) true fuel 22 [v] = some x) (hw : ∀ n ∈ x.1.weights Try.prog 22, n ≤ reachBytes) : ∃ es, ArgE W v es := by
  rcases Go.Deep.open_slice Try.underlying22 h with ⟨hcs, hx⟩ | ⟨a', len, cap, m, n, D, Pl, hcs, hb, hl, hm, hmm, rfl, hel⟩
  · simp at hcs
    subst hcs
    exact ⟨[], _, _, rfl, by simp, .inl rfl⟩
  · simp at hcs
    subst hcs
    simp only [if_true] at hmm
    subst hmm
    have hlen : len * 72 ≤ 140737488351232 := by
      have := weights_slice Try.underlying22 hw
      rw [Try.bytesEnt] at this
      simp [reachBytes] at this
      omega
    by_cases h0 : len = 0
    · subst h0; exact ⟨[], _, _, rfl, by simp, .inl rfl⟩
    have key : ∀ i, i < len → ∃ p : En, ∀ r u, p.vals[r]? = some u → W.cell? ((a'.add (i * 7)).add r) = some u := by
      intro i hi
      obtain ⟨cs', hc, ht⟩ := hel i (by omega)
      rw [Try.cellsEnt] at hc
      obtain ⟨_, hlen', hget⟩ := World.cells?_some hc
      obtain ⟨p, rfl⟩ := en_of ht
      refine ⟨p, fun r u hu => ?_⟩
      have hr : r < 7 := by have := (List.getElem?_eq_some_iff.1 hu).1; simpa [En.vals] using this
      have := hget r (by omega)
      rw [hu] at this
      exact this
    have iO : Inhabited En := ⟨⟨0, ⟨#[]⟩, false, 0, 0, 0, ⟨#[]⟩⟩⟩
    obtain ⟨X, hX⟩ := Go.Deep.choose_lt (α := En) key
    obtain ⟨b, off, spot⟩ := a'
    have hc0 := hX 0 (by omega) 0 _ rfl
    have hs := World.cell?_spot hc0
    have hspot : spot = none := by simpa [Addr.add] using hs
    subst hspot
    have hlt : b < W.heap.size := cellLt hc0
    refine ⟨(List.range len).map X, some ⟨b, off, none⟩, _, by simp; rfl, by simpa using hlen, .inr ⟨b, off, rfl, hlt, fun j u hu => ?_⟩⟩
    have hj : j < len * 7 := by have := (List.getElem?_eq_some_iff.1 hu).1; rw [ec_len] at this; simpa using this
    have hi : j / 7 < len := by omega
    have he : ((List.range len).map X)[j / 7]? = some (X (j / 7)) := by rw [List.getElem?_map, List.getElem?_range hi]; rfl
    have hg := ec_get _ (j / 7) (j % 7) _ he (by omega)
    rw [show j / 7 * 7 + j % 7 = j by omega, hu] at hg
    have := hX (j / 7) hi (j % 7) u hg.symm
    rw [add_plain', add_plain', show off + j / 7 * 7 + j % 7 = off + j by omega] at this
    exact this
theorem argE_tr {v : Value} {d : DataW H} {ps : List MemPlace} (h : DataW.Trod enc Try.prog W 0 (fun _ => true) true 22 v d ps) (hw : ∀ n ∈ d.weights Try.prog 22, n ≤ reachBytes) (hv : ∃ a len cap, v = .slice a len cap) : ∃ es, ArgE W v es := by
  obtain ⟨fuel, hf⟩ := h
  obtain ⟨a0, len0, cap0, rfl⟩ := hv
  exact argE_of (x := (d, ps)) hf hw
end
end Go.Proofs.Ytjelggpkeogebaa
