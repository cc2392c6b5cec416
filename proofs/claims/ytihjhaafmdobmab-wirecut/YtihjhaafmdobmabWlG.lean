/- Lists of entries and of keys, bytes, a message as plain data among the arguments. -/
import Derived.Test.YtihjhaafmdobmabWlF
namespace Go.Proofs.Ytihjhaafmdobmab
open Go.ChangeShapes Go.WideShapes Go.ChangeAt Go.RowKit Go.Joins

theorem kc_get' (ks : List Ky) (i j : Nat) (p : Ky) (h : ks[i]? = some p) (hj : j < 2) : (kc ks)[i * 2 + j]? = ([.int .i64 p.d, .string p.nm] : List Value)[j]? := by
  obtain ⟨h0, h1⟩ := kc_get ks i p h
  have : j = 0 ∨ j = 1 := by omega
  rcases this with rfl | rfl
  · exact h0
  · exact h1
section
variable {H : Type} {enc : TypeId × Value → H} {W : World}
theorem argE_of {fuel : Nat} {v : Value} {x : DataW H × List MemPlace} (h : DataW.trod enc Try.prog W 0 (fun _ => true) true fuel 43 [v] = some x) (hw : ∀ n ∈ x.1.weights Try.prog 43, n ≤ reachBytes) : ∃ es, ArgE W v es := by
  rcases Go.Deep.open_slice Try.underlying43 h with ⟨hcs, hx⟩ | ⟨a', len, cap, m, n, D, Pl, hcs, hb, hl, hm, hmm, rfl, hel⟩
  · simp at hcs
    subst hcs
    exact ⟨[], _, _, rfl, by simp, .inl rfl⟩
  · simp at hcs
    subst hcs
    simp only [if_true] at hmm
    subst hmm
    have hlen : len * 72 ≤ 140737488351232 := by
      have := weights_slice Try.underlying43 hw
      rw [Try.bytesEnt] at this
      simp [reachBytes] at this
      omega
    by_cases h0 : len = 0
    · subst h0; exact ⟨[], _, _, rfl, by simp, .inl rfl⟩
    have key : ∀ i, i < len → ∃ p : En, ∀ r u, p.vals[r]? = some u → W.cell? ((a'.add (i * 7)).add r) = some u := by
      intro i hi
      obtain ⟨cs', hc, ht⟩ := hel i (by omega)
      rw [Try.cellsEnt] at hc
      obtain ⟨_, hlen', hget⟩ := World.cells?_some hc
      obtain ⟨p, rfl⟩ := en_of ht
      refine ⟨p, fun r u hu => ?_⟩
      have hr : r < 7 := by have := (List.getElem?_eq_some_iff.1 hu).1; simpa [En.vals] using this
      have := hget r (by omega)
      rw [hu] at this
      exact this
    have iO : Inhabited En := ⟨⟨0, ⟨#[]⟩, false, 0, 0, 0, ⟨#[]⟩⟩⟩
    obtain ⟨X, hX⟩ := Go.Deep.choose_lt (α := En) key
    obtain ⟨b, off, spot⟩ := a'
    have hc0 := hX 0 (by omega) 0 _ rfl
    have hs := World.cell?_spot hc0
    have hspot : spot = none := by simpa [Addr.add] using hs
    subst hspot
    have hlt : b < W.heap.size := cellLt hc0
    refine ⟨(List.range len).map X, some ⟨b, off, none⟩, _, by simp; rfl, by simpa using hlen, .inr ⟨b, off, rfl, hlt, fun j u hu => ?_⟩⟩
    have hj : j < len * 7 := by have := (List.getElem?_eq_some_iff.1 hu).1; rw [ec_len] at this; simpa using this
    have hi : j / 7 < len := by omega
    have he : ((List.range len).map X)[j / 7]? = some (X (j / 7)) := by rw [List.getElem?_map, List.getElem?_range hi]; rfl
    have hg := ec_get _ (j / 7) (j % 7) _ he (by omega)
    rw [show j / 7 * 7 + j % 7 = j by omega, hu] at hg
    have := hX (j / 7) hi (j % 7) u hg.symm
    rw [add_plain', add_plain', show off + j / 7 * 7 + j % 7 = off + j by omega] at this
    exact this
theorem argK_of {fuel : Nat} {v : Value} {x : DataW H × List MemPlace} (h : DataW.trod enc Try.prog W 0 (fun _ => true) true fuel 44 [v] = some x) (hw : ∀ n ∈ x.1.weights Try.prog 44, n ≤ reachBytes) : ∃ ks, ArgK W v ks := by
  rcases Go.Deep.open_slice Try.underlying44 h with ⟨hcs, hx⟩ | ⟨a', len, cap, m, n, D, Pl, hcs, hb, hl, hm, hmm, rfl, hel⟩
  · simp at hcs
    subst hcs
    exact ⟨[], _, _, rfl, by simp, .inl rfl⟩
  · simp at hcs
    subst hcs
    simp only [if_true] at hmm
    subst hmm
    have hlen : len * 24 ≤ 140737488351232 := by
      have := weights_slice Try.underlying44 hw
      rw [Try.bytesKey] at this
      simp [reachBytes] at this
      omega
    by_cases h0 : len = 0
    · subst h0; exact ⟨[], _, _, rfl, by simp, .inl rfl⟩
    have key : ∀ i, i < len → ∃ p : Ky, ∀ r u, ([.int .i64 p.d, .string p.nm] : List Value)[r]? = some u → W.cell? ((a'.add (i * 2)).add r) = some u := by
      intro i hi
      obtain ⟨cs', hc, ht⟩ := hel i (by omega)
      rw [Try.cellsKey] at hc
      obtain ⟨_, hlen', hget⟩ := World.cells?_some hc
      obtain ⟨p, rfl⟩ := ky_of ht
      refine ⟨p, fun r u hu => ?_⟩
      have hr : r < 2 := by have := (List.getElem?_eq_some_iff.1 hu).1; simpa using this
      have := hget r (by omega)
      rw [hu] at this
      exact this
    have iO : Inhabited Ky := ⟨⟨0, ⟨#[]⟩⟩⟩
    obtain ⟨X, hX⟩ := Go.Deep.choose_lt (α := Ky) key
    obtain ⟨b, off, spot⟩ := a'
    have hc0 := hX 0 (by omega) 0 _ rfl
    have hs := World.cell?_spot hc0
    have hspot : spot = none := by simpa [Addr.add] using hs
    subst hspot
    have hlt : b < W.heap.size := cellLt hc0
    refine ⟨(List.range len).map X, some ⟨b, off, none⟩, _, by simp; rfl, by simpa using hlen, .inr ⟨b, off, rfl, hlt, fun j u hu => ?_⟩⟩
    have hj : j < len * 2 := by have := (List.getElem?_eq_some_iff.1 hu).1; rw [kc_len] at this; simpa using this
    have hi : j / 2 < len := by omega
    have he : ((List.range len).map X)[j / 2]? = some (X (j / 2)) := by rw [List.getElem?_map, List.getElem?_range hi]; rfl
    have hg := kc_get' _ (j / 2) (j % 2) _ he (by omega)
    rw [show j / 2 * 2 + j % 2 = j by omega, hu] at hg
    have := hX (j / 2) hi (j % 2) u hg.symm
    rw [add_plain', add_plain', show off + j / 2 * 2 + j % 2 = off + j by omega] at this
    exact this
/-- bytes that came in -/
theorem bytes_of {v : Value} {d : DataW H} {ps : List MemPlace} (h : DataW.Trod enc Try.prog W 0 (fun _ => true) true 22 v d ps) (hw : ∀ n ∈ d.weights Try.prog 22, n ≤ reachBytes) (hv : ∃ a len cap, v = .slice a len cap) : ∃ l, RC W v l ∧ l.length ≤ LB ∧ Byt l := by
  obtain ⟨fuel, hf⟩ := h
  obtain ⟨a0, len0, cap0, rfl⟩ := hv
  rcases Go.Deep.open_slice1 Try.underlying22 Try.cellsU hf with ⟨hcs, hx⟩ | ⟨a, len, cap, m, n, V, D, Pl, hcs, hb, hl, hm, hmm, hx, hel⟩
  · simp [Value.cells] at hcs
    obtain ⟨rfl, rfl, rfl⟩ := hcs
    exact ⟨[], ⟨_, _, rfl, by simp, .inl rfl⟩, by simp, Byt.nil⟩
  · simp [Value.cells] at hcs
    obtain ⟨rfl, rfl, rfl⟩ := hcs
    simp only [if_true] at hmm
    subst hmm
    simp only [Prod.mk.injEq] at hx
    have hlen : len0 ≤ LB := by
      rw [hx.1] at hw
      have := weights_slice Try.underlying22 hw
      rw [Try.bytesU] at this
      simp [reachBytes] at this
      unfold LB; omega
    have key : ∀ i, i < len0 → ∃ x : Int, W.cell? (a.add i) = some (.int .u8 x) ∧ 0 ≤ x ∧ x < 256 := by
      intro i hi
      obtain ⟨h1, h2⟩ := hel i (by omega)
      obtain ⟨p, e0, _, hwf⟩ := DataW.trod_int Try.underlying5 h2
      simp at e0
      rw [e0] at h1
      exact ⟨p, h1, by simp [Lit.wf, IntKind.min, IntKind.max, IntKind.bits, IntKind.signed] at hwf; omega⟩
    obtain ⟨X, hX⟩ := Go.Deep.choose_lt (α := Int) key
    refine ⟨(List.range len0).map X, ⟨some a, _, by simp; rfl, by simpa using hl, ?_⟩, by simpa using hlen, fun x hx => ?_⟩
    · by_cases h0 : len0 = 0
      · exact .inl (by simp [h0])
      · right
        obtain ⟨b, off, spot⟩ := a
        have hs := World.cell?_spot (hX 0 (by omega)).1
        have hspot : spot = none := by simpa [Addr.add] using hs
        subst hspot
        refine ⟨b, off, rfl, cellLt (hX 0 (by omega)).1, fun i x hx => ?_⟩
        have hi : i < len0 := by have := (List.getElem?_eq_some_iff.1 hx).1; simpa using this
        rw [List.getElem?_map, List.getElem?_range hi] at hx
        cases hx
        have := (hX i hi).1
        rw [add_plain'] at this
        exact this
    · obtain ⟨i, hi, rfl⟩ := List.mem_map.1 hx
      exact (hX i (List.mem_range.1 hi)).2
end
end Go.Proofs.Ytihjhaafmdobmab
