/- Scripts of the laws among arguments of small bulk. -/
import Derived.Test.YtmndnjgbbpkidaaGreatJWLks15
import Derived.Test.YtmndnjgbbpkidaaGreatJWEpt00
import Derived.Test.YtmndnjgbbpkidaaGreatJWLks42
namespace Go.Proofs.YtmndnjgbbpkidaaGreat
section
open Go.ChangeShapes Go.WideShapes Go.ChangeAt Go.RowKit Go.Joins
theorem bulk_of {H : Type} {ds : List (DataW H)} {d : DataW H} (hk : Rows.uptoSmall H ds = true) (hm : d ∈ ds) : Rows.uptoBulk d ≤ 1048576 := by
  have h0 : Rows.uptoBulkAll ds ≤ 1048576 := of_decide_eq_true hk
  have h1 := bulk_in hm
  omega
section
variable {H : Type} {enc : TypeId × Value → H} {W : World}
theorem argK_bulk {fuel : Nat} {v : Value} {x : DataW H × List MemPlace} (h : DataW.trod enc Tryz.prog W 0 (fun _ => true) true fuel 33 [v] = some x) (hw : Rows.uptoBulk x.1 ≤ 1048576) : ∃ ks, ArgK W v ks ∧ ks.length ≤ 1048576 := by
  rcases Go.Deep.open_slice Tryz.underlying33 h with ⟨hcs, hx⟩ | ⟨a', len, cap, m, n, D, Pl, hcs, hb, hl, hm, hmm, rfl, hel⟩
  · simp at hcs
    subst hcs
    exact ⟨[], ⟨_, _, rfl, by simp, .inl rfl⟩, by simp⟩
  · simp at hcs
    subst hcs
    simp only [if_true] at hmm
    subst hmm
    have hsm : len ≤ 1048576 := by
      rw [Rows.uptoBulk] at hw
      have h2 := bulk_many ((List.range len).map D)
      simp only [List.length_map, List.length_range] at h2
      omega
    have hlen : len * 24 ≤ 140737488351232 := by omega
    by_cases h0 : len = 0
    · subst h0; exact ⟨[], ⟨_, _, rfl, by simp, .inl rfl⟩, by simp⟩
    have key : ∀ i, i < len → ∃ p : Ky, ∀ r u, ([.int .i64 p.d, .string p.nm] : List Value)[r]? = some u → W.cell? ((a'.add (i * 2)).add r) = some u := by
      intro i hi
      obtain ⟨cs', hc, ht⟩ := hel i (by omega)
      rw [Tryz.cellsKey] at hc
      obtain ⟨_, hlen', hget⟩ := World.cells?_some hc
      obtain ⟨p, rfl⟩ := ky_of ht
      refine ⟨p, fun r u hu => ?_⟩
      have hr : r < 2 := by have := (List.getElem?_eq_some_iff.1 hu).1; simpa using this
      have := hget r (by omega)
      rw [hu] at this
      exact this
    have iO : Inhabited Ky := ⟨⟨0, ⟨#[]⟩⟩⟩
    obtain ⟨X, hX⟩ := Go.Deep.choose_lt (α := Ky) key
    obtain ⟨b, off, spot⟩ := a'
    have hc0 := hX 0 (by omega) 0 _ rfl
    have hs := World.cell?_spot hc0
    have hspot : spot = none := by simpa [Addr.add] using hs
    subst hspot
    have hlt : b < W.heap.size := cellLt hc0
    refine ⟨(List.range len).map X, ⟨some ⟨b, off, none⟩, _, by simp; rfl, by simpa using hlen, .inr ⟨b, off, rfl, hlt, fun j u hu => ?_⟩⟩, by simpa using hsm⟩
    have hj : j < len * 2 := by have := (List.getElem?_eq_some_iff.1 hu).1; rw [kc_len] at this; simpa using this
    have hi : j / 2 < len := by omega
    have he : ((List.range len).map X)[j / 2]? = some (X (j / 2)) := by rw [List.getElem?_map, List.getElem?_range hi]; rfl
    have hg := kc_get' _ (j / 2) (j % 2) _ he (by omega)
    rw [show j / 2 * 2 + j % 2 = j by omega, hu] at hg
    have := hX (j / 2) hi (j % 2) u hg.symm
    rw [add_plain', add_plain', show off + j / 2 * 2 + j % 2 = off + j by omega] at this
    exact this
set_option maxRecDepth 100000 in
theorem dop_bulk {fuel : Nat} {cs : List Value} {x : DataW H × List MemPlace} (h : DataW.trod enc Tryz.prog W 0 (fun _ => true) true fuel 61 cs = some x) (hw : Rows.uptoBulk x.1 ≤ 1048576) : ∃ p : DOp, cs = p.vals ∧ ArgK W p.vk p.ks ∧ p.ks.length ≤ 1048576 := by
  obtain ⟨xs, n, _, rfl, hl, hlen, hf⟩ := DataW.trod_struct Tryz.underlying61 h
  rw [Tryz.cellsDo] at hl
  obtain ⟨c0, c1, c2, c3, c4, c5, c6, c7, c8, c9, rfl⟩ := ten hl
  obtain ⟨y0, y1, y2, y3, rfl⟩ := four (l := xs) (by simpa using hlen)
  have h0 : DataW.trod enc Tryz.prog W 0 (fun _ => true) true n 3 (([c0, c1, c2, c3, c4, c5, c6, c7, c8, c9].drop 0).take (Tryz.prog.cellsOf 3)) = some y0 := hf 0 _ rfl
  have h1 : DataW.trod enc Tryz.prog W 0 (fun _ => true) true n 3 (([c0, c1, c2, c3, c4, c5, c6, c7, c8, c9].drop 1).take (Tryz.prog.cellsOf 3)) = some y1 := hf 1 _ rfl
  have h2 : DataW.trod enc Tryz.prog W 0 (fun _ => true) true n 52 (([c0, c1, c2, c3, c4, c5, c6, c7, c8, c9].drop 2).take (Tryz.prog.cellsOf 52)) = some y2 := hf 2 _ rfl
  have h3 : DataW.trod enc Tryz.prog W 0 (fun _ => true) true n 33 (([c0, c1, c2, c3, c4, c5, c6, c7, c8, c9].drop 9).take (Tryz.prog.cellsOf 33)) = some y3 := hf 3 _ rfl
  rw [Tryz.cellsWord] at h0 h1
  rw [Tryz.cellsEnt] at h2
  rw [Tryz.cellsSlK] at h3
  obtain ⟨p0, e0, _, _⟩ := DataW.trod_int Tryz.underlying3 h0
  obtain ⟨p1, e1, _, _⟩ := DataW.trod_int Tryz.underlying3 h1
  obtain ⟨e, e2⟩ := en_of h2
  simp at e0 e1
  have hb : Rows.uptoBulk y3.1 ≤ 1048576 := by
    rw [Rows.uptoBulk] at hw
    have := bulk_in (d := y3.1) (l := [y0, y1, y2, y3].map (·.1)) (by simp)
    omega
  obtain ⟨ks, hks⟩ := argK_bulk (v := c9) (x := y3) (by simpa using h3) hb
  have e3 : [c2, c3, c4, c5, c6, c7, c8] = e.vals := by simpa using e2
  refine ⟨⟨p0, p1, e, c9, ks⟩, ?_, hks⟩
  unfold DOp.vals
  simp only
  rw [← e3, e0, e1]; rfl
theorem rowD_bulk {a : Option Addr} {len cap : Nat} {d : DataW H} {ps : List MemPlace} (h : DataW.Trod enc Tryz.prog W 0 (fun _ => true) true 22 (.slice a len cap) d ps) (hw : Rows.uptoBulk d ≤ 1048576) :
    ∃ ops : List DOp, ops.length = len ∧ RowD W a ops ∧ len ≤ 1048576 ∧ ∀ x ∈ ops, x.ks.length ≤ 1048576 := by
  obtain ⟨fuel, hf⟩ := h
  rcases Go.Deep.open_slice Tryz.underlying22 hf with ⟨hcs, hx⟩ | ⟨a', len', cap', m, n, D, Pl, hcs, hb, hl, hm, hmm, hx, hel⟩
  · simp [Value.cells] at hcs
    obtain ⟨rfl, rfl, rfl⟩ := hcs
    exact ⟨[], rfl, .inl rfl, by omega, fun x hx => by cases hx⟩
  · simp [Value.cells] at hcs
    obtain ⟨rfl, rfl, rfl⟩ := hcs
    simp only [if_true] at hmm
    subst hmm
    simp only [Prod.mk.injEq] at hx
    obtain ⟨rfl, -⟩ := hx
    rw [Rows.uptoBulk] at hw
    have hlen := bulk_many ((List.range len).map D)
    simp only [List.length_map, List.length_range] at hlen
    by_cases h0 : len = 0
    · exact ⟨[], h0.symm, .inl rfl, by omega, fun x hx => by cases hx⟩
    have key : ∀ i, i < len → ∃ o : DOp, (∀ r u, o.vals[r]? = some u → W.cell? ((a'.add (i * 10)).add r) = some u) ∧ ArgK W o.vk o.ks ∧ o.ks.length ≤ 1048576 := by
      intro i hi
      obtain ⟨cs', hc, ht⟩ := hel i (by omega)
      rw [Tryz.cellsDo] at hc
      obtain ⟨_, hlen, hget⟩ := World.cells?_some hc
      have hbi := bulk_in (d := D i) (l := (List.range len).map D) (List.mem_map.2 ⟨i, List.mem_range.2 hi, rfl⟩)
      obtain ⟨o, rfl, hk⟩ := dop_bulk ht (show Rows.uptoBulk (D i) ≤ 1048576 by omega)
      refine ⟨o, fun r u hu => ?_, hk⟩
      have hr : r < 10 := by have := (List.getElem?_eq_some_iff.1 hu).1; rw [hlen] at this; exact this
      have := hget r (by omega)
      rw [hu] at this
      exact this
    have iO : Inhabited DOp := ⟨⟨0, 0, zeroEn, .slice none 0 0, []⟩⟩
    obtain ⟨X, hX⟩ := Go.Deep.choose_lt (α := DOp) key
    obtain ⟨b, off, spot⟩ := a'
    have hc0 := (hX 0 (by omega)).1 0 _ rfl
    have hs := World.cell?_spot hc0
    have hspot : spot = none := by simpa [Addr.add] using hs
    subst hspot
    refine ⟨(List.range len).map X, by simp, .inr ⟨b, off, rfl, cellLt hc0, fun i o ho => ?_⟩, by omega, fun x hx => ?_⟩
    · have hi : i < len := by have := (List.getElem?_eq_some_iff.1 ho).1; simpa using this
      rw [List.getElem?_map, List.getElem?_range hi] at ho
      cases ho
      refine ⟨fun j u hu => ?_, (hX i hi).2.1⟩
      have := (hX i hi).1 j u hu
      rw [add_plain', add_plain'] at this
      exact this
    · obtain ⟨i, hi, rfl⟩ := List.mem_map.1 hx
      exact (hX i (List.mem_range.1 hi)).2.2
end
end
section
open Go.ChangeShapes Go.WideShapes Go.ChangeAt Go.RowKit Go.Joins
theorem argE_bulk {H : Type} {enc : TypeId × Value → H} {W : World} {v : Value} {d : DataW H} {ps : List MemPlace} (h : DataW.Trod enc Tryz.prog W 0 (fun _ => true) true 23 v d ps) (hw : Rows.uptoBulk d ≤ 1048576) (hv : ∃ a len cap, v = .slice a len cap) : ∃ es, ArgE W v es ∧ es.length ≤ 1048576 := by
  obtain ⟨fuel, hf⟩ := h
  obtain ⟨a0, len0, cap0, rfl⟩ := hv
  have key : ∀ (a : Option Addr) (len cap : Nat), Value.slice a0 len0 cap0 = Value.slice a len cap → len ≤ 1048576 := fun a len cap e => by
    injection e with e1 e2 e3
    subst e1 e2 e3
    rcases Go.Deep.open_slice Tryz.underlying23 hf with ⟨hcs, hx⟩ | ⟨a', len', cap', m, n, D, Pl, hcs, hb, hl, hm, hmm, hx, hel⟩
    · simp [Value.cells] at hcs
      omega
    · simp [Value.cells] at hcs
      obtain ⟨rfl, rfl, rfl⟩ := hcs
      simp only [if_true] at hmm
      subst hmm
      simp only [Prod.mk.injEq] at hx
      obtain ⟨rfl, -⟩ := hx
      rw [Rows.uptoBulk] at hw
      have h2 := bulk_many ((List.range len0).map D)
      simp only [List.length_map, List.length_range] at h2
      omega
  obtain ⟨es, hes⟩ := argE_len (x := (d, ps)) hf fun a len cap e => by have := key a len cap e; omega
  obtain ⟨a, cap, e, -, -⟩ := id hes
  exact ⟨es, hes, key _ _ _ e⟩
end
end Go.Proofs.YtmndnjgbbpkidaaGreat
