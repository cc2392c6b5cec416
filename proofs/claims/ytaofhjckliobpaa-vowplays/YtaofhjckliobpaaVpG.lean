/- Scripts among arguments of small bulk: their cells, out of how they read. -/
import Derived.Test.YtaofhjckliobpaaVpF
import Derived.Test.YtaofhjckliobpaaSbU
namespace Go.Proofs.Ytaofhjckliobpaa
open Go.ChangeShapes Go.WideShapes Go.ChangeAt Go.RowKit Go.Joins

theorem Try.cellsOp : Try.prog.cellsOf 33 = 5 := by kernel_rfl
theorem Try.cellsSlK : Try.prog.cellsOf 31 = 1 := by kernel_rfl
theorem trod_struct5 {H : Type} {enc : TypeId × Value → H} {P : Program} {w : World} {base : Nat} {spare : Nat → Bool} {held : Bool} {t : TypeId} {f0 f1 f2 f3 f4 : Field} {fuel : Nat} {cs : List Value} {x : DataW H × List MemPlace} (ht : P.underlying t = some (.struct #[f0, f1, f2, f3, f4])) (h : DataW.trod enc P w base spare held fuel t cs = some x) :
    ∃ y0 y1 y2 y3 y4 n, cs.length = P.cellsOf t ∧ DataW.trod enc P w base spare held n f0.type ((cs.drop f0.offset).take (P.cellsOf f0.type)) = some y0 ∧
      DataW.trod enc P w base spare held n f1.type ((cs.drop f1.offset).take (P.cellsOf f1.type)) = some y1 ∧ DataW.trod enc P w base spare held n f2.type ((cs.drop f2.offset).take (P.cellsOf f2.type)) = some y2 ∧
      DataW.trod enc P w base spare held n f3.type ((cs.drop f3.offset).take (P.cellsOf f3.type)) = some y3 ∧ DataW.trod enc P w base spare held n f4.type ((cs.drop f4.offset).take (P.cellsOf f4.type)) = some y4 := by
  obtain ⟨xs, n, _, rfl, hl, hlen, hf⟩ := DataW.trod_struct ht h
  match xs, hlen with
  | [y0, y1, y2, y3, y4], _ => exact ⟨y0, y1, y2, y3, y4, n, hl, by simpa using hf 0 f0 rfl, by simpa using hf 1 f1 rfl, by simpa using hf 2 f2 rfl, by simpa using hf 3 f3 rfl, by simpa using hf 4 f4 rfl⟩
theorem list5 {α : Type} {l : List α} (h : l.length = 5) : ∃ c0 c1 c2 c3 c4, l = [c0, c1, c2, c3, c4] := by
  match l, h with
  | [c0, c1, c2, c3, c4], _ => exact ⟨c0, c1, c2, c3, c4, rfl⟩
/-- a call of a script: its kind, version, epoch, number, where its keys lie, its keys -/
structure Ov where
  kind : Int
  ver : Int
  ep : Int
  num : Int
  va : Option Addr
  vn : Nat
  vc : Nat
  ks : List Ky
/-- a script that came in -/
def RowG (w : World) (a : Option Addr) (ops : List Ov) : Prop := ops = [] ∨ ∃ b off, a = some ⟨b, off, none⟩ ∧ b < w.heap.size ∧ ∀ (i : Nat) (o : Ov), ops[i]? = some o →
  w.cell? ⟨b, off + i * 5, none⟩ = some (.int .i64 o.kind) ∧ w.cell? ⟨b, off + i * 5 + 1, none⟩ = some (.int .i64 o.ver) ∧ w.cell? ⟨b, off + i * 5 + 2, none⟩ = some (.int .i64 o.ep) ∧ w.cell? ⟨b, off + i * 5 + 3, none⟩ = some (.int .i64 o.num) ∧ w.cell? ⟨b, off + i * 5 + 4, none⟩ = some (.slice o.va o.vn o.vc) ∧ ArgK w (.slice o.va o.vn o.vc) o.ks
section
variable {H : Type} {enc : TypeId × Value → H} {W : World}
theorem argK_bulk {fuel : Nat} {v : Value} {x : DataW H × List MemPlace} (h : DataW.trod enc Try.prog W 0 (fun _ => true) true fuel 31 [v] = some x) (hw : Rows.uptoBulk x.1 ≤ 1048576) : ∃ ks, ArgK W v ks := by
  rcases Go.Deep.open_slice Try.underlying31 h with ⟨hcs, hx⟩ | ⟨a', len, cap, m, n, D, Pl, hcs, hb, hl, hm, hmm, rfl, hel⟩
  · simp at hcs
    subst hcs
    exact ⟨[], _, _, rfl, by simp, .inl rfl⟩
  · simp at hcs
    subst hcs
    simp only [if_true] at hmm
    subst hmm
    have hlen : len * 24 ≤ 140737488351232 := by
      rw [Rows.uptoBulk] at hw
      have h2 := bulk_many ((List.range len).map D)
      simp only [List.length_map, List.length_range] at h2
      omega
    by_cases h0 : len = 0
    · subst h0; exact ⟨[], _, _, rfl, by simp, .inl rfl⟩
    have key : ∀ i, i < len → ∃ p : Ky, ∀ r u, ([.int .i64 p.d, .string p.nm] : List Value)[r]? = some u → W.cell? ((a'.add (i * 2)).add r) = some u := by
      intro i hi
      obtain ⟨cs', hc, ht⟩ := hel i (by omega)
      rw [Try.cellsKey] at hc
      obtain ⟨_, hlen', hget⟩ := World.cells?_some hc
      obtain ⟨p, rfl⟩ := ky_of ht
      refine ⟨p, fun r u hu => ?_⟩
      have hr : r < 2 := by have := (List.getElem?_eq_some_iff.1 hu).1; simpa using this
      have := hget r (by omega)
      rw [hu] at this
      exact this
    have iO : Inhabited Ky := ⟨⟨0, ⟨#[]⟩⟩⟩
    obtain ⟨X, hX⟩ := Go.Deep.choose_lt (α := Ky) key
    obtain ⟨b, off, spot⟩ := a'
    have hc0 := hX 0 (by omega) 0 _ rfl
    have hs := World.cell?_spot hc0
    have hspot : spot = none := by simpa [Addr.add] using hs
    subst hspot
    have hlt : b < W.heap.size := cellLt hc0
    refine ⟨(List.range len).map X, some ⟨b, off, none⟩, _, by simp; rfl, by simpa using hlen, .inr ⟨b, off, rfl, hlt, fun j u hu => ?_⟩⟩
    have hj : j < len * 2 := by have := (List.getElem?_eq_some_iff.1 hu).1; rw [kc_len] at this; simpa using this
    have hi : j / 2 < len := by omega
    have he : ((List.range len).map X)[j / 2]? = some (X (j / 2)) := by rw [List.getElem?_map, List.getElem?_range hi]; rfl
    have hg := kc_get' _ (j / 2) (j % 2) _ he (by omega)
    rw [show j / 2 * 2 + j % 2 = j by omega, hu] at hg
    have := hX (j / 2) hi (j % 2) u hg.symm
    rw [add_plain', add_plain', show off + j / 2 * 2 + j % 2 = off + j by omega] at this
    exact this
set_option maxRecDepth 100000 in
theorem ov_of {fuel : Nat} {cs' : List Value} {x : DataW H × List MemPlace} (ht : DataW.trod enc Try.prog W 0 (fun _ => true) true fuel 33 cs' = some x) (hw : Rows.uptoBulk x.1 ≤ 1048576) :
    ∃ o : Ov, cs' = [.int .i64 o.kind, .int .i64 o.ver, .int .i64 o.ep, .int .i64 o.num, .slice o.va o.vn o.vc] ∧ ArgK W (.slice o.va o.vn o.vc) o.ks := by
  obtain ⟨xs, n, _, rfl, hl, hlen, hf⟩ := DataW.trod_struct Try.underlying33 ht
  rw [Try.cellsOp] at hl
  obtain ⟨c0, c1, c2, c3, c4, rfl⟩ := list5 hl
  obtain ⟨y0, y1, y2, y3, y4, rfl⟩ := list5 (l := xs) (by simpa using hlen)
  have h0 : DataW.trod enc Try.prog W 0 (fun _ => true) true n 3 (([c0, c1, c2, c3, c4].drop 0).take (Try.prog.cellsOf 3)) = some y0 := hf 0 _ rfl
  have h1 : DataW.trod enc Try.prog W 0 (fun _ => true) true n 3 (([c0, c1, c2, c3, c4].drop 1).take (Try.prog.cellsOf 3)) = some y1 := hf 1 _ rfl
  have h2 : DataW.trod enc Try.prog W 0 (fun _ => true) true n 3 (([c0, c1, c2, c3, c4].drop 2).take (Try.prog.cellsOf 3)) = some y2 := hf 2 _ rfl
  have h3 : DataW.trod enc Try.prog W 0 (fun _ => true) true n 3 (([c0, c1, c2, c3, c4].drop 3).take (Try.prog.cellsOf 3)) = some y3 := hf 3 _ rfl
  have h4 : DataW.trod enc Try.prog W 0 (fun _ => true) true n 31 (([c0, c1, c2, c3, c4].drop 4).take (Try.prog.cellsOf 31)) = some y4 := hf 4 _ rfl
  rw [Try.cellsWord] at h0 h1 h2 h3
  rw [Try.cellsSlK] at h4
  obtain ⟨p0, e0, _, _⟩ := DataW.trod_int Try.underlying3 h0
  obtain ⟨p1, e1, _, _⟩ := DataW.trod_int Try.underlying3 h1
  obtain ⟨p2, e2, _, _⟩ := DataW.trod_int Try.underlying3 h2
  obtain ⟨p3, e3, _, _⟩ := DataW.trod_int Try.underlying3 h3
  simp at e0 e1 e2 e3
  subst e0 e1 e2 e3
  have hb : Rows.uptoBulk y4.1 ≤ 1048576 := by
    rw [Rows.uptoBulk] at hw
    have := bulk_in (d := y4.1) (l := [y0, y1, y2, y3, y4].map (·.1)) (by simp)
    omega
  obtain ⟨ks, hk⟩ := argK_bulk (v := c4) (x := y4) (by simpa using h4) hb
  obtain ⟨a4, cap4, rfl⟩ := hk.form
  exact ⟨⟨p0, p1, p2, p3, a4, ks.length, cap4, ks⟩, rfl, hk⟩
set_option maxRecDepth 100000 in
theorem rowG_of {a : Option Addr} {len cap : Nat} {d : DataW H} {ps : List MemPlace} (h : DataW.Trod enc Try.prog W 0 (fun _ => true) true 22 (.slice a len cap) d ps) (hw : Rows.uptoBulk d ≤ 1048576) :
    ∃ ops : List Ov, ops.length = len ∧ RowG W a ops ∧ len ≤ 1048576 := by
  obtain ⟨fuel, hf⟩ := h
  rcases Go.Deep.open_slice Try.underlying22 hf with ⟨hcs, hx⟩ | ⟨a', len', cap', m, n, D, Pl, hcs, hb, hl, hm, hmm, hx, hel⟩
  · simp [Value.cells] at hcs
    obtain ⟨rfl, rfl, rfl⟩ := hcs
    exact ⟨[], rfl, .inl rfl, by omega⟩
  · simp [Value.cells] at hcs
    obtain ⟨rfl, rfl, rfl⟩ := hcs
    simp only [if_true] at hmm
    subst hmm
    simp only [Prod.mk.injEq] at hx
    obtain ⟨rfl, -⟩ := hx
    rw [Rows.uptoBulk] at hw
    have hlen := bulk_many ((List.range len).map D)
    simp only [List.length_map, List.length_range] at hlen
    by_cases h0 : len = 0
    · exact ⟨[], h0.symm, .inl rfl, by omega⟩
    have key : ∀ i, i < len → ∃ o : Ov, (W.cell? (a'.add (i * 5)) = some (.int .i64 o.kind) ∧ W.cell? ((a'.add (i * 5)).add 1) = some (.int .i64 o.ver) ∧ W.cell? ((a'.add (i * 5)).add 2) = some (.int .i64 o.ep) ∧ W.cell? ((a'.add (i * 5)).add 3) = some (.int .i64 o.num) ∧ W.cell? ((a'.add (i * 5)).add 4) = some (.slice o.va o.vn o.vc)) ∧ ArgK W (.slice o.va o.vn o.vc) o.ks := by
      intro i hi
      obtain ⟨cs', hc, ht⟩ := hel i (by omega)
      rw [Try.cellsOp] at hc
      obtain ⟨_, hlen, hget⟩ := World.cells?_some hc
      have hbi := bulk_in (d := D i) (l := (List.range len).map D) (List.mem_map.2 ⟨i, List.mem_range.2 hi, rfl⟩)
      obtain ⟨o, rfl, hk⟩ := ov_of ht (show Rows.uptoBulk (D i) ≤ 1048576 by omega)
      have g0 := hget 0 (by omega)
      have g1 := hget 1 (by omega)
      have g2 := hget 2 (by omega)
      have g3 := hget 3 (by omega)
      have g4 := hget 4 (by omega)
      simp at g0 g1 g2 g3 g4
      refine ⟨o, ⟨?_, g1, g2, g3, g4⟩, hk⟩
      simpa [Addr.add] using g0
    have iO : Inhabited Ov := ⟨⟨0, 0, 0, 0, none, 0, 0, []⟩⟩
    obtain ⟨X, hX⟩ := Go.Deep.choose_lt (α := Ov) key
    obtain ⟨b, off, spot⟩ := a'
    have hs := World.cell?_spot (hX 0 (by omega)).1.1
    have hspot : spot = none := by simpa [Addr.add] using hs
    subst hspot
    have hadd : ∀ i, (⟨b, off, none⟩ : Addr).add i = ⟨b, off + i, none⟩ := fun i => by rw [Go.WideShapes.add_plain]
    have hadd2 : ∀ i j, (⟨b, off + i, none⟩ : Addr).add j = ⟨b, off + i + j, none⟩ := fun i j => by rw [Go.WideShapes.add_plain]
    refine ⟨(List.range len).map X, by simp, .inr ⟨b, off, rfl, cellLt (hX 0 (by omega)).1.1, fun i o ho => ?_⟩, by omega⟩
    have hi : i < len := by have := (List.getElem?_eq_some_iff.1 ho).1; simpa using this
    rw [List.getElem?_map, List.getElem?_range hi] at ho
    cases ho
    have := hX i hi
    rw [hadd, hadd2, hadd2, hadd2, hadd2] at this
    exact ⟨this.1.1, this.1.2.1, this.1.2.2.1, this.1.2.2.2.1, this.1.2.2.2.2, this.2⟩
end
theorem bulk_of {H : Type} {ds : List (DataW H)} {d : DataW H} (hk : Rows.uptoSmall H ds = true) (hm : d ∈ ds) : Rows.uptoBulk d ≤ 1048576 := by
  have h0 : Rows.uptoBulkAll ds ≤ 1048576 := of_decide_eq_true hk
  have h1 := bulk_in hm
  omega
theorem RowG.below {w w' : World} {a : Option Addr} {ops : List Ov} (h : RowG w a ops) (hb : Below w.heap.size w w') : RowG w' a ops := by
  rcases h with h | ⟨b, off, rfl, hg, hc⟩
  · exact .inl h
  · exact .inr ⟨b, off, rfl, Nat.lt_of_lt_of_le hg hb.size, fun i o ho => by
      obtain ⟨h0, h1, h2, h3, h4, h5⟩ := hc i o ho
      exact ⟨(hb.cell (cellLt h0)).trans h0, (hb.cell (cellLt h1)).trans h1, (hb.cell (cellLt h2)).trans h2, (hb.cell (cellLt h3)).trans h3, (hb.cell (cellLt h4)).trans h4, h5.below hb⟩⟩
theorem RowG.op {w : World} {a : Option Addr} {ops : List Ov} {i : Nat} {o : Ov} (h : RowG w a ops) (ho : ops[i]? = some o) : ∃ b off, a = some ⟨b, off, none⟩ ∧ b < w.heap.size ∧ w.cell? ⟨b, off + i * 5, none⟩ = some (.int .i64 o.kind) ∧ w.cell? ⟨b, off + i * 5 + 1, none⟩ = some (.int .i64 o.ver) ∧ w.cell? ⟨b, off + i * 5 + 2, none⟩ = some (.int .i64 o.ep) ∧ w.cell? ⟨b, off + i * 5 + 3, none⟩ = some (.int .i64 o.num) ∧ w.cell? ⟨b, off + i * 5 + 4, none⟩ = some (.slice o.va o.vn o.vc) ∧ ArgK w (.slice o.va o.vn o.vc) o.ks := by
  rcases h with rfl | ⟨b, off, rfl, hg, hc⟩
  · simp at ho
  · exact ⟨b, off, rfl, hg, hc i o ho⟩
end Go.Proofs.Ytaofhjckliobpaa
