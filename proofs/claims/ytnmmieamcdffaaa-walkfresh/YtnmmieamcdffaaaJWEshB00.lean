/- Among the arguments: cells of a word, of a text. -/
import Derived.Test.YtnmmieamcdffaaaJWEsh02
import Derived.ProofKit
import Derived.OpenShut
import Derived.Deep.Slices
import Derived.SizedLaws
import Derived.Lib.SmallJoins
import Derived.Test.YtnmmieamcdffaaaJWEsh38
namespace Go.Proofs.Ytnmmieamcdffaaa
section
open Go.RowKit

theorem Try.cellsWord : Try.prog.cellsOf 3 = 1 := by kernel_rfl
theorem Try.cellsText : Try.prog.cellsOf 9 = 1 := by kernel_rfl
theorem seven {α : Type} {l : List α} (h : l.length = 7) : ∃ c0 c1 c2 c3 c4 c5 c6, l = [c0, c1, c2, c3, c4, c5, c6] := by
  match l, h with
  | [c0, c1, c2, c3, c4, c5, c6], _ => exact ⟨c0, c1, c2, c3, c4, c5, c6, rfl⟩
end
section
open Go.ChangeShapes Go.WideShapes Go.ChangeAt Go.RowKit Go.Joins
theorem Try.cellsYes : Try.prog.cellsOf 4 = 1 := by kernel_rfl
theorem Try.cellsKey : Try.prog.cellsOf 28 = 2 := by kernel_rfl
theorem Try.cellsNode : Try.prog.cellsOf 31 = 4 := by kernel_rfl
theorem Try.cellsEnt : Try.prog.cellsOf 42 = 7 := by kernel_rfl
theorem Try.bytesEnt : Try.prog.bytesOf 42 = 72 := by kernel_rfl
theorem two {α : Type} {l : List α} (h : l.length = 2) : ∃ c0 c1, l = [c0, c1] := by
  match l, h with
  | [c0, c1], _ => exact ⟨c0, c1, rfl⟩
theorem three {α : Type} {l : List α} (h : l.length = 3) : ∃ c0 c1 c2, l = [c0, c1, c2] := by
  match l, h with
  | [c0, c1, c2], _ => exact ⟨c0, c1, c2, rfl⟩
theorem four {α : Type} {l : List α} (h : l.length = 4) : ∃ c0 c1 c2 c3, l = [c0, c1, c2, c3] := by
  match l, h with
  | [c0, c1, c2, c3], _ => exact ⟨c0, c1, c2, c3, rfl⟩
/-- what a slice weighs -/
theorem weights_slice {H : Type} {P : Program} {t e : TypeId} {elems spare : List (DataW H)} (hu : P.underlying t = some (.slice e)) (h : ∀ n ∈ (DataW.slice elems spare).weights P t, n ≤ reachBytes) : elems.length * P.bytesOf e ≤ reachBytes := by
  simp only [DataW.weights, hu] at h
  exact Nat.le_trans (Nat.mul_le_mul_right _ (Nat.le_add_right _ _)) (h _ (List.mem_cons_self ..))

section
variable {H : Type} {enc : TypeId × Value → H} {W : World}
theorem ky_of {fuel : Nat} {cs : List Value} {x : DataW H × List MemPlace} (h : DataW.trod enc Try.prog W 0 (fun _ => true) true fuel 28 cs = some x) : ∃ p : Ky, cs = [.int .i64 p.d, .string p.nm] := by
  obtain ⟨xs, n, _, rfl, hl, hlen, hf⟩ := DataW.trod_struct Try.underlying28 h
  rw [Try.cellsKey] at hl
  obtain ⟨c0, c1, rfl⟩ := two hl
  obtain ⟨y0, y1, rfl⟩ := two (l := xs) (by simpa using hlen)
  have h0 : DataW.trod enc Try.prog W 0 (fun _ => true) true n 3 (([c0, c1].drop 0).take (Try.prog.cellsOf 3)) = some y0 := hf 0 _ rfl
  have h1 : DataW.trod enc Try.prog W 0 (fun _ => true) true n 9 (([c0, c1].drop 1).take (Try.prog.cellsOf 9)) = some y1 := hf 1 _ rfl
  rw [Try.cellsWord] at h0
  rw [Try.cellsText] at h1
  obtain ⟨p0, e0, _, _⟩ := DataW.trod_int Try.underlying3 h0
  obtain ⟨p1, e1, _, _⟩ := DataW.trod_string Try.underlying9 h1
  simp at e0 e1
  subst e0 e1
  exact ⟨⟨p0, p1⟩, rfl⟩
theorem nd_of {fuel : Nat} {cs : List Value} {x : DataW H × List MemPlace} (h : DataW.trod enc Try.prog W 0 (fun _ => true) true fuel 31 cs = some x) : ∃ (i k m : Int) (t : ByteArray), cs = [.int .i64 i, .int .i64 k, .int .i64 m, .string t] := by
  obtain ⟨xs, n, _, rfl, hl, hlen, hf⟩ := DataW.trod_struct Try.underlying31 h
  rw [Try.cellsNode] at hl
  obtain ⟨c0, c1, c2, c3, rfl⟩ := four hl
  obtain ⟨y0, y1, y2, y3, rfl⟩ := four (l := xs) (by simpa using hlen)
  have h0 : DataW.trod enc Try.prog W 0 (fun _ => true) true n 3 (([c0, c1, c2, c3].drop 0).take (Try.prog.cellsOf 3)) = some y0 := hf 0 _ rfl
  have h1 : DataW.trod enc Try.prog W 0 (fun _ => true) true n 3 (([c0, c1, c2, c3].drop 1).take (Try.prog.cellsOf 3)) = some y1 := hf 1 _ rfl
  have h2 : DataW.trod enc Try.prog W 0 (fun _ => true) true n 3 (([c0, c1, c2, c3].drop 2).take (Try.prog.cellsOf 3)) = some y2 := hf 2 _ rfl
  have h3 : DataW.trod enc Try.prog W 0 (fun _ => true) true n 9 (([c0, c1, c2, c3].drop 3).take (Try.prog.cellsOf 9)) = some y3 := hf 3 _ rfl
  rw [Try.cellsWord] at h0 h1 h2
  rw [Try.cellsText] at h3
  obtain ⟨p0, e0, _, _⟩ := DataW.trod_int Try.underlying3 h0
  obtain ⟨p1, e1, _, _⟩ := DataW.trod_int Try.underlying3 h1
  obtain ⟨p2, e2, _, _⟩ := DataW.trod_int Try.underlying3 h2
  obtain ⟨p3, e3, _, _⟩ := DataW.trod_string Try.underlying9 h3
  simp at e0 e1 e2 e3
  subst e0 e1 e2 e3
  exact ⟨p0, p1, p2, p3, rfl⟩
theorem en_of {fuel : Nat} {cs : List Value} {x : DataW H × List MemPlace} (h : DataW.trod enc Try.prog W 0 (fun _ => true) true fuel 42 cs = some x) : ∃ p : En, cs = p.vals := by
  obtain ⟨xs, n, _, rfl, hl, hlen, hf⟩ := DataW.trod_struct Try.underlying42 h
  rw [Try.cellsEnt] at hl
  obtain ⟨c0, c1, c2, c3, c4, c5, c6, rfl⟩ := seven hl
  obtain ⟨y0, y1, y2, rfl⟩ := three (l := xs) (by simpa using hlen)
  have h0 : DataW.trod enc Try.prog W 0 (fun _ => true) true n 28 (([c0, c1, c2, c3, c4, c5, c6].drop 0).take (Try.prog.cellsOf 28)) = some y0 := hf 0 _ rfl
  have h1 : DataW.trod enc Try.prog W 0 (fun _ => true) true n 4 (([c0, c1, c2, c3, c4, c5, c6].drop 2).take (Try.prog.cellsOf 4)) = some y1 := hf 1 _ rfl
  have h2 : DataW.trod enc Try.prog W 0 (fun _ => true) true n 31 (([c0, c1, c2, c3, c4, c5, c6].drop 3).take (Try.prog.cellsOf 31)) = some y2 := hf 2 _ rfl
  rw [Try.cellsKey] at h0
  rw [Try.cellsYes] at h1
  rw [Try.cellsNode] at h2
  obtain ⟨p0, e0⟩ := ky_of h0
  obtain ⟨p1, e1, _⟩ := DataW.trod_bool Try.underlying4 h1
  obtain ⟨i, k, m, t, e2⟩ := nd_of h2
  simp at e0 e1 e2
  obtain ⟨rfl, rfl⟩ := e0
  subst e1
  obtain ⟨rfl, rfl, rfl, rfl⟩ := e2
  exact ⟨⟨p0.d, p0.nm, p1, i, k, m, t⟩, rfl⟩
end
set_option maxRecDepth 100000 in
theorem ent_arg {H : Type} {enc : TypeId × Value → H} {W : World} {r : Reach} {b0 : Nat} {v : Value} {d : DataW H} {ps : List MemPlace} (hv : Value.okWide Try.prog W r b0 42 v) (h : DataW.Trod enc Try.prog W 0 (fun _ => true) true 42 v d ps) : ∃ e : En, v = e.agg := by
  obtain ⟨cs, rfl, hsz⟩ := okWide_struct Try.underlying42 hv
  obtain ⟨fuel, hf⟩ := h
  obtain ⟨p, hp⟩ := en_of hf
  refine ⟨p, ?_⟩
  have e : (Value.agg cs).cells.toList = cs.toList := rfl
  rw [e] at hp
  have : cs = p.vals.toArray := Array.toList_inj.1 (by rw [hp])
  rw [this]; rfl
end
end Go.Proofs.Ytnmmieamcdffaaa
