/- The law's example. -/
import Derived.Test.YtekonakanieeaaaJWCks40
import Derived.ProofKit
import Derived.OpenShut
import Derived.Deep.Slices
import Derived.SizedLaws
import Derived.Lib.SmallJoins
import Derived.Test.YtekonakanieeaaaJWCks33
import Derived.Test.YtekonakanieeaaaJWCks34
import Derived.Test.YtekonakanieeaaaJWCks35
import Derived.Test.YtekonakanieeaaaJWCks36
import Derived.Test.YtekonakanieeaaaJWCks37
import Derived.Test.YtekonakanieeaaaJWCks38
namespace Go.Proofs.Ytekonakanieeaaa
section
open Go.RowKit Go.Lib

def exM : Mg := ⟨4, 1, 2, 0, 3, 4, 5, 0, zeroOp, [], []⟩
theorem num_small {n : Nat} (h : n < 128) : numI (n : Int) = [(n : Int)] := by unfold numI; rw [Int.toNat_natCast, numB_lt h]
theorem exM_ok : msgOk exM := by
  refine ⟨⟨?_, ?_, ?_, ?_, ?_, ?_, ?_⟩, .inr (.inr (.inr ⟨rfl, rfl, rfl, rfl⟩))⟩ <;> (unfold numOk exM; decide)
theorem exM_B : msgB exM = [4, 1, 2, 0, 3, 4, 5, 0] := by
  have h0 := num_small (n := 0) (by decide)
  have h1 := num_small (n := 1) (by decide)
  have h2 := num_small (n := 2) (by decide)
  have h3 := num_small (n := 3) (by decide)
  have h4 := num_small (n := 4) (by decide)
  have h5 := num_small (n := 5) (by decide)
  show (4 : Int) :: (numI ((1 : Nat) : Int) ++ (numI ((2 : Nat) : Int) ++ (numI ((0 : Nat) : Int) ++ (numI ((3 : Nat) : Int) ++ (numI ((4 : Nat) : Int) ++ (numI ((5 : Nat) : Int) ++ (numI ((0 : Nat) : Int) ++ []))))))) = _
  rw [h0, h1, h2, h3, h4, h5]
  rfl
theorem of3 : floatOfInt .f64 3 = 4613937818241073152 := by decide +kernel
theorem of4 : floatOfInt .f64 4 = 4616189618054758400 := by decide +kernel
theorem encode_ex (w : World) : Calls Try.prog 16 #[.agg #[.int .i64 4, .int .i64 1, .int .i64 2, .int .i64 0, .complex .f64 4613937818241073152 4616189618054758400, .int .i64 5, .int .i64 0, .int .i64 0, .int .i64 0, .string ⟨#[]⟩, .int .i64 0, .string ⟨#[]⟩, .int .i64 0, .string ⟨#[]⟩, .slice none 0 0, .slice none 0 0]] w fun e w' => ∃ a c, e = .returned (.tuple #[.slice a 8 c, .int .i64 0]) ∧ OwnB w' w.heap.size (.slice a 8 c) [4, 1, 2, 0, 3, 4, 5, 0] ∧ Below w.heap.size w w' := by
  have hp : plainB (MsV exM (.slice none 0 0) (.slice none 0 0)) = true := (MsV_plain (by unfold numOk exM; decide) (by unfold numOk exM; decide)).2 exM_ok
  have hm : (MsV exM (.slice none 0 0) (.slice none 0 0)).mg = exM := MsV_mg (by unfold numOk exM; decide) (by unfold numOk exM; decide)
  have h := encode_p (MsV exM (.slice none 0 0) (.slice none 0 0)) w ⟨World.ownsRow_nil _ _ _ _, World.ownsRow_nil _ _ _ _⟩
  rw [hp, hm, exM_B] at h
  unfold MsV exM Ms.arr at h
  simp only [of3, of4] at h
  refine h.mono fun e w' hh => ?_
  rcases hh with ⟨_, v, he, ho, hb⟩ | ⟨h0, _⟩
  · obtain ⟨a, c, hv⟩ := owns_len ho
    subst hv
    exact ⟨a, c, he, ho, hb⟩
  · cases h0
theorem lit8 (w : World) (t : TypeId) : RB (w.alloc (.cells #[.int .u8 4, .int .u8 1, .int .u8 2, .int .u8 0, .int .u8 3, .int .u8 4, .int .u8 5, .int .u8 0] t)) (.slice (some ⟨w.heap.size, 0, none⟩) 8 8) [4, 1, 2, 0, 3, 4, 5, 0] := by
  refine ⟨_, _, rfl, .inr ⟨w.heap.size, 0, rfl, by simp, fun i x hx => ?_⟩⟩
  rw [Nat.zero_add, cell_of (heap_new _ _)]
  have hi := (List.getElem?_eq_some_iff.1 hx).1
  have : i = 0 ∨ i = 1 ∨ i = 2 ∨ i = 3 ∨ i = 4 ∨ i = 5 ∨ i = 6 ∨ i = 7 := by simp at hi; omega
  rcases this with rfl | rfl | rfl | rfl | rfl | rfl | rfl | rfl <;> (cases hx; rfl)
set_option maxRecDepth 20000 in
set_option maxHeartbeats 8000000 in
theorem awake_w (w : World) : Calls Try.prog 10 #[] w fun e w' => e = .returned (.bool true) ∧ Below w.heap.size w w' := by
  have HE : Hid (∀ w, Calls Try.prog 16 #[.agg #[.int .i64 4, .int .i64 1, .int .i64 2, .int .i64 0, .complex .f64 4613937818241073152 4616189618054758400, .int .i64 5, .int .i64 0, .int .i64 0, .int .i64 0, .string ⟨#[]⟩, .int .i64 0, .string ⟨#[]⟩, .int .i64 0, .string ⟨#[]⟩, .slice none 0 0, .slice none 0 0]] w fun e w' => ∃ a c, e = .returned (.tuple #[.slice a 8 c, .int .i64 0]) ∧ OwnB w' w.heap.size (.slice a 8 c) [4, 1, 2, 0, 3, 4, 5, 0] ∧ Below w.heap.size w w') := encode_ex
  go_enter Try.func10, Try.ntmps10
  go_wp2_with (first
    | (go_at_call 16; refine (HE.out _).mono ?_; rintro e w1 ⟨a1, c1, rfl, ho1, hb1⟩)
    | (go_at_call 18; refine (same_any _ _ [4, 1, 2, 0, 3, 4, 5, 0] [4, 1, 2, 0, 3, 4, 5, 0] _ (ho1.below (below_alloc _ _)).rb (lit8 w1 _) (by decide) (by decide)).mono ?_; rintro e w2 ⟨rfl, hb2⟩; rw [decide_eq_true (rfl : ([4, 1, 2, 0, 3, 4, 5, 0] : List Int) = [4, 1, 2, 0, 3, 4, 5, 0])]))
  go_ret
  exact ⟨rfl, chainB hb1 (chainB (below_alloc _ _) hb2)⟩
end
section
open Go.ChangeShapes Go.WideShapes Go.ChangeAt Go.RowKit Go.Joins

theorem Try.cellsU : Try.prog.cellsOf 5 = 1 := by kernel_rfl
theorem Try.cellsWord : Try.prog.cellsOf 3 = 1 := by kernel_rfl
theorem Try.cellsText : Try.prog.cellsOf 9 = 1 := by kernel_rfl
theorem Try.cellsYes : Try.prog.cellsOf 4 = 1 := by kernel_rfl
theorem Try.cellsOpn : Try.prog.cellsOf 26 = 7 := by kernel_rfl
theorem Try.cellsKey : Try.prog.cellsOf 40 = 2 := by kernel_rfl
theorem Try.cellsNode : Try.prog.cellsOf 42 = 4 := by kernel_rfl
theorem Try.cellsEnt : Try.prog.cellsOf 44 = 7 := by kernel_rfl
theorem Try.cellsSlE : Try.prog.cellsOf 27 = 1 := by kernel_rfl
theorem Try.cellsSlK : Try.prog.cellsOf 28 = 1 := by kernel_rfl
theorem Try.cellsMm : Try.prog.cellsOf 54 = 17 := by kernel_rfl
theorem Try.bytesU : Try.prog.bytesOf 5 = 1 := by kernel_rfl
theorem Try.bytesEnt : Try.prog.bytesOf 44 = 72 := by kernel_rfl
theorem Try.bytesKey : Try.prog.bytesOf 40 = 24 := by kernel_rfl
theorem two {α : Type} {l : List α} (h : l.length = 2) : ∃ c0 c1, l = [c0, c1] := by
  match l, h with
  | [c0, c1], _ => exact ⟨c0, c1, rfl⟩
theorem three {α : Type} {l : List α} (h : l.length = 3) : ∃ c0 c1 c2, l = [c0, c1, c2] := by
  match l, h with
  | [c0, c1, c2], _ => exact ⟨c0, c1, c2, rfl⟩
theorem four {α : Type} {l : List α} (h : l.length = 4) : ∃ c0 c1 c2 c3, l = [c0, c1, c2, c3] := by
  match l, h with
  | [c0, c1, c2, c3], _ => exact ⟨c0, c1, c2, c3, rfl⟩
theorem seven {α : Type} {l : List α} (h : l.length = 7) : ∃ c0 c1 c2 c3 c4 c5 c6, l = [c0, c1, c2, c3, c4, c5, c6] := by
  match l, h with
  | [c0, c1, c2, c3, c4, c5, c6], _ => exact ⟨c0, c1, c2, c3, c4, c5, c6, rfl⟩
theorem eleven {α : Type} {l : List α} (h : l.length = 11) : ∃ c0 c1 c2 c3 c4 c5 c6 c7 c8 c9 c10, l = [c0, c1, c2, c3, c4, c5, c6, c7, c8, c9, c10] := by
  match l, h with
  | [c0, c1, c2, c3, c4, c5, c6, c7, c8, c9, c10], _ => exact ⟨c0, c1, c2, c3, c4, c5, c6, c7, c8, c9, c10, rfl⟩
theorem seventeen {α : Type} {l : List α} (h : l.length = 17) : ∃ c0 c1 c2 c3 c4 c5 c6 c7 c8 c9 c10 c11 c12 c13 c14 c15 c16, l = [c0, c1, c2, c3, c4, c5, c6, c7, c8, c9, c10, c11, c12, c13, c14, c15, c16] := by
  match l, h with
  | [c0, c1, c2, c3, c4, c5, c6, c7, c8, c9, c10, c11, c12, c13, c14, c15, c16], _ => exact ⟨c0, c1, c2, c3, c4, c5, c6, c7, c8, c9, c10, c11, c12, c13, c14, c15, c16, rfl⟩
theorem weightsAll_mem {H : Type} {P : Program} {e : TypeId} {d : DataW H} {n : Nat} : ∀ {ds : List (DataW H)}, d ∈ ds → n ∈ d.weights P e → n ∈ DataW.weightsAll P e ds
  | [], h, _ => by cases h
  | d0 :: ds, h, hn => by
    simp only [DataW.weightsAll, List.mem_append]
    rcases List.mem_cons.1 h with rfl | h
    · exact .inl hn
    · exact .inr (weightsAll_mem h hn)
/-- what a slice weighs -/
theorem weights_slice {H : Type} {P : Program} {t e : TypeId} {elems spare : List (DataW H)} (hu : P.underlying t = some (.slice e)) (h : ∀ n ∈ (DataW.slice elems spare).weights P t, n ≤ reachBytes) : elems.length * P.bytesOf e ≤ reachBytes := by
  simp only [DataW.weights, hu] at h
  exact Nat.le_trans (Nat.mul_le_mul_right _ (Nat.le_add_right _ _)) (h _ (List.mem_cons_self ..))

section
variable {H : Type} {enc : TypeId × Value → H} {W : World}
theorem op_of {fuel : Nat} {cs : List Value} {x : DataW H × List MemPlace} (h : DataW.trod enc Try.prog W 0 (fun _ => true) true fuel 26 cs = some x) : ∃ p : Opn, cs = p.arr.toList := by
  obtain ⟨xs, n, _, rfl, hl, hlen, hf⟩ := DataW.trod_struct Try.underlying26 h
  rw [Try.cellsOpn] at hl
  obtain ⟨c0, c1, c2, c3, c4, c5, c6, rfl⟩ := seven hl
  obtain ⟨y0, y1, y2, y3, y4, y5, y6, rfl⟩ := seven (l := xs) (by simpa using hlen)
  have h0 : DataW.trod enc Try.prog W 0 (fun _ => true) true n 3 (([c0, c1, c2, c3, c4, c5, c6].drop 0).take (Try.prog.cellsOf 3)) = some y0 := hf 0 _ rfl
  have h1 : DataW.trod enc Try.prog W 0 (fun _ => true) true n 3 (([c0, c1, c2, c3, c4, c5, c6].drop 1).take (Try.prog.cellsOf 3)) = some y1 := hf 1 _ rfl
  have h2 : DataW.trod enc Try.prog W 0 (fun _ => true) true n 9 (([c0, c1, c2, c3, c4, c5, c6].drop 2).take (Try.prog.cellsOf 9)) = some y2 := hf 2 _ rfl
  have h3 : DataW.trod enc Try.prog W 0 (fun _ => true) true n 3 (([c0, c1, c2, c3, c4, c5, c6].drop 3).take (Try.prog.cellsOf 3)) = some y3 := hf 3 _ rfl
  have h4 : DataW.trod enc Try.prog W 0 (fun _ => true) true n 9 (([c0, c1, c2, c3, c4, c5, c6].drop 4).take (Try.prog.cellsOf 9)) = some y4 := hf 4 _ rfl
  have h5 : DataW.trod enc Try.prog W 0 (fun _ => true) true n 3 (([c0, c1, c2, c3, c4, c5, c6].drop 5).take (Try.prog.cellsOf 3)) = some y5 := hf 5 _ rfl
  have h6 : DataW.trod enc Try.prog W 0 (fun _ => true) true n 9 (([c0, c1, c2, c3, c4, c5, c6].drop 6).take (Try.prog.cellsOf 9)) = some y6 := hf 6 _ rfl
  rw [Try.cellsWord] at h0 h1 h3 h5
  rw [Try.cellsText] at h2 h4 h6
  obtain ⟨p0, e0, _, _⟩ := DataW.trod_int Try.underlying3 h0
  obtain ⟨p1, e1, _, _⟩ := DataW.trod_int Try.underlying3 h1
  obtain ⟨p2, e2, _, _⟩ := DataW.trod_string Try.underlying9 h2
  obtain ⟨p3, e3, _, _⟩ := DataW.trod_int Try.underlying3 h3
  obtain ⟨p4, e4, _, _⟩ := DataW.trod_string Try.underlying9 h4
  obtain ⟨p5, e5, _, _⟩ := DataW.trod_int Try.underlying3 h5
  obtain ⟨p6, e6, _, _⟩ := DataW.trod_string Try.underlying9 h6
  simp at e0 e1 e2 e3 e4 e5 e6
  subst e0 e1 e2 e3 e4 e5 e6
  exact ⟨⟨p0, p1, p2, p3, p4, p5, p6⟩, rfl⟩
theorem ky_of {fuel : Nat} {cs : List Value} {x : DataW H × List MemPlace} (h : DataW.trod enc Try.prog W 0 (fun _ => true) true fuel 40 cs = some x) : ∃ p : Ky, cs = [.int .i64 p.d, .string p.nm] := by
  obtain ⟨xs, n, _, rfl, hl, hlen, hf⟩ := DataW.trod_struct Try.underlying40 h
  rw [Try.cellsKey] at hl
  obtain ⟨c0, c1, rfl⟩ := two hl
  obtain ⟨y0, y1, rfl⟩ := two (l := xs) (by simpa using hlen)
  have h0 : DataW.trod enc Try.prog W 0 (fun _ => true) true n 3 (([c0, c1].drop 0).take (Try.prog.cellsOf 3)) = some y0 := hf 0 _ rfl
  have h1 : DataW.trod enc Try.prog W 0 (fun _ => true) true n 9 (([c0, c1].drop 1).take (Try.prog.cellsOf 9)) = some y1 := hf 1 _ rfl
  rw [Try.cellsWord] at h0
  rw [Try.cellsText] at h1
  obtain ⟨p0, e0, _, _⟩ := DataW.trod_int Try.underlying3 h0
  obtain ⟨p1, e1, _, _⟩ := DataW.trod_string Try.underlying9 h1
  simp at e0 e1
  subst e0 e1
  exact ⟨⟨p0, p1⟩, rfl⟩
theorem nd_of {fuel : Nat} {cs : List Value} {x : DataW H × List MemPlace} (h : DataW.trod enc Try.prog W 0 (fun _ => true) true fuel 42 cs = some x) : ∃ (i k m : Int) (t : ByteArray), cs = [.int .i64 i, .int .i64 k, .int .i64 m, .string t] := by
  obtain ⟨xs, n, _, rfl, hl, hlen, hf⟩ := DataW.trod_struct Try.underlying42 h
  rw [Try.cellsNode] at hl
  obtain ⟨c0, c1, c2, c3, rfl⟩ := four hl
  obtain ⟨y0, y1, y2, y3, rfl⟩ := four (l := xs) (by simpa using hlen)
  have h0 : DataW.trod enc Try.prog W 0 (fun _ => true) true n 3 (([c0, c1, c2, c3].drop 0).take (Try.prog.cellsOf 3)) = some y0 := hf 0 _ rfl
  have h1 : DataW.trod enc Try.prog W 0 (fun _ => true) true n 3 (([c0, c1, c2, c3].drop 1).take (Try.prog.cellsOf 3)) = some y1 := hf 1 _ rfl
  have h2 : DataW.trod enc Try.prog W 0 (fun _ => true) true n 3 (([c0, c1, c2, c3].drop 2).take (Try.prog.cellsOf 3)) = some y2 := hf 2 _ rfl
  have h3 : DataW.trod enc Try.prog W 0 (fun _ => true) true n 9 (([c0, c1, c2, c3].drop 3).take (Try.prog.cellsOf 9)) = some y3 := hf 3 _ rfl
  rw [Try.cellsWord] at h0 h1 h2
  rw [Try.cellsText] at h3
  obtain ⟨p0, e0, _, _⟩ := DataW.trod_int Try.underlying3 h0
  obtain ⟨p1, e1, _, _⟩ := DataW.trod_int Try.underlying3 h1
  obtain ⟨p2, e2, _, _⟩ := DataW.trod_int Try.underlying3 h2
  obtain ⟨p3, e3, _, _⟩ := DataW.trod_string Try.underlying9 h3
  simp at e0 e1 e2 e3
  subst e0 e1 e2 e3
  exact ⟨p0, p1, p2, p3, rfl⟩
theorem en_of {fuel : Nat} {cs : List Value} {x : DataW H × List MemPlace} (h : DataW.trod enc Try.prog W 0 (fun _ => true) true fuel 44 cs = some x) : ∃ p : En, cs = p.vals := by
  obtain ⟨xs, n, _, rfl, hl, hlen, hf⟩ := DataW.trod_struct Try.underlying44 h
  rw [Try.cellsEnt] at hl
  obtain ⟨c0, c1, c2, c3, c4, c5, c6, rfl⟩ := seven hl
  obtain ⟨y0, y1, y2, rfl⟩ := three (l := xs) (by simpa using hlen)
  have h0 : DataW.trod enc Try.prog W 0 (fun _ => true) true n 40 (([c0, c1, c2, c3, c4, c5, c6].drop 0).take (Try.prog.cellsOf 40)) = some y0 := hf 0 _ rfl
  have h1 : DataW.trod enc Try.prog W 0 (fun _ => true) true n 4 (([c0, c1, c2, c3, c4, c5, c6].drop 2).take (Try.prog.cellsOf 4)) = some y1 := hf 1 _ rfl
  have h2 : DataW.trod enc Try.prog W 0 (fun _ => true) true n 42 (([c0, c1, c2, c3, c4, c5, c6].drop 3).take (Try.prog.cellsOf 42)) = some y2 := hf 2 _ rfl
  rw [Try.cellsKey] at h0
  rw [Try.cellsYes] at h1
  rw [Try.cellsNode] at h2
  obtain ⟨p0, e0⟩ := ky_of h0
  obtain ⟨p1, e1, _⟩ := DataW.trod_bool Try.underlying4 h1
  obtain ⟨i, k, m, t, e2⟩ := nd_of h2
  simp at e0 e1 e2
  obtain ⟨rfl, rfl⟩ := e0
  subst e1
  obtain ⟨rfl, rfl, rfl, rfl⟩ := e2
  exact ⟨⟨p0.d, p0.nm, p1, i, k, m, t⟩, rfl⟩
end
end
section
open Go.ChangeShapes Go.WideShapes Go.ChangeAt Go.RowKit Go.Joins

theorem kc_get' (ks : List Ky) (i j : Nat) (p : Ky) (h : ks[i]? = some p) (hj : j < 2) : (kc ks)[i * 2 + j]? = ([.int .i64 p.d, .string p.nm] : List Value)[j]? := by
  obtain ⟨h0, h1⟩ := kc_get ks i p h
  have : j = 0 ∨ j = 1 := by omega
  rcases this with rfl | rfl
  · exact h0
  · exact h1
section
variable {H : Type} {enc : TypeId × Value → H} {W : World}
theorem argE_of {fuel : Nat} {v : Value} {x : DataW H × List MemPlace} (h : DataW.trod enc Try.prog W 0 (fun _ => true) true fuel 27 [v] = some x) (hw : ∀ n ∈ x.1.weights Try.prog 27, n ≤ reachBytes) : ∃ es, ArgE W v es := by
  rcases Go.Deep.open_slice Try.underlying27 h with ⟨hcs, hx⟩ | ⟨a', len, cap, m, n, D, Pl, hcs, hb, hl, hm, hmm, rfl, hel⟩
  · simp at hcs
    subst hcs
    exact ⟨[], _, _, rfl, by simp, .inl rfl⟩
  · simp at hcs
    subst hcs
    simp only [if_true] at hmm
    subst hmm
    have hlen : len * 72 ≤ 140737488351232 := by
      have := weights_slice Try.underlying27 hw
      rw [Try.bytesEnt] at this
      simp [reachBytes] at this
      omega
    by_cases h0 : len = 0
    · subst h0; exact ⟨[], _, _, rfl, by simp, .inl rfl⟩
    have key : ∀ i, i < len → ∃ p : En, ∀ r u, p.vals[r]? = some u → W.cell? ((a'.add (i * 7)).add r) = some u := by
      intro i hi
      obtain ⟨cs', hc, ht⟩ := hel i (by omega)
      rw [Try.cellsEnt] at hc
      obtain ⟨_, hlen', hget⟩ := World.cells?_some hc
      obtain ⟨p, rfl⟩ := en_of ht
      refine ⟨p, fun r u hu => ?_⟩
      have hr : r < 7 := by have := (List.getElem?_eq_some_iff.1 hu).1; simpa [En.vals] using this
      have := hget r (by omega)
      rw [hu] at this
      exact this
    have iO : Inhabited En := ⟨⟨0, ⟨#[]⟩, false, 0, 0, 0, ⟨#[]⟩⟩⟩
    obtain ⟨X, hX⟩ := Go.Deep.choose_lt (α := En) key
    obtain ⟨b, off, spot⟩ := a'
    have hc0 := hX 0 (by omega) 0 _ rfl
    have hs := World.cell?_spot hc0
    have hspot : spot = none := by simpa [Addr.add] using hs
    subst hspot
    have hlt : b < W.heap.size := cellLt hc0
    refine ⟨(List.range len).map X, some ⟨b, off, none⟩, _, by simp; rfl, by simpa using hlen, .inr ⟨b, off, rfl, hlt, fun j u hu => ?_⟩⟩
    have hj : j < len * 7 := by have := (List.getElem?_eq_some_iff.1 hu).1; rw [ec_len] at this; simpa using this
    have hi : j / 7 < len := by omega
    have he : ((List.range len).map X)[j / 7]? = some (X (j / 7)) := by rw [List.getElem?_map, List.getElem?_range hi]; rfl
    have hg := ec_get _ (j / 7) (j % 7) _ he (by omega)
    rw [show j / 7 * 7 + j % 7 = j by omega, hu] at hg
    have := hX (j / 7) hi (j % 7) u hg.symm
    rw [add_plain', add_plain', show off + j / 7 * 7 + j % 7 = off + j by omega] at this
    exact this
theorem argK_of {fuel : Nat} {v : Value} {x : DataW H × List MemPlace} (h : DataW.trod enc Try.prog W 0 (fun _ => true) true fuel 28 [v] = some x) (hw : ∀ n ∈ x.1.weights Try.prog 28, n ≤ reachBytes) : ∃ ks, ArgK W v ks := by
  rcases Go.Deep.open_slice Try.underlying28 h with ⟨hcs, hx⟩ | ⟨a', len, cap, m, n, D, Pl, hcs, hb, hl, hm, hmm, rfl, hel⟩
  · simp at hcs
    subst hcs
    exact ⟨[], _, _, rfl, by simp, .inl rfl⟩
  · simp at hcs
    subst hcs
    simp only [if_true] at hmm
    subst hmm
    have hlen : len * 24 ≤ 140737488351232 := by
      have := weights_slice Try.underlying28 hw
      rw [Try.bytesKey] at this
      simp [reachBytes] at this
      omega
    by_cases h0 : len = 0
    · subst h0; exact ⟨[], _, _, rfl, by simp, .inl rfl⟩
    have key : ∀ i, i < len → ∃ p : Ky, ∀ r u, ([.int .i64 p.d, .string p.nm] : List Value)[r]? = some u → W.cell? ((a'.add (i * 2)).add r) = some u := by
      intro i hi
      obtain ⟨cs', hc, ht⟩ := hel i (by omega)
      rw [Try.cellsKey] at hc
      obtain ⟨_, hlen', hget⟩ := World.cells?_some hc
      obtain ⟨p, rfl⟩ := ky_of ht
      refine ⟨p, fun r u hu => ?_⟩
      have hr : r < 2 := by have := (List.getElem?_eq_some_iff.1 hu).1; simpa using this
      have := hget r (by omega)
      rw [hu] at this
      exact this
    have iO : Inhabited Ky := ⟨⟨0, ⟨#[]⟩⟩⟩
    obtain ⟨X, hX⟩ := Go.Deep.choose_lt (α := Ky) key
    obtain ⟨b, off, spot⟩ := a'
    have hc0 := hX 0 (by omega) 0 _ rfl
    have hs := World.cell?_spot hc0
    have hspot : spot = none := by simpa [Addr.add] using hs
    subst hspot
    have hlt : b < W.heap.size := cellLt hc0
    refine ⟨(List.range len).map X, some ⟨b, off, none⟩, _, by simp; rfl, by simpa using hlen, .inr ⟨b, off, rfl, hlt, fun j u hu => ?_⟩⟩
    have hj : j < len * 2 := by have := (List.getElem?_eq_some_iff.1 hu).1; rw [kc_len] at this; simpa using this
    have hi : j / 2 < len := by omega
    have he : ((List.range len).map X)[j / 2]? = some (X (j / 2)) := by rw [List.getElem?_map, List.getElem?_range hi]; rfl
    have hg := kc_get' _ (j / 2) (j % 2) _ he (by omega)
    rw [show j / 2 * 2 + j % 2 = j by omega, hu] at hg
    have := hX (j / 2) hi (j % 2) u hg.symm
    rw [add_plain', add_plain', show off + j / 2 * 2 + j % 2 = off + j by omega] at this
    exact this
/-- bytes that came in -/
theorem bytes_of {v : Value} {d : DataW H} {ps : List MemPlace} (h : DataW.Trod enc Try.prog W 0 (fun _ => true) true 22 v d ps) (hw : ∀ n ∈ d.weights Try.prog 22, n ≤ reachBytes) (hv : ∃ a len cap, v = .slice a len cap) : ∃ l, RC W v l ∧ l.length ≤ LB ∧ Byt l := by
  obtain ⟨fuel, hf⟩ := h
  obtain ⟨a0, len0, cap0, rfl⟩ := hv
  rcases Go.Deep.open_slice1 Try.underlying22 Try.cellsU hf with ⟨hcs, hx⟩ | ⟨a, len, cap, m, n, V, D, Pl, hcs, hb, hl, hm, hmm, hx, hel⟩
  · simp [Value.cells] at hcs
    obtain ⟨rfl, rfl, rfl⟩ := hcs
    exact ⟨[], ⟨_, _, rfl, by simp, .inl rfl⟩, by simp, Byt.nil⟩
  · simp [Value.cells] at hcs
    obtain ⟨rfl, rfl, rfl⟩ := hcs
    simp only [if_true] at hmm
    subst hmm
    simp only [Prod.mk.injEq] at hx
    have hlen : len0 ≤ LB := by
      rw [hx.1] at hw
      have := weights_slice Try.underlying22 hw
      rw [Try.bytesU] at this
      simp [reachBytes] at this
      unfold LB; omega
    have key : ∀ i, i < len0 → ∃ x : Int, W.cell? (a.add i) = some (.int .u8 x) ∧ 0 ≤ x ∧ x < 256 := by
      intro i hi
      obtain ⟨h1, h2⟩ := hel i (by omega)
      obtain ⟨p, e0, _, hwf⟩ := DataW.trod_int Try.underlying5 h2
      simp at e0
      rw [e0] at h1
      exact ⟨p, h1, by simp [Lit.wf, IntKind.min, IntKind.max, IntKind.bits, IntKind.signed] at hwf; omega⟩
    obtain ⟨X, hX⟩ := Go.Deep.choose_lt (α := Int) key
    refine ⟨(List.range len0).map X, ⟨some a, _, by simp; rfl, by simpa using hl, ?_⟩, by simpa using hlen, fun x hx => ?_⟩
    · by_cases h0 : len0 = 0
      · exact .inl (by simp [h0])
      · right
        obtain ⟨b, off, spot⟩ := a
        have hs := World.cell?_spot (hX 0 (by omega)).1
        have hspot : spot = none := by simpa [Addr.add] using hs
        subst hspot
        refine ⟨b, off, rfl, cellLt (hX 0 (by omega)).1, fun i x hx => ?_⟩
        have hi : i < len0 := by have := (List.getElem?_eq_some_iff.1 hx).1; simpa using this
        rw [List.getElem?_map, List.getElem?_range hi] at hx
        cases hx
        have := (hX i hi).1
        rw [add_plain'] at this
        exact this
    · obtain ⟨i, hi, rfl⟩ := List.mem_map.1 hx
      exact (hX i (List.mem_range.1 hi)).2
end
end
section
open Go.RowKit Go.Lib
attribute [local go_sem ↓ high] loadN storeN
attribute [local go_sem high] guardNt

theorem unpackd_any (v : Value) (l : List Int) (w : World) (hr : RC w v l) (hby : Byt l) (hlim : l.length ≤ 140737488351232) : Calls Try.prog 12 #[v] w fun e w' => UnpR l w w' e := by
  obtain ⟨a, c, rfl, h2⟩ := hr
  have hr : RC w (.slice a l.length c) l := ⟨a, c, rfl, h2⟩
  obtain ⟨K, hK⟩ : ∃ K, (octP (some l)).1 = K := ⟨_, rfl⟩
  have hk : octP (some l) = (K, (octP (some l)).2) := Prod.ext hK rfl
  by_cases e1 : K = 1
  · exact unpd_1 a _ c l w hr hby hlim _ (by rw [e1] at hk; exact hk)
  by_cases e2 : K = 2
  · exact unpd_2 a _ c l w hr hby hlim _ (by rw [e2] at hk; exact hk)
  by_cases e3 : K = 3
  · exact unpd_3 a _ c l w hr hby hlim _ (by rw [e3] at hk; exact hk)
  by_cases e4 : K = 4
  · exact unpd_4 a _ c l w hr hby hlim _ (by rw [e4] at hk; exact hk)
  by_cases e5 : K = 5
  · exact unpd_5 a _ c l w hr hby hlim _ (by rw [e5] at hk; exact hk)
  exact unpd_0 a _ c l w hr hby hlim K (by simpa using e1) (by simpa using e2) (by simpa using e3) (by simpa using e4) (by simpa using e5) _ hk
/-- what both answer of the same bytes -/
theorem unp_both (l : List Int) (hby : Byt l) (hlim : l.length ≤ 140737488351232) : ∃ (A : Array Value) (E : Int), A.size = 22 ∧ A.all (·.oneCell') = true ∧ (∀ w', (binOp .eql 48 (.agg A) (.agg A)).run Try.prog w' = .ok (.bool true) w') ∧
    (∀ v W, RC W v l → Calls Try.prog 11 #[v] W fun e w' => e = .returned (.tuple #[.agg A, .int .i64 E]) ∧ Below W.heap.size W w') ∧
    (∀ v W, RC W v l → Calls Try.prog 12 #[v] W fun e w' => e = .returned (.tuple #[.agg A, .int .i64 E]) ∧ Below W.heap.size W w') := by
  have heq : ∀ (n : Nt) (w' : World), (binOp .eql 48 (.agg n.arr) (.agg n.arr)).run Try.prog w' = .ok (.bool true) w' := fun n w' => by
    have := eqNtB w' n n
    rw [(eqNt_iff _ _).2 rfl] at this
    exact this
  have hone : ∀ n : Nt, n.arr.all (·.oneCell') = true := fun n => by unfold Nt.arr; simp [Value.oneCell']
  by_cases hU : ∃ n, noteOk n ∧ noteB n = l
  · obtain ⟨n, hn, hl⟩ := hU
    have key : ∀ {w w' : World} {e : Ending}, UnpR l w w' e → e = .returned (.tuple #[.agg n.arr, .int .i64 0]) ∧ Below w.heap.size w w' := fun hh => by
      rcases hh with ⟨m, hm, hB, he, hb⟩ | ⟨h0, _⟩
      · rw [noteB_inj hm hn (hB.trans hl.symm)] at he; exact ⟨he, hb⟩
      · exact absurd hl (h0 n hn)
    exact ⟨n.arr, 0, rfl, hone n, heq n, fun v W h => (unpack_p v l W h hby (by omega)).mono fun _ _ hh => key hh, fun v W h => (unpackd_any v l W h hby hlim).mono fun _ _ hh => key hh⟩
  · have key : ∀ {w w' : World} {e : Ending}, UnpR l w w' e → e = .returned (.tuple #[.agg zeroNt.arr, .int .i64 50]) ∧ Below w.heap.size w w' := fun hh => by
      rcases hh with ⟨m, hm, hB, _⟩ | ⟨_, he, hb⟩
      · exact absurd ⟨m, hm, hB⟩ hU
      · exact ⟨he, hb⟩
    exact ⟨zeroNt.arr, 50, rfl, hone _, heq _, fun v W h => (unpack_p v l W h hby (by omega)).mono fun _ _ hh => key hh, fun v W h => (unpackd_any v l W h hby hlim).mono fun _ _ hh => key hh⟩
set_option maxRecDepth 20000 in
set_option maxHeartbeats 8000000 in
theorem walk_WireUnpacks (a0 : Option Addr) (n0 c0 : Nat) (l : List Int) (w : World) (hr : RC w (.slice a0 n0 c0) l) (hlen : l.length ≤ LB) (hbyt : Byt l) :
    Calls Try.prog 4 #[.slice a0 n0 c0] w fun e w' => e = .returned (.bool true) ∧ Below w.heap.size w w' := by
  have hLB : l.length ≤ 140737488351232 := hlen
  have HAw : Hid (∀ W, Calls Try.prog 10 #[] W fun e w' => e = .returned (.bool true) ∧ Below W.heap.size W w') := awake_w
  have HR : Hid (RC w (.slice a0 n0 c0) l) := hr
  have HCp : Hid (Calls Try.prog 7 #[.slice a0 n0 c0] w fun e w' => ∃ v', e = .returned v' ∧ Hid (RC w' v' l) ∧ Below w.heap.size w w') := (copyB_any _ l w hr.rb hlen).mono fun e w' ⟨v', he, ho, hb⟩ => ⟨v', he, ho.rc, hb⟩
  obtain ⟨A, E, hsz, hone, heq, h1, h2⟩ := unp_both l hbyt hLB
  have H1 : Hid (∀ v W, RC W v l → Calls Try.prog 11 #[v] W fun e w' => e = .returned (.tuple #[.agg A, .int .i64 E]) ∧ Below W.heap.size W w') := h1
  have H2 : Hid (∀ v W, RC W v l → Calls Try.prog 12 #[v] W fun e w' => e = .returned (.tuple #[.agg A, .int .i64 E]) ∧ Below W.heap.size W w') := h2
  have HZ : Hid (A.size = 22 ∧ A.all (·.oneCell') = true) := ⟨hsz, hone⟩
  clear hr hlen hLB hbyt hsz hone h1 h2
  go_enter Try.func4, Try.ntmps4
  go_upto_region 2 with (first
    | (go_at_call 7; refine HCp.out.mono ?_; rintro e w1 ⟨v1, rfl, hr1, hb1⟩)
    | (go_at_call 11; refine (H1.out v1 w1 hr1.out).mono ?_; rintro e w2 ⟨rfl, hb2⟩; obtain ⟨W3, hW3⟩ : ∃ W, w2.alloc (.cells #[.int .i64 0, .int .i64 0, .int .i64 0, .int .i64 0, .int .i64 0, .int .i64 0, .string ⟨#[]⟩, .bool false, .int .i64 0, .int .i64 0, .int .i64 0, .string ⟨#[]⟩, .int .i64 0, .int .i64 0, .int .i64 0, .int .i64 0, .int .i64 0, .string ⟨#[]⟩, .int .i64 0, .string ⟨#[]⟩, .int .i64 0, .string ⟨#[]⟩] 48) = W := ⟨_, rfl⟩; obtain ⟨W4, hW4⟩ : ∃ W, W3.setRow w2.heap.size A = W := ⟨_, rfl⟩; have nt := noteT_of (boxB hW3).1 rfl HZ.out.1 HZ.out.2 hW4))
  have H4 : Hid (W4.heap[w2.heap.size]? = some (.cells A 48 (0, 0)) ∧ Below w.heap.size w W4) := by
    rw [← hW4]
    exact ⟨setRow_heap _ _ _ _ _ _ (boxB hW3).1, below_setRow (chainB (chainB hb1 hb2) (boxB hW3).2) (chainB hb1 hb2).size _⟩
  clear hW3 hW4 nt hr1 hb1 hb2
  go_upto_region 3 with (go_at_call 12; refine (H2.out _ W4 (HR.out.below H4.out.2)).mono ?_; rintro e w5 ⟨rfl, hb5⟩; obtain ⟨W6, hW6⟩ : ∃ W, w5.alloc (.cells #[.int .i64 0, .int .i64 0, .int .i64 0, .int .i64 0, .int .i64 0, .int .i64 0, .string ⟨#[]⟩, .bool false, .int .i64 0, .int .i64 0, .int .i64 0, .string ⟨#[]⟩, .int .i64 0, .int .i64 0, .int .i64 0, .int .i64 0, .int .i64 0, .string ⟨#[]⟩, .int .i64 0, .string ⟨#[]⟩, .int .i64 0, .string ⟨#[]⟩] 48) = W := ⟨_, rfl⟩; obtain ⟨W7, hW7⟩ : ∃ W, W6.setRow w5.heap.size A = W := ⟨_, rfl⟩; have nt := noteT_of (boxB hW6).1 rfl HZ.out.1 HZ.out.2 hW7)
  have hlt : w2.heap.size < w5.heap.size := (Array.getElem?_eq_some_iff.1 (hkeep H4.out.1 hb5)).1
  have H7 : Hid (W7.heap[w2.heap.size]? = some (.cells A 48 (0, 0)) ∧ W7.heap[w5.heap.size]? = some (.cells A 48 (0, 0)) ∧ Below w.heap.size w W7) := by
    rw [← hW7]
    exact ⟨(setRow_other _ _ _ _ (by omega)).trans (hkeep (hkeep H4.out.1 hb5) (boxB hW6).2), setRow_heap _ _ _ _ _ _ (boxB hW6).1, below_setRow (chainB (chainB H4.out.2 hb5) (boxB hW6).2) (chainB H4.out.2 hb5).size _⟩
  have nl1 := noteS_of H7.out.1 HZ.out.1
  have nl2 := noteS_of H7.out.2.1 HZ.out.1
  clear hW6 hW7 nt hb5 hlt
  go_wp2_with (go_at_call 10; refine (HAw.out _).mono ?_; rintro e w8 ⟨rfl, hb8⟩)
  go_ret
  exact ⟨rfl, chainB H7.out.2.2 hb8⟩
end
end Go.Proofs.Ytekonakanieeaaa
