/- The law's example. -/
import Derived.Test.YtihjhaafmdobmaaWlC
namespace Go.Proofs.Ytihjhaafmdobmaa
open Go.RowKit Go.Lib

def exM : Mg := ⟨4, 1, 2, 0, 3, 4, 5, 0, zeroOp, [], []⟩
theorem num_small {n : Nat} (h : n < 128) : numI (n : Int) = [(n : Int)] := by unfold numI; rw [Int.toNat_natCast, numB_lt h]
theorem exM_ok : msgOk exM := by
  refine ⟨⟨?_, ?_, ?_, ?_, ?_, ?_, ?_⟩, .inr (.inr (.inr ⟨rfl, rfl, rfl, rfl⟩))⟩ <;> (unfold numOk exM; decide)
theorem exM_B : msgB exM = [4, 1, 2, 0, 3, 4, 5, 0] := by
  have h0 := num_small (n := 0) (by decide)
  have h1 := num_small (n := 1) (by decide)
  have h2 := num_small (n := 2) (by decide)
  have h3 := num_small (n := 3) (by decide)
  have h4 := num_small (n := 4) (by decide)
  have h5 := num_small (n := 5) (by decide)
  show (4 : Int) :: (numI ((1 : Nat) : Int) ++ (numI ((2 : Nat) : Int) ++ (numI ((0 : Nat) : Int) ++ (numI ((3 : Nat) : Int) ++ (numI ((4 : Nat) : Int) ++ (numI ((5 : Nat) : Int) ++ (numI ((0 : Nat) : Int) ++ []))))))) = _
  rw [h0, h1, h2, h3, h4, h5]
  rfl
theorem of3 : floatOfInt .f64 3 = 4613937818241073152 := by decide +kernel
theorem of4 : floatOfInt .f64 4 = 4616189618054758400 := by decide +kernel
theorem encode_ex (w : World) : Calls Try.prog 24 #[.agg #[.int .i64 4, .int .i64 1, .int .i64 2, .int .i64 0, .complex .f64 4613937818241073152 4616189618054758400, .int .i64 5, .int .i64 0, .int .i64 0, .int .i64 0, .string ⟨#[]⟩, .int .i64 0, .string ⟨#[]⟩, .int .i64 0, .string ⟨#[]⟩, .slice none 0 0, .slice none 0 0]] w fun e w' => ∃ a c, e = .returned (.tuple #[.slice a 8 c, .int .i64 0]) ∧ OwnB w' w.heap.size (.slice a 8 c) [4, 1, 2, 0, 3, 4, 5, 0] ∧ Below w.heap.size w w' := by
  have hp : plainB (MsV exM (.slice none 0 0) (.slice none 0 0)) = true := (MsV_plain (by unfold numOk exM; decide) (by unfold numOk exM; decide)).2 exM_ok
  have hm : (MsV exM (.slice none 0 0) (.slice none 0 0)).mg = exM := MsV_mg (by unfold numOk exM; decide) (by unfold numOk exM; decide)
  have h := encode_p (MsV exM (.slice none 0 0) (.slice none 0 0)) w ⟨World.ownsRow_nil _ _ _ _, World.ownsRow_nil _ _ _ _⟩
  rw [hp, hm, exM_B] at h
  unfold MsV exM Ms.arr at h
  simp only [of3, of4] at h
  refine h.mono fun e w' hh => ?_
  rcases hh with ⟨_, v, he, ho, hb⟩ | ⟨h0, _⟩
  · obtain ⟨a, c, hv⟩ := owns_len ho
    subst hv
    exact ⟨a, c, he, ho, hb⟩
  · cases h0
theorem lit8 (w : World) (t : TypeId) : RB (w.alloc (.cells #[.int .u8 4, .int .u8 1, .int .u8 2, .int .u8 0, .int .u8 3, .int .u8 4, .int .u8 5, .int .u8 0] t)) (.slice (some ⟨w.heap.size, 0, none⟩) 8 8) [4, 1, 2, 0, 3, 4, 5, 0] := by
  refine ⟨_, _, rfl, .inr ⟨w.heap.size, 0, rfl, by simp, fun i x hx => ?_⟩⟩
  rw [Nat.zero_add, cell_of (heap_new _ _)]
  have hi := (List.getElem?_eq_some_iff.1 hx).1
  have : i = 0 ∨ i = 1 ∨ i = 2 ∨ i = 3 ∨ i = 4 ∨ i = 5 ∨ i = 6 ∨ i = 7 := by simp at hi; omega
  rcases this with rfl | rfl | rfl | rfl | rfl | rfl | rfl | rfl <;> (cases hx; rfl)
set_option maxRecDepth 20000 in
set_option maxHeartbeats 8000000 in
theorem awake_w (w : World) : Calls Try.prog 28 #[] w fun e w' => e = .returned (.bool true) ∧ Below w.heap.size w w' := by
  have HE : Hid (∀ w, Calls Try.prog 24 #[.agg #[.int .i64 4, .int .i64 1, .int .i64 2, .int .i64 0, .complex .f64 4613937818241073152 4616189618054758400, .int .i64 5, .int .i64 0, .int .i64 0, .int .i64 0, .string ⟨#[]⟩, .int .i64 0, .string ⟨#[]⟩, .int .i64 0, .string ⟨#[]⟩, .slice none 0 0, .slice none 0 0]] w fun e w' => ∃ a c, e = .returned (.tuple #[.slice a 8 c, .int .i64 0]) ∧ OwnB w' w.heap.size (.slice a 8 c) [4, 1, 2, 0, 3, 4, 5, 0] ∧ Below w.heap.size w w') := encode_ex
  go_enter Try.func28, Try.ntmps28
  go_wp2_with (first
    | (go_at_call 24; refine (HE.out _).mono ?_; rintro e w1 ⟨a1, c1, rfl, ho1, hb1⟩)
    | (go_at_call 27; refine (same_any _ _ [4, 1, 2, 0, 3, 4, 5, 0] [4, 1, 2, 0, 3, 4, 5, 0] _ (ho1.below (below_alloc _ _)).rb (lit8 w1 _) (by decide) (by decide)).mono ?_; rintro e w2 ⟨rfl, hb2⟩; rw [decide_eq_true (rfl : ([4, 1, 2, 0, 3, 4, 5, 0] : List Int) = [4, 1, 2, 0, 3, 4, 5, 0])]))
  go_ret
  exact ⟨rfl, chainB hb1 (chainB (below_alloc _ _) hb2)⟩
end Go.Proofs.Ytihjhaafmdobmaa
