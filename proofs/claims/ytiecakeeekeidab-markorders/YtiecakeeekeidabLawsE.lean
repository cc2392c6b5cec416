/- The walk of the law MarkOrders over good marks, in four parts: whether Next and Restart have an answer. -/
import Derived.Test.YtiecakeeekeidabLawsD
namespace Go.Proofs.Ytiecakeeekeidab
open Go.RowKit

set_option maxHeartbeats 4000000 in
theorem orders_11
    (a0 b0 a1 b1 a2 b2 : Int) (A0 B0 A1 B1 A2 B2 : Nat) (w : World)
    (hn0 : ∀ w, Calls Try.prog 8 #[.agg #[.int .i64 a0, .int .i64 b0]] w fun e w' => e = .returned (.complex .f64 A0 B0) ∧ w' = w.alloc (.cells #[.int .i64 a0, .int .i64 b0] 23))
    (hn1 : ∀ w, Calls Try.prog 8 #[.agg #[.int .i64 a1, .int .i64 b1]] w fun e w' => e = .returned (.complex .f64 A1 B1) ∧ w' = w.alloc (.cells #[.int .i64 a1, .int .i64 b1] 23))
    (hn2 : ∀ w, Calls Try.prog 8 #[.agg #[.int .i64 a2, .int .i64 b2]] w fun e w' => e = .returned (.complex .f64 A2 B2) ∧ w' = w.alloc (.cells #[.int .i64 a2, .int .i64 b2] 23))
    (laa : laterB A0 B0 A0 B0 = false) (h0 : goodB A0 B0 = true) (h1 : goodB A1 B1 = true) (h2 : goodB A2 B2 = true)
    (hc : (laterB A0 B0 A1 B1 = true ∧ laterB A1 B1 A0 B0 = false ∧ ((FloatKind.f64.format.order A0 A1 == some .eq) && (FloatKind.f64.format.order B0 B1 == some .eq)) = false ∧ laterB A1 B1 A2 B2 = true ∧ laterB A0 B0 A2 B2 = true) ∨
      (laterB A0 B0 A1 B1 = true ∧ laterB A1 B1 A0 B0 = false ∧ ((FloatKind.f64.format.order A0 A1 == some .eq) && (FloatKind.f64.format.order B0 B1 == some .eq)) = false ∧ laterB A1 B1 A2 B2 = false) ∨
      (laterB A0 B0 A1 B1 = false ∧ laterB A1 B1 A0 B0 = true ∧ ((FloatKind.f64.format.order A0 A1 == some .eq) && (FloatKind.f64.format.order B0 B1 == some .eq)) = false) ∨
      (laterB A0 B0 A1 B1 = false ∧ laterB A1 B1 A0 B0 = false ∧ ((FloatKind.f64.format.order A0 A1 == some .eq) && (FloatKind.f64.format.order B0 B1 == some .eq)) = true))
    (c d : Nat)
    (hN : ∀ w, Calls Try.prog 12 #[.complex .f64 A0 B0] w fun e w' => e = .returned (.tuple #[.complex .f64 c d, .int .i64 0]) ∧ w' = w)
    (hG : ∀ w, Calls Try.prog 13 #[.complex .f64 A0 B0, .complex .f64 c d] w fun e w' => e = .returned (.tuple #[.int .i64 1, .bool true]) ∧ w' = w)
    (n1 : laterB c d A0 B0 = true) (n2 : laterB A1 B1 A0 B0 = true → laterB c d A1 B1 = false)
    (s : Nat)
    (hR : ∀ w, Calls Try.prog 14 #[.complex .f64 A0 B0] w fun e w' => e = .returned (.tuple #[.complex .f64 s 0, .int .i64 0]) ∧ w' = w)
    (hZ : ∀ w, Calls Try.prog 16 #[.complex .f64 s 0] w fun e w' => e = .returned (.int .i64 0) ∧ w' = w)
    (s1 : laterB s 0 A0 B0 = true) (s2 : (part A1 == part A0) = true → laterB s 0 A1 B1 = true)
    : Calls Try.prog 3 #[.agg #[.int .i64 a0, .int .i64 b0], .agg #[.int .i64 a1, .int .i64 b1], .agg #[.int .i64 a2, .int .i64 b2]] w fun e w' => e = .returned (.bool true) ∧ Below w.heap.size w w' := by
  rcases hc with ⟨l1, l2, l3, l4, l5⟩ | ⟨l1, l2, l3, l4⟩ | ⟨l1, l2, l3⟩ | ⟨l1, l2, l3⟩
  all_goals
    first
      | (have n3 := n2 l2; clear n2)
      | clear n2
    cases he : part A1 == part A0
    all_goals
      first
        | (have s3 := s2 he; clear s2)
        | clear s2
      go_enter Try.func3, Try.ntmps3
      go_wp2_with (first
        | (go_at_call_of 8 (Value.agg #[.int .i64 a0, .int .i64 b0]); refine (hn0 _).mono ?_; rintro e w' ⟨rfl, rfl⟩)
        | (go_at_call_of 8 (Value.agg #[.int .i64 a1, .int .i64 b1]); refine (hn1 _).mono ?_; rintro e w' ⟨rfl, rfl⟩)
        | (go_at_call_of 8 (Value.agg #[.int .i64 a2, .int .i64 b2]); refine (hn2 _).mono ?_; rintro e w' ⟨rfl, rfl⟩)
        | (go_at_call 9; refine (good_any _ _ _).mono ?_; rintro e w' ⟨rfl, rfl⟩)
        | (go_at_call 10; refine (later_any _ _ _ _ _).mono ?_; rintro e w' ⟨rfl, rfl⟩)
        | (go_at_call 12; refine (hN _).mono ?_; rintro e w' ⟨rfl, rfl⟩)
        | (go_at_call 13; refine (hG _).mono ?_; rintro e w' ⟨rfl, rfl⟩)
        | (go_at_call 14; refine (hR _).mono ?_; rintro e w' ⟨rfl, rfl⟩)
        | (go_at_call 16; refine (hZ _).mono ?_; rintro e w' ⟨rfl, rfl⟩)
        | (go_at_call 15; refine (epoch_any _ _ _).mono ?_; rintro e w' ⟨rfl, rfl⟩)
        | (go_at_call 11; refine (awake_any _).mono ?_; rintro e w' ⟨rfl, rfl⟩))
      go_ret
      exact ⟨rfl, by repeat (first | exact Below.refl _ _ | refine below_alloc ?_ _)⟩

set_option maxHeartbeats 4000000 in
theorem orders_10
    (a0 b0 a1 b1 a2 b2 : Int) (A0 B0 A1 B1 A2 B2 : Nat) (w : World)
    (hn0 : ∀ w, Calls Try.prog 8 #[.agg #[.int .i64 a0, .int .i64 b0]] w fun e w' => e = .returned (.complex .f64 A0 B0) ∧ w' = w.alloc (.cells #[.int .i64 a0, .int .i64 b0] 23))
    (hn1 : ∀ w, Calls Try.prog 8 #[.agg #[.int .i64 a1, .int .i64 b1]] w fun e w' => e = .returned (.complex .f64 A1 B1) ∧ w' = w.alloc (.cells #[.int .i64 a1, .int .i64 b1] 23))
    (hn2 : ∀ w, Calls Try.prog 8 #[.agg #[.int .i64 a2, .int .i64 b2]] w fun e w' => e = .returned (.complex .f64 A2 B2) ∧ w' = w.alloc (.cells #[.int .i64 a2, .int .i64 b2] 23))
    (laa : laterB A0 B0 A0 B0 = false) (h0 : goodB A0 B0 = true) (h1 : goodB A1 B1 = true) (h2 : goodB A2 B2 = true)
    (hc : (laterB A0 B0 A1 B1 = true ∧ laterB A1 B1 A0 B0 = false ∧ ((FloatKind.f64.format.order A0 A1 == some .eq) && (FloatKind.f64.format.order B0 B1 == some .eq)) = false ∧ laterB A1 B1 A2 B2 = true ∧ laterB A0 B0 A2 B2 = true) ∨
      (laterB A0 B0 A1 B1 = true ∧ laterB A1 B1 A0 B0 = false ∧ ((FloatKind.f64.format.order A0 A1 == some .eq) && (FloatKind.f64.format.order B0 B1 == some .eq)) = false ∧ laterB A1 B1 A2 B2 = false) ∨
      (laterB A0 B0 A1 B1 = false ∧ laterB A1 B1 A0 B0 = true ∧ ((FloatKind.f64.format.order A0 A1 == some .eq) && (FloatKind.f64.format.order B0 B1 == some .eq)) = false) ∨
      (laterB A0 B0 A1 B1 = false ∧ laterB A1 B1 A0 B0 = false ∧ ((FloatKind.f64.format.order A0 A1 == some .eq) && (FloatKind.f64.format.order B0 B1 == some .eq)) = true))
    (c d : Nat)
    (hN : ∀ w, Calls Try.prog 12 #[.complex .f64 A0 B0] w fun e w' => e = .returned (.tuple #[.complex .f64 c d, .int .i64 0]) ∧ w' = w)
    (hG : ∀ w, Calls Try.prog 13 #[.complex .f64 A0 B0, .complex .f64 c d] w fun e w' => e = .returned (.tuple #[.int .i64 1, .bool true]) ∧ w' = w)
    (n1 : laterB c d A0 B0 = true) (n2 : laterB A1 B1 A0 B0 = true → laterB c d A1 B1 = false)
    (hR : ∀ w, Calls Try.prog 14 #[.complex .f64 A0 B0] w fun e w' => e = .returned (.tuple #[.complex .f64 0 0, .int .i64 1]) ∧ w' = w)
    : Calls Try.prog 3 #[.agg #[.int .i64 a0, .int .i64 b0], .agg #[.int .i64 a1, .int .i64 b1], .agg #[.int .i64 a2, .int .i64 b2]] w fun e w' => e = .returned (.bool true) ∧ Below w.heap.size w w' := by
  rcases hc with ⟨l1, l2, l3, l4, l5⟩ | ⟨l1, l2, l3, l4⟩ | ⟨l1, l2, l3⟩ | ⟨l1, l2, l3⟩
  all_goals
    first
      | (have n3 := n2 l2; clear n2)
      | clear n2
    go_enter Try.func3, Try.ntmps3
    go_wp2_with (first
      | (go_at_call_of 8 (Value.agg #[.int .i64 a0, .int .i64 b0]); refine (hn0 _).mono ?_; rintro e w' ⟨rfl, rfl⟩)
      | (go_at_call_of 8 (Value.agg #[.int .i64 a1, .int .i64 b1]); refine (hn1 _).mono ?_; rintro e w' ⟨rfl, rfl⟩)
      | (go_at_call_of 8 (Value.agg #[.int .i64 a2, .int .i64 b2]); refine (hn2 _).mono ?_; rintro e w' ⟨rfl, rfl⟩)
      | (go_at_call 9; refine (good_any _ _ _).mono ?_; rintro e w' ⟨rfl, rfl⟩)
      | (go_at_call 10; refine (later_any _ _ _ _ _).mono ?_; rintro e w' ⟨rfl, rfl⟩)
      | (go_at_call 12; refine (hN _).mono ?_; rintro e w' ⟨rfl, rfl⟩)
      | (go_at_call 13; refine (hG _).mono ?_; rintro e w' ⟨rfl, rfl⟩)
      | (go_at_call 14; refine (hR _).mono ?_; rintro e w' ⟨rfl, rfl⟩)
      | (go_at_call 11; refine (awake_any _).mono ?_; rintro e w' ⟨rfl, rfl⟩))
    go_ret
    exact ⟨rfl, by repeat (first | exact Below.refl _ _ | refine below_alloc ?_ _)⟩

set_option maxHeartbeats 4000000 in
theorem orders_01
    (a0 b0 a1 b1 a2 b2 : Int) (A0 B0 A1 B1 A2 B2 : Nat) (w : World)
    (hn0 : ∀ w, Calls Try.prog 8 #[.agg #[.int .i64 a0, .int .i64 b0]] w fun e w' => e = .returned (.complex .f64 A0 B0) ∧ w' = w.alloc (.cells #[.int .i64 a0, .int .i64 b0] 23))
    (hn1 : ∀ w, Calls Try.prog 8 #[.agg #[.int .i64 a1, .int .i64 b1]] w fun e w' => e = .returned (.complex .f64 A1 B1) ∧ w' = w.alloc (.cells #[.int .i64 a1, .int .i64 b1] 23))
    (hn2 : ∀ w, Calls Try.prog 8 #[.agg #[.int .i64 a2, .int .i64 b2]] w fun e w' => e = .returned (.complex .f64 A2 B2) ∧ w' = w.alloc (.cells #[.int .i64 a2, .int .i64 b2] 23))
    (laa : laterB A0 B0 A0 B0 = false) (h0 : goodB A0 B0 = true) (h1 : goodB A1 B1 = true) (h2 : goodB A2 B2 = true)
    (hc : (laterB A0 B0 A1 B1 = true ∧ laterB A1 B1 A0 B0 = false ∧ ((FloatKind.f64.format.order A0 A1 == some .eq) && (FloatKind.f64.format.order B0 B1 == some .eq)) = false ∧ laterB A1 B1 A2 B2 = true ∧ laterB A0 B0 A2 B2 = true) ∨
      (laterB A0 B0 A1 B1 = true ∧ laterB A1 B1 A0 B0 = false ∧ ((FloatKind.f64.format.order A0 A1 == some .eq) && (FloatKind.f64.format.order B0 B1 == some .eq)) = false ∧ laterB A1 B1 A2 B2 = false) ∨
      (laterB A0 B0 A1 B1 = false ∧ laterB A1 B1 A0 B0 = true ∧ ((FloatKind.f64.format.order A0 A1 == some .eq) && (FloatKind.f64.format.order B0 B1 == some .eq)) = false) ∨
      (laterB A0 B0 A1 B1 = false ∧ laterB A1 B1 A0 B0 = false ∧ ((FloatKind.f64.format.order A0 A1 == some .eq) && (FloatKind.f64.format.order B0 B1 == some .eq)) = true))
    (hN : ∀ w, Calls Try.prog 12 #[.complex .f64 A0 B0] w fun e w' => e = .returned (.tuple #[.complex .f64 0 0, .int .i64 1]) ∧ w' = w)
    (s : Nat)
    (hR : ∀ w, Calls Try.prog 14 #[.complex .f64 A0 B0] w fun e w' => e = .returned (.tuple #[.complex .f64 s 0, .int .i64 0]) ∧ w' = w)
    (hZ : ∀ w, Calls Try.prog 16 #[.complex .f64 s 0] w fun e w' => e = .returned (.int .i64 0) ∧ w' = w)
    (s1 : laterB s 0 A0 B0 = true) (s2 : (part A1 == part A0) = true → laterB s 0 A1 B1 = true)
    : Calls Try.prog 3 #[.agg #[.int .i64 a0, .int .i64 b0], .agg #[.int .i64 a1, .int .i64 b1], .agg #[.int .i64 a2, .int .i64 b2]] w fun e w' => e = .returned (.bool true) ∧ Below w.heap.size w w' := by
  rcases hc with ⟨l1, l2, l3, l4, l5⟩ | ⟨l1, l2, l3, l4⟩ | ⟨l1, l2, l3⟩ | ⟨l1, l2, l3⟩
  all_goals
    cases he : part A1 == part A0
    all_goals
      first
        | (have s3 := s2 he; clear s2)
        | clear s2
      go_enter Try.func3, Try.ntmps3
      go_wp2_with (first
        | (go_at_call_of 8 (Value.agg #[.int .i64 a0, .int .i64 b0]); refine (hn0 _).mono ?_; rintro e w' ⟨rfl, rfl⟩)
        | (go_at_call_of 8 (Value.agg #[.int .i64 a1, .int .i64 b1]); refine (hn1 _).mono ?_; rintro e w' ⟨rfl, rfl⟩)
        | (go_at_call_of 8 (Value.agg #[.int .i64 a2, .int .i64 b2]); refine (hn2 _).mono ?_; rintro e w' ⟨rfl, rfl⟩)
        | (go_at_call 9; refine (good_any _ _ _).mono ?_; rintro e w' ⟨rfl, rfl⟩)
        | (go_at_call 10; refine (later_any _ _ _ _ _).mono ?_; rintro e w' ⟨rfl, rfl⟩)
        | (go_at_call 12; refine (hN _).mono ?_; rintro e w' ⟨rfl, rfl⟩)
        | (go_at_call 14; refine (hR _).mono ?_; rintro e w' ⟨rfl, rfl⟩)
        | (go_at_call 16; refine (hZ _).mono ?_; rintro e w' ⟨rfl, rfl⟩)
        | (go_at_call 15; refine (epoch_any _ _ _).mono ?_; rintro e w' ⟨rfl, rfl⟩)
        | (go_at_call 11; refine (awake_any _).mono ?_; rintro e w' ⟨rfl, rfl⟩))
      go_ret
      exact ⟨rfl, by repeat (first | exact Below.refl _ _ | refine below_alloc ?_ _)⟩

set_option maxHeartbeats 4000000 in
theorem orders_00
    (a0 b0 a1 b1 a2 b2 : Int) (A0 B0 A1 B1 A2 B2 : Nat) (w : World)
    (hn0 : ∀ w, Calls Try.prog 8 #[.agg #[.int .i64 a0, .int .i64 b0]] w fun e w' => e = .returned (.complex .f64 A0 B0) ∧ w' = w.alloc (.cells #[.int .i64 a0, .int .i64 b0] 23))
    (hn1 : ∀ w, Calls Try.prog 8 #[.agg #[.int .i64 a1, .int .i64 b1]] w fun e w' => e = .returned (.complex .f64 A1 B1) ∧ w' = w.alloc (.cells #[.int .i64 a1, .int .i64 b1] 23))
    (hn2 : ∀ w, Calls Try.prog 8 #[.agg #[.int .i64 a2, .int .i64 b2]] w fun e w' => e = .returned (.complex .f64 A2 B2) ∧ w' = w.alloc (.cells #[.int .i64 a2, .int .i64 b2] 23))
    (laa : laterB A0 B0 A0 B0 = false) (h0 : goodB A0 B0 = true) (h1 : goodB A1 B1 = true) (h2 : goodB A2 B2 = true)
    (hc : (laterB A0 B0 A1 B1 = true ∧ laterB A1 B1 A0 B0 = false ∧ ((FloatKind.f64.format.order A0 A1 == some .eq) && (FloatKind.f64.format.order B0 B1 == some .eq)) = false ∧ laterB A1 B1 A2 B2 = true ∧ laterB A0 B0 A2 B2 = true) ∨
      (laterB A0 B0 A1 B1 = true ∧ laterB A1 B1 A0 B0 = false ∧ ((FloatKind.f64.format.order A0 A1 == some .eq) && (FloatKind.f64.format.order B0 B1 == some .eq)) = false ∧ laterB A1 B1 A2 B2 = false) ∨
      (laterB A0 B0 A1 B1 = false ∧ laterB A1 B1 A0 B0 = true ∧ ((FloatKind.f64.format.order A0 A1 == some .eq) && (FloatKind.f64.format.order B0 B1 == some .eq)) = false) ∨
      (laterB A0 B0 A1 B1 = false ∧ laterB A1 B1 A0 B0 = false ∧ ((FloatKind.f64.format.order A0 A1 == some .eq) && (FloatKind.f64.format.order B0 B1 == some .eq)) = true))
    (hN : ∀ w, Calls Try.prog 12 #[.complex .f64 A0 B0] w fun e w' => e = .returned (.tuple #[.complex .f64 0 0, .int .i64 1]) ∧ w' = w)
    (hR : ∀ w, Calls Try.prog 14 #[.complex .f64 A0 B0] w fun e w' => e = .returned (.tuple #[.complex .f64 0 0, .int .i64 1]) ∧ w' = w)
    : Calls Try.prog 3 #[.agg #[.int .i64 a0, .int .i64 b0], .agg #[.int .i64 a1, .int .i64 b1], .agg #[.int .i64 a2, .int .i64 b2]] w fun e w' => e = .returned (.bool true) ∧ Below w.heap.size w w' := by
  rcases hc with ⟨l1, l2, l3, l4, l5⟩ | ⟨l1, l2, l3, l4⟩ | ⟨l1, l2, l3⟩ | ⟨l1, l2, l3⟩
  all_goals
    go_enter Try.func3, Try.ntmps3
    go_wp2_with (first
      | (go_at_call_of 8 (Value.agg #[.int .i64 a0, .int .i64 b0]); refine (hn0 _).mono ?_; rintro e w' ⟨rfl, rfl⟩)
      | (go_at_call_of 8 (Value.agg #[.int .i64 a1, .int .i64 b1]); refine (hn1 _).mono ?_; rintro e w' ⟨rfl, rfl⟩)
      | (go_at_call_of 8 (Value.agg #[.int .i64 a2, .int .i64 b2]); refine (hn2 _).mono ?_; rintro e w' ⟨rfl, rfl⟩)
      | (go_at_call 9; refine (good_any _ _ _).mono ?_; rintro e w' ⟨rfl, rfl⟩)
      | (go_at_call 10; refine (later_any _ _ _ _ _).mono ?_; rintro e w' ⟨rfl, rfl⟩)
      | (go_at_call 12; refine (hN _).mono ?_; rintro e w' ⟨rfl, rfl⟩)
      | (go_at_call 14; refine (hR _).mono ?_; rintro e w' ⟨rfl, rfl⟩)
      | (go_at_call 11; refine (awake_any _).mono ?_; rintro e w' ⟨rfl, rfl⟩))
    go_ret
    exact ⟨rfl, by repeat (first | exact Below.refl _ _ | refine below_alloc ?_ _)⟩

end Go.Proofs.Ytiecakeeekeidab
