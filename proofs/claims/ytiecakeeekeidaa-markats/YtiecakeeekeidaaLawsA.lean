/- The walks of the laws of layer 1 that take no list (MarkAts, MarkParts, MarkNexts, MarkGaps): each returns true. -/
import Derived.Test.YtiecakeeekeidaaRefs
import Derived.RowKit3
namespace Go.Proofs.Ytiecakeeekeidaa
open Go.RowKit

theorem withinB_iff (n : Int) : withinB n = true ↔ 0 ≤ n ∧ n ≤ 1099511627776 := by unfold withinB; simp
theorem within_val {n : Int} (h : withinB n = true) : fval (floatOfInt .f64 n) = some (n * U) := by
  have := (withinB_iff n).1 h
  exact ofInt_val n (by omega)
theorem good_zero : goodB 0 0 = true := by rw [good_of val_zeroU val_zeroU]; decide

set_option maxHeartbeats 1000000 in
theorem walk_MarkAts (a b : Int) (_ : (Lit.int .i64 a).wf = true) (_ : (Lit.int .i64 b).wf = true) (w : World) :
    Calls Try.prog 3 #[.int .i64 a, .int .i64 b] w fun e w' => e = .returned (.bool true) ∧ Below w.heap.size w w' := by
  cases h : withinB a && withinB b
  · have hn : ¬ (0 ≤ a ∧ a ≤ 1099511627776 ∧ 0 ≤ b ∧ b ≤ 1099511627776) := by
      intro hh
      have h1 := (withinB_iff a).2 ⟨hh.1, hh.2.1⟩
      have h2 := (withinB_iff b).2 hh.2.2
      rw [h1, h2] at h; cases h
    have hm := fun w => at_no a b w h
    have hr := fun w => rat_no a b w hn
    have hg := good_zero
    have o := order_self val_zero
    clear h hn
    go_enter Try.func3, Try.ntmps3
    go_wp2_with (first
      | (go_at_call 9; refine (hm _).mono ?_; rintro e w' ⟨rfl, rfl⟩)
      | (go_at_call 10; refine (hr _).mono ?_; rintro e w' ⟨rfl, rfl⟩)
      | (go_at_call 11; refine (parts_any _ _ _).mono ?_; rintro e w' ⟨rfl, rfl⟩)
      | (go_at_call 12; refine (good_any _ _ _).mono ?_; rintro e w' ⟨rfl, rfl⟩)
      | (go_at_call 13; refine (epoch_any _ _ _).mono ?_; rintro e w' ⟨rfl, rfl⟩)
      | (go_at_call 14; refine (number_any _ _ _).mono ?_; rintro e w' ⟨rfl, rfl⟩)
      | (go_at_call 15; refine (awake_any _).mono ?_; rintro e w' ⟨rfl, rfl⟩))
    go_ret
    exact ⟨rfl, Below.refl _ _⟩
  · simp only [Bool.and_eq_true] at h
    have va := within_val h.1
    have vb := within_val h.2
    have ia := (withinB_iff a).1 h.1
    have ib := (withinB_iff b).1 h.2
    have hm := fun w => at_yes a b w h.1 h.2
    have hr := fun w => rat_yes a b w ia.1 ia.2 ib.1 ib.2
    have hg : goodB (floatOfInt .f64 a) (floatOfInt .f64 b) = true := by rw [good_of va vb]; exact decide_eq_true ⟨ia.1, ia.2, ib.1, ib.2⟩
    have o1 := order_self va
    have o2 := order_self vb
    clear h va vb ia ib
    go_enter Try.func3, Try.ntmps3
    go_wp2_with (first
      | (go_at_call 9; refine (hm _).mono ?_; rintro e w' ⟨rfl, rfl⟩)
      | (go_at_call 10; refine (hr _).mono ?_; rintro e w' ⟨rfl, rfl⟩)
      | (go_at_call 11; refine (parts_any _ _ _).mono ?_; rintro e w' ⟨rfl, rfl⟩)
      | (go_at_call 12; refine (good_any _ _ _).mono ?_; rintro e w' ⟨rfl, rfl⟩)
      | (go_at_call 13; refine (epoch_any _ _ _).mono ?_; rintro e w' ⟨rfl, rfl⟩)
      | (go_at_call 14; refine (number_any _ _ _).mono ?_; rintro e w' ⟨rfl, rfl⟩)
      | (go_at_call 15; refine (awake_any _).mono ?_; rintro e w' ⟨rfl, rfl⟩))
    go_ret
    exact ⟨rfl, Below.refl _ _⟩

set_option maxHeartbeats 1000000 in
theorem walk_MarkParts (a b : Int) (ha : (Lit.int .i64 a).wf = true) (hb : (Lit.int .i64 b).wf = true) (w : World) :
    Calls Try.prog 4 #[.agg #[.int .i64 a, .int .i64 b]] w fun e w' => e = .returned (.bool true) ∧ Below w.heap.size w w' := by
  have hn := fun w => num_any a b w ha hb
  clear ha hb
  cases hg : goodB (qt a) (qt b)
  all_goals
    go_enter Try.func4, Try.ntmps4
    go_wp2_with (first
      | (go_at_call 16; refine (hn _).mono ?_; rintro e w' ⟨rfl, rfl⟩)
      | (go_at_call 11; refine (parts_any _ _ _).mono ?_; rintro e w' ⟨rfl, rfl⟩)
      | (go_at_call 12; refine (good_any _ _ _).mono ?_; rintro e w' ⟨rfl, rfl⟩)
      | (go_at_call 13; refine (epoch_any _ _ _).mono ?_; rintro e w' ⟨rfl, rfl⟩)
      | (go_at_call 14; refine (number_any _ _ _).mono ?_; rintro e w' ⟨rfl, rfl⟩)
      | (go_at_call 15; refine (awake_any _).mono ?_; rintro e w' ⟨rfl, rfl⟩))
    go_ret
    exact ⟨rfl, by repeat (first | exact Below.refl _ _ | refine Below.alloc ?_ (by simp) _)⟩

end Go.Proofs.Ytiecakeeekeidaa
