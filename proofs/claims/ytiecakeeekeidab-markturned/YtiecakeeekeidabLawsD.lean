/- The walk of the law MarkOrders: it returns true. -/
import Derived.Test.YtiecakeeekeidabMarks
import Derived.Deep.RegionHeld3
namespace Go.Proofs.Ytiecakeeekeidab
open Go.RowKit

theorem below_alloc {W w' : World} (h : Below W.heap.size W w') (o : Obj) : Below W.heap.size W (w'.alloc o) := h.alloc h.size o

theorem later_self (a b : Nat) : laterB a b a b = false := by
  unfold laterB
  have : decide (part a < part a ∨ part a = part a ∧ part b < part b) = false := by simp
  rw [this, Bool.and_false]
theorem later_iff (a b c d : Nat) : laterB a b c d = true ↔ goodB a b = true ∧ goodB c d = true ∧ (part c < part a ∨ part a = part c ∧ part d < part b) := by
  unfold laterB; simp only [Bool.and_eq_true, decide_eq_true_eq, and_assoc]
theorem later_not (a b c d : Nat) (h : ¬ (part c < part a ∨ part a = part c ∧ part d < part b)) : laterB a b c d = false := by
  cases hl : laterB a b c d
  · rfl
  · exact absurd ((later_iff _ _ _ _).1 hl).2.2 h

/-- two good marks compared by == -/
theorem same_iff {a b c d : Nat} (h1 : goodB a b = true) (h2 : goodB c d = true) :
    ((FloatKind.f64.format.order a c == some .eq) && (FloatKind.f64.format.order b d == some .eq)) = decide (part a = part c ∧ part b = part d) := by
  obtain ⟨_, _, _, _, va, vb⟩ := good_parts h1
  obtain ⟨_, _, _, _, vc, vd⟩ := good_parts h2
  rw [order_whole va vc, order_whole vb vd, beq_cmp_eq, beq_cmp_eq]
  simp

theorem next_or (a b : Nat) (h : goodB a b = true) :
    (∃ c d, (∀ w, Calls Try.prog 12 #[.complex .f64 a b] w fun e w' => e = .returned (.tuple #[.complex .f64 c d, .int .i64 0]) ∧ w' = w) ∧
      (∀ w, Calls Try.prog 13 #[.complex .f64 a b, .complex .f64 c d] w fun e w' => e = .returned (.tuple #[.int .i64 1, .bool true]) ∧ w' = w) ∧
      laterB c d a b = true ∧ ∀ x y, laterB x y a b = true → laterB c d x y = false) ∨
    (∀ w, Calls Try.prog 12 #[.complex .f64 a b] w fun e w' => e = .returned (.tuple #[.complex .f64 0 0, .int .i64 1]) ∧ w' = w) := by
  obtain ⟨p1, p2, p3, p4, va, vb⟩ := good_parts h
  by_cases hb : part b < 1099511627776
  · left
    obtain ⟨c, d, vc, vd, hn⟩ := next_yes a b h hb
    have hg : goodB c d = true := by rw [good_of vc vd]; exact decide_eq_true ⟨p1, p2, by omega, by omega⟩
    have pc := part_of vc
    have pd := part_of vd
    refine ⟨c, d, hn, ?_, ?_, ?_⟩
    · intro w
      have := gap_any a b c d w
      have hgap : gapB a b c d = true := by unfold gapB; rw [h, hg, pc, pd]; simp; omega
      rw [hgap, if_pos rfl, pd, show part b + 1 - part b = 1 by omega] at this
      exact this
    · exact (later_iff _ _ _ _).2 ⟨hg, h, .inr ⟨pc, by omega⟩⟩
    · intro x y hl
      have := ((later_iff _ _ _ _).1 hl).2.2
      exact later_not _ _ _ _ (by omega)
  · right
    intro w
    exact next_no a b w _ _ va vb (fun hh => hb hh.2)

theorem restart_or (a b : Nat) (h : goodB a b = true) :
    (∃ c, (∀ w, Calls Try.prog 14 #[.complex .f64 a b] w fun e w' => e = .returned (.tuple #[.complex .f64 c 0, .int .i64 0]) ∧ w' = w) ∧
      (∀ w, Calls Try.prog 16 #[.complex .f64 c 0] w fun e w' => e = .returned (.int .i64 0) ∧ w' = w) ∧
      laterB c 0 a b = true ∧ ∀ x y, goodB x y = true → part x = part a → laterB c 0 x y = true) ∨
    (∀ w, Calls Try.prog 14 #[.complex .f64 a b] w fun e w' => e = .returned (.tuple #[.complex .f64 0 0, .int .i64 1]) ∧ w' = w) := by
  obtain ⟨p1, p2, p3, p4, va, vb⟩ := good_parts h
  by_cases hb : part a < 1099511627776
  · left
    obtain ⟨c, vc, hn⟩ := restart_yes a b h hb
    have hg : goodB c 0 = true := by rw [good_of vc val_zeroU]; exact decide_eq_true ⟨by omega, by omega, by omega, by omega⟩
    have pc := part_of vc
    refine ⟨c, hn, ?_, ?_, ?_⟩
    · intro w
      have := number_any c 0 w
      rw [hg, if_pos rfl, part_of val_zeroU] at this
      exact this
    · exact (later_iff _ _ _ _).2 ⟨hg, h, .inl (by omega)⟩
    · intro x y hx he
      exact (later_iff _ _ _ _).2 ⟨hg, hx, .inl (by omega)⟩
  · right
    intro w
    exact restart_no a b w _ va (fun hh => hb hh.2)

theorem num_w (a b : Int) (w : World) (ha : (Lit.int .i64 a).wf = true) (hb : (Lit.int .i64 b).wf = true) :
    Calls Try.prog 8 #[.agg #[.int .i64 a, .int .i64 b]] w fun e w' => e = .returned (.complex .f64 (qt a) (qt b)) ∧ w' = w.alloc (.cells #[.int .i64 a, .int .i64 b] 23) := num_any a b w ha hb

set_option maxHeartbeats 2000000 in
theorem orders_bad
    (a0 b0 a1 b1 a2 b2 : Int) (A0 B0 A1 B1 A2 B2 : Nat) (w : World)
    (hn0 : ∀ w, Calls Try.prog 8 #[.agg #[.int .i64 a0, .int .i64 b0]] w fun e w' => e = .returned (.complex .f64 A0 B0) ∧ w' = w.alloc (.cells #[.int .i64 a0, .int .i64 b0] 23))
    (hn1 : ∀ w, Calls Try.prog 8 #[.agg #[.int .i64 a1, .int .i64 b1]] w fun e w' => e = .returned (.complex .f64 A1 B1) ∧ w' = w.alloc (.cells #[.int .i64 a1, .int .i64 b1] 23))
    (hn2 : ∀ w, Calls Try.prog 8 #[.agg #[.int .i64 a2, .int .i64 b2]] w fun e w' => e = .returned (.complex .f64 A2 B2) ∧ w' = w.alloc (.cells #[.int .i64 a2, .int .i64 b2] 23))
    (h : (goodB A0 B0 && goodB A1 B1 && goodB A2 B2) = false) (laa : laterB A0 B0 A0 B0 = false) :
    Calls Try.prog 3 #[.agg #[.int .i64 a0, .int .i64 b0], .agg #[.int .i64 a1, .int .i64 b1], .agg #[.int .i64 a2, .int .i64 b2]] w fun e w' => e = .returned (.bool true) ∧ Below w.heap.size w w' := by
  have hc : goodB A0 B0 = false ∨ (goodB A0 B0 = true ∧ goodB A1 B1 = false) ∨ (goodB A0 B0 = true ∧ goodB A1 B1 = true ∧ goodB A2 B2 = false) := by
    cases h0 : goodB A0 B0
    · exact .inl rfl
    · cases h1 : goodB A1 B1
      · exact .inr (.inl ⟨rfl, rfl⟩)
      · rw [h0, h1] at h; exact .inr (.inr ⟨rfl, rfl, by simpa using h⟩)
  clear h
  rcases hc with h0 | ⟨h0, h1⟩ | ⟨h0, h1, h2⟩
  all_goals
    go_enter Try.func3, Try.ntmps3
    go_wp2_with (first
      | (go_at_call_of 8 (Value.agg #[.int .i64 a0, .int .i64 b0]); refine (hn0 _).mono ?_; rintro e w' ⟨rfl, rfl⟩)
      | (go_at_call_of 8 (Value.agg #[.int .i64 a1, .int .i64 b1]); refine (hn1 _).mono ?_; rintro e w' ⟨rfl, rfl⟩)
      | (go_at_call_of 8 (Value.agg #[.int .i64 a2, .int .i64 b2]); refine (hn2 _).mono ?_; rintro e w' ⟨rfl, rfl⟩)
      | (go_at_call 9; refine (good_any _ _ _).mono ?_; rintro e w' ⟨rfl, rfl⟩)
      | (go_at_call 10; refine (later_any _ _ _ _ _).mono ?_; rintro e w' ⟨rfl, rfl⟩)
      | (go_at_call 11; refine (awake_any _).mono ?_; rintro e w' ⟨rfl, rfl⟩))
    go_ret
    exact ⟨rfl, by repeat (first | exact Below.refl _ _ | refine below_alloc ?_ _)⟩

end Go.Proofs.Ytiecakeeekeidab
