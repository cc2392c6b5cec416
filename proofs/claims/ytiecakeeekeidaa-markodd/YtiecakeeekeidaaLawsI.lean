/- The walk of the law MarkOdd: it returns true. -/
import Derived.Test.YtiecakeeekeidaaMarks
import Derived.Deep.RegionHeld3
namespace Go.Proofs.Ytiecakeeekeidaa
open Go.RowKit

theorem below_alloc {W w' : World} (h : Below W.heap.size W w') (o : Obj) : Below W.heap.size W (w'.alloc o) := h.alloc h.size o

/-- infinity's bits; what is no number -/
theorem val_inf : fval 9218868437227405312 = none := by decide +kernel
theorem mul_big : floatBits .mul .f64 9094988921128908188 9094988921128908188 = some 9218868437227405312 := by decide +kernel
theorem whole_none {x : Nat} (h : fval x = none) : wholeB x = false := by unfold wholeB; rw [h]
theorem good_none1 {x y : Nat} (h : fval x = none) : goodB x y = false := by unfold goodB; rw [whole_none h]; rfl
theorem good_none2 {x y : Nat} (h : fval y = none) : goodB x y = false := by unfold goodB; rw [whole_none h, Bool.and_false]

/-- the bits of a NaN that the tape gives -/
theorem nan_read (t : Nat) (x y : Nat) : ∃ s f, Ieee.double.read ((Question.nanBits .f64 x y).cut t) = .nan s f := by
  have e : (Question.nanBits .f64 x y).cut t = (t % 2) * 2 ^ 63 + (9218868437227405312 + 1 + (t / 2) % (2 ^ 52 - 1)) := by
    have : (Question.nanBits .f64 x y).cut t = (t % 2) * 2 ^ 63 + 9218868437227405312 + 1 + (t / 2) % (2 ^ 52 - 1) := rfl
    rw [this]; omega
  rw [e, read_eq]
  have h1 : ((t % 2) * 2 ^ 63 + (9218868437227405312 + 1 + (t / 2) % (2 ^ 52 - 1))) % 2 ^ 63 = 9218868437227405312 + 1 + (t / 2) % (2 ^ 52 - 1) := by omega
  rw [h1, if_neg (by omega), if_neg (by omega), if_neg (by omega)]
  exact ⟨_, _, rfl⟩

theorem nan_val {x : Nat} {s : Bool} {f : Nat} (h : Ieee.double.read x = .nan s f) : fval x = none := by unfold fval; rw [h]; rfl

theorem arith_nan {P : Program} (op : BinOp) (x y : Nat) (hop : op = .add ∨ op = .sub) (h : floatBits op .f64 x y = none) (w : World) :
    ∃ b, (∃ s f, Ieee.double.read b = .nan s f) ∧ (Op.floatArith op .f64 x y).run P w = .ok (.float .f64 b) w.drew := by
  refine ⟨_, nan_read (w.tape w.drawn (.nanBits .f64 x y)) x y, ?_⟩
  have hf : (Question.nanBits .f64 x y).forced = false := rfl
  rcases hop with rfl | rfl
  · have h' : FloatKind.f64.format.add x y = none := h
    simp [Op.floatArith, h', hf]
  · have h' : FloatKind.f64.format.sub x y = none := h
    simp [Op.floatArith, h', hf]

theorem sub_nan (w : World) : ∃ b, (∃ s f, Ieee.double.read b = .nan s f) ∧ (binOp .sub 38 (.float .f64 9218868437227405312) (.float .f64 9218868437227405312)).run Try.prog w = .ok (.float .f64 b) w.drew := by
  obtain ⟨b, hb, hr⟩ := arith_nan (P := Try.prog) .sub 9218868437227405312 9218868437227405312 (.inr rfl) (by decide +kernel) w
  refine ⟨b, hb, ?_⟩
  have e : binOp .sub 38 (.float .f64 9218868437227405312) (.float .f64 9218868437227405312) = Op.floatArith .sub .f64 9218868437227405312 9218868437227405312 := rfl
  rw [e, hr]

theorem add_nan_none {x y : Nat} {s : Bool} {f : Nat} (h : Ieee.double.read x = .nan s f) : floatBits .add .f64 x y = none := by
  have e : floatBits .add .f64 x y = ((Ieee.double.read x).sum (Ieee.double.read y)).map Ieee.double.write := rfl
  rw [e, h]
  cases Ieee.double.read y <;> rfl

theorem cadd_nan {x y d : Nat} {s : Bool} {f : Nat} (h : Ieee.double.read x = .nan s f) (hd : floatBits .add .f64 y 4607182418800017408 = some d) (w : World) :
    ∃ b, (binOp .add 22 (.complex .f64 x y) (.complex .f64 0 4607182418800017408)).run Try.prog w = .ok (.complex .f64 b d) w.drew := by
  obtain ⟨b, _, hr⟩ := arith_nan (P := Try.prog) .add x 0 (.inl rfl) (add_nan_none h) w
  refine ⟨b, ?_⟩
  have h1 : (Op.Complex.arith .add .f64 x 0).run Try.prog w = .ok b w.drew := by simp [Op.Complex.arith, hr]
  simp [binOp, Op.complexOp, h1, run_carith w.drew hd]

set_option maxHeartbeats 400000 in
theorem next_nan (x y : Nat) (s : Bool) (f : Nat) (v : Int) (hx : Ieee.double.read x = .nan s f) (hy : fval y = some v) (w : World) :
    Calls Try.prog 18 #[.complex .f64 x y] w fun e w' => e = .returned (.tuple #[.complex .f64 0 0, .int .i64 1]) ∧ w' = w.drew := by
  obtain ⟨d, hd⟩ := add_some hy val_one
  obtain ⟨b, hb⟩ := cadd_nan hx hd w
  have hs := fun w => step_no x y b d w (by rw [good_none1 (nan_val hx)]; rfl)
  clear hx hy hd
  go_enter Try.func18, Try.ntmps18
  go_wp2_with (go_at_call 33; refine (hs _).mono ?_; rintro e w' ⟨rfl, rfl⟩)
  go_ret2
  exact ⟨rfl, rfl⟩

theorem val_neg0 : fval (Op.negFloat .f64 0) = some (0 * U) := by decide +kernel
theorem val_negI : fval (Op.negFloat .f64 9218868437227405312) = none := by decide +kernel
theorem val_three : fval 4613937818241073152 = some (3 * U) := by decide +kernel

set_option maxHeartbeats 2000000 in
theorem odd_core (a b : Int) (A B NZ NI nb : Nat) (w : World)
    (hn : ∀ w, Calls Try.prog 16 #[.agg #[.int .i64 a, .int .i64 b]] w fun e w' => e = .returned (.complex .f64 A B) ∧ w' = w.alloc (.cells #[.int .i64 a, .int .i64 b] 35))
    (hm : ∀ w, (binOp .mul 38 (.float .f64 9094988921128908188) (.float .f64 9094988921128908188)).run Try.prog w = .ok (.float .f64 9218868437227405312) w)
    (hs : (binOp .sub 38 (.float .f64 9218868437227405312) (.float .f64 9218868437227405312)).run Try.prog (w.alloc (.cells #[.int .i64 a, .int .i64 b] 35)) = .ok (.float .f64 nb) (w.alloc (.cells #[.int .i64 a, .int .i64 b] 35)).drew)
    (z1 : Op.unary .neg (.float .f64 0) = pure (.float .f64 NZ)) (z2 : Op.unary .neg (.float .f64 9218868437227405312) = pure (.float .f64 NI))
    (g1 : ∀ y, goodB nb y = false) (g2 : ∀ y, goodB y nb = false) (g3 : ∀ y, goodB 9218868437227405312 y = false) (g4 : ∀ y, goodB y NI = false) (g5 : ∀ y, goodB y 9218868437227405312 = false)
    (g6 : goodB NZ NZ = true) (g7 : goodB NZ 4613937818241073152 = true) (g8 : part NZ = 0)
    (l1 : laterB 9218868437227405312 0 A B = false) (l2 : laterB A B nb nb = false)
    (hN : ∀ w, Calls Try.prog 18 #[.complex .f64 nb B] w fun e w' => e = .returned (.tuple #[.complex .f64 0 0, .int .i64 1]) ∧ w' = w.drew)
    (hR : ∀ w, Calls Try.prog 19 #[.complex .f64 A 9218868437227405312] w fun e w' => e = .returned (.tuple #[.complex .f64 0 0, .int .i64 1]) ∧ w' = w) :
    Calls Try.prog 5 #[.agg #[.int .i64 a, .int .i64 b]] w fun e w' => e = .returned (.bool true) ∧ Below w.heap.size w w' := by
  go_enter Try.func5, Try.ntmps5
  go_wp2_with (first
    | (go_at_call 16; refine (hn _).mono ?_; rintro e w' ⟨rfl, rfl⟩)
    | (go_at_call 12; refine (good_any _ _ _).mono ?_; rintro e w' ⟨rfl, rfl⟩)
    | (go_at_call 13; refine (epoch_any _ _ _).mono ?_; rintro e w' ⟨rfl, rfl⟩)
    | (go_at_call 14; refine (number_any _ _ _).mono ?_; rintro e w' ⟨rfl, rfl⟩)
    | (go_at_call 17; refine (later_any _ _ _ _ _).mono ?_; rintro e w' ⟨rfl, rfl⟩)
    | (go_at_call 18; refine (hN _).mono ?_; rintro e w' ⟨rfl, rfl⟩)
    | (go_at_call 19; refine (hR _).mono ?_; rintro e w' ⟨rfl, rfl⟩)
    | (go_at_call 15; refine (awake_any _).mono ?_; rintro e w' ⟨rfl, rfl⟩))
  go_ret
  exact ⟨rfl, by repeat (first | exact Below.refl _ _ | refine below_alloc ?_ _ | refine Below.drew ?_)⟩

theorem walk_MarkOdd (a b : Int) (ha : (Lit.int .i64 a).wf = true) (hb : (Lit.int .i64 b).wf = true) (w : World) :
    Calls Try.prog 5 #[.agg #[.int .i64 a, .int .i64 b]] w fun e w' => e = .returned (.bool true) ∧ Below w.heap.size w w' := by
  obtain ⟨nb, ⟨s, f, hnb⟩, hs⟩ := sub_nan (w.alloc (.cells #[.int .i64 a, .int .i64 b] 35))
  obtain ⟨u, hu⟩ := (qt_eq a ha).2
  obtain ⟨v, hv⟩ := (qt_eq b hb).2
  have g1 : ∀ y, goodB nb y = false := fun y => good_none1 (nan_val hnb)
  have g5 : ∀ y, goodB y 9218868437227405312 = false := fun y => good_none2 val_inf
  refine odd_core a b (qt a) (qt b) _ _ nb w (fun w => num_any a b w ha hb) (fun w => run_float_arith w .mul 38 .f64 _ _ _ mul_big) hs rfl rfl g1 (fun y => good_none2 (nan_val hnb)) (fun y => good_none1 val_inf) (fun y => good_none2 val_negI) g5 ?_ ?_ (part_of val_neg0) ?_ ?_ (fun w => next_nan nb (qt b) s f v hnb hv w) ?_
  · rw [good_of val_neg0 val_neg0]; decide
  · rw [good_of val_neg0 val_three]; decide
  · unfold laterB; rw [good_none1 val_inf]; rfl
  · unfold laterB; rw [g1, Bool.and_false]; rfl
  · intro w
    refine restart_no _ _ w u hu ?_
    rw [g5]; simp

end Go.Proofs.Ytiecakeeekeidaa
