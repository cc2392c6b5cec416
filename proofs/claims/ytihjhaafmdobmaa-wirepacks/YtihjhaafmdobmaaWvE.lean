/- What is plain: notes. -/
import Derived.Test.YtihjhaafmdobmaaWvD
namespace Go.Proofs.Ytihjhaafmdobmaa
open Go.RowKit Go.Lib
attribute [local go_sem ↓ high] loadN
attribute [local go_sem high] guardNt

set_option maxRecDepth 20000 in
set_option maxHeartbeats 8000000 in
theorem plainNote_1 (kind epoch vers next client : Int) (e : En) (life seq err : Int) (op : Opn) (w : World) (hE : eqNt ⟨kind, epoch, vers, next, client, e, life, seq, err, op⟩ (onlyN ⟨kind, epoch, vers, next, client, e, life, seq, err, op⟩) = true) (hN : numsOkB [epoch, vers, next, client, life, seq, err] = false) : Calls Try.prog 67 #[.agg #[.int .i64 kind, .int .i64 epoch, .int .i64 vers, .int .i64 next, .int .i64 client, .int .i64 e.d, .string e.nm, .bool e.neg, .int .i64 e.id, .int .i64 e.kind, .int .i64 e.mode, .string e.tg, .int .i64 life, .int .i64 seq, .int .i64 err, .int .i64 op.kind, .int .i64 op.dir, .string op.nm, .int .i64 op.dst, .string op.new, .int .i64 op.mode, .string op.tg]] w fun x w' => x = .returned (.bool false) ∧ Below w.heap.size w w' := by
  have hq0 := fun w' => neqNt w' ⟨kind, epoch, vers, next, client, e, life, seq, err, op⟩ (onlyN ⟨kind, epoch, vers, next, client, e, life, seq, err, op⟩)
  have hnm0 := fun w' => named_p ⟨kind, epoch, vers, next, client, e, life, seq, err, op⟩ w'
  rw [hE] at hq0
  obtain ⟨B, hB⟩ : ∃ B, (onlyN ⟨kind, epoch, vers, next, client, e, life, seq, err, op⟩).arr = B := ⟨_, rfl⟩
  rw [hB] at hq0
  simp only [hB] at hnm0
  obtain ⟨A, hA⟩ : ∃ A, (#[.int .i64 kind, .int .i64 epoch, .int .i64 vers, .int .i64 next, .int .i64 client, .int .i64 e.d, .string e.nm, .bool e.neg, .int .i64 e.id, .int .i64 e.kind, .int .i64 e.mode, .string e.tg, .int .i64 life, .int .i64 seq, .int .i64 err, .int .i64 op.kind, .int .i64 op.dir, .string op.nm, .int .i64 op.dst, .string op.new, .int .i64 op.mode, .string op.tg] : Array Value) = A := ⟨_, rfl⟩
  have hq : ∀ w', (binOp .neq 81 (.agg A) (.agg B)).run Try.prog w' = .ok (.bool false) w' := by rw [← hA]; exact hq0
  have HNm : Hid (∀ w', Calls Try.prog 131 #[.agg A] w' fun x w2 => x = .returned (.agg B) ∧ Below w'.heap.size w' w2) := by rw [← hA]; exact hnm0
  obtain ⟨W, hW⟩ : ∃ W, w.alloc (.cells A 81) = W := ⟨_, rfl⟩
  have hb := boxB hW
  have HBx : Hid (W.heap[w.heap.size]? = some (.cells #[.int .i64 kind, .int .i64 epoch, .int .i64 vers, .int .i64 next, .int .i64 client, .int .i64 e.d, .string e.nm, .bool e.neg, .int .i64 e.id, .int .i64 e.kind, .int .i64 e.mode, .string e.tg, .int .i64 life, .int .i64 seq, .int .i64 err, .int .i64 op.kind, .int .i64 op.dir, .string op.nm, .int .i64 op.dst, .string op.new, .int .i64 op.mode, .string op.tg] 81 (0, 0)) ∧ Below w.heap.size w W) := by rw [hA]; exact hb
  have HS : Hid (∀ w', Below W.heap.size W w' → (noteS (.pointer (some ⟨w.heap.size, 0, none⟩))).run Try.prog w' = .ok (.agg A) w' ∧ w'.cell? ⟨w.heap.size, 1, none⟩ = some (.int .i64 epoch) ∧ w'.cell? ⟨w.heap.size, 2, none⟩ = some (.int .i64 vers) ∧ w'.cell? ⟨w.heap.size, 3, none⟩ = some (.int .i64 next) ∧ w'.cell? ⟨w.heap.size, 4, none⟩ = some (.int .i64 client) ∧ w'.cell? ⟨w.heap.size, 12, none⟩ = some (.int .i64 life) ∧ w'.cell? ⟨w.heap.size, 13, none⟩ = some (.int .i64 seq) ∧ w'.cell? ⟨w.heap.size, 14, none⟩ = some (.int .i64 err)) := fun w' h' => by
    have n1 := hkeep HBx.out.1 h'
    have n2 := n1
    rw [hA] at n2
    refine ⟨noteS_of n2 (by rw [← hA]; rfl), by have y := cell_of n1 1; simpa using y, by have y := cell_of n1 2; simpa using y, by have y := cell_of n1 3; simpa using y, by have y := cell_of n1 4; simpa using y, by have y := cell_of n1 12; simpa using y, by have y := cell_of n1 13; simpa using y, by have y := cell_of n1 14; simpa using y⟩
  rw [hA]
  clear hA hB hq0 hnm0 hE hb
  have HWi : Hid (∀ W2, Calls Try.prog 96 #[.slice (some ⟨W2.heap.size, 0, none⟩) 7 7] (W2.alloc (.cells #[.int .i64 epoch, .int .i64 vers, .int .i64 next, .int .i64 client, .int .i64 life, .int .i64 seq, .int .i64 err] 3)) fun x w' => x = .returned (.bool false) ∧ Below W2.heap.size W2 w') := fun W2 => by have := within_new W2 [epoch, vers, next, client, life, seq, err] (by simp); rw [hN] at this; exact this
  clear hN
  go_enter Try.func67, Try.ntmps67
  go_upto_region 1 with fail
  clear hW
  have k0 := HS.out W.drew (Below.refl _ _).drew
  go_region_held3 (fun w' => (noteS (.pointer (some ⟨w.heap.size, 0, none⟩))).run Try.prog w' = .ok (.agg A) w' ∧ w'.cell? ⟨w.heap.size, 1, none⟩ = some (.int .i64 epoch) ∧ w'.cell? ⟨w.heap.size, 2, none⟩ = some (.int .i64 vers) ∧ w'.cell? ⟨w.heap.size, 3, none⟩ = some (.int .i64 next) ∧ w'.cell? ⟨w.heap.size, 4, none⟩ = some (.int .i64 client) ∧ w'.cell? ⟨w.heap.size, 12, none⟩ = some (.int .i64 life) ∧ w'.cell? ⟨w.heap.size, 13, none⟩ = some (.int .i64 seq) ∧ w'.cell? ⟨w.heap.size, 14, none⟩ = some (.int .i64 err)) (with_reducible first | exact k2 | exact kA | exact k1 | exact k0) (first | (go_at_call 131; refine (HNm.out _).mono ?_; rintro x w1 ⟨rfl, hb1⟩; have hc1 := chainB (Below.refl W.heap.size W).drew hb1; have k1 := HS.out w1 hc1; have kA := HS.out (w1.alloc (.cells #[.int .i64 epoch, .int .i64 vers, .int .i64 next, .int .i64 client, .int .i64 life, .int .i64 seq, .int .i64 err] 3)) (chainB hc1 (below_alloc _ _))) | (go_at_call 96; refine (HWi.out w1).mono ?_; rintro x w2 ⟨rfl, hb2⟩; have hc2 := chainB hc1 hb2; have k2 := HS.out w2 hc2))
  go_wp2
  go_ret
  exact ⟨rfl, chainB HBx.out.2 hc2⟩

set_option maxRecDepth 20000 in
set_option maxHeartbeats 8000000 in
theorem plainNote_2 (kind epoch vers next client : Int) (e : En) (life seq err : Int) (op : Opn) (w : World) (hE : eqNt ⟨kind, epoch, vers, next, client, e, life, seq, err, op⟩ (onlyN ⟨kind, epoch, vers, next, client, e, life, seq, err, op⟩) = true) (hN : numsOkB [epoch, vers, next, client, life, seq, err] = true) : Calls Try.prog 67 #[.agg #[.int .i64 kind, .int .i64 epoch, .int .i64 vers, .int .i64 next, .int .i64 client, .int .i64 e.d, .string e.nm, .bool e.neg, .int .i64 e.id, .int .i64 e.kind, .int .i64 e.mode, .string e.tg, .int .i64 life, .int .i64 seq, .int .i64 err, .int .i64 op.kind, .int .i64 op.dir, .string op.nm, .int .i64 op.dst, .string op.new, .int .i64 op.mode, .string op.tg]] w fun x w' => x = .returned (.bool (kindN ⟨kind, epoch, vers, next, client, e, life, seq, err, op⟩)) ∧ Below w.heap.size w w' := by
  obtain ⟨R, hR⟩ : ∃ R, kindN ⟨kind, epoch, vers, next, client, e, life, seq, err, op⟩ = R := ⟨_, rfl⟩
  rw [hR]
  have HRs : Hid (kindN ⟨kind, epoch, vers, next, client, e, life, seq, err, op⟩ = R) := hR
  clear hR
  have hq0 := fun w' => neqNt w' ⟨kind, epoch, vers, next, client, e, life, seq, err, op⟩ (onlyN ⟨kind, epoch, vers, next, client, e, life, seq, err, op⟩)
  have hnm0 := fun w' => named_p ⟨kind, epoch, vers, next, client, e, life, seq, err, op⟩ w'
  rw [hE] at hq0
  obtain ⟨B, hB⟩ : ∃ B, (onlyN ⟨kind, epoch, vers, next, client, e, life, seq, err, op⟩).arr = B := ⟨_, rfl⟩
  rw [hB] at hq0
  simp only [hB] at hnm0
  obtain ⟨A, hA⟩ : ∃ A, (#[.int .i64 kind, .int .i64 epoch, .int .i64 vers, .int .i64 next, .int .i64 client, .int .i64 e.d, .string e.nm, .bool e.neg, .int .i64 e.id, .int .i64 e.kind, .int .i64 e.mode, .string e.tg, .int .i64 life, .int .i64 seq, .int .i64 err, .int .i64 op.kind, .int .i64 op.dir, .string op.nm, .int .i64 op.dst, .string op.new, .int .i64 op.mode, .string op.tg] : Array Value) = A := ⟨_, rfl⟩
  have hq : ∀ w', (binOp .neq 81 (.agg A) (.agg B)).run Try.prog w' = .ok (.bool false) w' := by rw [← hA]; exact hq0
  have HNm : Hid (∀ w', Calls Try.prog 131 #[.agg A] w' fun x w2 => x = .returned (.agg B) ∧ Below w'.heap.size w' w2) := by rw [← hA]; exact hnm0
  obtain ⟨W, hW⟩ : ∃ W, w.alloc (.cells A 81) = W := ⟨_, rfl⟩
  have hb := boxB hW
  have HBx : Hid (W.heap[w.heap.size]? = some (.cells #[.int .i64 kind, .int .i64 epoch, .int .i64 vers, .int .i64 next, .int .i64 client, .int .i64 e.d, .string e.nm, .bool e.neg, .int .i64 e.id, .int .i64 e.kind, .int .i64 e.mode, .string e.tg, .int .i64 life, .int .i64 seq, .int .i64 err, .int .i64 op.kind, .int .i64 op.dir, .string op.nm, .int .i64 op.dst, .string op.new, .int .i64 op.mode, .string op.tg] 81 (0, 0)) ∧ Below w.heap.size w W) := by rw [hA]; exact hb
  have HS : Hid (∀ w', Below W.heap.size W w' → (noteS (.pointer (some ⟨w.heap.size, 0, none⟩))).run Try.prog w' = .ok (.agg A) w' ∧ w'.cell? ⟨w.heap.size, 1, none⟩ = some (.int .i64 epoch) ∧ w'.cell? ⟨w.heap.size, 2, none⟩ = some (.int .i64 vers) ∧ w'.cell? ⟨w.heap.size, 3, none⟩ = some (.int .i64 next) ∧ w'.cell? ⟨w.heap.size, 4, none⟩ = some (.int .i64 client) ∧ w'.cell? ⟨w.heap.size, 12, none⟩ = some (.int .i64 life) ∧ w'.cell? ⟨w.heap.size, 13, none⟩ = some (.int .i64 seq) ∧ w'.cell? ⟨w.heap.size, 14, none⟩ = some (.int .i64 err)) := fun w' h' => by
    have n1 := hkeep HBx.out.1 h'
    have n2 := n1
    rw [hA] at n2
    refine ⟨noteS_of n2 (by rw [← hA]; rfl), by have y := cell_of n1 1; simpa using y, by have y := cell_of n1 2; simpa using y, by have y := cell_of n1 3; simpa using y, by have y := cell_of n1 4; simpa using y, by have y := cell_of n1 12; simpa using y, by have y := cell_of n1 13; simpa using y, by have y := cell_of n1 14; simpa using y⟩
  rw [hA]
  clear hA hB hq0 hnm0 hE hb
  have HWi : Hid (∀ W2, Calls Try.prog 96 #[.slice (some ⟨W2.heap.size, 0, none⟩) 7 7] (W2.alloc (.cells #[.int .i64 epoch, .int .i64 vers, .int .i64 next, .int .i64 client, .int .i64 life, .int .i64 seq, .int .i64 err] 3)) fun x w' => x = .returned (.bool true) ∧ Below W2.heap.size W2 w') := fun W2 => by have := within_new W2 [epoch, vers, next, client, life, seq, err] (by simp); rw [hN] at this; exact this
  clear hN
  go_enter Try.func67, Try.ntmps67
  go_upto_region 1 with fail
  clear hW
  have k0 := HS.out W.drew (Below.refl _ _).drew
  go_region_held3 (fun w' => (noteS (.pointer (some ⟨w.heap.size, 0, none⟩))).run Try.prog w' = .ok (.agg A) w' ∧ w'.cell? ⟨w.heap.size, 1, none⟩ = some (.int .i64 epoch) ∧ w'.cell? ⟨w.heap.size, 2, none⟩ = some (.int .i64 vers) ∧ w'.cell? ⟨w.heap.size, 3, none⟩ = some (.int .i64 next) ∧ w'.cell? ⟨w.heap.size, 4, none⟩ = some (.int .i64 client) ∧ w'.cell? ⟨w.heap.size, 12, none⟩ = some (.int .i64 life) ∧ w'.cell? ⟨w.heap.size, 13, none⟩ = some (.int .i64 seq) ∧ w'.cell? ⟨w.heap.size, 14, none⟩ = some (.int .i64 err)) (with_reducible first | exact k2 | exact kA | exact k1 | exact k0) (first | (go_at_call 131; refine (HNm.out _).mono ?_; rintro x w1 ⟨rfl, hb1⟩; have hc1 := chainB (Below.refl W.heap.size W).drew hb1; have k1 := HS.out w1 hc1; have kA := HS.out (w1.alloc (.cells #[.int .i64 epoch, .int .i64 vers, .int .i64 next, .int .i64 client, .int .i64 life, .int .i64 seq, .int .i64 err] 3)) (chainB hc1 (below_alloc _ _))) | (go_at_call 96; refine (HWi.out w1).mono ?_; rintro x w2 ⟨rfl, hb2⟩; have hc2 := chainB hc1 hb2; have k2 := HS.out w2 hc2))
  have n2 := hkeep HBx.out.1 hc2
  have HW2 : Hid (Below w.heap.size w w2) := chainB HBx.out.2 hc2
  have z0 := cell_of n2 0
  have z5 := cell_of n2 5
  have z6 := cell_of n2 6
  have z7 := cell_of n2 7
  have z8 := cell_of n2 8
  have z9 := cell_of n2 9
  have z10 := cell_of n2 10
  have z11 := cell_of n2 11
  have z15 := cell_of n2 15
  have z16 := cell_of n2 16
  have z17 := cell_of n2 17
  have z18 := cell_of n2 18
  have z19 := cell_of n2 19
  have z20 := cell_of n2 20
  have z21 := cell_of n2 21
  simp at z0 z5 z6 z7 z8 z9 z10 z11 z15 z16 z17 z18 z19 z20 z21
  clear n2 k0 k1 kA k2 hb1 hc1 hb2 hc2 HWi HS HBx hq HNm
  by_cases k1 : kind = 1
  · subst k1
    go_wp2
    go_ret
    exact ⟨by rw [← HRs.out]; rfl, HW2.out⟩
  have k1b : (kind == 1) = false := by simpa using k1
  by_cases k2 : kind = 2
  · subst k2
    go_wp2
    go_ret
    exact ⟨by rw [← HRs.out]; rfl, HW2.out⟩
  have k2b : (kind == 2) = false := by simpa using k2
  by_cases k4 : kind = 4
  · subst k4
    go_wp2
    go_ret
    exact ⟨by rw [← HRs.out]; rfl, HW2.out⟩
  have k4b : (kind == 4) = false := by simpa using k4
  by_cases k3 : kind = 3
  · subst k3
    have HP : Hid (Calls Try.prog 100 #[.agg #[.int .i64 e.d, .string e.nm, .bool e.neg, .int .i64 e.id, .int .i64 e.kind, .int .i64 e.mode, .string e.tg]] w2 fun x w' => x = .returned (.bool (decide (entOk e))) ∧ Below w2.heap.size w2 w') := plainEntry_p e w2
    obtain ⟨D, hD⟩ : ∃ D, decide (entOk e) = D := ⟨_, rfl⟩
    rw [hD] at HP
    have HR : Hid (kindN ⟨3, epoch, vers, next, client, e, life, seq, err, op⟩ = ((!e.neg) && D)) := by rw [← hD]; rfl
    clear hD
    cases hneg : e.neg with
    | true =>
      have HNg : Hid (e.neg = true) := hneg
      rw [hneg] at z7 HP
      clear hneg
      go_wp2
      go_ret
      exact ⟨by rw [← HRs.out, HR.out, HNg.out]; rfl, HW2.out⟩
    | false =>
      have HNg : Hid (e.neg = false) := hneg
      rw [hneg] at z7 HP
      clear hneg
      go_wp2_with (go_at_call 100; refine HP.out.mono ?_; rintro x w3 ⟨rfl, hb3⟩)
      go_ret
      exact ⟨by rw [← HRs.out, HR.out, HNg.out]; rfl, chainB HW2.out hb3⟩
  have k3b : (kind == 3) = false := by simpa using k3
  by_cases k5 : kind = 5
  · subst k5
    have HP : Hid (Calls Try.prog 98 #[.agg #[.int .i64 op.kind, .int .i64 op.dir, .string op.nm, .int .i64 op.dst, .string op.new, .int .i64 op.mode, .string op.tg]] w2 fun x w' => x = .returned (.bool (decide (opOk op))) ∧ Below w2.heap.size w2 w') := plainOp_p op w2
    go_wp2_with (go_at_call 98; refine HP.out.mono ?_; rintro x w3 ⟨rfl, hb3⟩)
    go_ret
    exact ⟨by rw [← HRs.out]; rfl, chainB HW2.out hb3⟩
  have k5b : (kind == 5) = false := by simpa using k5
  have hno : kindN ⟨kind, epoch, vers, next, client, e, life, seq, err, op⟩ = false := by unfold kindN; simp only []; rw [if_neg k1, if_neg k2, if_neg k4, if_neg k3, if_neg k5]
  have HNo : Hid (kindN ⟨kind, epoch, vers, next, client, e, life, seq, err, op⟩ = false) := hno
  clear hno
  go_wp2
  go_ret
  exact ⟨by rw [← HRs.out, HNo.out]; rfl, HW2.out⟩

theorem plainNote_p (n : Nt) (w : World) : Calls Try.prog 67 #[.agg n.arr] w fun x w' => x = .returned (.bool (plainN n)) ∧ Below w.heap.size w w' := by
  obtain ⟨kind, epoch, vers, next, client, e, life, seq, err, op⟩ := n
  cases hE : eqNt ⟨kind, epoch, vers, next, client, e, life, seq, err, op⟩ (onlyN ⟨kind, epoch, vers, next, client, e, life, seq, err, op⟩) with
  | false => rw [plainN_0 hE]; exact plainNote_0 kind epoch vers next client e life seq err op w hE
  | true =>
    cases hN : numsOkB [epoch, vers, next, client, life, seq, err] with
    | false => rw [plainN_1 hN]; exact plainNote_1 kind epoch vers next client e life seq err op w hE hN
    | true => rw [plainN_2 hE hN]; exact plainNote_2 kind epoch vers next client e life seq err op w hE hN
end Go.Proofs.Ytihjhaafmdobmaa
