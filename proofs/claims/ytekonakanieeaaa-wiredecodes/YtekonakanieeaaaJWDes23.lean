/- What is plain: notes. -/
import Derived.Test.YtekonakanieeaaaJWDes13
import Derived.Test.YtekonakanieeaaaJWDes21
import Derived.Test.YtekonakanieeaaaJWDes22
namespace Go.Proofs.Ytekonakanieeaaa
section
open Go.RowKit Go.Lib
attribute [local go_sem ↓ high] loadN
attribute [local go_sem high] guardNt

set_option maxRecDepth 20000 in
set_option maxHeartbeats 8000000 in
theorem plainNote_1 (kind epoch vers next client : Int) (e : En) (life seq err : Int) (op : Opn) (w : World) (hE : eqNt ⟨kind, epoch, vers, next, client, e, life, seq, err, op⟩ (onlyN ⟨kind, epoch, vers, next, client, e, life, seq, err, op⟩) = true) (hN : numsOkB [epoch, vers, next, client, life, seq, err] = false) : Calls Try.prog 27 #[.agg #[.int .i64 kind, .int .i64 epoch, .int .i64 vers, .int .i64 next, .int .i64 client, .int .i64 e.d, .string e.nm, .bool e.neg, .int .i64 e.id, .int .i64 e.kind, .int .i64 e.mode, .string e.tg, .int .i64 life, .int .i64 seq, .int .i64 err, .int .i64 op.kind, .int .i64 op.dir, .string op.nm, .int .i64 op.dst, .string op.new, .int .i64 op.mode, .string op.tg]] w fun x w' => x = .returned (.bool false) ∧ Below w.heap.size w w' := by
  have hq0 := fun w' => neqNt w' ⟨kind, epoch, vers, next, client, e, life, seq, err, op⟩ (onlyN ⟨kind, epoch, vers, next, client, e, life, seq, err, op⟩)
  have hnm0 := fun w' => named_p ⟨kind, epoch, vers, next, client, e, life, seq, err, op⟩ w'
  rw [hE] at hq0
  obtain ⟨B, hB⟩ : ∃ B, (onlyN ⟨kind, epoch, vers, next, client, e, life, seq, err, op⟩).arr = B := ⟨_, rfl⟩
  rw [hB] at hq0
  simp only [hB] at hnm0
  obtain ⟨A, hA⟩ : ∃ A, (#[.int .i64 kind, .int .i64 epoch, .int .i64 vers, .int .i64 next, .int .i64 client, .int .i64 e.d, .string e.nm, .bool e.neg, .int .i64 e.id, .int .i64 e.kind, .int .i64 e.mode, .string e.tg, .int .i64 life, .int .i64 seq, .int .i64 err, .int .i64 op.kind, .int .i64 op.dir, .string op.nm, .int .i64 op.dst, .string op.new, .int .i64 op.mode, .string op.tg] : Array Value) = A := ⟨_, rfl⟩
  have hq : ∀ w', (binOp .neq 48 (.agg A) (.agg B)).run Try.prog w' = .ok (.bool false) w' := by rw [← hA]; exact hq0
  have HNm : Hid (∀ w', Calls Try.prog 60 #[.agg A] w' fun x w2 => x = .returned (.agg B) ∧ Below w'.heap.size w' w2) := by rw [← hA]; exact hnm0
  obtain ⟨W, hW⟩ : ∃ W, w.alloc (.cells A 48) = W := ⟨_, rfl⟩
  have hb := boxB hW
  have HBx : Hid (W.heap[w.heap.size]? = some (.cells #[.int .i64 kind, .int .i64 epoch, .int .i64 vers, .int .i64 next, .int .i64 client, .int .i64 e.d, .string e.nm, .bool e.neg, .int .i64 e.id, .int .i64 e.kind, .int .i64 e.mode, .string e.tg, .int .i64 life, .int .i64 seq, .int .i64 err, .int .i64 op.kind, .int .i64 op.dir, .string op.nm, .int .i64 op.dst, .string op.new, .int .i64 op.mode, .string op.tg] 48 (0, 0)) ∧ Below w.heap.size w W) := by rw [hA]; exact hb
  have HS : Hid (∀ w', Below W.heap.size W w' → (noteS (.pointer (some ⟨w.heap.size, 0, none⟩))).run Try.prog w' = .ok (.agg A) w' ∧ w'.cell? ⟨w.heap.size, 1, none⟩ = some (.int .i64 epoch) ∧ w'.cell? ⟨w.heap.size, 2, none⟩ = some (.int .i64 vers) ∧ w'.cell? ⟨w.heap.size, 3, none⟩ = some (.int .i64 next) ∧ w'.cell? ⟨w.heap.size, 4, none⟩ = some (.int .i64 client) ∧ w'.cell? ⟨w.heap.size, 12, none⟩ = some (.int .i64 life) ∧ w'.cell? ⟨w.heap.size, 13, none⟩ = some (.int .i64 seq) ∧ w'.cell? ⟨w.heap.size, 14, none⟩ = some (.int .i64 err)) := fun w' h' => by
    have n1 := hkeep HBx.out.1 h'
    have n2 := n1
    rw [hA] at n2
    refine ⟨noteS_of n2 (by rw [← hA]; rfl), by have y := cell_of n1 1; simpa using y, by have y := cell_of n1 2; simpa using y, by have y := cell_of n1 3; simpa using y, by have y := cell_of n1 4; simpa using y, by have y := cell_of n1 12; simpa using y, by have y := cell_of n1 13; simpa using y, by have y := cell_of n1 14; simpa using y⟩
  rw [hA]
  clear hA hB hq0 hnm0 hE hb
  have HWi : Hid (∀ W2, Calls Try.prog 51 #[.slice (some ⟨W2.heap.size, 0, none⟩) 7 7] (W2.alloc (.cells #[.int .i64 epoch, .int .i64 vers, .int .i64 next, .int .i64 client, .int .i64 life, .int .i64 seq, .int .i64 err] 3)) fun x w' => x = .returned (.bool false) ∧ Below W2.heap.size W2 w') := fun W2 => by have := within_new W2 [epoch, vers, next, client, life, seq, err] (by simp); rw [hN] at this; exact this
  clear hN
  go_enter Try.func27, Try.ntmps27
  go_upto_region 1 with fail
  clear hW
  have k0 := HS.out W.drew (Below.refl _ _).drew
  go_region_held3 (fun w' => (noteS (.pointer (some ⟨w.heap.size, 0, none⟩))).run Try.prog w' = .ok (.agg A) w' ∧ w'.cell? ⟨w.heap.size, 1, none⟩ = some (.int .i64 epoch) ∧ w'.cell? ⟨w.heap.size, 2, none⟩ = some (.int .i64 vers) ∧ w'.cell? ⟨w.heap.size, 3, none⟩ = some (.int .i64 next) ∧ w'.cell? ⟨w.heap.size, 4, none⟩ = some (.int .i64 client) ∧ w'.cell? ⟨w.heap.size, 12, none⟩ = some (.int .i64 life) ∧ w'.cell? ⟨w.heap.size, 13, none⟩ = some (.int .i64 seq) ∧ w'.cell? ⟨w.heap.size, 14, none⟩ = some (.int .i64 err)) (with_reducible first | exact k2 | exact kA | exact k1 | exact k0) (first | (go_at_call 60; refine (HNm.out _).mono ?_; rintro x w1 ⟨rfl, hb1⟩; have hc1 := chainB (Below.refl W.heap.size W).drew hb1; have k1 := HS.out w1 hc1; have kA := HS.out (w1.alloc (.cells #[.int .i64 epoch, .int .i64 vers, .int .i64 next, .int .i64 client, .int .i64 life, .int .i64 seq, .int .i64 err] 3)) (chainB hc1 (below_alloc _ _))) | (go_at_call 51; refine (HWi.out w1).mono ?_; rintro x w2 ⟨rfl, hb2⟩; have hc2 := chainB hc1 hb2; have k2 := HS.out w2 hc2))
  go_wp2
  go_ret
  exact ⟨rfl, chainB HBx.out.2 hc2⟩

set_option maxRecDepth 20000 in
set_option maxHeartbeats 8000000 in
theorem plainNote_2 (kind epoch vers next client : Int) (e : En) (life seq err : Int) (op : Opn) (w : World) (hE : eqNt ⟨kind, epoch, vers, next, client, e, life, seq, err, op⟩ (onlyN ⟨kind, epoch, vers, next, client, e, life, seq, err, op⟩) = true) (hN : numsOkB [epoch, vers, next, client, life, seq, err] = true) : Calls Try.prog 27 #[.agg #[.int .i64 kind, .int .i64 epoch, .int .i64 vers, .int .i64 next, .int .i64 client, .int .i64 e.d, .string e.nm, .bool e.neg, .int .i64 e.id, .int .i64 e.kind, .int .i64 e.mode, .string e.tg, .int .i64 life, .int .i64 seq, .int .i64 err, .int .i64 op.kind, .int .i64 op.dir, .string op.nm, .int .i64 op.dst, .string op.new, .int .i64 op.mode, .string op.tg]] w fun x w' => x = .returned (.bool (kindN ⟨kind, epoch, vers, next, client, e, life, seq, err, op⟩)) ∧ Below w.heap.size w w' := by
  obtain ⟨R, hR⟩ : ∃ R, kindN ⟨kind, epoch, vers, next, client, e, life, seq, err, op⟩ = R := ⟨_, rfl⟩
  rw [hR]
  have HRs : Hid (kindN ⟨kind, epoch, vers, next, client, e, life, seq, err, op⟩ = R) := hR
  clear hR
  have hq0 := fun w' => neqNt w' ⟨kind, epoch, vers, next, client, e, life, seq, err, op⟩ (onlyN ⟨kind, epoch, vers, next, client, e, life, seq, err, op⟩)
  have hnm0 := fun w' => named_p ⟨kind, epoch, vers, next, client, e, life, seq, err, op⟩ w'
  rw [hE] at hq0
  obtain ⟨B, hB⟩ : ∃ B, (onlyN ⟨kind, epoch, vers, next, client, e, life, seq, err, op⟩).arr = B := ⟨_, rfl⟩
  rw [hB] at hq0
  simp only [hB] at hnm0
  obtain ⟨A, hA⟩ : ∃ A, (#[.int .i64 kind, .int .i64 epoch, .int .i64 vers, .int .i64 next, .int .i64 client, .int .i64 e.d, .string e.nm, .bool e.neg, .int .i64 e.id, .int .i64 e.kind, .int .i64 e.mode, .string e.tg, .int .i64 life, .int .i64 seq, .int .i64 err, .int .i64 op.kind, .int .i64 op.dir, .string op.nm, .int .i64 op.dst, .string op.new, .int .i64 op.mode, .string op.tg] : Array Value) = A := ⟨_, rfl⟩
  have hq : ∀ w', (binOp .neq 48 (.agg A) (.agg B)).run Try.prog w' = .ok (.bool false) w' := by rw [← hA]; exact hq0
  have HNm : Hid (∀ w', Calls Try.prog 60 #[.agg A] w' fun x w2 => x = .returned (.agg B) ∧ Below w'.heap.size w' w2) := by rw [← hA]; exact hnm0
  obtain ⟨W, hW⟩ : ∃ W, w.alloc (.cells A 48) = W := ⟨_, rfl⟩
  have hb := boxB hW
  have HBx : Hid (W.heap[w.heap.size]? = some (.cells #[.int .i64 kind, .int .i64 epoch, .int .i64 vers, .int .i64 next, .int .i64 client, .int .i64 e.d, .string e.nm, .bool e.neg, .int .i64 e.id, .int .i64 e.kind, .int .i64 e.mode, .string e.tg, .int .i64 life, .int .i64 seq, .int .i64 err, .int .i64 op.kind, .int .i64 op.dir, .string op.nm, .int .i64 op.dst, .string op.new, .int .i64 op.mode, .string op.tg] 48 (0, 0)) ∧ Below w.heap.size w W) := by rw [hA]; exact hb
  have HS : Hid (∀ w', Below W.heap.size W w' → (noteS (.pointer (some ⟨w.heap.size, 0, none⟩))).run Try.prog w' = .ok (.agg A) w' ∧ w'.cell? ⟨w.heap.size, 1, none⟩ = some (.int .i64 epoch) ∧ w'.cell? ⟨w.heap.size, 2, none⟩ = some (.int .i64 vers) ∧ w'.cell? ⟨w.heap.size, 3, none⟩ = some (.int .i64 next) ∧ w'.cell? ⟨w.heap.size, 4, none⟩ = some (.int .i64 client) ∧ w'.cell? ⟨w.heap.size, 12, none⟩ = some (.int .i64 life) ∧ w'.cell? ⟨w.heap.size, 13, none⟩ = some (.int .i64 seq) ∧ w'.cell? ⟨w.heap.size, 14, none⟩ = some (.int .i64 err)) := fun w' h' => by
    have n1 := hkeep HBx.out.1 h'
    have n2 := n1
    rw [hA] at n2
    refine ⟨noteS_of n2 (by rw [← hA]; rfl), by have y := cell_of n1 1; simpa using y, by have y := cell_of n1 2; simpa using y, by have y := cell_of n1 3; simpa using y, by have y := cell_of n1 4; simpa using y, by have y := cell_of n1 12; simpa using y, by have y := cell_of n1 13; simpa using y, by have y := cell_of n1 14; simpa using y⟩
  rw [hA]
  clear hA hB hq0 hnm0 hE hb
  have HWi : Hid (∀ W2, Calls Try.prog 51 #[.slice (some ⟨W2.heap.size, 0, none⟩) 7 7] (W2.alloc (.cells #[.int .i64 epoch, .int .i64 vers, .int .i64 next, .int .i64 client, .int .i64 life, .int .i64 seq, .int .i64 err] 3)) fun x w' => x = .returned (.bool true) ∧ Below W2.heap.size W2 w') := fun W2 => by have := within_new W2 [epoch, vers, next, client, life, seq, err] (by simp); rw [hN] at this; exact this
  clear hN
  go_enter Try.func27, Try.ntmps27
  go_upto_region 1 with fail
  clear hW
  have k0 := HS.out W.drew (Below.refl _ _).drew
  go_region_held3 (fun w' => (noteS (.pointer (some ⟨w.heap.size, 0, none⟩))).run Try.prog w' = .ok (.agg A) w' ∧ w'.cell? ⟨w.heap.size, 1, none⟩ = some (.int .i64 epoch) ∧ w'.cell? ⟨w.heap.size, 2, none⟩ = some (.int .i64 vers) ∧ w'.cell? ⟨w.heap.size, 3, none⟩ = some (.int .i64 next) ∧ w'.cell? ⟨w.heap.size, 4, none⟩ = some (.int .i64 client) ∧ w'.cell? ⟨w.heap.size, 12, none⟩ = some (.int .i64 life) ∧ w'.cell? ⟨w.heap.size, 13, none⟩ = some (.int .i64 seq) ∧ w'.cell? ⟨w.heap.size, 14, none⟩ = some (.int .i64 err)) (with_reducible first | exact k2 | exact kA | exact k1 | exact k0) (first | (go_at_call 60; refine (HNm.out _).mono ?_; rintro x w1 ⟨rfl, hb1⟩; have hc1 := chainB (Below.refl W.heap.size W).drew hb1; have k1 := HS.out w1 hc1; have kA := HS.out (w1.alloc (.cells #[.int .i64 epoch, .int .i64 vers, .int .i64 next, .int .i64 client, .int .i64 life, .int .i64 seq, .int .i64 err] 3)) (chainB hc1 (below_alloc _ _))) | (go_at_call 51; refine (HWi.out w1).mono ?_; rintro x w2 ⟨rfl, hb2⟩; have hc2 := chainB hc1 hb2; have k2 := HS.out w2 hc2))
  have n2 := hkeep HBx.out.1 hc2
  have HW2 : Hid (Below w.heap.size w w2) := chainB HBx.out.2 hc2
  have z0 := cell_of n2 0
  have z5 := cell_of n2 5
  have z6 := cell_of n2 6
  have z7 := cell_of n2 7
  have z8 := cell_of n2 8
  have z9 := cell_of n2 9
  have z10 := cell_of n2 10
  have z11 := cell_of n2 11
  have z15 := cell_of n2 15
  have z16 := cell_of n2 16
  have z17 := cell_of n2 17
  have z18 := cell_of n2 18
  have z19 := cell_of n2 19
  have z20 := cell_of n2 20
  have z21 := cell_of n2 21
  simp at z0 z5 z6 z7 z8 z9 z10 z11 z15 z16 z17 z18 z19 z20 z21
  clear n2 k0 k1 kA k2 hb1 hc1 hb2 hc2 HWi HS HBx hq HNm
  by_cases k1 : kind = 1
  · subst k1
    go_wp2
    go_ret
    exact ⟨by rw [← HRs.out]; rfl, HW2.out⟩
  have k1b : (kind == 1) = false := by simpa using k1
  by_cases k2 : kind = 2
  · subst k2
    go_wp2
    go_ret
    exact ⟨by rw [← HRs.out]; rfl, HW2.out⟩
  have k2b : (kind == 2) = false := by simpa using k2
  by_cases k4 : kind = 4
  · subst k4
    go_wp2
    go_ret
    exact ⟨by rw [← HRs.out]; rfl, HW2.out⟩
  have k4b : (kind == 4) = false := by simpa using k4
  by_cases k3 : kind = 3
  · subst k3
    have HP : Hid (Calls Try.prog 55 #[.agg #[.int .i64 e.d, .string e.nm, .bool e.neg, .int .i64 e.id, .int .i64 e.kind, .int .i64 e.mode, .string e.tg]] w2 fun x w' => x = .returned (.bool (decide (entOk e))) ∧ Below w2.heap.size w2 w') := plainEntry_p e w2
    obtain ⟨D, hD⟩ : ∃ D, decide (entOk e) = D := ⟨_, rfl⟩
    rw [hD] at HP
    have HR : Hid (kindN ⟨3, epoch, vers, next, client, e, life, seq, err, op⟩ = ((!e.neg) && D)) := by rw [← hD]; rfl
    clear hD
    cases hneg : e.neg with
    | true =>
      have HNg : Hid (e.neg = true) := hneg
      rw [hneg] at z7 HP
      clear hneg
      go_wp2
      go_ret
      exact ⟨by rw [← HRs.out, HR.out, HNg.out]; rfl, HW2.out⟩
    | false =>
      have HNg : Hid (e.neg = false) := hneg
      rw [hneg] at z7 HP
      clear hneg
      go_wp2_with (go_at_call 55; refine HP.out.mono ?_; rintro x w3 ⟨rfl, hb3⟩)
      go_ret
      exact ⟨by rw [← HRs.out, HR.out, HNg.out]; rfl, chainB HW2.out hb3⟩
  have k3b : (kind == 3) = false := by simpa using k3
  by_cases k5 : kind = 5
  · subst k5
    have HP : Hid (Calls Try.prog 53 #[.agg #[.int .i64 op.kind, .int .i64 op.dir, .string op.nm, .int .i64 op.dst, .string op.new, .int .i64 op.mode, .string op.tg]] w2 fun x w' => x = .returned (.bool (decide (opOk op))) ∧ Below w2.heap.size w2 w') := plainOp_p op w2
    go_wp2_with (go_at_call 53; refine HP.out.mono ?_; rintro x w3 ⟨rfl, hb3⟩)
    go_ret
    exact ⟨by rw [← HRs.out]; rfl, chainB HW2.out hb3⟩
  have k5b : (kind == 5) = false := by simpa using k5
  have hno : kindN ⟨kind, epoch, vers, next, client, e, life, seq, err, op⟩ = false := by unfold kindN; simp only []; rw [if_neg k1, if_neg k2, if_neg k4, if_neg k3, if_neg k5]
  have HNo : Hid (kindN ⟨kind, epoch, vers, next, client, e, life, seq, err, op⟩ = false) := hno
  clear hno
  go_wp2
  go_ret
  exact ⟨by rw [← HRs.out, HNo.out]; rfl, HW2.out⟩

theorem plainNote_p (n : Nt) (w : World) : Calls Try.prog 27 #[.agg n.arr] w fun x w' => x = .returned (.bool (plainN n)) ∧ Below w.heap.size w w' := by
  obtain ⟨kind, epoch, vers, next, client, e, life, seq, err, op⟩ := n
  cases hE : eqNt ⟨kind, epoch, vers, next, client, e, life, seq, err, op⟩ (onlyN ⟨kind, epoch, vers, next, client, e, life, seq, err, op⟩) with
  | false => rw [plainN_0 hE]; exact plainNote_0 kind epoch vers next client e life seq err op w hE
  | true =>
    cases hN : numsOkB [epoch, vers, next, client, life, seq, err] with
    | false => rw [plainN_1 hN]; exact plainNote_1 kind epoch vers next client e life seq err op w hE hN
    | true => rw [plainN_2 hE hN]; exact plainNote_2 kind epoch vers next client e life seq err op w hE hN
end
section
open Go.RowKit Go.Lib
attribute [local go_sem high] run_store_complex

theorem ret_msg2 {fn : Func} {p u : Tmp} (h : fn.results = #[.cell p 30, .tmp u]) (tmps : Array Value) (w : World) (g : Nat) {t : TypeId} {cs : Array Value} {fr : Nat × Nat} (hp : tmps.getD p undef = .pointer (some ⟨g, 0, none⟩)) (hg : w.heap[g]? = some (.cells cs t fr)) (hs : cs.size = 16) :
    (results fn tmps).run Try.prog w = .ok (.tuple #[.agg cs, tmps.getD u undef]) w := by
  rw [results_cell_tmp h, hp]
  simp [asAddr, run_loadVar_row w g t 30 _ fr _ hg Try.underlying30 rfl (by rw [hs]; exact Try.sizeMsg), Result.andThen]
/-- what Decode answers -/
def DecR (l : List Int) (w w' : World) (e : Ending) : Prop :=
  (∃ m ve vk, msgOk m ∧ msgB m = l ∧ e = .returned (.tuple #[.agg (MsV m ve vk).arr, .int .i64 0]) ∧ Row7 w' w.heap.size ve m.es ∧ RowK w' w.heap.size vk m.ks ∧ Below w.heap.size w w') ∨
  ((∀ m, msgOk m → msgB m ≠ l) ∧ e = .returned (.tuple #[.agg #[.int .i64 0, .int .i64 0, .int .i64 0, .int .i64 0, .complex .f64 0 0, .int .i64 0, .int .i64 0, .int .i64 0, .int .i64 0, .string ⟨#[]⟩, .int .i64 0, .string ⟨#[]⟩, .int .i64 0, .string ⟨#[]⟩, .slice none 0 0, .slice none 0 0], .int .i64 50]) ∧ Below w.heap.size w w')
theorem new_reader {w W W2 : World} {v : Value} {l : List Int} (hr : RC w v l) (hl : Byt l) (hlim : l.length ≤ 140737488355328) (hb : Below w.heap.size w W) (h2 : W.alloc (.cells #[v, .int .i64 0, .bool false] 65) = W2) : Rg W2 W.heap.size v l (some l) := by
  have hb2 := boxB h2
  refine ⟨0, false, hb2.1, .inr ⟨rfl, rfl, Nat.zero_le _⟩, (hr.below hb).below hb2.2, ?_, hl, hlim⟩
  rintro g off cap n rfl h0
  obtain ⟨a, c, e, _, hc⟩ := hr
  cases e
  rcases hc with hc | ⟨g', off', e', hg, _⟩
  · exact absurd hc h0
  · cases e'
    have := hb.size
    omega
set_option maxRecDepth 20000 in
set_option maxHeartbeats 16000000 in
theorem decode_p1 (v : Value) (l : List Int) (w : World) (hr : RC w v l) (hl : Byt l) (hlim : l.length ≤ 140737488355328) (hdn : doneB (msgP (some l)).2 = false) : Calls Try.prog 6 #[v] w fun e w' => DecR l w w' e := by
  obtain ⟨ad, cap, rfl, _, _⟩ := id hr
  obtain ⟨W, hW⟩ : ∃ W, w.alloc (.cells #[.int .i64 0, .int .i64 0, .int .i64 0, .int .i64 0, .complex .f64 0 0, .int .i64 0, .int .i64 0, .int .i64 0, .int .i64 0, .string ⟨#[]⟩, .int .i64 0, .string ⟨#[]⟩, .int .i64 0, .string ⟨#[]⟩, .slice none 0 0, .slice none 0 0] 30) = W := ⟨_, rfl⟩
  obtain ⟨W2, hW2⟩ : ∃ W2, W.alloc (.cells #[.slice ad l.length cap, .int .i64 0, .bool false] 65) = W2 := ⟨_, rfl⟩
  have HW2 : Hid (W.alloc (.cells #[.slice ad l.length cap, .int .i64 0, .bool false] 65) = W2) := hW2
  have hb := boxB hW
  have hb2 := boxB hW2
  have hg := new_reader hr hl hlim hb.2 hW2
  have HG : Hid (Rg W2 W.heap.size (.slice ad l.length cap) l (some l) ∧ Below w.heap.size w W2 ∧ W2.heap[w.heap.size]? = some (.cells #[.int .i64 0, .int .i64 0, .int .i64 0, .int .i64 0, .complex .f64 0 0, .int .i64 0, .int .i64 0, .int .i64 0, .int .i64 0, .string ⟨#[]⟩, .int .i64 0, .string ⟨#[]⟩, .int .i64 0, .string ⟨#[]⟩, .slice none 0 0, .slice none 0 0] 30 (0, 0)) ∧ w.heap.size < W.heap.size) := ⟨hg, chainB hb.2 hb2.2, hkeep hb.1 hb2.2, (Array.getElem?_eq_some_iff.1 hb.1).1⟩
  have HMs : Hid (Calls Try.prog 19 #[.pointer (some ⟨W.heap.size, 0, none⟩)] W2 fun e w' => ∃ ve vk, e = .returned (.agg (MsV (msgP (some l)).1 ve vk).arr) ∧ Red W2 w' W.heap.size (.slice ad l.length cap) l (msgP (some l)).2 ∧ Row7 w' W2.heap.size ve (msgP (some l)).1.es ∧ RowK w' W2.heap.size vk (msgP (some l)).1.ks) := message_r hg
  obtain ⟨hm1, hm2⟩ := msgP_marks (Lft.of hl)
  have HYes : Hid (∀ m, msgOk m → msgB m = l → msgP (some l) = (m, some [])) := fun m hm e => by rw [← e]; have := msgP_back hm []; rw [List.append_nil] at this; exact this
  have HNo : Hid (doneB (msgP (some l)).2 = true → msgB (msgP (some l)).1 = l) := fun h => by
    have := msgP_forth hl (prod_eta _ ((doneB_iff _).1 h))
    rw [List.append_nil] at this
    exact this.symm
  obtain ⟨M, hM⟩ : ∃ M, (msgP (some l)).1 = M := ⟨_, rfl⟩
  obtain ⟨s1, hs1⟩ : ∃ M, (msgP (some l)).2 = M := ⟨_, rfl⟩
  have HP : Hid (msgP (some l) = (M, s1)) := Prod.ext hM hs1
  rw [hM] at hm1 hm2
  rw [hM, hs1] at HNo HMs
  rw [hs1] at hdn
  have HDn : Hid (doneB s1 = false) := hdn
  clear hdn
  have HPl : Hid (∀ ve vk, plainB (MsV M ve vk) = true ↔ msgOk M) := fun ve vk => MsV_plain hm1 hm2
  clear hr hl hb hb2 hg hM hs1 hm1 hm2 hW2
  go_enter Try.func6, Try.ntmps6
  go_upto_region 1 with fail
  clear hW
  go_upto_region 2 with fail
  rw [HW2.out]
  go_upto_region 3 with (go_at_call 19; refine HMs.out.mono ?_; rintro e w3 ⟨ve, vk, rfl, hr3, he3, hk3⟩; obtain ⟨ae, ce, hve⟩ := owns_len he3; obtain ⟨ak, ck, hvk⟩ := owns_len hk3; subst hve hvk; have H3 : Hid (Red W2 w3 W.heap.size (.slice ad l.length cap) l s1 ∧ Row7 w3 W2.heap.size (.slice ae M.es.length ce) M.es ∧ RowK w3 W2.heap.size (.slice ak M.ks.length ck) M.ks) := ⟨hr3, he3, hk3⟩; clear hr3 he3 hk3; unfold MsV Ms.arr; simp only []; obtain ⟨W5, hW5⟩ : ∃ W5, w3.alloc (.cells #[.int .i64 0, .int .i64 0, .int .i64 0, .int .i64 0, .complex .f64 0 0, .int .i64 0, .int .i64 0, .int .i64 0, .int .i64 0, .string ⟨#[]⟩, .int .i64 0, .string ⟨#[]⟩, .int .i64 0, .string ⟨#[]⟩, .slice none 0 0, .slice none 0 0] 30) = W5 := ⟨_, rfl⟩; have hb5 := boxB hW5; have yf := free_of hb5.1; have y0 := cell_of hb5.1 0; have y1 := cell_of hb5.1 1; have y2 := cell_of hb5.1 2; have y3 := cell_of hb5.1 3; have y4 := cell_of hb5.1 4; have y5 := cell_of hb5.1 5; have y6 := cell_of hb5.1 6; have y7 := cell_of hb5.1 7; have y8 := cell_of hb5.1 8; have y9 := cell_of hb5.1 9; have y10 := cell_of hb5.1 10; have y11 := cell_of hb5.1 11; have y12 := cell_of hb5.1 12; have y13 := cell_of hb5.1 13; have y14 := cell_of hb5.1 14; have y15 := cell_of hb5.1 15; simp at y0 y1 y2 y3 y4 y5 y6 y7 y8 y9 y10 y11 y12 y13 y14 y15; have HW5 : Hid (w3.alloc (.cells #[.int .i64 0, .int .i64 0, .int .i64 0, .int .i64 0, .complex .f64 0 0, .int .i64 0, .int .i64 0, .int .i64 0, .int .i64 0, .string ⟨#[]⟩, .int .i64 0, .string ⟨#[]⟩, .int .i64 0, .string ⟨#[]⟩, .slice none 0 0, .slice none 0 0] 30) = W5) := hW5; clear hb5)
  obtain ⟨W6, hW6⟩ : ∃ x, ((((((((((((((((W5).setCell ⟨w3.heap.size, 0, none⟩ (.int .i64 M.kind)).setCell ⟨w3.heap.size, 1, none⟩ (.int .i64 M.client)).setCell ⟨w3.heap.size, 2, none⟩ (.int .i64 M.life)).setCell ⟨w3.heap.size, 3, none⟩ (.int .i64 M.seq)).setCell ⟨w3.heap.size, 4, none⟩ (.complex .f64 (floatOfInt .f64 M.ep) (floatOfInt .f64 M.nb))).setCell ⟨w3.heap.size, 5, none⟩ (.int .i64 M.vers)).setCell ⟨w3.heap.size, 6, none⟩ (.int .i64 M.err)).setCell ⟨w3.heap.size, 7, none⟩ (.int .i64 M.op.kind)).setCell ⟨w3.heap.size, 8, none⟩ (.int .i64 M.op.dir)).setCell ⟨w3.heap.size, 9, none⟩ (.string M.op.nm)).setCell ⟨w3.heap.size, 10, none⟩ (.int .i64 M.op.dst)).setCell ⟨w3.heap.size, 11, none⟩ (.string M.op.new)).setCell ⟨w3.heap.size, 12, none⟩ (.int .i64 M.op.mode)).setCell ⟨w3.heap.size, 13, none⟩ (.string M.op.tg)).setCell ⟨w3.heap.size, 14, none⟩ (.slice ae M.es.length ce)).setCell ⟨w3.heap.size, 15, none⟩ (.slice ak M.ks.length ck) = x := ⟨_, rfl⟩
  have hp6 : W6.heap[w3.heap.size]? = some (.cells #[.int .i64 M.kind, .int .i64 M.client, .int .i64 M.life, .int .i64 M.seq, .complex .f64 (floatOfInt .f64 M.ep) (floatOfInt .f64 M.nb), .int .i64 M.vers, .int .i64 M.err, .int .i64 M.op.kind, .int .i64 M.op.dir, .string M.op.nm, .int .i64 M.op.dst, .string M.op.new, .int .i64 M.op.mode, .string M.op.tg, .slice ae M.es.length ce, .slice ak M.ks.length ck] 30 (0, 0)) := by rw [← hW6]; exact putC_all (g := w3.heap.size) (xs := [.int .i64 M.kind, .int .i64 M.client, .int .i64 M.life, .int .i64 M.seq, .complex .f64 (floatOfInt .f64 M.ep) (floatOfInt .f64 M.nb), .int .i64 M.vers, .int .i64 M.err, .int .i64 M.op.kind, .int .i64 M.op.dir, .string M.op.nm, .int .i64 M.op.dst, .string M.op.new, .int .i64 M.op.mode, .string M.op.tg, .slice ae M.es.length ce, .slice ak M.ks.length ck]) (boxB HW5.out).1 rfl
  have ho6 : Only (· = w3.heap.size) W5 W6 := by rw [← hW6]; exact putC_only w3.heap.size [.int .i64 M.kind, .int .i64 M.client, .int .i64 M.life, .int .i64 M.seq, .complex .f64 (floatOfInt .f64 M.ep) (floatOfInt .f64 M.nb), .int .i64 M.vers, .int .i64 M.err, .int .i64 M.op.kind, .int .i64 M.op.dir, .string M.op.nm, .int .i64 M.op.dst, .string M.op.new, .int .i64 M.op.mode, .string M.op.tg, .slice ae M.es.length ce, .slice ak M.ks.length ck] 0 W5
  rw [hW6]
  have h23 : W2.heap.size ≤ w3.heap.size := H3.out.1.2.size
  have hr6 : Red W2 W6 W.heap.size (.slice ad l.length cap) l s1 := (H3.out.1.own HG.out.1 (Only.of (S := fun _ => False) (boxB HW5.out).2) (fun k hk => hk.elim)).own HG.out.1 ho6 (fun k hk => by omega)
  have hlt2 := HG.out.1.lt
  have hlt3 := HG.out.2.2.2
  have hz3 : w3.heap[w.heap.size]? = some (.cells #[.int .i64 0, .int .i64 0, .int .i64 0, .int .i64 0, .complex .f64 0 0, .int .i64 0, .int .i64 0, .int .i64 0, .int .i64 0, .string ⟨#[]⟩, .int .i64 0, .string ⟨#[]⟩, .int .i64 0, .string ⟨#[]⟩, .slice none 0 0, .slice none 0 0] 30 (0, 0)) := (H3.out.1.2.block _ (by omega) (by omega)).trans HG.out.2.2.1
  have hz6 : W6.heap[w.heap.size]? = some (.cells #[.int .i64 0, .int .i64 0, .int .i64 0, .int .i64 0, .complex .f64 0 0, .int .i64 0, .int .i64 0, .int .i64 0, .int .i64 0, .string ⟨#[]⟩, .int .i64 0, .string ⟨#[]⟩, .int .i64 0, .string ⟨#[]⟩, .slice none 0 0, .slice none 0 0] 30 (0, 0)) := (ho6.block _ (by have := (boxB HW5.out).2.size; omega) (by omega)).trans (hkeep hz3 (boxB HW5.out).2)
  have hbel : Below w.heap.size w W6 := hr6.2.below HG.out.2.1 HG.out.2.1.size (fun k hk => by omega)
  have he6 : Row7 W6 W2.heap.size (.slice ae M.es.length ce) M.es := row7_tag (H3.out.2.1.below (boxB HW5.out).2) ho6 (fun k e => by rw [e]; exact ⟨_, _, (boxB HW5.out).1⟩)
  have hk6 : RowK W6 W2.heap.size (.slice ak M.ks.length ck) M.ks := rowK_tag (H3.out.2.2.below (boxB HW5.out).2) ho6 (fun k e => by rw [e]; exact ⟨_, _, (boxB HW5.out).1⟩)
  have H6 : Hid (Red W2 W6 W.heap.size (.slice ad l.length cap) l s1 ∧ W6.heap[w3.heap.size]? = some (.cells #[.int .i64 M.kind, .int .i64 M.client, .int .i64 M.life, .int .i64 M.seq, .complex .f64 (floatOfInt .f64 M.ep) (floatOfInt .f64 M.nb), .int .i64 M.vers, .int .i64 M.err, .int .i64 M.op.kind, .int .i64 M.op.dir, .string M.op.nm, .int .i64 M.op.dst, .string M.op.new, .int .i64 M.op.mode, .string M.op.tg, .slice ae M.es.length ce, .slice ak M.ks.length ck] 30 (0, 0)) ∧ W6.heap[w.heap.size]? = some (.cells #[.int .i64 0, .int .i64 0, .int .i64 0, .int .i64 0, .complex .f64 0 0, .int .i64 0, .int .i64 0, .int .i64 0, .int .i64 0, .string ⟨#[]⟩, .int .i64 0, .string ⟨#[]⟩, .int .i64 0, .string ⟨#[]⟩, .slice none 0 0, .slice none 0 0] 30 (0, 0)) ∧ Row7 W6 W2.heap.size (.slice ae M.es.length ce) M.es ∧ RowK W6 W2.heap.size (.slice ak M.ks.length ck) M.ks ∧ Below w.heap.size w W6) := ⟨hr6, hp6, hz6, he6, hk6, hbel⟩
  have HD : Hid (Calls Try.prog 20 #[.pointer (some ⟨W.heap.size, 0, none⟩)] W6 fun e w' => e = .returned (.bool (doneB s1)) ∧ Below W6.heap.size W6 w') := done_r hr6.1
  clear hW5 HW5 hW6 hp6 ho6 hr6 hz3 hz6 hbel he6 hk6 yf y0 y1 y2 y3 y4 y5 y6 y7 y8 y9 y10 y11 y12 y13 y14 y15 H3 HMs HW2
  have HNone : Hid (∀ m, msgOk m → msgB m ≠ l) := fun m hm e => by
    have h1 := HYes.out m hm e
    rw [HP.out] at h1
    have h2 := (Prod.mk.inj h1).2
    have h3 := HDn.out
    rw [h2] at h3
    cases h3
  rw [HDn.out] at HD
  go_wp2_with (go_at_call 20; refine HD.out.mono ?_; rintro e w7 ⟨rfl, hb7⟩; have hres := hkeep H6.out.2.2.1 hb7; have HBl : Hid (Below w.heap.size w w7) := chainB H6.out.2.2.2.2.2 hb7; have HRes : Hid (w7.heap[w.heap.size]? = some (.cells #[.int .i64 0, .int .i64 0, .int .i64 0, .int .i64 0, .complex .f64 0 0, .int .i64 0, .int .i64 0, .int .i64 0, .int .i64 0, .string ⟨#[]⟩, .int .i64 0, .string ⟨#[]⟩, .int .i64 0, .string ⟨#[]⟩, .slice none 0 0, .slice none 0 0] 30 (0, 0))) := hres; have qf := free_of hres; have q0 := cell_of hres 0; have q1 := cell_of hres 1; have q2 := cell_of hres 2; have q3 := cell_of hres 3; have q4 := cell_of hres 4; have q5 := cell_of hres 5; have q6 := cell_of hres 6; have q7 := cell_of hres 7; have q8 := cell_of hres 8; have q9 := cell_of hres 9; have q10 := cell_of hres 10; have q11 := cell_of hres 11; have q12 := cell_of hres 12; have q13 := cell_of hres 13; have q14 := cell_of hres 14; have q15 := cell_of hres 15; simp at q0 q1 q2 q3 q4 q5 q6 q7 q8 q9 q10 q11 q12 q13 q14 q15; clear hres)
  have hfin := putC_all (g := w.heap.size) (xs := [.int .i64 0, .int .i64 0, .int .i64 0, .int .i64 0, .complex .f64 0 0, .int .i64 0, .int .i64 0, .int .i64 0, .int .i64 0, .string ⟨#[]⟩, .int .i64 0, .string ⟨#[]⟩, .int .i64 0, .string ⟨#[]⟩, .slice none 0 0, .slice none 0 0]) HRes.out rfl
  have hon := putC_only w.heap.size [.int .i64 0, .int .i64 0, .int .i64 0, .int .i64 0, .complex .f64 0 0, .int .i64 0, .int .i64 0, .int .i64 0, .int .i64 0, .string ⟨#[]⟩, .int .i64 0, .string ⟨#[]⟩, .int .i64 0, .string ⟨#[]⟩, .slice none 0 0, .slice none 0 0] 0 w7
  refine bodyPost_ret (ret_msg2 rfl _ _ w.heap.size rfl hfin rfl) rfl ?_
  exact .inr ⟨HNone.out, rfl, hon.below HBl.out HBl.out.size (fun k hk => by omega)⟩
end
section
open Go.RowKit Go.Lib
attribute [local go_sem ↓ high] loadN storeN

theorem ret_note2 {fn : Func} {p u : Tmp} (h : fn.results = #[.cell p 48, .tmp u]) (tmps : Array Value) (w : World) (g : Nat) {t : TypeId} {cs : Array Value} {fr : Nat × Nat} (hp : tmps.getD p undef = .pointer (some ⟨g, 0, none⟩)) (hg : w.heap[g]? = some (.cells cs t fr)) (hs : cs.size = 22) :
    (results fn tmps).run Try.prog w = .ok (.tuple #[.agg cs, tmps.getD u undef]) w := by
  rw [results_cell_tmp h, hp]
  simp [asAddr, run_loadVar_row w g t 48 _ fr _ hg Try.underlying48 rfl (by rw [hs]; exact Try.sizeNote), Result.andThen]
/-- what Unpack answers -/
def UnpR (l : List Int) (w w' : World) (e : Ending) : Prop :=
  (∃ n, noteOk n ∧ noteB n = l ∧ e = .returned (.tuple #[.agg n.arr, .int .i64 0]) ∧ Below w.heap.size w w') ∨
  ((∀ n, noteOk n → noteB n ≠ l) ∧ e = .returned (.tuple #[.agg zeroNt.arr, .int .i64 50]) ∧ Below w.heap.size w w')
theorem unpack_no {l : List Int} {w w' : World} {e : Ending} {n : Nt} {s : St} (hl : noteP (some l) = (n, s)) (hno : doneB s = false ∨ plainN n = false) (he : e = .returned (.tuple #[.agg zeroNt.arr, .int .i64 50])) (hb : Below w.heap.size w w') : UnpR l w w' e := by
  refine .inr ⟨fun m hm hB => ?_, he, hb⟩
  have h1 := noteP_back hm []
  rw [List.append_nil, hB, hl] at h1
  obtain ⟨rfl, rfl⟩ := Prod.mk.inj h1
  rcases hno with h | h
  · cases h
  · rw [(plainN_iff _).2 hm] at h; cases h
theorem unpack_yes {l : List Int} {w w' : World} {e : Ending} {n : Nt} {s : St} (hby : Byt l) (hl : noteP (some l) = (n, s)) (hd : doneB s = true) (hp : plainN n = true) (he : e = .returned (.tuple #[.agg n.arr, .int .i64 0])) (hb : Below w.heap.size w w') : UnpR l w w' e := by
  refine .inl ⟨n, (plainN_iff _).1 hp, ?_, he, hb⟩
  have hs := (doneB_iff _).1 hd
  rw [hs] at hl
  have := noteP_forth hby hl
  rw [List.append_nil] at this
  exact this.symm
set_option maxRecDepth 20000 in
set_option maxHeartbeats 8000000 in
theorem unpack_p (v : Value) (l : List Int) (w : World) (hr : RC w v l) (hl : Byt l) (hlim : l.length ≤ 140737488355328) : Calls Try.prog 11 #[v] w fun e w' => UnpR l w w' e := by
  obtain ⟨ad, cap, rfl, _, _⟩ := id hr
  obtain ⟨W, hW⟩ : ∃ W, w.alloc (.cells #[.int .i64 0, .int .i64 0, .int .i64 0, .int .i64 0, .int .i64 0, .int .i64 0, .string ⟨#[]⟩, .bool false, .int .i64 0, .int .i64 0, .int .i64 0, .string ⟨#[]⟩, .int .i64 0, .int .i64 0, .int .i64 0, .int .i64 0, .int .i64 0, .string ⟨#[]⟩, .int .i64 0, .string ⟨#[]⟩, .int .i64 0, .string ⟨#[]⟩] 48) = W := ⟨_, rfl⟩
  obtain ⟨W2, hW2⟩ : ∃ W2, W.alloc (.cells #[.slice ad l.length cap, .int .i64 0, .bool false] 65) = W2 := ⟨_, rfl⟩
  have HW2 : Hid (W.alloc (.cells #[.slice ad l.length cap, .int .i64 0, .bool false] 65) = W2) := hW2
  have hb := boxB hW
  have hb2 := boxB hW2
  have hg := new_reader hr hl hlim hb.2 hW2
  have hlt := (Array.getElem?_eq_some_iff.1 hb.1).1
  have HG : Hid (Rg W2 W.heap.size (.slice ad l.length cap) l (some l) ∧ Below w.heap.size w W2 ∧ W2.heap[w.heap.size]? = some (.cells #[.int .i64 0, .int .i64 0, .int .i64 0, .int .i64 0, .int .i64 0, .int .i64 0, .string ⟨#[]⟩, .bool false, .int .i64 0, .int .i64 0, .int .i64 0, .string ⟨#[]⟩, .int .i64 0, .int .i64 0, .int .i64 0, .int .i64 0, .int .i64 0, .string ⟨#[]⟩, .int .i64 0, .string ⟨#[]⟩, .int .i64 0, .string ⟨#[]⟩] 48 (0, 0)) ∧ w.heap.size < W.heap.size) := ⟨hg, chainB hb.2 hb2.2, hkeep hb.1 hb2.2, hlt⟩
  have HMs : Hid (Calls Try.prog 26 #[.pointer (some ⟨W.heap.size, 0, none⟩)] W2 fun e w' => RdR W2 W.heap.size (.slice ad l.length cap) l (noteP (some l)).2 (.agg (noteP (some l)).1.arr) e w') := note_r hg
  obtain ⟨n, hn⟩ : ∃ n, (noteP (some l)).1 = n := ⟨_, rfl⟩
  obtain ⟨s1, hs1⟩ : ∃ s, (noteP (some l)).2 = s := ⟨_, rfl⟩
  have HP : Hid (noteP (some l) = (n, s1) ∧ Byt l) := ⟨Prod.ext hn hs1, hl⟩
  rw [hn, hs1] at HMs
  have HPl : Hid (∀ W2, Calls Try.prog 27 #[.agg n.arr] W2 fun e w' => e = .returned (.bool (plainN n)) ∧ Below W2.heap.size W2 w') := fun W2 => plainNote_p n W2
  obtain ⟨P, hP⟩ : ∃ x, plainN n = x := ⟨_, rfl⟩
  have HPe : Hid (plainN n = P) := hP
  rw [hP] at HPl
  obtain ⟨D, hD⟩ : ∃ x, doneB s1 = x := ⟨_, rfl⟩
  have HDe : Hid (doneB s1 = D) := hD
  have HDn : Hid (∀ W3, Rg W3 W.heap.size (.slice ad l.length cap) l s1 → Calls Try.prog 20 #[.pointer (some ⟨W.heap.size, 0, none⟩)] W3 fun e w' => e = .returned (.bool D) ∧ Below W3.heap.size W3 w') := fun W3 h3 => by rw [← hD]; exact done_r h3
  have hsz : n.arr.size = 22 := rfl
  have hone : n.arr.all (·.oneCell') = true := by unfold Nt.arr; simp [Value.oneCell']
  obtain ⟨A, hA⟩ : ∃ x, n.arr = x := ⟨_, rfl⟩
  have HA : Hid (n.arr = A) := hA
  rw [hA] at HMs HPl hsz hone
  have HZ : Hid (A.size = 22 ∧ A.all (·.oneCell') = true) := ⟨hsz, hone⟩
  clear hr hl hlim hb hb2 hg hlt hn hs1 hP hD hsz hone hA hW2
  go_enter Try.func11, Try.ntmps11
  go_upto_region 1 with fail
  clear hW
  go_upto_region 2 with fail
  rw [HW2.out]
  go_upto_region 3 with (go_at_call 26; refine HMs.out.mono ?_; rintro e w3 ⟨rfl, h3⟩; obtain ⟨W4, hW4⟩ : ∃ W4, w3.alloc (.cells #[.int .i64 0, .int .i64 0, .int .i64 0, .int .i64 0, .int .i64 0, .int .i64 0, .string ⟨#[]⟩, .bool false, .int .i64 0, .int .i64 0, .int .i64 0, .string ⟨#[]⟩, .int .i64 0, .int .i64 0, .int .i64 0, .int .i64 0, .int .i64 0, .string ⟨#[]⟩, .int .i64 0, .string ⟨#[]⟩, .int .i64 0, .string ⟨#[]⟩] 48) = W4 := ⟨_, rfl⟩; obtain ⟨W5, hW5⟩ : ∃ W5, W4.setRow w3.heap.size A = W5 := ⟨_, rfl⟩; have nt := noteT_of (boxB hW4).1 rfl HZ.out.1 HZ.out.2 hW5)
  have h23 : W2.heap.size ≤ w3.heap.size := h3.out.2.size
  have hlt2 := HG.out.1.lt
  have hlt3 := HG.out.2.2.2
  have hb4 := boxB hW4
  have hr5 : Red W2 W5 W.heap.size (.slice ad l.length cap) l s1 := by
    rw [← hW5]
    exact Red.box (g := w3.heap.size) ⟨h3.out.1.below hb4.2, h3.out.2.trans (Only.of hb4.2)⟩ HG.out.1 (setRow_only _ _ _) h23
  have hz3 : w3.heap[w.heap.size]? = some (.cells #[.int .i64 0, .int .i64 0, .int .i64 0, .int .i64 0, .int .i64 0, .int .i64 0, .string ⟨#[]⟩, .bool false, .int .i64 0, .int .i64 0, .int .i64 0, .string ⟨#[]⟩, .int .i64 0, .int .i64 0, .int .i64 0, .int .i64 0, .int .i64 0, .string ⟨#[]⟩, .int .i64 0, .string ⟨#[]⟩, .int .i64 0, .string ⟨#[]⟩] 48 (0, 0)) := (h3.out.2.block _ (by omega) (by omega)).trans HG.out.2.2.1
  have hz5 : W5.heap[w.heap.size]? = some (.cells #[.int .i64 0, .int .i64 0, .int .i64 0, .int .i64 0, .int .i64 0, .int .i64 0, .string ⟨#[]⟩, .bool false, .int .i64 0, .int .i64 0, .int .i64 0, .string ⟨#[]⟩, .int .i64 0, .int .i64 0, .int .i64 0, .int .i64 0, .int .i64 0, .string ⟨#[]⟩, .int .i64 0, .string ⟨#[]⟩, .int .i64 0, .string ⟨#[]⟩] 48 (0, 0)) := by rw [← hW5]; exact (setRow_other _ _ _ _ (by omega)).trans (hkeep hz3 hb4.2)
  have hp5 : W5.heap[w3.heap.size]? = some (.cells A 48 (0, 0)) := by rw [← hW5]; exact setRow_heap _ _ _ _ _ _ hb4.1
  have hbel : Below w.heap.size w W5 := hr5.2.below HG.out.2.1 HG.out.2.1.size (fun k hk => by omega)
  have H5 : Hid (Rg W5 W.heap.size (.slice ad l.length cap) l s1 ∧ W5.heap[w.heap.size]? = some (.cells #[.int .i64 0, .int .i64 0, .int .i64 0, .int .i64 0, .int .i64 0, .int .i64 0, .string ⟨#[]⟩, .bool false, .int .i64 0, .int .i64 0, .int .i64 0, .string ⟨#[]⟩, .int .i64 0, .int .i64 0, .int .i64 0, .int .i64 0, .int .i64 0, .string ⟨#[]⟩, .int .i64 0, .string ⟨#[]⟩, .int .i64 0, .string ⟨#[]⟩] 48 (0, 0)) ∧ W5.heap[w3.heap.size]? = some (.cells A 48 (0, 0)) ∧ Below w.heap.size w W5 ∧ w.heap.size < w3.heap.size) := ⟨hr5.1, hz5, hp5, hbel, by omega⟩
  clear hW4 hW5 nt h23 hlt2 hlt3 hb4 hr5 hz3 hz5 hp5 hbel h3 HMs HG
  cases D with
  | false =>
    go_upto_region 4 with (go_at_call 20; refine (HDn.out W5 H5.out.1).mono ?_; rintro e w7 ⟨rfl, hb7⟩)
    obtain ⟨W8, hW8⟩ : ∃ W, w7.setRow w.heap.size #[.int .i64 0, .int .i64 0, .int .i64 0, .int .i64 0, .int .i64 0, .int .i64 0, .string ⟨#[]⟩, .bool false, .int .i64 0, .int .i64 0, .int .i64 0, .string ⟨#[]⟩, .int .i64 0, .int .i64 0, .int .i64 0, .int .i64 0, .int .i64 0, .string ⟨#[]⟩, .int .i64 0, .string ⟨#[]⟩, .int .i64 0, .string ⟨#[]⟩] = W := ⟨_, rfl⟩
    have nt2 := noteT_of (hkeep H5.out.2.1 hb7) rfl rfl (by simp [Value.oneCell']) hW8
    have HF : Hid (W8.heap[w.heap.size]? = some (.cells #[.int .i64 0, .int .i64 0, .int .i64 0, .int .i64 0, .int .i64 0, .int .i64 0, .string ⟨#[]⟩, .bool false, .int .i64 0, .int .i64 0, .int .i64 0, .string ⟨#[]⟩, .int .i64 0, .int .i64 0, .int .i64 0, .int .i64 0, .int .i64 0, .string ⟨#[]⟩, .int .i64 0, .string ⟨#[]⟩, .int .i64 0, .string ⟨#[]⟩] 48 (0, 0)) ∧ Below w.heap.size w W8) := by
      rw [← hW8]
      exact ⟨setRow_heap _ _ _ _ _ _ (hkeep H5.out.2.1 hb7), below_setRow (chainB H5.out.2.2.2.1 hb7) (Nat.le_refl _) _⟩
    clear hW8 hb7
    go_wp2
    refine bodyPost_ret (ret_note2 rfl _ _ w.heap.size rfl HF.out.1 rfl) rfl ?_
    exact unpack_no HP.out.1 (.inl HDe.out) rfl HF.out.2
  | true =>
    cases P with
    | false =>
      go_upto_region 4 with (first
        | (go_at_call 27; refine (HPl.out w7).mono ?_; rintro e w8 ⟨rfl, hb8⟩)
        | (go_at_call 20; refine (HDn.out W5 H5.out.1).mono ?_; rintro e w7 ⟨rfl, hb7⟩; have nl := noteS_of (hkeep H5.out.2.2.1 hb7) HZ.out.1))
      have hc := chainB hb7 hb8
      obtain ⟨W8, hW8⟩ : ∃ W, w8.setRow w.heap.size #[.int .i64 0, .int .i64 0, .int .i64 0, .int .i64 0, .int .i64 0, .int .i64 0, .string ⟨#[]⟩, .bool false, .int .i64 0, .int .i64 0, .int .i64 0, .string ⟨#[]⟩, .int .i64 0, .int .i64 0, .int .i64 0, .int .i64 0, .int .i64 0, .string ⟨#[]⟩, .int .i64 0, .string ⟨#[]⟩, .int .i64 0, .string ⟨#[]⟩] = W := ⟨_, rfl⟩
      have nt2 := noteT_of (hkeep H5.out.2.1 hc) rfl rfl (by simp [Value.oneCell']) hW8
      have HF : Hid (W8.heap[w.heap.size]? = some (.cells #[.int .i64 0, .int .i64 0, .int .i64 0, .int .i64 0, .int .i64 0, .int .i64 0, .string ⟨#[]⟩, .bool false, .int .i64 0, .int .i64 0, .int .i64 0, .string ⟨#[]⟩, .int .i64 0, .int .i64 0, .int .i64 0, .int .i64 0, .int .i64 0, .string ⟨#[]⟩, .int .i64 0, .string ⟨#[]⟩, .int .i64 0, .string ⟨#[]⟩] 48 (0, 0)) ∧ Below w.heap.size w W8) := by
        rw [← hW8]
        exact ⟨setRow_heap _ _ _ _ _ _ (hkeep H5.out.2.1 hc), below_setRow (chainB H5.out.2.2.2.1 hc) (Nat.le_refl _) _⟩
      clear hW8 hb7 hb8 hc nl
      go_wp2
      refine bodyPost_ret (ret_note2 rfl _ _ w.heap.size rfl HF.out.1 rfl) rfl ?_
      exact unpack_no HP.out.1 (.inr HPe.out) rfl HF.out.2
    | true =>
      go_upto_region 5 with (first
        | (go_at_call 27; refine (HPl.out w7).mono ?_; rintro e w8 ⟨rfl, hb8⟩)
        | (go_at_call 20; refine (HDn.out W5 H5.out.1).mono ?_; rintro e w7 ⟨rfl, hb7⟩; have nl := noteS_of (hkeep H5.out.2.2.1 hb7) HZ.out.1))
      have hc := chainB hb7 hb8
      have nl2 := noteS_of (hkeep H5.out.2.2.1 hc) HZ.out.1
      obtain ⟨W8, hW8⟩ : ∃ W, w8.setRow w.heap.size A = W := ⟨_, rfl⟩
      have nt2 := noteT_of (hkeep H5.out.2.1 hc) rfl HZ.out.1 HZ.out.2 hW8
      have HF : Hid (W8.heap[w.heap.size]? = some (.cells A 48 (0, 0)) ∧ Below w.heap.size w W8) := by
        rw [← hW8]
        exact ⟨setRow_heap _ _ _ _ _ _ (hkeep H5.out.2.1 hc), below_setRow (chainB H5.out.2.2.2.1 hc) (Nat.le_refl _) _⟩
      clear hW8 hb7 hb8 hc nl
      go_wp2
      refine bodyPost_ret (ret_note2 rfl _ _ w.heap.size rfl HF.out.1 HZ.out.1) rfl ?_
      exact unpack_yes HP.out.2 HP.out.1 HDe.out HPe.out (by rw [HA.out]; rfl) HF.out.2
end
end Go.Proofs.Ytekonakanieeaaa
