/- What is plain, in the document's own words: notes. -/
import Derived.Test.YtekonakanieeaaaJWDes13
namespace Go.Proofs.Ytekonakanieeaaa
section
open Go.RowKit Go.Lib
attribute [local go_sem ↓ high] loadN
attribute [local go_sem high] guardNt

set_option maxRecDepth 20000 in
set_option maxHeartbeats 8000000 in
theorem plainNote_dne (kind epoch vers next client : Int) (e : En) (life seq err : Int) (op : Opn) (w : World) (hE : eqNt ⟨kind, epoch, vers, next, client, e, life, seq, err, op⟩ (onlyF ⟨kind, epoch, vers, next, client, e, life, seq, err, op⟩) = false) : Calls Try.prog 62 #[.agg #[.int .i64 kind, .int .i64 epoch, .int .i64 vers, .int .i64 next, .int .i64 client, .int .i64 e.d, .string e.nm, .bool e.neg, .int .i64 e.id, .int .i64 e.kind, .int .i64 e.mode, .string e.tg, .int .i64 life, .int .i64 seq, .int .i64 err, .int .i64 op.kind, .int .i64 op.dir, .string op.nm, .int .i64 op.dst, .string op.new, .int .i64 op.mode, .string op.tg]] w fun x w' => x = .returned (.bool false) ∧ Below w.heap.size w w' := by
  have hq0 := fun w' => neqNt w' ⟨kind, epoch, vers, next, client, e, life, seq, err, op⟩ (onlyF ⟨kind, epoch, vers, next, client, e, life, seq, err, op⟩)
  have hnm0 := fun w' => only_d ⟨kind, epoch, vers, next, client, e, life, seq, err, op⟩ w'
  rw [hE] at hq0
  obtain ⟨B, hB⟩ : ∃ B, (onlyF ⟨kind, epoch, vers, next, client, e, life, seq, err, op⟩).arr = B := ⟨_, rfl⟩
  rw [hB] at hq0
  simp only [hB] at hnm0
  obtain ⟨A, hA⟩ : ∃ A, (#[.int .i64 kind, .int .i64 epoch, .int .i64 vers, .int .i64 next, .int .i64 client, .int .i64 e.d, .string e.nm, .bool e.neg, .int .i64 e.id, .int .i64 e.kind, .int .i64 e.mode, .string e.tg, .int .i64 life, .int .i64 seq, .int .i64 err, .int .i64 op.kind, .int .i64 op.dir, .string op.nm, .int .i64 op.dst, .string op.new, .int .i64 op.mode, .string op.tg] : Array Value) = A := ⟨_, rfl⟩
  have hq : ∀ w', (binOp .neq 48 (.agg A) (.agg B)).run Try.prog w' = .ok (.bool true) w' := by rw [← hA]; exact hq0
  have HNm : Hid (∀ w', Calls Try.prog 85 #[.agg A] w' fun x w2 => x = .returned (.agg B) ∧ Below w'.heap.size w' w2) := by rw [← hA]; exact hnm0
  obtain ⟨W, hW⟩ : ∃ W, w.alloc (.cells A 48) = W := ⟨_, rfl⟩
  have hb := boxB hW
  have HBx : Hid (W.heap[w.heap.size]? = some (.cells #[.int .i64 kind, .int .i64 epoch, .int .i64 vers, .int .i64 next, .int .i64 client, .int .i64 e.d, .string e.nm, .bool e.neg, .int .i64 e.id, .int .i64 e.kind, .int .i64 e.mode, .string e.tg, .int .i64 life, .int .i64 seq, .int .i64 err, .int .i64 op.kind, .int .i64 op.dir, .string op.nm, .int .i64 op.dst, .string op.new, .int .i64 op.mode, .string op.tg] 48 (0, 0)) ∧ Below w.heap.size w W) := by rw [hA]; exact hb
  have HS : Hid (∀ w', Below W.heap.size W w' → (noteS (.pointer (some ⟨w.heap.size, 0, none⟩))).run Try.prog w' = .ok (.agg A) w' ∧ w'.cell? ⟨w.heap.size, 0, none⟩ = some (.int .i64 kind) ∧ w'.cell? ⟨w.heap.size, 1, none⟩ = some (.int .i64 epoch) ∧ w'.cell? ⟨w.heap.size, 2, none⟩ = some (.int .i64 vers) ∧ w'.cell? ⟨w.heap.size, 3, none⟩ = some (.int .i64 next) ∧ w'.cell? ⟨w.heap.size, 4, none⟩ = some (.int .i64 client) ∧ w'.cell? ⟨w.heap.size, 12, none⟩ = some (.int .i64 life) ∧ w'.cell? ⟨w.heap.size, 13, none⟩ = some (.int .i64 seq) ∧ w'.cell? ⟨w.heap.size, 14, none⟩ = some (.int .i64 err)) := fun w' h' => by
    have n1 := hkeep HBx.out.1 h'
    have n2 := n1
    rw [hA] at n2
    refine ⟨noteS_of n2 (by rw [← hA]; rfl), by have y := cell_of n1 0; simpa using y, by have y := cell_of n1 1; simpa using y, by have y := cell_of n1 2; simpa using y, by have y := cell_of n1 3; simpa using y, by have y := cell_of n1 4; simpa using y, by have y := cell_of n1 12; simpa using y, by have y := cell_of n1 13; simpa using y, by have y := cell_of n1 14; simpa using y⟩
  rw [hA]
  clear hA hB hq0 hnm0 hE hb
  have HBad : Hid (∀ v W, Calls Try.prog 72 #[.int .i64 v] W fun e w' => e = .returned (.bool (!decide (numOk v))) ∧ W = w') := bad_d
  go_enter Try.func62, Try.ntmps62
  go_upto_region 1 with fail
  clear hW
  have k0 := HS.out W.drew (Below.refl _ _).drew
  refine wp_region_held_drew (S := fun w' => (noteS (.pointer (some ⟨w.heap.size, 0, none⟩))).run Try.prog w' = .ok (.agg A) w' ∧ w'.cell? ⟨w.heap.size, 0, none⟩ = some (.int .i64 kind) ∧ w'.cell? ⟨w.heap.size, 1, none⟩ = some (.int .i64 epoch) ∧ w'.cell? ⟨w.heap.size, 2, none⟩ = some (.int .i64 vers) ∧ w'.cell? ⟨w.heap.size, 3, none⟩ = some (.int .i64 next) ∧ w'.cell? ⟨w.heap.size, 4, none⟩ = some (.int .i64 client) ∧ w'.cell? ⟨w.heap.size, 12, none⟩ = some (.int .i64 life) ∧ w'.cell? ⟨w.heap.size, 13, none⟩ = some (.int .i64 seq) ∧ w'.cell? ⟨w.heap.size, 14, none⟩ = some (.int .i64 err)) (by kernel_rfl) k0 (fun hHeld => ?_)
  refine tky 0 (some 3) rfl rfl ⟨?v0, fun w hSw => ?a0, fun _ _ _ h => h, ?b0⟩
  case a0 => (try dsimp only at hSw); go_simp; (try rfl)
  try simp only [Act.put, List.setIfInBounds_toArray, List.set_cons_zero, List.set_cons_succ]
  refine tky 1 (some 4) rfl rfl ⟨?v1, fun w hSw => ?a1, fun _ _ _ h => h, ?b1⟩
  case a1 => (try dsimp only at hSw); go_simp; (try rfl)
  try simp only [Act.put, List.setIfInBounds_toArray, List.set_cons_zero, List.set_cons_succ]
  refine wpAnyH_ready (rs := [2]) (by kernel_rfl) (by simp) ?_
  refine AllReadyH.cons rfl (fun K hK => ?_) AllReadyH.nil
  go_simp
  go_at_call 85
  refine (HNm.out _).mono ?_
  rintro x w1 ⟨rfl, hb1⟩
  have hc1 := chainB (Below.refl W.heap.size W).drew hb1
  have k1 := HS.out w1 hc1
  refine hK.out _ _ k1 (fun hHeld => ?_)
  clear hK K
  try simp only [Act.put, List.setIfInBounds_toArray, List.set_cons_zero, List.set_cons_succ]
  refine tky 3 (some 6) rfl rfl ⟨.bool true, fun w hSw => ?a3, fun _ _ _ h => h, ?b3⟩
  case a3 => (try dsimp only at hSw); go_simp; (try rfl)
  try simp only [Act.put, List.setIfInBounds_toArray, List.set_cons_zero, List.set_cons_succ]
  refine tky 4 (some 7) rfl rfl ⟨?v4, fun w hSw => ?a4, fun _ _ _ h => h, ?b4⟩
  case a4 => (try dsimp only at hSw); go_simp; (try rfl)
  try simp only [Act.put, List.setIfInBounds_toArray, List.set_cons_zero, List.set_cons_succ]
  refine tkn 5 (some 8) rfl rfl ?_
  try simp only [Act.put, List.setIfInBounds_toArray, List.set_cons_zero, List.set_cons_succ]
  refine tkn 6 (some 9) rfl rfl ?_
  try simp only [Act.put, List.setIfInBounds_toArray, List.set_cons_zero, List.set_cons_succ]
  refine tkn 7 (some 10) rfl rfl ?_
  try simp only [Act.put, List.setIfInBounds_toArray, List.set_cons_zero, List.set_cons_succ]
  refine tky 8 (some 11) rfl rfl ⟨?v8, fun w hSw => ?a8, fun _ _ _ h => h, ?b8⟩
  case a8 => (try dsimp only at hSw); go_simp; (try rfl)
  try simp only [Act.put, List.setIfInBounds_toArray, List.set_cons_zero, List.set_cons_succ]
  refine tky 9 (some 12) rfl rfl ⟨?v9, fun w hSw => ?a9, fun _ _ _ h => h, ?b9⟩
  case a9 => (try dsimp only at hSw); go_simp; (try rfl)
  try simp only [Act.put, List.setIfInBounds_toArray, List.set_cons_zero, List.set_cons_succ]
  refine tkn 10 (some 13) rfl rfl ?_
  try simp only [Act.put, List.setIfInBounds_toArray, List.set_cons_zero, List.set_cons_succ]
  refine tkn 11 (some 14) rfl rfl ?_
  try simp only [Act.put, List.setIfInBounds_toArray, List.set_cons_zero, List.set_cons_succ]
  refine tkn 12 (some 15) rfl rfl ?_
  try simp only [Act.put, List.setIfInBounds_toArray, List.set_cons_zero, List.set_cons_succ]
  refine tky 13 (some 16) rfl rfl ⟨?v13, fun w hSw => ?a13, fun _ _ _ h => h, ?b13⟩
  case a13 => (try dsimp only at hSw); go_simp; (try rfl)
  try simp only [Act.put, List.setIfInBounds_toArray, List.set_cons_zero, List.set_cons_succ]
  refine tky 14 (some 17) rfl rfl ⟨?v14, fun w hSw => ?a14, fun _ _ _ h => h, ?b14⟩
  case a14 => (try dsimp only at hSw); go_simp; (try rfl)
  try simp only [Act.put, List.setIfInBounds_toArray, List.set_cons_zero, List.set_cons_succ]
  refine tkn 15 (some 18) rfl rfl ?_
  try simp only [Act.put, List.setIfInBounds_toArray, List.set_cons_zero, List.set_cons_succ]
  refine tkn 16 (some 19) rfl rfl ?_
  try simp only [Act.put, List.setIfInBounds_toArray, List.set_cons_zero, List.set_cons_succ]
  refine tkn 17 (some 20) rfl rfl ?_
  try simp only [Act.put, List.setIfInBounds_toArray, List.set_cons_zero, List.set_cons_succ]
  refine tky 18 (some 21) rfl rfl ⟨?v18, fun w hSw => ?a18, fun _ _ _ h => h, ?b18⟩
  case a18 => (try dsimp only at hSw); go_simp; (try rfl)
  try simp only [Act.put, List.setIfInBounds_toArray, List.set_cons_zero, List.set_cons_succ]
  refine tky 19 (some 22) rfl rfl ⟨?v19, fun w hSw => ?a19, fun _ _ _ h => h, ?b19⟩
  case a19 => (try dsimp only at hSw); go_simp; (try rfl)
  try simp only [Act.put, List.setIfInBounds_toArray, List.set_cons_zero, List.set_cons_succ]
  refine tkn 20 (some 23) rfl rfl ?_
  try simp only [Act.put, List.setIfInBounds_toArray, List.set_cons_zero, List.set_cons_succ]
  refine tkn 21 (some 24) rfl rfl ?_
  try simp only [Act.put, List.setIfInBounds_toArray, List.set_cons_zero, List.set_cons_succ]
  refine tkn 22 (some 25) rfl rfl ?_
  try simp only [Act.put, List.setIfInBounds_toArray, List.set_cons_zero, List.set_cons_succ]
  refine tky 23 (some 26) rfl rfl ⟨?v23, fun w hSw => ?a23, fun _ _ _ h => h, ?b23⟩
  case a23 => (try dsimp only at hSw); go_simp; (try rfl)
  try simp only [Act.put, List.setIfInBounds_toArray, List.set_cons_zero, List.set_cons_succ]
  refine tky 24 (some 27) rfl rfl ⟨?v24, fun w hSw => ?a24, fun _ _ _ h => h, ?b24⟩
  case a24 => (try dsimp only at hSw); go_simp; (try rfl)
  try simp only [Act.put, List.setIfInBounds_toArray, List.set_cons_zero, List.set_cons_succ]
  refine tkn 25 (some 28) rfl rfl ?_
  try simp only [Act.put, List.setIfInBounds_toArray, List.set_cons_zero, List.set_cons_succ]
  refine tkn 26 (some 29) rfl rfl ?_
  try simp only [Act.put, List.setIfInBounds_toArray, List.set_cons_zero, List.set_cons_succ]
  refine tkn 27 (some 30) rfl rfl ?_
  try simp only [Act.put, List.setIfInBounds_toArray, List.set_cons_zero, List.set_cons_succ]
  refine tky 28 (some 31) rfl rfl ⟨?v28, fun w hSw => ?a28, fun _ _ _ h => h, ?b28⟩
  case a28 => (try dsimp only at hSw); go_simp; (try rfl)
  try simp only [Act.put, List.setIfInBounds_toArray, List.set_cons_zero, List.set_cons_succ]
  refine tky 29 (some 32) rfl rfl ⟨?v29, fun w hSw => ?a29, fun _ _ _ h => h, ?b29⟩
  case a29 => (try dsimp only at hSw); go_simp; (try rfl)
  try simp only [Act.put, List.setIfInBounds_toArray, List.set_cons_zero, List.set_cons_succ]
  refine tkn 30 (some 33) rfl rfl ?_
  try simp only [Act.put, List.setIfInBounds_toArray, List.set_cons_zero, List.set_cons_succ]
  refine tkn 31 (some 34) rfl rfl ?_
  try simp only [Act.put, List.setIfInBounds_toArray, List.set_cons_zero, List.set_cons_succ]
  refine tkn 32 (some 35) rfl rfl ?_
  try simp only [Act.put, List.setIfInBounds_toArray, List.set_cons_zero, List.set_cons_succ]
  refine tkn 33 (some 36) rfl rfl ?_
  try simp only [Act.put, List.setIfInBounds_toArray, List.set_cons_zero, List.set_cons_succ]
  refine tky 34 (some 37) rfl rfl ⟨?v34, fun w hSw => ?a34, fun _ _ _ h => h, ?b34⟩
  case a34 => (try dsimp only at hSw); go_simp; (try rfl)
  try simp only [Act.put, List.setIfInBounds_toArray, List.set_cons_zero, List.set_cons_succ]
  refine tky 35 (some 38) rfl rfl ⟨?v35, fun w hSw => ?a35, fun _ _ _ h => h, ?b35⟩
  case a35 => (try dsimp only at hSw); go_simp; (try rfl)
  try simp only [Act.put, List.setIfInBounds_toArray, List.set_cons_zero, List.set_cons_succ]
  refine tkn 36 (some 39) rfl rfl ?_
  try simp only [Act.put, List.setIfInBounds_toArray, List.set_cons_zero, List.set_cons_succ]
  refine tkn 37 (some 40) rfl rfl ?_
  try simp only [Act.put, List.setIfInBounds_toArray, List.set_cons_zero, List.set_cons_succ]
  refine tkn 38 (some 41) rfl rfl ?_
  try simp only [Act.put, List.setIfInBounds_toArray, List.set_cons_zero, List.set_cons_succ]
  refine tkn 39 (some 42) rfl rfl ?_
  try simp only [Act.put, List.setIfInBounds_toArray, List.set_cons_zero, List.set_cons_succ]
  refine tky 40 (some 43) rfl rfl ⟨?v40, fun w hSw => ?a40, fun _ _ _ h => h, ?b40⟩
  case a40 => (try dsimp only at hSw); go_simp; (try rfl)
  try simp only [Act.put, List.setIfInBounds_toArray, List.set_cons_zero, List.set_cons_succ]
  refine tky 41 (some 44) rfl rfl ⟨?v41, fun w hSw => ?a41, fun _ _ _ h => h, ?b41⟩
  case a41 => (try dsimp only at hSw); go_simp; (try rfl)
  try simp only [Act.put, List.setIfInBounds_toArray, List.set_cons_zero, List.set_cons_succ]
  refine tkn 42 (some 45) rfl rfl ?_
  try simp only [Act.put, List.setIfInBounds_toArray, List.set_cons_zero, List.set_cons_succ]
  refine tkn 43 (some 46) rfl rfl ?_
  try simp only [Act.put, List.setIfInBounds_toArray, List.set_cons_zero, List.set_cons_succ]
  refine tkn 44 (some 47) rfl rfl ?_
  try simp only [Act.put, List.setIfInBounds_toArray, List.set_cons_zero, List.set_cons_succ]
  refine tkn 45 (some 48) rfl rfl ?_
  try simp only [Act.put, List.setIfInBounds_toArray, List.set_cons_zero, List.set_cons_succ]
  refine tky 46 (some 49) rfl rfl ⟨?v46, fun w hSw => ?a46, fun _ _ _ h => h, ?b46⟩
  case a46 => (try dsimp only at hSw); go_simp; (try rfl)
  try simp only [Act.put, List.setIfInBounds_toArray, List.set_cons_zero, List.set_cons_succ]
  refine wpAnyH_done (by kernel_rfl) ?_ _
  go_wp2
  go_ret
  exact ⟨rfl, chainB HBx.out.2 hc1⟩
set_option maxRecDepth 20000 in
set_option maxHeartbeats 8000000 in
theorem plainNote_dk0 (kind epoch vers next client : Int) (e : En) (life seq err : Int) (op : Opn) (w : World) (hE : eqNt ⟨kind, epoch, vers, next, client, e, life, seq, err, op⟩ (onlyF ⟨kind, epoch, vers, next, client, e, life, seq, err, op⟩) = true) (hK : kind = 0) : Calls Try.prog 62 #[.agg #[.int .i64 kind, .int .i64 epoch, .int .i64 vers, .int .i64 next, .int .i64 client, .int .i64 e.d, .string e.nm, .bool e.neg, .int .i64 e.id, .int .i64 e.kind, .int .i64 e.mode, .string e.tg, .int .i64 life, .int .i64 seq, .int .i64 err, .int .i64 op.kind, .int .i64 op.dir, .string op.nm, .int .i64 op.dst, .string op.new, .int .i64 op.mode, .string op.tg]] w fun x w' => x = .returned (.bool false) ∧ Below w.heap.size w w' := by
  have hq0 := fun w' => neqNt w' ⟨kind, epoch, vers, next, client, e, life, seq, err, op⟩ (onlyF ⟨kind, epoch, vers, next, client, e, life, seq, err, op⟩)
  have hnm0 := fun w' => only_d ⟨kind, epoch, vers, next, client, e, life, seq, err, op⟩ w'
  rw [hE] at hq0
  obtain ⟨B, hB⟩ : ∃ B, (onlyF ⟨kind, epoch, vers, next, client, e, life, seq, err, op⟩).arr = B := ⟨_, rfl⟩
  rw [hB] at hq0
  simp only [hB] at hnm0
  obtain ⟨A, hA⟩ : ∃ A, (#[.int .i64 kind, .int .i64 epoch, .int .i64 vers, .int .i64 next, .int .i64 client, .int .i64 e.d, .string e.nm, .bool e.neg, .int .i64 e.id, .int .i64 e.kind, .int .i64 e.mode, .string e.tg, .int .i64 life, .int .i64 seq, .int .i64 err, .int .i64 op.kind, .int .i64 op.dir, .string op.nm, .int .i64 op.dst, .string op.new, .int .i64 op.mode, .string op.tg] : Array Value) = A := ⟨_, rfl⟩
  have hq : ∀ w', (binOp .neq 48 (.agg A) (.agg B)).run Try.prog w' = .ok (.bool false) w' := by rw [← hA]; exact hq0
  have HNm : Hid (∀ w', Calls Try.prog 85 #[.agg A] w' fun x w2 => x = .returned (.agg B) ∧ Below w'.heap.size w' w2) := by rw [← hA]; exact hnm0
  obtain ⟨W, hW⟩ : ∃ W, w.alloc (.cells A 48) = W := ⟨_, rfl⟩
  have hb := boxB hW
  have HBx : Hid (W.heap[w.heap.size]? = some (.cells #[.int .i64 kind, .int .i64 epoch, .int .i64 vers, .int .i64 next, .int .i64 client, .int .i64 e.d, .string e.nm, .bool e.neg, .int .i64 e.id, .int .i64 e.kind, .int .i64 e.mode, .string e.tg, .int .i64 life, .int .i64 seq, .int .i64 err, .int .i64 op.kind, .int .i64 op.dir, .string op.nm, .int .i64 op.dst, .string op.new, .int .i64 op.mode, .string op.tg] 48 (0, 0)) ∧ Below w.heap.size w W) := by rw [hA]; exact hb
  have HS : Hid (∀ w', Below W.heap.size W w' → (noteS (.pointer (some ⟨w.heap.size, 0, none⟩))).run Try.prog w' = .ok (.agg A) w' ∧ w'.cell? ⟨w.heap.size, 0, none⟩ = some (.int .i64 kind) ∧ w'.cell? ⟨w.heap.size, 1, none⟩ = some (.int .i64 epoch) ∧ w'.cell? ⟨w.heap.size, 2, none⟩ = some (.int .i64 vers) ∧ w'.cell? ⟨w.heap.size, 3, none⟩ = some (.int .i64 next) ∧ w'.cell? ⟨w.heap.size, 4, none⟩ = some (.int .i64 client) ∧ w'.cell? ⟨w.heap.size, 12, none⟩ = some (.int .i64 life) ∧ w'.cell? ⟨w.heap.size, 13, none⟩ = some (.int .i64 seq) ∧ w'.cell? ⟨w.heap.size, 14, none⟩ = some (.int .i64 err)) := fun w' h' => by
    have n1 := hkeep HBx.out.1 h'
    have n2 := n1
    rw [hA] at n2
    refine ⟨noteS_of n2 (by rw [← hA]; rfl), by have y := cell_of n1 0; simpa using y, by have y := cell_of n1 1; simpa using y, by have y := cell_of n1 2; simpa using y, by have y := cell_of n1 3; simpa using y, by have y := cell_of n1 4; simpa using y, by have y := cell_of n1 12; simpa using y, by have y := cell_of n1 13; simpa using y, by have y := cell_of n1 14; simpa using y⟩
  rw [hA]
  clear hA hB hq0 hnm0 hE hb
  have HBad : Hid (∀ v W, Calls Try.prog 72 #[.int .i64 v] W fun e w' => e = .returned (.bool (!decide (numOk v))) ∧ W = w') := bad_d
  have hKb : (kind == 0) = true := by rw [hK]; rfl
  clear hK
  go_enter Try.func62, Try.ntmps62
  go_upto_region 1 with fail
  clear hW
  have k0 := HS.out W.drew (Below.refl _ _).drew
  refine wp_region_held_drew (S := fun w' => (noteS (.pointer (some ⟨w.heap.size, 0, none⟩))).run Try.prog w' = .ok (.agg A) w' ∧ w'.cell? ⟨w.heap.size, 0, none⟩ = some (.int .i64 kind) ∧ w'.cell? ⟨w.heap.size, 1, none⟩ = some (.int .i64 epoch) ∧ w'.cell? ⟨w.heap.size, 2, none⟩ = some (.int .i64 vers) ∧ w'.cell? ⟨w.heap.size, 3, none⟩ = some (.int .i64 next) ∧ w'.cell? ⟨w.heap.size, 4, none⟩ = some (.int .i64 client) ∧ w'.cell? ⟨w.heap.size, 12, none⟩ = some (.int .i64 life) ∧ w'.cell? ⟨w.heap.size, 13, none⟩ = some (.int .i64 seq) ∧ w'.cell? ⟨w.heap.size, 14, none⟩ = some (.int .i64 err)) (by kernel_rfl) k0 (fun hHeld => ?_)
  refine tky 0 (some 3) rfl rfl ⟨?v0, fun w hSw => ?a0, fun _ _ _ h => h, ?b0⟩
  case a0 => (try dsimp only at hSw); go_simp; (try rfl)
  try simp only [Act.put, List.setIfInBounds_toArray, List.set_cons_zero, List.set_cons_succ]
  refine tky 1 (some 4) rfl rfl ⟨?v1, fun w hSw => ?a1, fun _ _ _ h => h, ?b1⟩
  case a1 => (try dsimp only at hSw); go_simp; (try rfl)
  try simp only [Act.put, List.setIfInBounds_toArray, List.set_cons_zero, List.set_cons_succ]
  refine wpAnyH_ready (rs := [2]) (by kernel_rfl) (by simp) ?_
  refine AllReadyH.cons rfl (fun K hK => ?_) AllReadyH.nil
  go_simp
  go_at_call 85
  refine (HNm.out _).mono ?_
  rintro x w1 ⟨rfl, hb1⟩
  have hc1 := chainB (Below.refl W.heap.size W).drew hb1
  have k1 := HS.out w1 hc1
  refine hK.out _ _ k1 (fun hHeld => ?_)
  clear hK K
  try simp only [Act.put, List.setIfInBounds_toArray, List.set_cons_zero, List.set_cons_succ]
  refine tky 3 (some 6) rfl rfl ⟨.bool false, fun w hSw => ?a3, fun _ _ _ h => h, ?b3⟩
  case a3 => (try dsimp only at hSw); go_simp; (try rfl)
  try simp only [Act.put, List.setIfInBounds_toArray, List.set_cons_zero, List.set_cons_succ]
  refine tky 4 (some 7) rfl rfl ⟨?v4, fun w hSw => ?a4, fun _ _ _ h => h, ?b4⟩
  case a4 => (try dsimp only at hSw); go_simp; (try rfl)
  try simp only [Act.put, List.setIfInBounds_toArray, List.set_cons_zero, List.set_cons_succ]
  refine tky 5 (some 8) rfl rfl ⟨?v5, fun w hSw => ?a5, fun _ _ _ h => h, ?b5⟩
  case a5 => (try dsimp only at hSw); go_simp; (try rfl)
  try simp only [Act.put, List.setIfInBounds_toArray, List.set_cons_zero, List.set_cons_succ]
  refine tky 6 (some 9) rfl rfl ⟨?v6, fun w hSw => ?a6, fun _ _ _ h => h, ?b6⟩
  case a6 => (try dsimp only at hSw); go_simp; (try rfl)
  try simp only [Act.put, List.setIfInBounds_toArray, List.set_cons_zero, List.set_cons_succ]
  refine tky 7 (some 10) rfl rfl ⟨.bool true, fun w hSw => ?a7, fun _ _ _ h => h, ?b7⟩
  case a7 => (try dsimp only at hSw); go_simp; (try rfl)
  try simp only [Act.put, List.setIfInBounds_toArray, List.set_cons_zero, List.set_cons_succ]
  refine tky 8 (some 11) rfl rfl ⟨?v8, fun w hSw => ?a8, fun _ _ _ h => h, ?b8⟩
  case a8 => (try dsimp only at hSw); go_simp; (try rfl)
  try simp only [Act.put, List.setIfInBounds_toArray, List.set_cons_zero, List.set_cons_succ]
  refine tky 9 (some 12) rfl rfl ⟨?v9, fun w hSw => ?a9, fun _ _ _ h => h, ?b9⟩
  case a9 => (try dsimp only at hSw); go_simp; (try rfl)
  try simp only [Act.put, List.setIfInBounds_toArray, List.set_cons_zero, List.set_cons_succ]
  refine tkn 10 (some 13) rfl rfl ?_
  try simp only [Act.put, List.setIfInBounds_toArray, List.set_cons_zero, List.set_cons_succ]
  refine tkn 11 (some 14) rfl rfl ?_
  try simp only [Act.put, List.setIfInBounds_toArray, List.set_cons_zero, List.set_cons_succ]
  refine tkn 12 (some 15) rfl rfl ?_
  try simp only [Act.put, List.setIfInBounds_toArray, List.set_cons_zero, List.set_cons_succ]
  refine tky 13 (some 16) rfl rfl ⟨?v13, fun w hSw => ?a13, fun _ _ _ h => h, ?b13⟩
  case a13 => (try dsimp only at hSw); go_simp; (try rfl)
  try simp only [Act.put, List.setIfInBounds_toArray, List.set_cons_zero, List.set_cons_succ]
  refine tky 14 (some 17) rfl rfl ⟨?v14, fun w hSw => ?a14, fun _ _ _ h => h, ?b14⟩
  case a14 => (try dsimp only at hSw); go_simp; (try rfl)
  try simp only [Act.put, List.setIfInBounds_toArray, List.set_cons_zero, List.set_cons_succ]
  refine tkn 15 (some 18) rfl rfl ?_
  try simp only [Act.put, List.setIfInBounds_toArray, List.set_cons_zero, List.set_cons_succ]
  refine tkn 16 (some 19) rfl rfl ?_
  try simp only [Act.put, List.setIfInBounds_toArray, List.set_cons_zero, List.set_cons_succ]
  refine tkn 17 (some 20) rfl rfl ?_
  try simp only [Act.put, List.setIfInBounds_toArray, List.set_cons_zero, List.set_cons_succ]
  refine tky 18 (some 21) rfl rfl ⟨?v18, fun w hSw => ?a18, fun _ _ _ h => h, ?b18⟩
  case a18 => (try dsimp only at hSw); go_simp; (try rfl)
  try simp only [Act.put, List.setIfInBounds_toArray, List.set_cons_zero, List.set_cons_succ]
  refine tky 19 (some 22) rfl rfl ⟨?v19, fun w hSw => ?a19, fun _ _ _ h => h, ?b19⟩
  case a19 => (try dsimp only at hSw); go_simp; (try rfl)
  try simp only [Act.put, List.setIfInBounds_toArray, List.set_cons_zero, List.set_cons_succ]
  refine tkn 20 (some 23) rfl rfl ?_
  try simp only [Act.put, List.setIfInBounds_toArray, List.set_cons_zero, List.set_cons_succ]
  refine tkn 21 (some 24) rfl rfl ?_
  try simp only [Act.put, List.setIfInBounds_toArray, List.set_cons_zero, List.set_cons_succ]
  refine tkn 22 (some 25) rfl rfl ?_
  try simp only [Act.put, List.setIfInBounds_toArray, List.set_cons_zero, List.set_cons_succ]
  refine tky 23 (some 26) rfl rfl ⟨?v23, fun w hSw => ?a23, fun _ _ _ h => h, ?b23⟩
  case a23 => (try dsimp only at hSw); go_simp; (try rfl)
  try simp only [Act.put, List.setIfInBounds_toArray, List.set_cons_zero, List.set_cons_succ]
  refine tky 24 (some 27) rfl rfl ⟨?v24, fun w hSw => ?a24, fun _ _ _ h => h, ?b24⟩
  case a24 => (try dsimp only at hSw); go_simp; (try rfl)
  try simp only [Act.put, List.setIfInBounds_toArray, List.set_cons_zero, List.set_cons_succ]
  refine tkn 25 (some 28) rfl rfl ?_
  try simp only [Act.put, List.setIfInBounds_toArray, List.set_cons_zero, List.set_cons_succ]
  refine tkn 26 (some 29) rfl rfl ?_
  try simp only [Act.put, List.setIfInBounds_toArray, List.set_cons_zero, List.set_cons_succ]
  refine tkn 27 (some 30) rfl rfl ?_
  try simp only [Act.put, List.setIfInBounds_toArray, List.set_cons_zero, List.set_cons_succ]
  refine tky 28 (some 31) rfl rfl ⟨?v28, fun w hSw => ?a28, fun _ _ _ h => h, ?b28⟩
  case a28 => (try dsimp only at hSw); go_simp; (try rfl)
  try simp only [Act.put, List.setIfInBounds_toArray, List.set_cons_zero, List.set_cons_succ]
  refine tky 29 (some 32) rfl rfl ⟨?v29, fun w hSw => ?a29, fun _ _ _ h => h, ?b29⟩
  case a29 => (try dsimp only at hSw); go_simp; (try rfl)
  try simp only [Act.put, List.setIfInBounds_toArray, List.set_cons_zero, List.set_cons_succ]
  refine tkn 30 (some 33) rfl rfl ?_
  try simp only [Act.put, List.setIfInBounds_toArray, List.set_cons_zero, List.set_cons_succ]
  refine tkn 31 (some 34) rfl rfl ?_
  try simp only [Act.put, List.setIfInBounds_toArray, List.set_cons_zero, List.set_cons_succ]
  refine tkn 32 (some 35) rfl rfl ?_
  try simp only [Act.put, List.setIfInBounds_toArray, List.set_cons_zero, List.set_cons_succ]
  refine tkn 33 (some 36) rfl rfl ?_
  try simp only [Act.put, List.setIfInBounds_toArray, List.set_cons_zero, List.set_cons_succ]
  refine tky 34 (some 37) rfl rfl ⟨?v34, fun w hSw => ?a34, fun _ _ _ h => h, ?b34⟩
  case a34 => (try dsimp only at hSw); go_simp; (try rfl)
  try simp only [Act.put, List.setIfInBounds_toArray, List.set_cons_zero, List.set_cons_succ]
  refine tky 35 (some 38) rfl rfl ⟨?v35, fun w hSw => ?a35, fun _ _ _ h => h, ?b35⟩
  case a35 => (try dsimp only at hSw); go_simp; (try rfl)
  try simp only [Act.put, List.setIfInBounds_toArray, List.set_cons_zero, List.set_cons_succ]
  refine tkn 36 (some 39) rfl rfl ?_
  try simp only [Act.put, List.setIfInBounds_toArray, List.set_cons_zero, List.set_cons_succ]
  refine tkn 37 (some 40) rfl rfl ?_
  try simp only [Act.put, List.setIfInBounds_toArray, List.set_cons_zero, List.set_cons_succ]
  refine tkn 38 (some 41) rfl rfl ?_
  try simp only [Act.put, List.setIfInBounds_toArray, List.set_cons_zero, List.set_cons_succ]
  refine tkn 39 (some 42) rfl rfl ?_
  try simp only [Act.put, List.setIfInBounds_toArray, List.set_cons_zero, List.set_cons_succ]
  refine tky 40 (some 43) rfl rfl ⟨?v40, fun w hSw => ?a40, fun _ _ _ h => h, ?b40⟩
  case a40 => (try dsimp only at hSw); go_simp; (try rfl)
  try simp only [Act.put, List.setIfInBounds_toArray, List.set_cons_zero, List.set_cons_succ]
  refine tky 41 (some 44) rfl rfl ⟨?v41, fun w hSw => ?a41, fun _ _ _ h => h, ?b41⟩
  case a41 => (try dsimp only at hSw); go_simp; (try rfl)
  try simp only [Act.put, List.setIfInBounds_toArray, List.set_cons_zero, List.set_cons_succ]
  refine tkn 42 (some 45) rfl rfl ?_
  try simp only [Act.put, List.setIfInBounds_toArray, List.set_cons_zero, List.set_cons_succ]
  refine tkn 43 (some 46) rfl rfl ?_
  try simp only [Act.put, List.setIfInBounds_toArray, List.set_cons_zero, List.set_cons_succ]
  refine tkn 44 (some 47) rfl rfl ?_
  try simp only [Act.put, List.setIfInBounds_toArray, List.set_cons_zero, List.set_cons_succ]
  refine tkn 45 (some 48) rfl rfl ?_
  try simp only [Act.put, List.setIfInBounds_toArray, List.set_cons_zero, List.set_cons_succ]
  refine tky 46 (some 49) rfl rfl ⟨?v46, fun w hSw => ?a46, fun _ _ _ h => h, ?b46⟩
  case a46 => (try dsimp only at hSw); go_simp; (try rfl)
  try simp only [Act.put, List.setIfInBounds_toArray, List.set_cons_zero, List.set_cons_succ]
  refine wpAnyH_done (by kernel_rfl) ?_ _
  go_wp2
  go_ret
  exact ⟨rfl, chainB HBx.out.2 hc1⟩
set_option maxRecDepth 20000 in
set_option maxHeartbeats 8000000 in
theorem plainNote_d0 (kind epoch vers next client : Int) (e : En) (life seq err : Int) (op : Opn) (w : World) (hE : eqNt ⟨kind, epoch, vers, next, client, e, life, seq, err, op⟩ (onlyF ⟨kind, epoch, vers, next, client, e, life, seq, err, op⟩) = true) (hK : kind ≠ 0) (h0 : ¬ numOk epoch) : Calls Try.prog 62 #[.agg #[.int .i64 kind, .int .i64 epoch, .int .i64 vers, .int .i64 next, .int .i64 client, .int .i64 e.d, .string e.nm, .bool e.neg, .int .i64 e.id, .int .i64 e.kind, .int .i64 e.mode, .string e.tg, .int .i64 life, .int .i64 seq, .int .i64 err, .int .i64 op.kind, .int .i64 op.dir, .string op.nm, .int .i64 op.dst, .string op.new, .int .i64 op.mode, .string op.tg]] w fun x w' => x = .returned (.bool false) ∧ Below w.heap.size w w' := by
  have hq0 := fun w' => neqNt w' ⟨kind, epoch, vers, next, client, e, life, seq, err, op⟩ (onlyF ⟨kind, epoch, vers, next, client, e, life, seq, err, op⟩)
  have hnm0 := fun w' => only_d ⟨kind, epoch, vers, next, client, e, life, seq, err, op⟩ w'
  rw [hE] at hq0
  obtain ⟨B, hB⟩ : ∃ B, (onlyF ⟨kind, epoch, vers, next, client, e, life, seq, err, op⟩).arr = B := ⟨_, rfl⟩
  rw [hB] at hq0
  simp only [hB] at hnm0
  obtain ⟨A, hA⟩ : ∃ A, (#[.int .i64 kind, .int .i64 epoch, .int .i64 vers, .int .i64 next, .int .i64 client, .int .i64 e.d, .string e.nm, .bool e.neg, .int .i64 e.id, .int .i64 e.kind, .int .i64 e.mode, .string e.tg, .int .i64 life, .int .i64 seq, .int .i64 err, .int .i64 op.kind, .int .i64 op.dir, .string op.nm, .int .i64 op.dst, .string op.new, .int .i64 op.mode, .string op.tg] : Array Value) = A := ⟨_, rfl⟩
  have hq : ∀ w', (binOp .neq 48 (.agg A) (.agg B)).run Try.prog w' = .ok (.bool false) w' := by rw [← hA]; exact hq0
  have HNm : Hid (∀ w', Calls Try.prog 85 #[.agg A] w' fun x w2 => x = .returned (.agg B) ∧ Below w'.heap.size w' w2) := by rw [← hA]; exact hnm0
  obtain ⟨W, hW⟩ : ∃ W, w.alloc (.cells A 48) = W := ⟨_, rfl⟩
  have hb := boxB hW
  have HBx : Hid (W.heap[w.heap.size]? = some (.cells #[.int .i64 kind, .int .i64 epoch, .int .i64 vers, .int .i64 next, .int .i64 client, .int .i64 e.d, .string e.nm, .bool e.neg, .int .i64 e.id, .int .i64 e.kind, .int .i64 e.mode, .string e.tg, .int .i64 life, .int .i64 seq, .int .i64 err, .int .i64 op.kind, .int .i64 op.dir, .string op.nm, .int .i64 op.dst, .string op.new, .int .i64 op.mode, .string op.tg] 48 (0, 0)) ∧ Below w.heap.size w W) := by rw [hA]; exact hb
  have HS : Hid (∀ w', Below W.heap.size W w' → (noteS (.pointer (some ⟨w.heap.size, 0, none⟩))).run Try.prog w' = .ok (.agg A) w' ∧ w'.cell? ⟨w.heap.size, 0, none⟩ = some (.int .i64 kind) ∧ w'.cell? ⟨w.heap.size, 1, none⟩ = some (.int .i64 epoch) ∧ w'.cell? ⟨w.heap.size, 2, none⟩ = some (.int .i64 vers) ∧ w'.cell? ⟨w.heap.size, 3, none⟩ = some (.int .i64 next) ∧ w'.cell? ⟨w.heap.size, 4, none⟩ = some (.int .i64 client) ∧ w'.cell? ⟨w.heap.size, 12, none⟩ = some (.int .i64 life) ∧ w'.cell? ⟨w.heap.size, 13, none⟩ = some (.int .i64 seq) ∧ w'.cell? ⟨w.heap.size, 14, none⟩ = some (.int .i64 err)) := fun w' h' => by
    have n1 := hkeep HBx.out.1 h'
    have n2 := n1
    rw [hA] at n2
    refine ⟨noteS_of n2 (by rw [← hA]; rfl), by have y := cell_of n1 0; simpa using y, by have y := cell_of n1 1; simpa using y, by have y := cell_of n1 2; simpa using y, by have y := cell_of n1 3; simpa using y, by have y := cell_of n1 4; simpa using y, by have y := cell_of n1 12; simpa using y, by have y := cell_of n1 13; simpa using y, by have y := cell_of n1 14; simpa using y⟩
  rw [hA]
  clear hA hB hq0 hnm0 hE hb
  have HBad : Hid (∀ v W, Calls Try.prog 72 #[.int .i64 v] W fun e w' => e = .returned (.bool (!decide (numOk v))) ∧ W = w') := bad_d
  have hKb : (kind == 0) = false := by simpa using hK
  have e0 : decide (numOk epoch) = false := decide_eq_false h0
  go_enter Try.func62, Try.ntmps62
  go_upto_region 1 with fail
  clear hW
  have k0 := HS.out W.drew (Below.refl _ _).drew
  refine wp_region_held_drew (S := fun w' => (noteS (.pointer (some ⟨w.heap.size, 0, none⟩))).run Try.prog w' = .ok (.agg A) w' ∧ w'.cell? ⟨w.heap.size, 0, none⟩ = some (.int .i64 kind) ∧ w'.cell? ⟨w.heap.size, 1, none⟩ = some (.int .i64 epoch) ∧ w'.cell? ⟨w.heap.size, 2, none⟩ = some (.int .i64 vers) ∧ w'.cell? ⟨w.heap.size, 3, none⟩ = some (.int .i64 next) ∧ w'.cell? ⟨w.heap.size, 4, none⟩ = some (.int .i64 client) ∧ w'.cell? ⟨w.heap.size, 12, none⟩ = some (.int .i64 life) ∧ w'.cell? ⟨w.heap.size, 13, none⟩ = some (.int .i64 seq) ∧ w'.cell? ⟨w.heap.size, 14, none⟩ = some (.int .i64 err)) (by kernel_rfl) k0 (fun hHeld => ?_)
  refine tky 0 (some 3) rfl rfl ⟨?v0, fun w hSw => ?a0, fun _ _ _ h => h, ?b0⟩
  case a0 => (try dsimp only at hSw); go_simp; (try rfl)
  try simp only [Act.put, List.setIfInBounds_toArray, List.set_cons_zero, List.set_cons_succ]
  refine tky 1 (some 4) rfl rfl ⟨?v1, fun w hSw => ?a1, fun _ _ _ h => h, ?b1⟩
  case a1 => (try dsimp only at hSw); go_simp; (try rfl)
  try simp only [Act.put, List.setIfInBounds_toArray, List.set_cons_zero, List.set_cons_succ]
  refine wpAnyH_ready (rs := [2]) (by kernel_rfl) (by simp) ?_
  refine AllReadyH.cons rfl (fun K hK => ?_) AllReadyH.nil
  go_simp
  go_at_call 85
  refine (HNm.out _).mono ?_
  rintro x w1 ⟨rfl, hb1⟩
  have hc1 := chainB (Below.refl W.heap.size W).drew hb1
  have k1 := HS.out w1 hc1
  refine hK.out _ _ k1 (fun hHeld => ?_)
  clear hK K
  try simp only [Act.put, List.setIfInBounds_toArray, List.set_cons_zero, List.set_cons_succ]
  refine tky 3 (some 6) rfl rfl ⟨.bool false, fun w hSw => ?a3, fun _ _ _ h => h, ?b3⟩
  case a3 => (try dsimp only at hSw); go_simp; (try rfl)
  try simp only [Act.put, List.setIfInBounds_toArray, List.set_cons_zero, List.set_cons_succ]
  refine tky 4 (some 7) rfl rfl ⟨?v4, fun w hSw => ?a4, fun _ _ _ h => h, ?b4⟩
  case a4 => (try dsimp only at hSw); go_simp; (try rfl)
  try simp only [Act.put, List.setIfInBounds_toArray, List.set_cons_zero, List.set_cons_succ]
  refine tky 5 (some 8) rfl rfl ⟨?v5, fun w hSw => ?a5, fun _ _ _ h => h, ?b5⟩
  case a5 => (try dsimp only at hSw); go_simp; (try rfl)
  try simp only [Act.put, List.setIfInBounds_toArray, List.set_cons_zero, List.set_cons_succ]
  refine tky 6 (some 9) rfl rfl ⟨?v6, fun w hSw => ?a6, fun _ _ _ h => h, ?b6⟩
  case a6 => (try dsimp only at hSw); go_simp; (try rfl)
  try simp only [Act.put, List.setIfInBounds_toArray, List.set_cons_zero, List.set_cons_succ]
  refine tky 7 (some 10) rfl rfl ⟨.bool false, fun w hSw => ?a7, fun _ _ _ h => h, ?b7⟩
  case a7 => (try dsimp only at hSw); go_simp; (try rfl)
  try simp only [Act.put, List.setIfInBounds_toArray, List.set_cons_zero, List.set_cons_succ]
  refine tky 8 (some 11) rfl rfl ⟨?v8, fun w hSw => ?a8, fun _ _ _ h => h, ?b8⟩
  case a8 => (try dsimp only at hSw); go_simp; (try rfl)
  try simp only [Act.put, List.setIfInBounds_toArray, List.set_cons_zero, List.set_cons_succ]
  refine tky 9 (some 12) rfl rfl ⟨?v9, fun w hSw => ?a9, fun _ _ _ h => h, ?b9⟩
  case a9 => (try dsimp only at hSw); go_simp; (try rfl)
  try simp only [Act.put, List.setIfInBounds_toArray, List.set_cons_zero, List.set_cons_succ]
  refine tky 10 (some 13) rfl rfl ⟨?v10, fun w hSw => ?a10, fun _ _ _ h => h, ?b10⟩
  case a10 => (try dsimp only at hSw); go_simp; (try rfl)
  try simp only [Act.put, List.setIfInBounds_toArray, List.set_cons_zero, List.set_cons_succ]
  refine tky 11 (some 14) rfl rfl ⟨?v11, fun w hSw => ?a11, fun _ _ _ h => h, ?b11⟩
  case a11 => (try dsimp only at hSw); go_simp; (try rfl)
  try simp only [Act.put, List.setIfInBounds_toArray, List.set_cons_zero, List.set_cons_succ]
  refine wpAnyH_ready (rs := [12]) (by kernel_rfl) (by simp) ?_
  refine AllReadyH.cons rfl (fun K hK => ?_) AllReadyH.nil
  go_simp
  go_at_call 72
  refine (HBad.out _ _).mono ?_
  rintro x w2 ⟨rfl, rfl⟩
  rw [e0]
  refine hK.out _ _ k1 (fun hHeld => ?_)
  clear hK K
  try simp only [Act.put, List.setIfInBounds_toArray, List.set_cons_zero, List.set_cons_succ]
  refine tky 13 (some 16) rfl rfl ⟨?v13, fun w hSw => ?a13, fun _ _ _ h => h, ?b13⟩
  case a13 => (try dsimp only at hSw); go_simp; (try rfl)
  try simp only [Act.put, List.setIfInBounds_toArray, List.set_cons_zero, List.set_cons_succ]
  refine tky 14 (some 17) rfl rfl ⟨?v14, fun w hSw => ?a14, fun _ _ _ h => h, ?b14⟩
  case a14 => (try dsimp only at hSw); go_simp; (try rfl)
  try simp only [Act.put, List.setIfInBounds_toArray, List.set_cons_zero, List.set_cons_succ]
  refine tkn 15 (some 18) rfl rfl ?_
  try simp only [Act.put, List.setIfInBounds_toArray, List.set_cons_zero, List.set_cons_succ]
  refine tkn 16 (some 19) rfl rfl ?_
  try simp only [Act.put, List.setIfInBounds_toArray, List.set_cons_zero, List.set_cons_succ]
  refine tkn 17 (some 20) rfl rfl ?_
  try simp only [Act.put, List.setIfInBounds_toArray, List.set_cons_zero, List.set_cons_succ]
  refine tky 18 (some 21) rfl rfl ⟨?v18, fun w hSw => ?a18, fun _ _ _ h => h, ?b18⟩
  case a18 => (try dsimp only at hSw); go_simp; (try rfl)
  try simp only [Act.put, List.setIfInBounds_toArray, List.set_cons_zero, List.set_cons_succ]
  refine tky 19 (some 22) rfl rfl ⟨?v19, fun w hSw => ?a19, fun _ _ _ h => h, ?b19⟩
  case a19 => (try dsimp only at hSw); go_simp; (try rfl)
  try simp only [Act.put, List.setIfInBounds_toArray, List.set_cons_zero, List.set_cons_succ]
  refine tkn 20 (some 23) rfl rfl ?_
  try simp only [Act.put, List.setIfInBounds_toArray, List.set_cons_zero, List.set_cons_succ]
  refine tkn 21 (some 24) rfl rfl ?_
  try simp only [Act.put, List.setIfInBounds_toArray, List.set_cons_zero, List.set_cons_succ]
  refine tkn 22 (some 25) rfl rfl ?_
  try simp only [Act.put, List.setIfInBounds_toArray, List.set_cons_zero, List.set_cons_succ]
  refine tky 23 (some 26) rfl rfl ⟨?v23, fun w hSw => ?a23, fun _ _ _ h => h, ?b23⟩
  case a23 => (try dsimp only at hSw); go_simp; (try rfl)
  try simp only [Act.put, List.setIfInBounds_toArray, List.set_cons_zero, List.set_cons_succ]
  refine tky 24 (some 27) rfl rfl ⟨?v24, fun w hSw => ?a24, fun _ _ _ h => h, ?b24⟩
  case a24 => (try dsimp only at hSw); go_simp; (try rfl)
  try simp only [Act.put, List.setIfInBounds_toArray, List.set_cons_zero, List.set_cons_succ]
  refine tkn 25 (some 28) rfl rfl ?_
  try simp only [Act.put, List.setIfInBounds_toArray, List.set_cons_zero, List.set_cons_succ]
  refine tkn 26 (some 29) rfl rfl ?_
  try simp only [Act.put, List.setIfInBounds_toArray, List.set_cons_zero, List.set_cons_succ]
  refine tkn 27 (some 30) rfl rfl ?_
  try simp only [Act.put, List.setIfInBounds_toArray, List.set_cons_zero, List.set_cons_succ]
  refine tky 28 (some 31) rfl rfl ⟨?v28, fun w hSw => ?a28, fun _ _ _ h => h, ?b28⟩
  case a28 => (try dsimp only at hSw); go_simp; (try rfl)
  try simp only [Act.put, List.setIfInBounds_toArray, List.set_cons_zero, List.set_cons_succ]
  refine tky 29 (some 32) rfl rfl ⟨?v29, fun w hSw => ?a29, fun _ _ _ h => h, ?b29⟩
  case a29 => (try dsimp only at hSw); go_simp; (try rfl)
  try simp only [Act.put, List.setIfInBounds_toArray, List.set_cons_zero, List.set_cons_succ]
  refine tkn 30 (some 33) rfl rfl ?_
  try simp only [Act.put, List.setIfInBounds_toArray, List.set_cons_zero, List.set_cons_succ]
  refine tkn 31 (some 34) rfl rfl ?_
  try simp only [Act.put, List.setIfInBounds_toArray, List.set_cons_zero, List.set_cons_succ]
  refine tkn 32 (some 35) rfl rfl ?_
  try simp only [Act.put, List.setIfInBounds_toArray, List.set_cons_zero, List.set_cons_succ]
  refine tkn 33 (some 36) rfl rfl ?_
  try simp only [Act.put, List.setIfInBounds_toArray, List.set_cons_zero, List.set_cons_succ]
  refine tky 34 (some 37) rfl rfl ⟨?v34, fun w hSw => ?a34, fun _ _ _ h => h, ?b34⟩
  case a34 => (try dsimp only at hSw); go_simp; (try rfl)
  try simp only [Act.put, List.setIfInBounds_toArray, List.set_cons_zero, List.set_cons_succ]
  refine tky 35 (some 38) rfl rfl ⟨?v35, fun w hSw => ?a35, fun _ _ _ h => h, ?b35⟩
  case a35 => (try dsimp only at hSw); go_simp; (try rfl)
  try simp only [Act.put, List.setIfInBounds_toArray, List.set_cons_zero, List.set_cons_succ]
  refine tkn 36 (some 39) rfl rfl ?_
  try simp only [Act.put, List.setIfInBounds_toArray, List.set_cons_zero, List.set_cons_succ]
  refine tkn 37 (some 40) rfl rfl ?_
  try simp only [Act.put, List.setIfInBounds_toArray, List.set_cons_zero, List.set_cons_succ]
  refine tkn 38 (some 41) rfl rfl ?_
  try simp only [Act.put, List.setIfInBounds_toArray, List.set_cons_zero, List.set_cons_succ]
  refine tkn 39 (some 42) rfl rfl ?_
  try simp only [Act.put, List.setIfInBounds_toArray, List.set_cons_zero, List.set_cons_succ]
  refine tky 40 (some 43) rfl rfl ⟨?v40, fun w hSw => ?a40, fun _ _ _ h => h, ?b40⟩
  case a40 => (try dsimp only at hSw); go_simp; (try rfl)
  try simp only [Act.put, List.setIfInBounds_toArray, List.set_cons_zero, List.set_cons_succ]
  refine tky 41 (some 44) rfl rfl ⟨?v41, fun w hSw => ?a41, fun _ _ _ h => h, ?b41⟩
  case a41 => (try dsimp only at hSw); go_simp; (try rfl)
  try simp only [Act.put, List.setIfInBounds_toArray, List.set_cons_zero, List.set_cons_succ]
  refine tkn 42 (some 45) rfl rfl ?_
  try simp only [Act.put, List.setIfInBounds_toArray, List.set_cons_zero, List.set_cons_succ]
  refine tkn 43 (some 46) rfl rfl ?_
  try simp only [Act.put, List.setIfInBounds_toArray, List.set_cons_zero, List.set_cons_succ]
  refine tkn 44 (some 47) rfl rfl ?_
  try simp only [Act.put, List.setIfInBounds_toArray, List.set_cons_zero, List.set_cons_succ]
  refine tkn 45 (some 48) rfl rfl ?_
  try simp only [Act.put, List.setIfInBounds_toArray, List.set_cons_zero, List.set_cons_succ]
  refine tky 46 (some 49) rfl rfl ⟨?v46, fun w hSw => ?a46, fun _ _ _ h => h, ?b46⟩
  case a46 => (try dsimp only at hSw); go_simp; (try rfl)
  try simp only [Act.put, List.setIfInBounds_toArray, List.set_cons_zero, List.set_cons_succ]
  refine wpAnyH_done (by kernel_rfl) ?_ _
  go_wp2
  go_ret
  exact ⟨rfl, chainB HBx.out.2 hc1⟩
set_option maxRecDepth 20000 in
set_option maxHeartbeats 8000000 in
theorem plainNote_d1 (kind epoch vers next client : Int) (e : En) (life seq err : Int) (op : Opn) (w : World) (hE : eqNt ⟨kind, epoch, vers, next, client, e, life, seq, err, op⟩ (onlyF ⟨kind, epoch, vers, next, client, e, life, seq, err, op⟩) = true) (hK : kind ≠ 0) (h0 : numOk epoch) (h1 : ¬ numOk vers) : Calls Try.prog 62 #[.agg #[.int .i64 kind, .int .i64 epoch, .int .i64 vers, .int .i64 next, .int .i64 client, .int .i64 e.d, .string e.nm, .bool e.neg, .int .i64 e.id, .int .i64 e.kind, .int .i64 e.mode, .string e.tg, .int .i64 life, .int .i64 seq, .int .i64 err, .int .i64 op.kind, .int .i64 op.dir, .string op.nm, .int .i64 op.dst, .string op.new, .int .i64 op.mode, .string op.tg]] w fun x w' => x = .returned (.bool false) ∧ Below w.heap.size w w' := by
  have hq0 := fun w' => neqNt w' ⟨kind, epoch, vers, next, client, e, life, seq, err, op⟩ (onlyF ⟨kind, epoch, vers, next, client, e, life, seq, err, op⟩)
  have hnm0 := fun w' => only_d ⟨kind, epoch, vers, next, client, e, life, seq, err, op⟩ w'
  rw [hE] at hq0
  obtain ⟨B, hB⟩ : ∃ B, (onlyF ⟨kind, epoch, vers, next, client, e, life, seq, err, op⟩).arr = B := ⟨_, rfl⟩
  rw [hB] at hq0
  simp only [hB] at hnm0
  obtain ⟨A, hA⟩ : ∃ A, (#[.int .i64 kind, .int .i64 epoch, .int .i64 vers, .int .i64 next, .int .i64 client, .int .i64 e.d, .string e.nm, .bool e.neg, .int .i64 e.id, .int .i64 e.kind, .int .i64 e.mode, .string e.tg, .int .i64 life, .int .i64 seq, .int .i64 err, .int .i64 op.kind, .int .i64 op.dir, .string op.nm, .int .i64 op.dst, .string op.new, .int .i64 op.mode, .string op.tg] : Array Value) = A := ⟨_, rfl⟩
  have hq : ∀ w', (binOp .neq 48 (.agg A) (.agg B)).run Try.prog w' = .ok (.bool false) w' := by rw [← hA]; exact hq0
  have HNm : Hid (∀ w', Calls Try.prog 85 #[.agg A] w' fun x w2 => x = .returned (.agg B) ∧ Below w'.heap.size w' w2) := by rw [← hA]; exact hnm0
  obtain ⟨W, hW⟩ : ∃ W, w.alloc (.cells A 48) = W := ⟨_, rfl⟩
  have hb := boxB hW
  have HBx : Hid (W.heap[w.heap.size]? = some (.cells #[.int .i64 kind, .int .i64 epoch, .int .i64 vers, .int .i64 next, .int .i64 client, .int .i64 e.d, .string e.nm, .bool e.neg, .int .i64 e.id, .int .i64 e.kind, .int .i64 e.mode, .string e.tg, .int .i64 life, .int .i64 seq, .int .i64 err, .int .i64 op.kind, .int .i64 op.dir, .string op.nm, .int .i64 op.dst, .string op.new, .int .i64 op.mode, .string op.tg] 48 (0, 0)) ∧ Below w.heap.size w W) := by rw [hA]; exact hb
  have HS : Hid (∀ w', Below W.heap.size W w' → (noteS (.pointer (some ⟨w.heap.size, 0, none⟩))).run Try.prog w' = .ok (.agg A) w' ∧ w'.cell? ⟨w.heap.size, 0, none⟩ = some (.int .i64 kind) ∧ w'.cell? ⟨w.heap.size, 1, none⟩ = some (.int .i64 epoch) ∧ w'.cell? ⟨w.heap.size, 2, none⟩ = some (.int .i64 vers) ∧ w'.cell? ⟨w.heap.size, 3, none⟩ = some (.int .i64 next) ∧ w'.cell? ⟨w.heap.size, 4, none⟩ = some (.int .i64 client) ∧ w'.cell? ⟨w.heap.size, 12, none⟩ = some (.int .i64 life) ∧ w'.cell? ⟨w.heap.size, 13, none⟩ = some (.int .i64 seq) ∧ w'.cell? ⟨w.heap.size, 14, none⟩ = some (.int .i64 err)) := fun w' h' => by
    have n1 := hkeep HBx.out.1 h'
    have n2 := n1
    rw [hA] at n2
    refine ⟨noteS_of n2 (by rw [← hA]; rfl), by have y := cell_of n1 0; simpa using y, by have y := cell_of n1 1; simpa using y, by have y := cell_of n1 2; simpa using y, by have y := cell_of n1 3; simpa using y, by have y := cell_of n1 4; simpa using y, by have y := cell_of n1 12; simpa using y, by have y := cell_of n1 13; simpa using y, by have y := cell_of n1 14; simpa using y⟩
  rw [hA]
  clear hA hB hq0 hnm0 hE hb
  have HBad : Hid (∀ v W, Calls Try.prog 72 #[.int .i64 v] W fun e w' => e = .returned (.bool (!decide (numOk v))) ∧ W = w') := bad_d
  have hKb : (kind == 0) = false := by simpa using hK
  have e0 : decide (numOk epoch) = true := decide_eq_true h0
  have e1 : decide (numOk vers) = false := decide_eq_false h1
  go_enter Try.func62, Try.ntmps62
  go_upto_region 1 with fail
  clear hW
  have k0 := HS.out W.drew (Below.refl _ _).drew
  refine wp_region_held_drew (S := fun w' => (noteS (.pointer (some ⟨w.heap.size, 0, none⟩))).run Try.prog w' = .ok (.agg A) w' ∧ w'.cell? ⟨w.heap.size, 0, none⟩ = some (.int .i64 kind) ∧ w'.cell? ⟨w.heap.size, 1, none⟩ = some (.int .i64 epoch) ∧ w'.cell? ⟨w.heap.size, 2, none⟩ = some (.int .i64 vers) ∧ w'.cell? ⟨w.heap.size, 3, none⟩ = some (.int .i64 next) ∧ w'.cell? ⟨w.heap.size, 4, none⟩ = some (.int .i64 client) ∧ w'.cell? ⟨w.heap.size, 12, none⟩ = some (.int .i64 life) ∧ w'.cell? ⟨w.heap.size, 13, none⟩ = some (.int .i64 seq) ∧ w'.cell? ⟨w.heap.size, 14, none⟩ = some (.int .i64 err)) (by kernel_rfl) k0 (fun hHeld => ?_)
  refine tky 0 (some 3) rfl rfl ⟨?v0, fun w hSw => ?a0, fun _ _ _ h => h, ?b0⟩
  case a0 => (try dsimp only at hSw); go_simp; (try rfl)
  try simp only [Act.put, List.setIfInBounds_toArray, List.set_cons_zero, List.set_cons_succ]
  refine tky 1 (some 4) rfl rfl ⟨?v1, fun w hSw => ?a1, fun _ _ _ h => h, ?b1⟩
  case a1 => (try dsimp only at hSw); go_simp; (try rfl)
  try simp only [Act.put, List.setIfInBounds_toArray, List.set_cons_zero, List.set_cons_succ]
  refine wpAnyH_ready (rs := [2]) (by kernel_rfl) (by simp) ?_
  refine AllReadyH.cons rfl (fun K hK => ?_) AllReadyH.nil
  go_simp
  go_at_call 85
  refine (HNm.out _).mono ?_
  rintro x w1 ⟨rfl, hb1⟩
  have hc1 := chainB (Below.refl W.heap.size W).drew hb1
  have k1 := HS.out w1 hc1
  refine hK.out _ _ k1 (fun hHeld => ?_)
  clear hK K
  try simp only [Act.put, List.setIfInBounds_toArray, List.set_cons_zero, List.set_cons_succ]
  refine tky 3 (some 6) rfl rfl ⟨.bool false, fun w hSw => ?a3, fun _ _ _ h => h, ?b3⟩
  case a3 => (try dsimp only at hSw); go_simp; (try rfl)
  try simp only [Act.put, List.setIfInBounds_toArray, List.set_cons_zero, List.set_cons_succ]
  refine tky 4 (some 7) rfl rfl ⟨?v4, fun w hSw => ?a4, fun _ _ _ h => h, ?b4⟩
  case a4 => (try dsimp only at hSw); go_simp; (try rfl)
  try simp only [Act.put, List.setIfInBounds_toArray, List.set_cons_zero, List.set_cons_succ]
  refine tky 5 (some 8) rfl rfl ⟨?v5, fun w hSw => ?a5, fun _ _ _ h => h, ?b5⟩
  case a5 => (try dsimp only at hSw); go_simp; (try rfl)
  try simp only [Act.put, List.setIfInBounds_toArray, List.set_cons_zero, List.set_cons_succ]
  refine tky 6 (some 9) rfl rfl ⟨?v6, fun w hSw => ?a6, fun _ _ _ h => h, ?b6⟩
  case a6 => (try dsimp only at hSw); go_simp; (try rfl)
  try simp only [Act.put, List.setIfInBounds_toArray, List.set_cons_zero, List.set_cons_succ]
  refine tky 7 (some 10) rfl rfl ⟨.bool false, fun w hSw => ?a7, fun _ _ _ h => h, ?b7⟩
  case a7 => (try dsimp only at hSw); go_simp; (try rfl)
  try simp only [Act.put, List.setIfInBounds_toArray, List.set_cons_zero, List.set_cons_succ]
  refine tky 8 (some 11) rfl rfl ⟨?v8, fun w hSw => ?a8, fun _ _ _ h => h, ?b8⟩
  case a8 => (try dsimp only at hSw); go_simp; (try rfl)
  try simp only [Act.put, List.setIfInBounds_toArray, List.set_cons_zero, List.set_cons_succ]
  refine tky 9 (some 12) rfl rfl ⟨?v9, fun w hSw => ?a9, fun _ _ _ h => h, ?b9⟩
  case a9 => (try dsimp only at hSw); go_simp; (try rfl)
  try simp only [Act.put, List.setIfInBounds_toArray, List.set_cons_zero, List.set_cons_succ]
  refine tky 10 (some 13) rfl rfl ⟨?v10, fun w hSw => ?a10, fun _ _ _ h => h, ?b10⟩
  case a10 => (try dsimp only at hSw); go_simp; (try rfl)
  try simp only [Act.put, List.setIfInBounds_toArray, List.set_cons_zero, List.set_cons_succ]
  refine tky 11 (some 14) rfl rfl ⟨?v11, fun w hSw => ?a11, fun _ _ _ h => h, ?b11⟩
  case a11 => (try dsimp only at hSw); go_simp; (try rfl)
  try simp only [Act.put, List.setIfInBounds_toArray, List.set_cons_zero, List.set_cons_succ]
  refine wpAnyH_ready (rs := [12]) (by kernel_rfl) (by simp) ?_
  refine AllReadyH.cons rfl (fun K hK => ?_) AllReadyH.nil
  go_simp
  go_at_call 72
  refine (HBad.out _ _).mono ?_
  rintro x w2 ⟨rfl, rfl⟩
  rw [e0]
  refine hK.out _ _ k1 (fun hHeld => ?_)
  clear hK K
  try simp only [Act.put, List.setIfInBounds_toArray, List.set_cons_zero, List.set_cons_succ]
  refine tky 13 (some 16) rfl rfl ⟨?v13, fun w hSw => ?a13, fun _ _ _ h => h, ?b13⟩
  case a13 => (try dsimp only at hSw); go_simp; (try rfl)
  try simp only [Act.put, List.setIfInBounds_toArray, List.set_cons_zero, List.set_cons_succ]
  refine tky 14 (some 17) rfl rfl ⟨?v14, fun w hSw => ?a14, fun _ _ _ h => h, ?b14⟩
  case a14 => (try dsimp only at hSw); go_simp; (try rfl)
  try simp only [Act.put, List.setIfInBounds_toArray, List.set_cons_zero, List.set_cons_succ]
  refine tky 15 (some 18) rfl rfl ⟨?v15, fun w hSw => ?a15, fun _ _ _ h => h, ?b15⟩
  case a15 => (try dsimp only at hSw); go_simp; (try rfl)
  try simp only [Act.put, List.setIfInBounds_toArray, List.set_cons_zero, List.set_cons_succ]
  refine tky 16 (some 19) rfl rfl ⟨?v16, fun w hSw => ?a16, fun _ _ _ h => h, ?b16⟩
  case a16 => (try dsimp only at hSw); go_simp; (try rfl)
  try simp only [Act.put, List.setIfInBounds_toArray, List.set_cons_zero, List.set_cons_succ]
  refine wpAnyH_ready (rs := [17]) (by kernel_rfl) (by simp) ?_
  refine AllReadyH.cons rfl (fun K hK => ?_) AllReadyH.nil
  go_simp
  go_at_call 72
  refine (HBad.out _ _).mono ?_
  rintro x w2 ⟨rfl, rfl⟩
  rw [e1]
  refine hK.out _ _ k1 (fun hHeld => ?_)
  clear hK K
  try simp only [Act.put, List.setIfInBounds_toArray, List.set_cons_zero, List.set_cons_succ]
  refine tky 18 (some 21) rfl rfl ⟨?v18, fun w hSw => ?a18, fun _ _ _ h => h, ?b18⟩
  case a18 => (try dsimp only at hSw); go_simp; (try rfl)
  try simp only [Act.put, List.setIfInBounds_toArray, List.set_cons_zero, List.set_cons_succ]
  refine tky 19 (some 22) rfl rfl ⟨?v19, fun w hSw => ?a19, fun _ _ _ h => h, ?b19⟩
  case a19 => (try dsimp only at hSw); go_simp; (try rfl)
  try simp only [Act.put, List.setIfInBounds_toArray, List.set_cons_zero, List.set_cons_succ]
  refine tkn 20 (some 23) rfl rfl ?_
  try simp only [Act.put, List.setIfInBounds_toArray, List.set_cons_zero, List.set_cons_succ]
  refine tkn 21 (some 24) rfl rfl ?_
  try simp only [Act.put, List.setIfInBounds_toArray, List.set_cons_zero, List.set_cons_succ]
  refine tkn 22 (some 25) rfl rfl ?_
  try simp only [Act.put, List.setIfInBounds_toArray, List.set_cons_zero, List.set_cons_succ]
  refine tky 23 (some 26) rfl rfl ⟨?v23, fun w hSw => ?a23, fun _ _ _ h => h, ?b23⟩
  case a23 => (try dsimp only at hSw); go_simp; (try rfl)
  try simp only [Act.put, List.setIfInBounds_toArray, List.set_cons_zero, List.set_cons_succ]
  refine tky 24 (some 27) rfl rfl ⟨?v24, fun w hSw => ?a24, fun _ _ _ h => h, ?b24⟩
  case a24 => (try dsimp only at hSw); go_simp; (try rfl)
  try simp only [Act.put, List.setIfInBounds_toArray, List.set_cons_zero, List.set_cons_succ]
  refine tkn 25 (some 28) rfl rfl ?_
  try simp only [Act.put, List.setIfInBounds_toArray, List.set_cons_zero, List.set_cons_succ]
  refine tkn 26 (some 29) rfl rfl ?_
  try simp only [Act.put, List.setIfInBounds_toArray, List.set_cons_zero, List.set_cons_succ]
  refine tkn 27 (some 30) rfl rfl ?_
  try simp only [Act.put, List.setIfInBounds_toArray, List.set_cons_zero, List.set_cons_succ]
  refine tky 28 (some 31) rfl rfl ⟨?v28, fun w hSw => ?a28, fun _ _ _ h => h, ?b28⟩
  case a28 => (try dsimp only at hSw); go_simp; (try rfl)
  try simp only [Act.put, List.setIfInBounds_toArray, List.set_cons_zero, List.set_cons_succ]
  refine tky 29 (some 32) rfl rfl ⟨?v29, fun w hSw => ?a29, fun _ _ _ h => h, ?b29⟩
  case a29 => (try dsimp only at hSw); go_simp; (try rfl)
  try simp only [Act.put, List.setIfInBounds_toArray, List.set_cons_zero, List.set_cons_succ]
  refine tkn 30 (some 33) rfl rfl ?_
  try simp only [Act.put, List.setIfInBounds_toArray, List.set_cons_zero, List.set_cons_succ]
  refine tkn 31 (some 34) rfl rfl ?_
  try simp only [Act.put, List.setIfInBounds_toArray, List.set_cons_zero, List.set_cons_succ]
  refine tkn 32 (some 35) rfl rfl ?_
  try simp only [Act.put, List.setIfInBounds_toArray, List.set_cons_zero, List.set_cons_succ]
  refine tkn 33 (some 36) rfl rfl ?_
  try simp only [Act.put, List.setIfInBounds_toArray, List.set_cons_zero, List.set_cons_succ]
  refine tky 34 (some 37) rfl rfl ⟨?v34, fun w hSw => ?a34, fun _ _ _ h => h, ?b34⟩
  case a34 => (try dsimp only at hSw); go_simp; (try rfl)
  try simp only [Act.put, List.setIfInBounds_toArray, List.set_cons_zero, List.set_cons_succ]
  refine tky 35 (some 38) rfl rfl ⟨?v35, fun w hSw => ?a35, fun _ _ _ h => h, ?b35⟩
  case a35 => (try dsimp only at hSw); go_simp; (try rfl)
  try simp only [Act.put, List.setIfInBounds_toArray, List.set_cons_zero, List.set_cons_succ]
  refine tkn 36 (some 39) rfl rfl ?_
  try simp only [Act.put, List.setIfInBounds_toArray, List.set_cons_zero, List.set_cons_succ]
  refine tkn 37 (some 40) rfl rfl ?_
  try simp only [Act.put, List.setIfInBounds_toArray, List.set_cons_zero, List.set_cons_succ]
  refine tkn 38 (some 41) rfl rfl ?_
  try simp only [Act.put, List.setIfInBounds_toArray, List.set_cons_zero, List.set_cons_succ]
  refine tkn 39 (some 42) rfl rfl ?_
  try simp only [Act.put, List.setIfInBounds_toArray, List.set_cons_zero, List.set_cons_succ]
  refine tky 40 (some 43) rfl rfl ⟨?v40, fun w hSw => ?a40, fun _ _ _ h => h, ?b40⟩
  case a40 => (try dsimp only at hSw); go_simp; (try rfl)
  try simp only [Act.put, List.setIfInBounds_toArray, List.set_cons_zero, List.set_cons_succ]
  refine tky 41 (some 44) rfl rfl ⟨?v41, fun w hSw => ?a41, fun _ _ _ h => h, ?b41⟩
  case a41 => (try dsimp only at hSw); go_simp; (try rfl)
  try simp only [Act.put, List.setIfInBounds_toArray, List.set_cons_zero, List.set_cons_succ]
  refine tkn 42 (some 45) rfl rfl ?_
  try simp only [Act.put, List.setIfInBounds_toArray, List.set_cons_zero, List.set_cons_succ]
  refine tkn 43 (some 46) rfl rfl ?_
  try simp only [Act.put, List.setIfInBounds_toArray, List.set_cons_zero, List.set_cons_succ]
  refine tkn 44 (some 47) rfl rfl ?_
  try simp only [Act.put, List.setIfInBounds_toArray, List.set_cons_zero, List.set_cons_succ]
  refine tkn 45 (some 48) rfl rfl ?_
  try simp only [Act.put, List.setIfInBounds_toArray, List.set_cons_zero, List.set_cons_succ]
  refine tky 46 (some 49) rfl rfl ⟨?v46, fun w hSw => ?a46, fun _ _ _ h => h, ?b46⟩
  case a46 => (try dsimp only at hSw); go_simp; (try rfl)
  try simp only [Act.put, List.setIfInBounds_toArray, List.set_cons_zero, List.set_cons_succ]
  refine wpAnyH_done (by kernel_rfl) ?_ _
  go_wp2
  go_ret
  exact ⟨rfl, chainB HBx.out.2 hc1⟩
set_option maxRecDepth 20000 in
set_option maxHeartbeats 8000000 in
theorem plainNote_d2 (kind epoch vers next client : Int) (e : En) (life seq err : Int) (op : Opn) (w : World) (hE : eqNt ⟨kind, epoch, vers, next, client, e, life, seq, err, op⟩ (onlyF ⟨kind, epoch, vers, next, client, e, life, seq, err, op⟩) = true) (hK : kind ≠ 0) (h0 : numOk epoch) (h1 : numOk vers) (h2 : ¬ numOk next) : Calls Try.prog 62 #[.agg #[.int .i64 kind, .int .i64 epoch, .int .i64 vers, .int .i64 next, .int .i64 client, .int .i64 e.d, .string e.nm, .bool e.neg, .int .i64 e.id, .int .i64 e.kind, .int .i64 e.mode, .string e.tg, .int .i64 life, .int .i64 seq, .int .i64 err, .int .i64 op.kind, .int .i64 op.dir, .string op.nm, .int .i64 op.dst, .string op.new, .int .i64 op.mode, .string op.tg]] w fun x w' => x = .returned (.bool false) ∧ Below w.heap.size w w' := by
  have hq0 := fun w' => neqNt w' ⟨kind, epoch, vers, next, client, e, life, seq, err, op⟩ (onlyF ⟨kind, epoch, vers, next, client, e, life, seq, err, op⟩)
  have hnm0 := fun w' => only_d ⟨kind, epoch, vers, next, client, e, life, seq, err, op⟩ w'
  rw [hE] at hq0
  obtain ⟨B, hB⟩ : ∃ B, (onlyF ⟨kind, epoch, vers, next, client, e, life, seq, err, op⟩).arr = B := ⟨_, rfl⟩
  rw [hB] at hq0
  simp only [hB] at hnm0
  obtain ⟨A, hA⟩ : ∃ A, (#[.int .i64 kind, .int .i64 epoch, .int .i64 vers, .int .i64 next, .int .i64 client, .int .i64 e.d, .string e.nm, .bool e.neg, .int .i64 e.id, .int .i64 e.kind, .int .i64 e.mode, .string e.tg, .int .i64 life, .int .i64 seq, .int .i64 err, .int .i64 op.kind, .int .i64 op.dir, .string op.nm, .int .i64 op.dst, .string op.new, .int .i64 op.mode, .string op.tg] : Array Value) = A := ⟨_, rfl⟩
  have hq : ∀ w', (binOp .neq 48 (.agg A) (.agg B)).run Try.prog w' = .ok (.bool false) w' := by rw [← hA]; exact hq0
  have HNm : Hid (∀ w', Calls Try.prog 85 #[.agg A] w' fun x w2 => x = .returned (.agg B) ∧ Below w'.heap.size w' w2) := by rw [← hA]; exact hnm0
  obtain ⟨W, hW⟩ : ∃ W, w.alloc (.cells A 48) = W := ⟨_, rfl⟩
  have hb := boxB hW
  have HBx : Hid (W.heap[w.heap.size]? = some (.cells #[.int .i64 kind, .int .i64 epoch, .int .i64 vers, .int .i64 next, .int .i64 client, .int .i64 e.d, .string e.nm, .bool e.neg, .int .i64 e.id, .int .i64 e.kind, .int .i64 e.mode, .string e.tg, .int .i64 life, .int .i64 seq, .int .i64 err, .int .i64 op.kind, .int .i64 op.dir, .string op.nm, .int .i64 op.dst, .string op.new, .int .i64 op.mode, .string op.tg] 48 (0, 0)) ∧ Below w.heap.size w W) := by rw [hA]; exact hb
  have HS : Hid (∀ w', Below W.heap.size W w' → (noteS (.pointer (some ⟨w.heap.size, 0, none⟩))).run Try.prog w' = .ok (.agg A) w' ∧ w'.cell? ⟨w.heap.size, 0, none⟩ = some (.int .i64 kind) ∧ w'.cell? ⟨w.heap.size, 1, none⟩ = some (.int .i64 epoch) ∧ w'.cell? ⟨w.heap.size, 2, none⟩ = some (.int .i64 vers) ∧ w'.cell? ⟨w.heap.size, 3, none⟩ = some (.int .i64 next) ∧ w'.cell? ⟨w.heap.size, 4, none⟩ = some (.int .i64 client) ∧ w'.cell? ⟨w.heap.size, 12, none⟩ = some (.int .i64 life) ∧ w'.cell? ⟨w.heap.size, 13, none⟩ = some (.int .i64 seq) ∧ w'.cell? ⟨w.heap.size, 14, none⟩ = some (.int .i64 err)) := fun w' h' => by
    have n1 := hkeep HBx.out.1 h'
    have n2 := n1
    rw [hA] at n2
    refine ⟨noteS_of n2 (by rw [← hA]; rfl), by have y := cell_of n1 0; simpa using y, by have y := cell_of n1 1; simpa using y, by have y := cell_of n1 2; simpa using y, by have y := cell_of n1 3; simpa using y, by have y := cell_of n1 4; simpa using y, by have y := cell_of n1 12; simpa using y, by have y := cell_of n1 13; simpa using y, by have y := cell_of n1 14; simpa using y⟩
  rw [hA]
  clear hA hB hq0 hnm0 hE hb
  have HBad : Hid (∀ v W, Calls Try.prog 72 #[.int .i64 v] W fun e w' => e = .returned (.bool (!decide (numOk v))) ∧ W = w') := bad_d
  have hKb : (kind == 0) = false := by simpa using hK
  have e0 : decide (numOk epoch) = true := decide_eq_true h0
  have e1 : decide (numOk vers) = true := decide_eq_true h1
  have e2 : decide (numOk next) = false := decide_eq_false h2
  go_enter Try.func62, Try.ntmps62
  go_upto_region 1 with fail
  clear hW
  have k0 := HS.out W.drew (Below.refl _ _).drew
  refine wp_region_held_drew (S := fun w' => (noteS (.pointer (some ⟨w.heap.size, 0, none⟩))).run Try.prog w' = .ok (.agg A) w' ∧ w'.cell? ⟨w.heap.size, 0, none⟩ = some (.int .i64 kind) ∧ w'.cell? ⟨w.heap.size, 1, none⟩ = some (.int .i64 epoch) ∧ w'.cell? ⟨w.heap.size, 2, none⟩ = some (.int .i64 vers) ∧ w'.cell? ⟨w.heap.size, 3, none⟩ = some (.int .i64 next) ∧ w'.cell? ⟨w.heap.size, 4, none⟩ = some (.int .i64 client) ∧ w'.cell? ⟨w.heap.size, 12, none⟩ = some (.int .i64 life) ∧ w'.cell? ⟨w.heap.size, 13, none⟩ = some (.int .i64 seq) ∧ w'.cell? ⟨w.heap.size, 14, none⟩ = some (.int .i64 err)) (by kernel_rfl) k0 (fun hHeld => ?_)
  refine tky 0 (some 3) rfl rfl ⟨?v0, fun w hSw => ?a0, fun _ _ _ h => h, ?b0⟩
  case a0 => (try dsimp only at hSw); go_simp; (try rfl)
  try simp only [Act.put, List.setIfInBounds_toArray, List.set_cons_zero, List.set_cons_succ]
  refine tky 1 (some 4) rfl rfl ⟨?v1, fun w hSw => ?a1, fun _ _ _ h => h, ?b1⟩
  case a1 => (try dsimp only at hSw); go_simp; (try rfl)
  try simp only [Act.put, List.setIfInBounds_toArray, List.set_cons_zero, List.set_cons_succ]
  refine wpAnyH_ready (rs := [2]) (by kernel_rfl) (by simp) ?_
  refine AllReadyH.cons rfl (fun K hK => ?_) AllReadyH.nil
  go_simp
  go_at_call 85
  refine (HNm.out _).mono ?_
  rintro x w1 ⟨rfl, hb1⟩
  have hc1 := chainB (Below.refl W.heap.size W).drew hb1
  have k1 := HS.out w1 hc1
  refine hK.out _ _ k1 (fun hHeld => ?_)
  clear hK K
  try simp only [Act.put, List.setIfInBounds_toArray, List.set_cons_zero, List.set_cons_succ]
  refine tky 3 (some 6) rfl rfl ⟨.bool false, fun w hSw => ?a3, fun _ _ _ h => h, ?b3⟩
  case a3 => (try dsimp only at hSw); go_simp; (try rfl)
  try simp only [Act.put, List.setIfInBounds_toArray, List.set_cons_zero, List.set_cons_succ]
  refine tky 4 (some 7) rfl rfl ⟨?v4, fun w hSw => ?a4, fun _ _ _ h => h, ?b4⟩
  case a4 => (try dsimp only at hSw); go_simp; (try rfl)
  try simp only [Act.put, List.setIfInBounds_toArray, List.set_cons_zero, List.set_cons_succ]
  refine tky 5 (some 8) rfl rfl ⟨?v5, fun w hSw => ?a5, fun _ _ _ h => h, ?b5⟩
  case a5 => (try dsimp only at hSw); go_simp; (try rfl)
  try simp only [Act.put, List.setIfInBounds_toArray, List.set_cons_zero, List.set_cons_succ]
  refine tky 6 (some 9) rfl rfl ⟨?v6, fun w hSw => ?a6, fun _ _ _ h => h, ?b6⟩
  case a6 => (try dsimp only at hSw); go_simp; (try rfl)
  try simp only [Act.put, List.setIfInBounds_toArray, List.set_cons_zero, List.set_cons_succ]
  refine tky 7 (some 10) rfl rfl ⟨.bool false, fun w hSw => ?a7, fun _ _ _ h => h, ?b7⟩
  case a7 => (try dsimp only at hSw); go_simp; (try rfl)
  try simp only [Act.put, List.setIfInBounds_toArray, List.set_cons_zero, List.set_cons_succ]
  refine tky 8 (some 11) rfl rfl ⟨?v8, fun w hSw => ?a8, fun _ _ _ h => h, ?b8⟩
  case a8 => (try dsimp only at hSw); go_simp; (try rfl)
  try simp only [Act.put, List.setIfInBounds_toArray, List.set_cons_zero, List.set_cons_succ]
  refine tky 9 (some 12) rfl rfl ⟨?v9, fun w hSw => ?a9, fun _ _ _ h => h, ?b9⟩
  case a9 => (try dsimp only at hSw); go_simp; (try rfl)
  try simp only [Act.put, List.setIfInBounds_toArray, List.set_cons_zero, List.set_cons_succ]
  refine tky 10 (some 13) rfl rfl ⟨?v10, fun w hSw => ?a10, fun _ _ _ h => h, ?b10⟩
  case a10 => (try dsimp only at hSw); go_simp; (try rfl)
  try simp only [Act.put, List.setIfInBounds_toArray, List.set_cons_zero, List.set_cons_succ]
  refine tky 11 (some 14) rfl rfl ⟨?v11, fun w hSw => ?a11, fun _ _ _ h => h, ?b11⟩
  case a11 => (try dsimp only at hSw); go_simp; (try rfl)
  try simp only [Act.put, List.setIfInBounds_toArray, List.set_cons_zero, List.set_cons_succ]
  refine wpAnyH_ready (rs := [12]) (by kernel_rfl) (by simp) ?_
  refine AllReadyH.cons rfl (fun K hK => ?_) AllReadyH.nil
  go_simp
  go_at_call 72
  refine (HBad.out _ _).mono ?_
  rintro x w2 ⟨rfl, rfl⟩
  rw [e0]
  refine hK.out _ _ k1 (fun hHeld => ?_)
  clear hK K
  try simp only [Act.put, List.setIfInBounds_toArray, List.set_cons_zero, List.set_cons_succ]
  refine tky 13 (some 16) rfl rfl ⟨?v13, fun w hSw => ?a13, fun _ _ _ h => h, ?b13⟩
  case a13 => (try dsimp only at hSw); go_simp; (try rfl)
  try simp only [Act.put, List.setIfInBounds_toArray, List.set_cons_zero, List.set_cons_succ]
  refine tky 14 (some 17) rfl rfl ⟨?v14, fun w hSw => ?a14, fun _ _ _ h => h, ?b14⟩
  case a14 => (try dsimp only at hSw); go_simp; (try rfl)
  try simp only [Act.put, List.setIfInBounds_toArray, List.set_cons_zero, List.set_cons_succ]
  refine tky 15 (some 18) rfl rfl ⟨?v15, fun w hSw => ?a15, fun _ _ _ h => h, ?b15⟩
  case a15 => (try dsimp only at hSw); go_simp; (try rfl)
  try simp only [Act.put, List.setIfInBounds_toArray, List.set_cons_zero, List.set_cons_succ]
  refine tky 16 (some 19) rfl rfl ⟨?v16, fun w hSw => ?a16, fun _ _ _ h => h, ?b16⟩
  case a16 => (try dsimp only at hSw); go_simp; (try rfl)
  try simp only [Act.put, List.setIfInBounds_toArray, List.set_cons_zero, List.set_cons_succ]
  refine wpAnyH_ready (rs := [17]) (by kernel_rfl) (by simp) ?_
  refine AllReadyH.cons rfl (fun K hK => ?_) AllReadyH.nil
  go_simp
  go_at_call 72
  refine (HBad.out _ _).mono ?_
  rintro x w2 ⟨rfl, rfl⟩
  rw [e1]
  refine hK.out _ _ k1 (fun hHeld => ?_)
  clear hK K
  try simp only [Act.put, List.setIfInBounds_toArray, List.set_cons_zero, List.set_cons_succ]
  refine tky 18 (some 21) rfl rfl ⟨?v18, fun w hSw => ?a18, fun _ _ _ h => h, ?b18⟩
  case a18 => (try dsimp only at hSw); go_simp; (try rfl)
  try simp only [Act.put, List.setIfInBounds_toArray, List.set_cons_zero, List.set_cons_succ]
  refine tky 19 (some 22) rfl rfl ⟨?v19, fun w hSw => ?a19, fun _ _ _ h => h, ?b19⟩
  case a19 => (try dsimp only at hSw); go_simp; (try rfl)
  try simp only [Act.put, List.setIfInBounds_toArray, List.set_cons_zero, List.set_cons_succ]
  refine tky 20 (some 23) rfl rfl ⟨?v20, fun w hSw => ?a20, fun _ _ _ h => h, ?b20⟩
  case a20 => (try dsimp only at hSw); go_simp; (try rfl)
  try simp only [Act.put, List.setIfInBounds_toArray, List.set_cons_zero, List.set_cons_succ]
  refine tky 21 (some 24) rfl rfl ⟨?v21, fun w hSw => ?a21, fun _ _ _ h => h, ?b21⟩
  case a21 => (try dsimp only at hSw); go_simp; (try rfl)
  try simp only [Act.put, List.setIfInBounds_toArray, List.set_cons_zero, List.set_cons_succ]
  refine wpAnyH_ready (rs := [22]) (by kernel_rfl) (by simp) ?_
  refine AllReadyH.cons rfl (fun K hK => ?_) AllReadyH.nil
  go_simp
  go_at_call 72
  refine (HBad.out _ _).mono ?_
  rintro x w2 ⟨rfl, rfl⟩
  rw [e2]
  refine hK.out _ _ k1 (fun hHeld => ?_)
  clear hK K
  try simp only [Act.put, List.setIfInBounds_toArray, List.set_cons_zero, List.set_cons_succ]
  refine tky 23 (some 26) rfl rfl ⟨?v23, fun w hSw => ?a23, fun _ _ _ h => h, ?b23⟩
  case a23 => (try dsimp only at hSw); go_simp; (try rfl)
  try simp only [Act.put, List.setIfInBounds_toArray, List.set_cons_zero, List.set_cons_succ]
  refine tky 24 (some 27) rfl rfl ⟨?v24, fun w hSw => ?a24, fun _ _ _ h => h, ?b24⟩
  case a24 => (try dsimp only at hSw); go_simp; (try rfl)
  try simp only [Act.put, List.setIfInBounds_toArray, List.set_cons_zero, List.set_cons_succ]
  refine tkn 25 (some 28) rfl rfl ?_
  try simp only [Act.put, List.setIfInBounds_toArray, List.set_cons_zero, List.set_cons_succ]
  refine tkn 26 (some 29) rfl rfl ?_
  try simp only [Act.put, List.setIfInBounds_toArray, List.set_cons_zero, List.set_cons_succ]
  refine tkn 27 (some 30) rfl rfl ?_
  try simp only [Act.put, List.setIfInBounds_toArray, List.set_cons_zero, List.set_cons_succ]
  refine tky 28 (some 31) rfl rfl ⟨?v28, fun w hSw => ?a28, fun _ _ _ h => h, ?b28⟩
  case a28 => (try dsimp only at hSw); go_simp; (try rfl)
  try simp only [Act.put, List.setIfInBounds_toArray, List.set_cons_zero, List.set_cons_succ]
  refine tky 29 (some 32) rfl rfl ⟨?v29, fun w hSw => ?a29, fun _ _ _ h => h, ?b29⟩
  case a29 => (try dsimp only at hSw); go_simp; (try rfl)
  try simp only [Act.put, List.setIfInBounds_toArray, List.set_cons_zero, List.set_cons_succ]
  refine tkn 30 (some 33) rfl rfl ?_
  try simp only [Act.put, List.setIfInBounds_toArray, List.set_cons_zero, List.set_cons_succ]
  refine tkn 31 (some 34) rfl rfl ?_
  try simp only [Act.put, List.setIfInBounds_toArray, List.set_cons_zero, List.set_cons_succ]
  refine tkn 32 (some 35) rfl rfl ?_
  try simp only [Act.put, List.setIfInBounds_toArray, List.set_cons_zero, List.set_cons_succ]
  refine tkn 33 (some 36) rfl rfl ?_
  try simp only [Act.put, List.setIfInBounds_toArray, List.set_cons_zero, List.set_cons_succ]
  refine tky 34 (some 37) rfl rfl ⟨?v34, fun w hSw => ?a34, fun _ _ _ h => h, ?b34⟩
  case a34 => (try dsimp only at hSw); go_simp; (try rfl)
  try simp only [Act.put, List.setIfInBounds_toArray, List.set_cons_zero, List.set_cons_succ]
  refine tky 35 (some 38) rfl rfl ⟨?v35, fun w hSw => ?a35, fun _ _ _ h => h, ?b35⟩
  case a35 => (try dsimp only at hSw); go_simp; (try rfl)
  try simp only [Act.put, List.setIfInBounds_toArray, List.set_cons_zero, List.set_cons_succ]
  refine tkn 36 (some 39) rfl rfl ?_
  try simp only [Act.put, List.setIfInBounds_toArray, List.set_cons_zero, List.set_cons_succ]
  refine tkn 37 (some 40) rfl rfl ?_
  try simp only [Act.put, List.setIfInBounds_toArray, List.set_cons_zero, List.set_cons_succ]
  refine tkn 38 (some 41) rfl rfl ?_
  try simp only [Act.put, List.setIfInBounds_toArray, List.set_cons_zero, List.set_cons_succ]
  refine tkn 39 (some 42) rfl rfl ?_
  try simp only [Act.put, List.setIfInBounds_toArray, List.set_cons_zero, List.set_cons_succ]
  refine tky 40 (some 43) rfl rfl ⟨?v40, fun w hSw => ?a40, fun _ _ _ h => h, ?b40⟩
  case a40 => (try dsimp only at hSw); go_simp; (try rfl)
  try simp only [Act.put, List.setIfInBounds_toArray, List.set_cons_zero, List.set_cons_succ]
  refine tky 41 (some 44) rfl rfl ⟨?v41, fun w hSw => ?a41, fun _ _ _ h => h, ?b41⟩
  case a41 => (try dsimp only at hSw); go_simp; (try rfl)
  try simp only [Act.put, List.setIfInBounds_toArray, List.set_cons_zero, List.set_cons_succ]
  refine tkn 42 (some 45) rfl rfl ?_
  try simp only [Act.put, List.setIfInBounds_toArray, List.set_cons_zero, List.set_cons_succ]
  refine tkn 43 (some 46) rfl rfl ?_
  try simp only [Act.put, List.setIfInBounds_toArray, List.set_cons_zero, List.set_cons_succ]
  refine tkn 44 (some 47) rfl rfl ?_
  try simp only [Act.put, List.setIfInBounds_toArray, List.set_cons_zero, List.set_cons_succ]
  refine tkn 45 (some 48) rfl rfl ?_
  try simp only [Act.put, List.setIfInBounds_toArray, List.set_cons_zero, List.set_cons_succ]
  refine tky 46 (some 49) rfl rfl ⟨?v46, fun w hSw => ?a46, fun _ _ _ h => h, ?b46⟩
  case a46 => (try dsimp only at hSw); go_simp; (try rfl)
  try simp only [Act.put, List.setIfInBounds_toArray, List.set_cons_zero, List.set_cons_succ]
  refine wpAnyH_done (by kernel_rfl) ?_ _
  go_wp2
  go_ret
  exact ⟨rfl, chainB HBx.out.2 hc1⟩
end
end Go.Proofs.Ytekonakanieeaaa
