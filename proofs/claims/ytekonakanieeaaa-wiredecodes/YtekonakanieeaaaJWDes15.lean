/- What is plain, in the document's own words: notes. -/
import Derived.Test.YtekonakanieeaaaJWDes13
namespace Go.Proofs.Ytekonakanieeaaa
section
open Go.RowKit Go.Lib
attribute [local go_sem ↓ high] loadN
attribute [local go_sem high] guardNt

set_option maxRecDepth 20000 in
set_option maxHeartbeats 8000000 in
theorem plainNote_dok (kind epoch vers next client : Int) (e : En) (life seq err : Int) (op : Opn) (w : World) (hE : eqNt ⟨kind, epoch, vers, next, client, e, life, seq, err, op⟩ (onlyF ⟨kind, epoch, vers, next, client, e, life, seq, err, op⟩) = true) (hK : kind ≠ 0) (h0 : numOk epoch) (h1 : numOk vers) (h2 : numOk next) (h3 : numOk client) (h4 : numOk life) (h5 : numOk seq) (h6 : numOk err) : Calls Try.prog 62 #[.agg #[.int .i64 kind, .int .i64 epoch, .int .i64 vers, .int .i64 next, .int .i64 client, .int .i64 e.d, .string e.nm, .bool e.neg, .int .i64 e.id, .int .i64 e.kind, .int .i64 e.mode, .string e.tg, .int .i64 life, .int .i64 seq, .int .i64 err, .int .i64 op.kind, .int .i64 op.dir, .string op.nm, .int .i64 op.dst, .string op.new, .int .i64 op.mode, .string op.tg]] w fun x w' => x = .returned (.bool (kindN ⟨kind, epoch, vers, next, client, e, life, seq, err, op⟩)) ∧ Below w.heap.size w w' := by
  obtain ⟨R, hR⟩ : ∃ R, kindN ⟨kind, epoch, vers, next, client, e, life, seq, err, op⟩ = R := ⟨_, rfl⟩
  rw [hR]
  have HRs : Hid (kindN ⟨kind, epoch, vers, next, client, e, life, seq, err, op⟩ = R) := hR
  clear hR
  have hq0 := fun w' => neqNt w' ⟨kind, epoch, vers, next, client, e, life, seq, err, op⟩ (onlyF ⟨kind, epoch, vers, next, client, e, life, seq, err, op⟩)
  have hnm0 := fun w' => only_d ⟨kind, epoch, vers, next, client, e, life, seq, err, op⟩ w'
  rw [hE] at hq0
  obtain ⟨B, hB⟩ : ∃ B, (onlyF ⟨kind, epoch, vers, next, client, e, life, seq, err, op⟩).arr = B := ⟨_, rfl⟩
  rw [hB] at hq0
  simp only [hB] at hnm0
  obtain ⟨A, hA⟩ : ∃ A, (#[.int .i64 kind, .int .i64 epoch, .int .i64 vers, .int .i64 next, .int .i64 client, .int .i64 e.d, .string e.nm, .bool e.neg, .int .i64 e.id, .int .i64 e.kind, .int .i64 e.mode, .string e.tg, .int .i64 life, .int .i64 seq, .int .i64 err, .int .i64 op.kind, .int .i64 op.dir, .string op.nm, .int .i64 op.dst, .string op.new, .int .i64 op.mode, .string op.tg] : Array Value) = A := ⟨_, rfl⟩
  have hq : ∀ w', (binOp .neq 48 (.agg A) (.agg B)).run Try.prog w' = .ok (.bool false) w' := by rw [← hA]; exact hq0
  have HNm : Hid (∀ w', Calls Try.prog 85 #[.agg A] w' fun x w2 => x = .returned (.agg B) ∧ Below w'.heap.size w' w2) := by rw [← hA]; exact hnm0
  obtain ⟨W, hW⟩ : ∃ W, w.alloc (.cells A 48) = W := ⟨_, rfl⟩
  have hb := boxB hW
  have HBx : Hid (W.heap[w.heap.size]? = some (.cells #[.int .i64 kind, .int .i64 epoch, .int .i64 vers, .int .i64 next, .int .i64 client, .int .i64 e.d, .string e.nm, .bool e.neg, .int .i64 e.id, .int .i64 e.kind, .int .i64 e.mode, .string e.tg, .int .i64 life, .int .i64 seq, .int .i64 err, .int .i64 op.kind, .int .i64 op.dir, .string op.nm, .int .i64 op.dst, .string op.new, .int .i64 op.mode, .string op.tg] 48 (0, 0)) ∧ Below w.heap.size w W) := by rw [hA]; exact hb
  have HS : Hid (∀ w', Below W.heap.size W w' → (noteS (.pointer (some ⟨w.heap.size, 0, none⟩))).run Try.prog w' = .ok (.agg A) w' ∧ w'.cell? ⟨w.heap.size, 0, none⟩ = some (.int .i64 kind) ∧ w'.cell? ⟨w.heap.size, 1, none⟩ = some (.int .i64 epoch) ∧ w'.cell? ⟨w.heap.size, 2, none⟩ = some (.int .i64 vers) ∧ w'.cell? ⟨w.heap.size, 3, none⟩ = some (.int .i64 next) ∧ w'.cell? ⟨w.heap.size, 4, none⟩ = some (.int .i64 client) ∧ w'.cell? ⟨w.heap.size, 12, none⟩ = some (.int .i64 life) ∧ w'.cell? ⟨w.heap.size, 13, none⟩ = some (.int .i64 seq) ∧ w'.cell? ⟨w.heap.size, 14, none⟩ = some (.int .i64 err)) := fun w' h' => by
    have n1 := hkeep HBx.out.1 h'
    have n2 := n1
    rw [hA] at n2
    refine ⟨noteS_of n2 (by rw [← hA]; rfl), by have y := cell_of n1 0; simpa using y, by have y := cell_of n1 1; simpa using y, by have y := cell_of n1 2; simpa using y, by have y := cell_of n1 3; simpa using y, by have y := cell_of n1 4; simpa using y, by have y := cell_of n1 12; simpa using y, by have y := cell_of n1 13; simpa using y, by have y := cell_of n1 14; simpa using y⟩
  rw [hA]
  have hk5 : kind = 1 ∨ kind = 2 ∨ kind = 3 ∨ kind = 4 ∨ kind = 5 := by
    by_cases h : kind = 1 ∨ kind = 2 ∨ kind = 3 ∨ kind = 4 ∨ kind = 5
    · exact h
    · have h9 := (eqNt_iff _ _).1 hE
      rw [show onlyF ⟨kind, epoch, vers, next, client, e, life, seq, err, op⟩ = zeroNt from if_neg h] at h9
      exact absurd (congrArg Nt.kind h9) hK
  have HK5 : Hid (kind = 1 ∨ kind = 2 ∨ kind = 3 ∨ kind = 4 ∨ kind = 5) := hk5
  clear hk5
  clear hA hB hq0 hnm0 hE hb
  have HBad : Hid (∀ v W, Calls Try.prog 72 #[.int .i64 v] W fun e w' => e = .returned (.bool (!decide (numOk v))) ∧ W = w') := bad_d
  have hKb : (kind == 0) = false := by simpa using hK
  have e0 : decide (numOk epoch) = true := decide_eq_true h0
  have e1 : decide (numOk vers) = true := decide_eq_true h1
  have e2 : decide (numOk next) = true := decide_eq_true h2
  have e3 : decide (numOk client) = true := decide_eq_true h3
  have e4 : decide (numOk life) = true := decide_eq_true h4
  have e5 : decide (numOk seq) = true := decide_eq_true h5
  have e6 : decide (numOk err) = true := decide_eq_true h6
  go_enter Try.func62, Try.ntmps62
  go_upto_region 1 with fail
  clear hW
  have k0 := HS.out W.drew (Below.refl _ _).drew
  refine wp_region_held_drew (S := fun w' => (noteS (.pointer (some ⟨w.heap.size, 0, none⟩))).run Try.prog w' = .ok (.agg A) w' ∧ w'.cell? ⟨w.heap.size, 0, none⟩ = some (.int .i64 kind) ∧ w'.cell? ⟨w.heap.size, 1, none⟩ = some (.int .i64 epoch) ∧ w'.cell? ⟨w.heap.size, 2, none⟩ = some (.int .i64 vers) ∧ w'.cell? ⟨w.heap.size, 3, none⟩ = some (.int .i64 next) ∧ w'.cell? ⟨w.heap.size, 4, none⟩ = some (.int .i64 client) ∧ w'.cell? ⟨w.heap.size, 12, none⟩ = some (.int .i64 life) ∧ w'.cell? ⟨w.heap.size, 13, none⟩ = some (.int .i64 seq) ∧ w'.cell? ⟨w.heap.size, 14, none⟩ = some (.int .i64 err)) (by kernel_rfl) k0 (fun hHeld => ?_)
  refine tky 0 (some 3) rfl rfl ⟨?v0, fun w hSw => ?a0, fun _ _ _ h => h, ?b0⟩
  case a0 => (try dsimp only at hSw); go_simp; (try rfl)
  try simp only [Act.put, List.setIfInBounds_toArray, List.set_cons_zero, List.set_cons_succ]
  refine tky 1 (some 4) rfl rfl ⟨?v1, fun w hSw => ?a1, fun _ _ _ h => h, ?b1⟩
  case a1 => (try dsimp only at hSw); go_simp; (try rfl)
  try simp only [Act.put, List.setIfInBounds_toArray, List.set_cons_zero, List.set_cons_succ]
  refine wpAnyH_ready (rs := [2]) (by kernel_rfl) (by simp) ?_
  refine AllReadyH.cons rfl (fun K hK => ?_) AllReadyH.nil
  go_simp
  go_at_call 85
  refine (HNm.out _).mono ?_
  rintro x w1 ⟨rfl, hb1⟩
  have hc1 := chainB (Below.refl W.heap.size W).drew hb1
  have k1 := HS.out w1 hc1
  refine hK.out _ _ k1 (fun hHeld => ?_)
  clear hK K
  try simp only [Act.put, List.setIfInBounds_toArray, List.set_cons_zero, List.set_cons_succ]
  refine tky 3 (some 6) rfl rfl ⟨.bool false, fun w hSw => ?a3, fun _ _ _ h => h, ?b3⟩
  case a3 => (try dsimp only at hSw); go_simp; (try rfl)
  try simp only [Act.put, List.setIfInBounds_toArray, List.set_cons_zero, List.set_cons_succ]
  refine tky 4 (some 7) rfl rfl ⟨?v4, fun w hSw => ?a4, fun _ _ _ h => h, ?b4⟩
  case a4 => (try dsimp only at hSw); go_simp; (try rfl)
  try simp only [Act.put, List.setIfInBounds_toArray, List.set_cons_zero, List.set_cons_succ]
  refine tky 5 (some 8) rfl rfl ⟨?v5, fun w hSw => ?a5, fun _ _ _ h => h, ?b5⟩
  case a5 => (try dsimp only at hSw); go_simp; (try rfl)
  try simp only [Act.put, List.setIfInBounds_toArray, List.set_cons_zero, List.set_cons_succ]
  refine tky 6 (some 9) rfl rfl ⟨?v6, fun w hSw => ?a6, fun _ _ _ h => h, ?b6⟩
  case a6 => (try dsimp only at hSw); go_simp; (try rfl)
  try simp only [Act.put, List.setIfInBounds_toArray, List.set_cons_zero, List.set_cons_succ]
  refine tky 7 (some 10) rfl rfl ⟨.bool false, fun w hSw => ?a7, fun _ _ _ h => h, ?b7⟩
  case a7 => (try dsimp only at hSw); go_simp; (try rfl)
  try simp only [Act.put, List.setIfInBounds_toArray, List.set_cons_zero, List.set_cons_succ]
  refine tky 8 (some 11) rfl rfl ⟨?v8, fun w hSw => ?a8, fun _ _ _ h => h, ?b8⟩
  case a8 => (try dsimp only at hSw); go_simp; (try rfl)
  try simp only [Act.put, List.setIfInBounds_toArray, List.set_cons_zero, List.set_cons_succ]
  refine tky 9 (some 12) rfl rfl ⟨?v9, fun w hSw => ?a9, fun _ _ _ h => h, ?b9⟩
  case a9 => (try dsimp only at hSw); go_simp; (try rfl)
  try simp only [Act.put, List.setIfInBounds_toArray, List.set_cons_zero, List.set_cons_succ]
  refine tky 10 (some 13) rfl rfl ⟨?v10, fun w hSw => ?a10, fun _ _ _ h => h, ?b10⟩
  case a10 => (try dsimp only at hSw); go_simp; (try rfl)
  try simp only [Act.put, List.setIfInBounds_toArray, List.set_cons_zero, List.set_cons_succ]
  refine tky 11 (some 14) rfl rfl ⟨?v11, fun w hSw => ?a11, fun _ _ _ h => h, ?b11⟩
  case a11 => (try dsimp only at hSw); go_simp; (try rfl)
  try simp only [Act.put, List.setIfInBounds_toArray, List.set_cons_zero, List.set_cons_succ]
  refine wpAnyH_ready (rs := [12]) (by kernel_rfl) (by simp) ?_
  refine AllReadyH.cons rfl (fun K hK => ?_) AllReadyH.nil
  go_simp
  go_at_call 72
  refine (HBad.out _ _).mono ?_
  rintro x w2 ⟨rfl, rfl⟩
  rw [e0]
  refine hK.out _ _ k1 (fun hHeld => ?_)
  clear hK K
  try simp only [Act.put, List.setIfInBounds_toArray, List.set_cons_zero, List.set_cons_succ]
  refine tky 13 (some 16) rfl rfl ⟨?v13, fun w hSw => ?a13, fun _ _ _ h => h, ?b13⟩
  case a13 => (try dsimp only at hSw); go_simp; (try rfl)
  try simp only [Act.put, List.setIfInBounds_toArray, List.set_cons_zero, List.set_cons_succ]
  refine tky 14 (some 17) rfl rfl ⟨?v14, fun w hSw => ?a14, fun _ _ _ h => h, ?b14⟩
  case a14 => (try dsimp only at hSw); go_simp; (try rfl)
  try simp only [Act.put, List.setIfInBounds_toArray, List.set_cons_zero, List.set_cons_succ]
  refine tky 15 (some 18) rfl rfl ⟨?v15, fun w hSw => ?a15, fun _ _ _ h => h, ?b15⟩
  case a15 => (try dsimp only at hSw); go_simp; (try rfl)
  try simp only [Act.put, List.setIfInBounds_toArray, List.set_cons_zero, List.set_cons_succ]
  refine tky 16 (some 19) rfl rfl ⟨?v16, fun w hSw => ?a16, fun _ _ _ h => h, ?b16⟩
  case a16 => (try dsimp only at hSw); go_simp; (try rfl)
  try simp only [Act.put, List.setIfInBounds_toArray, List.set_cons_zero, List.set_cons_succ]
  refine wpAnyH_ready (rs := [17]) (by kernel_rfl) (by simp) ?_
  refine AllReadyH.cons rfl (fun K hK => ?_) AllReadyH.nil
  go_simp
  go_at_call 72
  refine (HBad.out _ _).mono ?_
  rintro x w2 ⟨rfl, rfl⟩
  rw [e1]
  refine hK.out _ _ k1 (fun hHeld => ?_)
  clear hK K
  try simp only [Act.put, List.setIfInBounds_toArray, List.set_cons_zero, List.set_cons_succ]
  refine tky 18 (some 21) rfl rfl ⟨?v18, fun w hSw => ?a18, fun _ _ _ h => h, ?b18⟩
  case a18 => (try dsimp only at hSw); go_simp; (try rfl)
  try simp only [Act.put, List.setIfInBounds_toArray, List.set_cons_zero, List.set_cons_succ]
  refine tky 19 (some 22) rfl rfl ⟨?v19, fun w hSw => ?a19, fun _ _ _ h => h, ?b19⟩
  case a19 => (try dsimp only at hSw); go_simp; (try rfl)
  try simp only [Act.put, List.setIfInBounds_toArray, List.set_cons_zero, List.set_cons_succ]
  refine tky 20 (some 23) rfl rfl ⟨?v20, fun w hSw => ?a20, fun _ _ _ h => h, ?b20⟩
  case a20 => (try dsimp only at hSw); go_simp; (try rfl)
  try simp only [Act.put, List.setIfInBounds_toArray, List.set_cons_zero, List.set_cons_succ]
  refine tky 21 (some 24) rfl rfl ⟨?v21, fun w hSw => ?a21, fun _ _ _ h => h, ?b21⟩
  case a21 => (try dsimp only at hSw); go_simp; (try rfl)
  try simp only [Act.put, List.setIfInBounds_toArray, List.set_cons_zero, List.set_cons_succ]
  refine wpAnyH_ready (rs := [22]) (by kernel_rfl) (by simp) ?_
  refine AllReadyH.cons rfl (fun K hK => ?_) AllReadyH.nil
  go_simp
  go_at_call 72
  refine (HBad.out _ _).mono ?_
  rintro x w2 ⟨rfl, rfl⟩
  rw [e2]
  refine hK.out _ _ k1 (fun hHeld => ?_)
  clear hK K
  try simp only [Act.put, List.setIfInBounds_toArray, List.set_cons_zero, List.set_cons_succ]
  refine tky 23 (some 26) rfl rfl ⟨?v23, fun w hSw => ?a23, fun _ _ _ h => h, ?b23⟩
  case a23 => (try dsimp only at hSw); go_simp; (try rfl)
  try simp only [Act.put, List.setIfInBounds_toArray, List.set_cons_zero, List.set_cons_succ]
  refine tky 24 (some 27) rfl rfl ⟨?v24, fun w hSw => ?a24, fun _ _ _ h => h, ?b24⟩
  case a24 => (try dsimp only at hSw); go_simp; (try rfl)
  try simp only [Act.put, List.setIfInBounds_toArray, List.set_cons_zero, List.set_cons_succ]
  refine tky 25 (some 28) rfl rfl ⟨?v25, fun w hSw => ?a25, fun _ _ _ h => h, ?b25⟩
  case a25 => (try dsimp only at hSw); go_simp; (try rfl)
  try simp only [Act.put, List.setIfInBounds_toArray, List.set_cons_zero, List.set_cons_succ]
  refine tky 26 (some 29) rfl rfl ⟨?v26, fun w hSw => ?a26, fun _ _ _ h => h, ?b26⟩
  case a26 => (try dsimp only at hSw); go_simp; (try rfl)
  try simp only [Act.put, List.setIfInBounds_toArray, List.set_cons_zero, List.set_cons_succ]
  refine wpAnyH_ready (rs := [27]) (by kernel_rfl) (by simp) ?_
  refine AllReadyH.cons rfl (fun K hK => ?_) AllReadyH.nil
  go_simp
  go_at_call 72
  refine (HBad.out _ _).mono ?_
  rintro x w2 ⟨rfl, rfl⟩
  rw [e3]
  refine hK.out _ _ k1 (fun hHeld => ?_)
  clear hK K
  try simp only [Act.put, List.setIfInBounds_toArray, List.set_cons_zero, List.set_cons_succ]
  refine tky 28 (some 31) rfl rfl ⟨?v28, fun w hSw => ?a28, fun _ _ _ h => h, ?b28⟩
  case a28 => (try dsimp only at hSw); go_simp; (try rfl)
  try simp only [Act.put, List.setIfInBounds_toArray, List.set_cons_zero, List.set_cons_succ]
  refine tky 29 (some 32) rfl rfl ⟨?v29, fun w hSw => ?a29, fun _ _ _ h => h, ?b29⟩
  case a29 => (try dsimp only at hSw); go_simp; (try rfl)
  try simp only [Act.put, List.setIfInBounds_toArray, List.set_cons_zero, List.set_cons_succ]
  refine tky 30 (some 33) rfl rfl ⟨?v30, fun w hSw => ?a30, fun _ _ _ h => h, ?b30⟩
  case a30 => (try dsimp only at hSw); go_simp; (try rfl)
  try simp only [Act.put, List.setIfInBounds_toArray, List.set_cons_zero, List.set_cons_succ]
  refine tky 31 (some 34) rfl rfl ⟨?v31, fun w hSw => ?a31, fun _ _ _ h => h, ?b31⟩
  case a31 => (try dsimp only at hSw); go_simp; (try rfl)
  try simp only [Act.put, List.setIfInBounds_toArray, List.set_cons_zero, List.set_cons_succ]
  refine tky 32 (some 35) rfl rfl ⟨?v32, fun w hSw => ?a32, fun _ _ _ h => h, ?b32⟩
  case a32 => (try dsimp only at hSw); go_simp; (try rfl)
  try simp only [Act.put, List.setIfInBounds_toArray, List.set_cons_zero, List.set_cons_succ]
  refine wpAnyH_ready (rs := [33]) (by kernel_rfl) (by simp) ?_
  refine AllReadyH.cons rfl (fun K hK => ?_) AllReadyH.nil
  go_simp
  go_at_call 72
  refine (HBad.out _ _).mono ?_
  rintro x w2 ⟨rfl, rfl⟩
  rw [e4]
  refine hK.out _ _ k1 (fun hHeld => ?_)
  clear hK K
  try simp only [Act.put, List.setIfInBounds_toArray, List.set_cons_zero, List.set_cons_succ]
  refine tky 34 (some 37) rfl rfl ⟨?v34, fun w hSw => ?a34, fun _ _ _ h => h, ?b34⟩
  case a34 => (try dsimp only at hSw); go_simp; (try rfl)
  try simp only [Act.put, List.setIfInBounds_toArray, List.set_cons_zero, List.set_cons_succ]
  refine tky 35 (some 38) rfl rfl ⟨?v35, fun w hSw => ?a35, fun _ _ _ h => h, ?b35⟩
  case a35 => (try dsimp only at hSw); go_simp; (try rfl)
  try simp only [Act.put, List.setIfInBounds_toArray, List.set_cons_zero, List.set_cons_succ]
  refine tky 36 (some 39) rfl rfl ⟨?v36, fun w hSw => ?a36, fun _ _ _ h => h, ?b36⟩
  case a36 => (try dsimp only at hSw); go_simp; (try rfl)
  try simp only [Act.put, List.setIfInBounds_toArray, List.set_cons_zero, List.set_cons_succ]
  refine tky 37 (some 40) rfl rfl ⟨?v37, fun w hSw => ?a37, fun _ _ _ h => h, ?b37⟩
  case a37 => (try dsimp only at hSw); go_simp; (try rfl)
  try simp only [Act.put, List.setIfInBounds_toArray, List.set_cons_zero, List.set_cons_succ]
  refine tky 38 (some 41) rfl rfl ⟨?v38, fun w hSw => ?a38, fun _ _ _ h => h, ?b38⟩
  case a38 => (try dsimp only at hSw); go_simp; (try rfl)
  try simp only [Act.put, List.setIfInBounds_toArray, List.set_cons_zero, List.set_cons_succ]
  refine wpAnyH_ready (rs := [39]) (by kernel_rfl) (by simp) ?_
  refine AllReadyH.cons rfl (fun K hK => ?_) AllReadyH.nil
  go_simp
  go_at_call 72
  refine (HBad.out _ _).mono ?_
  rintro x w2 ⟨rfl, rfl⟩
  rw [e5]
  refine hK.out _ _ k1 (fun hHeld => ?_)
  clear hK K
  try simp only [Act.put, List.setIfInBounds_toArray, List.set_cons_zero, List.set_cons_succ]
  refine tky 40 (some 43) rfl rfl ⟨?v40, fun w hSw => ?a40, fun _ _ _ h => h, ?b40⟩
  case a40 => (try dsimp only at hSw); go_simp; (try rfl)
  try simp only [Act.put, List.setIfInBounds_toArray, List.set_cons_zero, List.set_cons_succ]
  refine tky 41 (some 44) rfl rfl ⟨?v41, fun w hSw => ?a41, fun _ _ _ h => h, ?b41⟩
  case a41 => (try dsimp only at hSw); go_simp; (try rfl)
  try simp only [Act.put, List.setIfInBounds_toArray, List.set_cons_zero, List.set_cons_succ]
  refine tky 42 (some 45) rfl rfl ⟨?v42, fun w hSw => ?a42, fun _ _ _ h => h, ?b42⟩
  case a42 => (try dsimp only at hSw); go_simp; (try rfl)
  try simp only [Act.put, List.setIfInBounds_toArray, List.set_cons_zero, List.set_cons_succ]
  refine tky 43 (some 46) rfl rfl ⟨?v43, fun w hSw => ?a43, fun _ _ _ h => h, ?b43⟩
  case a43 => (try dsimp only at hSw); go_simp; (try rfl)
  try simp only [Act.put, List.setIfInBounds_toArray, List.set_cons_zero, List.set_cons_succ]
  refine tky 44 (some 47) rfl rfl ⟨?v44, fun w hSw => ?a44, fun _ _ _ h => h, ?b44⟩
  case a44 => (try dsimp only at hSw); go_simp; (try rfl)
  try simp only [Act.put, List.setIfInBounds_toArray, List.set_cons_zero, List.set_cons_succ]
  refine wpAnyH_ready (rs := [45]) (by kernel_rfl) (by simp) ?_
  refine AllReadyH.cons rfl (fun K hK => ?_) AllReadyH.nil
  go_simp
  go_at_call 72
  refine (HBad.out _ _).mono ?_
  rintro x w2 ⟨rfl, rfl⟩
  rw [e6]
  refine hK.out _ _ k1 (fun hHeld => ?_)
  clear hK K
  try simp only [Act.put, List.setIfInBounds_toArray, List.set_cons_zero, List.set_cons_succ]
  refine tky 46 (some 49) rfl rfl ⟨?v46, fun w hSw => ?a46, fun _ _ _ h => h, ?b46⟩
  case a46 => (try dsimp only at hSw); go_simp; (try rfl)
  try simp only [Act.put, List.setIfInBounds_toArray, List.set_cons_zero, List.set_cons_succ]
  refine wpAnyH_done (by kernel_rfl) ?_ _
  have n2 := hkeep HBx.out.1 hc1
  have HW2 : Hid (Below w.heap.size w w1) := chainB HBx.out.2 hc1
  have z0 := cell_of n2 0
  have z5 := cell_of n2 5
  have z6 := cell_of n2 6
  have z7 := cell_of n2 7
  have z8 := cell_of n2 8
  have z9 := cell_of n2 9
  have z10 := cell_of n2 10
  have z11 := cell_of n2 11
  have z15 := cell_of n2 15
  have z16 := cell_of n2 16
  have z17 := cell_of n2 17
  have z18 := cell_of n2 18
  have z19 := cell_of n2 19
  have z20 := cell_of n2 20
  have z21 := cell_of n2 21
  simp at z0 z5 z6 z7 z8 z9 z10 z11 z15 z16 z17 z18 z19 z20 z21
  have HN2 : Hid (w1.heap[w.heap.size]? = some (.cells #[.int .i64 kind, .int .i64 epoch, .int .i64 vers, .int .i64 next, .int .i64 client, .int .i64 e.d, .string e.nm, .bool e.neg, .int .i64 e.id, .int .i64 e.kind, .int .i64 e.mode, .string e.tg, .int .i64 life, .int .i64 seq, .int .i64 err, .int .i64 op.kind, .int .i64 op.dir, .string op.nm, .int .i64 op.dst, .string op.new, .int .i64 op.mode, .string op.tg] 48 (0, 0))) := n2
  clear n2 k0 k1 hb1 hc1 HS HBx hq HNm
  clear hKb e0 e1 e2 e3 e4 e5 e6 h0 h1 h2 h3 h4 h5 h6 hK
  by_cases k3 : kind = 3
  · subst k3
    have HP : Hid (Calls Try.prog 74 #[.agg #[.int .i64 e.d, .string e.nm, .bool e.neg, .int .i64 e.id, .int .i64 e.kind, .int .i64 e.mode, .string e.tg]] w1 fun x w' => x = .returned (.bool (decide (entOk e))) ∧ Below w1.heap.size w1 w') := plainEntry_d e w1
    obtain ⟨D, hD⟩ : ∃ D, decide (entOk e) = D := ⟨_, rfl⟩
    rw [hD] at HP
    have HR : Hid (kindN ⟨3, epoch, vers, next, client, e, life, seq, err, op⟩ = ((!e.neg) && D)) := by rw [← hD]; rfl
    clear hD HK5
    cases hneg : e.neg with
    | true =>
      have HNg : Hid (e.neg = true) := hneg
      rw [hneg] at z7 HP
      clear hneg
      go_wp2
      go_ret
      exact ⟨by rw [← HRs.out, HR.out, HNg.out]; rfl, HW2.out⟩
    | false =>
      have HNg : Hid (e.neg = false) := hneg
      rw [hneg] at z7 HP
      clear hneg
      cases D with
      | true =>
        go_wp2_with (go_at_call 74; refine HP.out.mono ?_; rintro x w3 ⟨rfl, hb3⟩; have z0' := cell_of (hkeep HN2.out hb3) 0; simp at z0')
        go_ret
        exact ⟨by rw [← HRs.out, HR.out, HNg.out]; rfl, chainB HW2.out hb3⟩
      | false =>
        go_wp2_with (go_at_call 74; refine HP.out.mono ?_; rintro x w3 ⟨rfl, hb3⟩)
        go_ret
        exact ⟨by rw [← HRs.out, HR.out, HNg.out]; rfl, chainB HW2.out hb3⟩
  have k3b : (kind == 3) = false := by simpa using k3
  by_cases k5 : kind = 5
  · subst k5
    have HP : Hid (Calls Try.prog 73 #[.agg #[.int .i64 op.kind, .int .i64 op.dir, .string op.nm, .int .i64 op.dst, .string op.new, .int .i64 op.mode, .string op.tg]] w1 fun x w' => x = .returned (.bool (decide (opOk op))) ∧ Below w1.heap.size w1 w') := plainOp_d op w1
    clear HK5
    go_wp2_with (go_at_call 73; refine HP.out.mono ?_; rintro x w3 ⟨rfl, hb3⟩)
    go_ret
    exact ⟨by rw [← HRs.out]; rfl, chainB HW2.out hb3⟩
  have k5b : (kind == 5) = false := by simpa using k5
  have k5c : (kind != 5) = true := by simpa using k5
  have HNo : Hid (kindN ⟨kind, epoch, vers, next, client, e, life, seq, err, op⟩ = true) := by
    show _ = _
    unfold kindN
    rcases HK5.out with h | h | h | h | h
    · simp [h]
    · simp [h]
    · exact absurd h k3
    · simp [h]
    · exact absurd h k5
  clear HK5 k3 k5
  go_wp2
  go_ret
  exact ⟨by rw [← HRs.out, HNo.out]; rfl, HW2.out⟩
end
end Go.Proofs.Ytekonakanieeaaa
