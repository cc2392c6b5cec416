/- The reader in memory: message. -/
import Derived.Test.YtekonakanieeaaaJWEpt16
namespace Go.Proofs.Ytekonakanieeaaa
section
open Go.RowKit Go.Lib
attribute [local go_sem high] run_store_complex

set_option maxRecDepth 20000 in
set_option maxHeartbeats 16000000 in
theorem message_r3 {w : World} {r : Nat} {v : Value} {l : List Int} {s : St} (h : Rg w r v l s) (hkd : (octP s).1 = 3) : Calls Try.prog 19 #[.pointer (some ⟨r, 0, none⟩)] w fun e w' => ∃ ve vk, e = .returned (.agg (MsV (msgP s).1 ve vk).arr) ∧ Red w w' r v l (msgP s).2 ∧ Row7 w' w.heap.size ve (msgP s).1.es ∧ RowK w' w.heap.size vk (msgP s).1.ks := by
  have HG : Hid (Rg w r v l s) := h
  have hlft := h.lft
  obtain ⟨W, hW⟩ : ∃ W, w.alloc (.cells #[.int .i64 0, .int .i64 0, .int .i64 0, .int .i64 0, .complex .f64 0 0, .int .i64 0, .int .i64 0, .int .i64 0, .int .i64 0, .string ⟨#[]⟩, .int .i64 0, .string ⟨#[]⟩, .int .i64 0, .string ⟨#[]⟩, .slice none 0 0, .slice none 0 0] 30) = W := ⟨_, rfl⟩
  have hb := boxB hW
  have HW : Hid (w.alloc (.cells #[.int .i64 0, .int .i64 0, .int .i64 0, .int .i64 0, .complex .f64 0 0, .int .i64 0, .int .i64 0, .int .i64 0, .int .i64 0, .string ⟨#[]⟩, .int .i64 0, .string ⟨#[]⟩, .int .i64 0, .string ⟨#[]⟩, .slice none 0 0, .slice none 0 0] 30) = W) := hW
  have HC1 : Hid (Calls Try.prog 43 #[.pointer (some ⟨r, 0, none⟩)] W fun e w' => RdR W r v l (octP s).2 (.int .i64 (octP s).1) e w') := octet_r (h.below hb.2)
  obtain ⟨M, hM⟩ : ∃ M, msgP s = M := ⟨_, rfl⟩
  rw [hM]
  unfold msgP at hM
  simp only [] at hM
  have l1 := octP_lft hlft
  obtain ⟨X1, hX1⟩ : ∃ x, (octP s).1 = x := ⟨_, rfl⟩
  obtain ⟨S1, hS1⟩ : ∃ x, (octP s).2 = x := ⟨_, rfl⟩
  rw [hX1, hS1] at HC1 hM
  rw [hX1] at hkd
  have HKd : Hid (X1 = 3) := hkd
  clear hkd
  rw [hS1] at l1
  have HC2 : Hid (∀ W2, Rg W2 r v l S1 → Calls Try.prog 44 #[.pointer (some ⟨r, 0, none⟩)] W2 fun e w' => RdR W2 r v l (numP S1).2 (.int .i64 (numP S1).1) e w') := fun W2 h2 => number_r h2
  have n2 := numP_in l1
  have l2 := numP_lft l1
  obtain ⟨X2, hX2⟩ : ∃ x, (numP S1).1 = x := ⟨_, rfl⟩
  obtain ⟨S2, hS2⟩ : ∃ x, (numP S1).2 = x := ⟨_, rfl⟩
  rw [hX2, hS2] at HC2 hM
  rw [hX2] at n2
  rw [hS2] at l2
  have HC3 : Hid (∀ W2, Rg W2 r v l S2 → Calls Try.prog 44 #[.pointer (some ⟨r, 0, none⟩)] W2 fun e w' => RdR W2 r v l (numP S2).2 (.int .i64 (numP S2).1) e w') := fun W2 h2 => number_r h2
  have n3 := numP_in l2
  have l3 := numP_lft l2
  obtain ⟨X3, hX3⟩ : ∃ x, (numP S2).1 = x := ⟨_, rfl⟩
  obtain ⟨S3, hS3⟩ : ∃ x, (numP S2).2 = x := ⟨_, rfl⟩
  rw [hX3, hS3] at HC3 hM
  rw [hX3] at n3
  rw [hS3] at l3
  have HC4 : Hid (∀ W2, Rg W2 r v l S3 → Calls Try.prog 44 #[.pointer (some ⟨r, 0, none⟩)] W2 fun e w' => RdR W2 r v l (numP S3).2 (.int .i64 (numP S3).1) e w') := fun W2 h2 => number_r h2
  have n4 := numP_in l3
  have l4 := numP_lft l3
  obtain ⟨X4, hX4⟩ : ∃ x, (numP S3).1 = x := ⟨_, rfl⟩
  obtain ⟨S4, hS4⟩ : ∃ x, (numP S3).2 = x := ⟨_, rfl⟩
  rw [hX4, hS4] at HC4 hM
  rw [hX4] at n4
  rw [hS4] at l4
  have HC5 : Hid (∀ W2, Rg W2 r v l S4 → Calls Try.prog 44 #[.pointer (some ⟨r, 0, none⟩)] W2 fun e w' => RdR W2 r v l (numP S4).2 (.int .i64 (numP S4).1) e w') := fun W2 h2 => number_r h2
  have n5 := numP_in l4
  have l5 := numP_lft l4
  obtain ⟨X5, hX5⟩ : ∃ x, (numP S4).1 = x := ⟨_, rfl⟩
  obtain ⟨S5, hS5⟩ : ∃ x, (numP S4).2 = x := ⟨_, rfl⟩
  rw [hX5, hS5] at HC5 hM
  rw [hX5] at n5
  rw [hS5] at l5
  have HC6 : Hid (∀ W2, Rg W2 r v l S5 → Calls Try.prog 44 #[.pointer (some ⟨r, 0, none⟩)] W2 fun e w' => RdR W2 r v l (numP S5).2 (.int .i64 (numP S5).1) e w') := fun W2 h2 => number_r h2
  have n6 := numP_in l5
  have l6 := numP_lft l5
  obtain ⟨X6, hX6⟩ : ∃ x, (numP S5).1 = x := ⟨_, rfl⟩
  obtain ⟨S6, hS6⟩ : ∃ x, (numP S5).2 = x := ⟨_, rfl⟩
  rw [hX6, hS6] at HC6 hM
  rw [hX6] at n6
  rw [hS6] at l6
  have HC7 : Hid (∀ W2, Rg W2 r v l S6 → Calls Try.prog 44 #[.pointer (some ⟨r, 0, none⟩)] W2 fun e w' => RdR W2 r v l (numP S6).2 (.int .i64 (numP S6).1) e w') := fun W2 h2 => number_r h2
  have n7 := numP_in l6
  have l7 := numP_lft l6
  obtain ⟨X7, hX7⟩ : ∃ x, (numP S6).1 = x := ⟨_, rfl⟩
  obtain ⟨S7, hS7⟩ : ∃ x, (numP S6).2 = x := ⟨_, rfl⟩
  rw [hX7, hS7] at HC7 hM
  rw [hX7] at n7
  rw [hS7] at l7
  have HC8 : Hid (∀ W2, Rg W2 r v l S7 → Calls Try.prog 44 #[.pointer (some ⟨r, 0, none⟩)] W2 fun e w' => RdR W2 r v l (numP S7).2 (.int .i64 (numP S7).1) e w') := fun W2 h2 => number_r h2
  have n8 := numP_in l7
  have l8 := numP_lft l7
  obtain ⟨X8, hX8⟩ : ∃ x, (numP S7).1 = x := ⟨_, rfl⟩
  obtain ⟨S8, hS8⟩ : ∃ x, (numP S7).2 = x := ⟨_, rfl⟩
  rw [hX8, hS8] at HC8 hM
  rw [hX8] at n8
  rw [hS8] at l8
  have HA : Hid (∀ W2, Calls Try.prog 45 #[.int .i64 X5, .int .i64 X6] W2 fun e w' => e = .returned (.tuple #[.complex .f64 (floatOfInt .f64 X5) (floatOfInt .f64 X6), .int .i64 0]) ∧ W2 = w') := fun W2 => (at_yes X5 X6 W2 (within_of n5) (within_of n6)).mono fun _ _ h => ⟨h.1, h.2.symm⟩
  have hM2 := hM
  clear h hb hlft hM l1 hX1 hS1 l2 hX2 hS2 l3 hX3 hS3 l4 hX4 hS4 l5 hX5 hS5 l6 hX6 hS6 l7 hX7 hS7 l8 hX8 hS8
  go_enter Try.func19, Try.ntmps19
  go_upto_region 1 with fail
  clear hW
  go_upto_region 2 with (first
    | (go_at_call 44; refine (HC4.out _ R3.out.1).mono ?_; rintro e w4 ⟨rfl, h4⟩; have R4 : Hid (Red W w4 r v l S4) := R3.out.on h4.out; obtain ⟨W5, hW5⟩ : ∃ W5, w4.alloc (.cells #[.int .i64 0, .int .i64 0, .int .i64 0, .int .i64 0, .complex .f64 0 0, .int .i64 0, .int .i64 0, .int .i64 0, .int .i64 0, .string ⟨#[]⟩, .int .i64 0, .string ⟨#[]⟩, .int .i64 0, .string ⟨#[]⟩, .slice none 0 0, .slice none 0 0] 30) = W5 := ⟨_, rfl⟩; have hb5 := boxB hW5; have yf := free_of hb5.1; have y0 := cell_of hb5.1 0; have y1 := cell_of hb5.1 1; have y2 := cell_of hb5.1 2; have y3 := cell_of hb5.1 3; have y4 := cell_of hb5.1 4; have y5 := cell_of hb5.1 5; have y6 := cell_of hb5.1 6; have y7 := cell_of hb5.1 7; have y8 := cell_of hb5.1 8; have y9 := cell_of hb5.1 9; have y10 := cell_of hb5.1 10; have y11 := cell_of hb5.1 11; have y12 := cell_of hb5.1 12; have y13 := cell_of hb5.1 13; have y14 := cell_of hb5.1 14; have y15 := cell_of hb5.1 15; simp at y0 y1 y2 y3 y4 y5 y6 y7 y8 y9 y10 y11 y12 y13 y14 y15; have HW5 : Hid (w4.alloc (.cells #[.int .i64 0, .int .i64 0, .int .i64 0, .int .i64 0, .complex .f64 0 0, .int .i64 0, .int .i64 0, .int .i64 0, .int .i64 0, .string ⟨#[]⟩, .int .i64 0, .string ⟨#[]⟩, .int .i64 0, .string ⟨#[]⟩, .slice none 0 0, .slice none 0 0] 30) = W5) := hW5; clear hb5)
    | (go_at_call 44; refine (HC3.out _ R2.out.1).mono ?_; rintro e w3 ⟨rfl, h3⟩; have R3 : Hid (Red W w3 r v l S3) := R2.out.on h3.out)
    | (go_at_call 44; refine (HC2.out _ R1.out.1).mono ?_; rintro e w2 ⟨rfl, h2⟩; have R2 : Hid (Red W w2 r v l S2) := R1.out.on h2.out)
    | (go_at_call 43; refine HC1.out.mono ?_; rintro e w1 ⟨rfl, h1⟩; have R1 : Hid (Red W w1 r v l S1) := h1.out))
  have H5 : Hid (Bx 30 #[.int .i64 0, .int .i64 0, .int .i64 0, .int .i64 0, .complex .f64 0 0, .int .i64 0, .int .i64 0, .int .i64 0, .int .i64 0, .string ⟨#[]⟩, .int .i64 0, .string ⟨#[]⟩, .int .i64 0, .string ⟨#[]⟩, .slice none 0 0, .slice none 0 0] w W5 r v l S4 w4.heap.size #[.int .i64 0, .int .i64 0, .int .i64 0, .int .i64 0, .complex .f64 0 0, .int .i64 0, .int .i64 0, .int .i64 0, .int .i64 0, .string ⟨#[]⟩, .int .i64 0, .string ⟨#[]⟩, .int .i64 0, .string ⟨#[]⟩, .slice none 0 0, .slice none 0 0]) := Bx.new HG.out HW.out R4.out HW5.out
  clear hW5 HW5 h1 h2 h3 h4 R1 R2 R3 R4 HC1 HC2 HC3 HC4 HW yf y0 y1 y2 y3 y4 y5 y6 y7 y8 y9 y10 y11 y12 y13 y14 y15
  obtain ⟨W6, hW6⟩ : ∃ x, ((((((((((((((((W5).setCell ⟨w4.heap.size, 0, none⟩ (.int .i64 X1)).setCell ⟨w4.heap.size, 1, none⟩ (.int .i64 X2)).setCell ⟨w4.heap.size, 2, none⟩ (.int .i64 X3)).setCell ⟨w4.heap.size, 3, none⟩ (.int .i64 X4)).setCell ⟨w4.heap.size, 4, none⟩ (.complex .f64 0 0)).setCell ⟨w4.heap.size, 5, none⟩ (.int .i64 0)).setCell ⟨w4.heap.size, 6, none⟩ (.int .i64 0)).setCell ⟨w4.heap.size, 7, none⟩ (.int .i64 0)).setCell ⟨w4.heap.size, 8, none⟩ (.int .i64 0)).setCell ⟨w4.heap.size, 9, none⟩ (.string ⟨#[]⟩)).setCell ⟨w4.heap.size, 10, none⟩ (.int .i64 0)).setCell ⟨w4.heap.size, 11, none⟩ (.string ⟨#[]⟩)).setCell ⟨w4.heap.size, 12, none⟩ (.int .i64 0)).setCell ⟨w4.heap.size, 13, none⟩ (.string ⟨#[]⟩)).setCell ⟨w4.heap.size, 14, none⟩ (.slice none 0 0)).setCell ⟨w4.heap.size, 15, none⟩ (.slice none 0 0) = x := ⟨_, rfl⟩
  have bW6 := ((((((((((((((((H5.out).set 0 (.int .i64 X1)).set 1 (.int .i64 X2)).set 2 (.int .i64 X3)).set 3 (.int .i64 X4)).set 4 (.complex .f64 0 0)).set 5 (.int .i64 0)).set 6 (.int .i64 0)).set 7 (.int .i64 0)).set 8 (.int .i64 0)).set 9 (.string ⟨#[]⟩)).set 10 (.int .i64 0)).set 11 (.string ⟨#[]⟩)).set 12 (.int .i64 0)).set 13 (.string ⟨#[]⟩)).set 14 (.slice none 0 0)).set 15 (.slice none 0 0)
  simp only [List.setIfInBounds_toArray, List.set_cons_zero, List.set_cons_succ] at bW6
  rw [hW6] at bW6 ⊢
  have HW6 : Hid (Bx 30 #[.int .i64 0, .int .i64 0, .int .i64 0, .int .i64 0, .complex .f64 0 0, .int .i64 0, .int .i64 0, .int .i64 0, .int .i64 0, .string ⟨#[]⟩, .int .i64 0, .string ⟨#[]⟩, .int .i64 0, .string ⟨#[]⟩, .slice none 0 0, .slice none 0 0] w W6 r v l S4 w4.heap.size #[.int .i64 X1, .int .i64 X2, .int .i64 X3, .int .i64 X4, .complex .f64 0 0, .int .i64 0, .int .i64 0, .int .i64 0, .int .i64 0, .string ⟨#[]⟩, .int .i64 0, .string ⟨#[]⟩, .int .i64 0, .string ⟨#[]⟩, .slice none 0 0, .slice none 0 0]) := bW6
  clear hW6 bW6
  go_upto_region 3 with (first
    | (go_at_call 45; refine (HA.out _).mono ?_; rintro e w7 ⟨rfl, rfl⟩; have g4 := cell_of H6b.out.box 4; have gf := free_of H6b.out.box; simp at g4)
    | (go_at_call 44; refine (HC6.out _ H6a.out.red.1).mono ?_; rintro e w6 ⟨rfl, h6⟩; have H6b : Hid (Bx 30 #[.int .i64 0, .int .i64 0, .int .i64 0, .int .i64 0, .complex .f64 0 0, .int .i64 0, .int .i64 0, .int .i64 0, .int .i64 0, .string ⟨#[]⟩, .int .i64 0, .string ⟨#[]⟩, .int .i64 0, .string ⟨#[]⟩, .slice none 0 0, .slice none 0 0] w w6 r v l S6 w4.heap.size #[.int .i64 X1, .int .i64 X2, .int .i64 X3, .int .i64 X4, .complex .f64 0 0, .int .i64 0, .int .i64 0, .int .i64 0, .int .i64 0, .string ⟨#[]⟩, .int .i64 0, .string ⟨#[]⟩, .int .i64 0, .string ⟨#[]⟩, .slice none 0 0, .slice none 0 0]) := H6a.out.on h6.out)
    | (go_at_call 44; refine (HC5.out _ HW6.out.red.1).mono ?_; rintro e w5 ⟨rfl, h5⟩; have H6a : Hid (Bx 30 #[.int .i64 0, .int .i64 0, .int .i64 0, .int .i64 0, .complex .f64 0 0, .int .i64 0, .int .i64 0, .int .i64 0, .int .i64 0, .string ⟨#[]⟩, .int .i64 0, .string ⟨#[]⟩, .int .i64 0, .string ⟨#[]⟩, .slice none 0 0, .slice none 0 0] w w5 r v l S5 w4.heap.size #[.int .i64 X1, .int .i64 X2, .int .i64 X3, .int .i64 X4, .complex .f64 0 0, .int .i64 0, .int .i64 0, .int .i64 0, .int .i64 0, .string ⟨#[]⟩, .int .i64 0, .string ⟨#[]⟩, .int .i64 0, .string ⟨#[]⟩, .slice none 0 0, .slice none 0 0]) := HW6.out.on h5.out))
  obtain ⟨W7, hW7⟩ : ∃ x, (w6).setCell ⟨w4.heap.size, 4, none⟩ (.complex .f64 (floatOfInt .f64 X5) (floatOfInt .f64 X6)) = x := ⟨_, rfl⟩
  have bW7 := (H6b.out).set 4 (.complex .f64 (floatOfInt .f64 X5) (floatOfInt .f64 X6))
  simp only [List.setIfInBounds_toArray, List.set_cons_zero, List.set_cons_succ] at bW7
  rw [hW7] at bW7 ⊢
  have HW7 : Hid (Bx 30 #[.int .i64 0, .int .i64 0, .int .i64 0, .int .i64 0, .complex .f64 0 0, .int .i64 0, .int .i64 0, .int .i64 0, .int .i64 0, .string ⟨#[]⟩, .int .i64 0, .string ⟨#[]⟩, .int .i64 0, .string ⟨#[]⟩, .slice none 0 0, .slice none 0 0] w W7 r v l S6 w4.heap.size #[.int .i64 X1, .int .i64 X2, .int .i64 X3, .int .i64 X4, .complex .f64 (floatOfInt .f64 X5) (floatOfInt .f64 X6), .int .i64 0, .int .i64 0, .int .i64 0, .int .i64 0, .string ⟨#[]⟩, .int .i64 0, .string ⟨#[]⟩, .int .i64 0, .string ⟨#[]⟩, .slice none 0 0, .slice none 0 0]) := bW7
  clear hW7 bW7
  clear h5 h6 H6a H6b HW6 H5 HC5 HC6 HA g4 gf
  go_upto_region 4 with (go_at_call 44; refine (HC7.out _ HW7.out.red.1).mono ?_; rintro e w8 ⟨rfl, h8⟩; have H7a : Hid (Bx 30 #[.int .i64 0, .int .i64 0, .int .i64 0, .int .i64 0, .complex .f64 0 0, .int .i64 0, .int .i64 0, .int .i64 0, .int .i64 0, .string ⟨#[]⟩, .int .i64 0, .string ⟨#[]⟩, .int .i64 0, .string ⟨#[]⟩, .slice none 0 0, .slice none 0 0] w w8 r v l S7 w4.heap.size #[.int .i64 X1, .int .i64 X2, .int .i64 X3, .int .i64 X4, .complex .f64 (floatOfInt .f64 X5) (floatOfInt .f64 X6), .int .i64 0, .int .i64 0, .int .i64 0, .int .i64 0, .string ⟨#[]⟩, .int .i64 0, .string ⟨#[]⟩, .int .i64 0, .string ⟨#[]⟩, .slice none 0 0, .slice none 0 0]) := HW7.out.on h8.out; have g5 := cell_of H7a.out.box 5; have gf := free_of H7a.out.box; simp at g5)
  obtain ⟨W8, hW8⟩ : ∃ x, (w8).setCell ⟨w4.heap.size, 5, none⟩ (.int .i64 X7) = x := ⟨_, rfl⟩
  have bW8 := (H7a.out).set 5 (.int .i64 X7)
  simp only [List.setIfInBounds_toArray, List.set_cons_zero, List.set_cons_succ] at bW8
  rw [hW8] at bW8 ⊢
  have HW8 : Hid (Bx 30 #[.int .i64 0, .int .i64 0, .int .i64 0, .int .i64 0, .complex .f64 0 0, .int .i64 0, .int .i64 0, .int .i64 0, .int .i64 0, .string ⟨#[]⟩, .int .i64 0, .string ⟨#[]⟩, .int .i64 0, .string ⟨#[]⟩, .slice none 0 0, .slice none 0 0] w W8 r v l S7 w4.heap.size #[.int .i64 X1, .int .i64 X2, .int .i64 X3, .int .i64 X4, .complex .f64 (floatOfInt .f64 X5) (floatOfInt .f64 X6), .int .i64 X7, .int .i64 0, .int .i64 0, .int .i64 0, .string ⟨#[]⟩, .int .i64 0, .string ⟨#[]⟩, .int .i64 0, .string ⟨#[]⟩, .slice none 0 0, .slice none 0 0]) := bW8
  clear hW8 bW8
  clear h8 H7a HW7 HC7 g5 gf
  go_upto_region 5 with (go_at_call 44; refine (HC8.out _ HW8.out.red.1).mono ?_; rintro e w9 ⟨rfl, h9⟩; have H8a : Hid (Bx 30 #[.int .i64 0, .int .i64 0, .int .i64 0, .int .i64 0, .complex .f64 0 0, .int .i64 0, .int .i64 0, .int .i64 0, .int .i64 0, .string ⟨#[]⟩, .int .i64 0, .string ⟨#[]⟩, .int .i64 0, .string ⟨#[]⟩, .slice none 0 0, .slice none 0 0] w w9 r v l S8 w4.heap.size #[.int .i64 X1, .int .i64 X2, .int .i64 X3, .int .i64 X4, .complex .f64 (floatOfInt .f64 X5) (floatOfInt .f64 X6), .int .i64 X7, .int .i64 0, .int .i64 0, .int .i64 0, .string ⟨#[]⟩, .int .i64 0, .string ⟨#[]⟩, .int .i64 0, .string ⟨#[]⟩, .slice none 0 0, .slice none 0 0]) := HW8.out.on h9.out; have g6 := cell_of H8a.out.box 6; have gf := free_of H8a.out.box; simp at g6)
  obtain ⟨W9, hW9⟩ : ∃ x, (w9).setCell ⟨w4.heap.size, 6, none⟩ (.int .i64 X8) = x := ⟨_, rfl⟩
  have bW9 := (H8a.out).set 6 (.int .i64 X8)
  simp only [List.setIfInBounds_toArray, List.set_cons_zero, List.set_cons_succ] at bW9
  rw [hW9] at bW9 ⊢
  have HW9 : Hid (Bx 30 #[.int .i64 0, .int .i64 0, .int .i64 0, .int .i64 0, .complex .f64 0 0, .int .i64 0, .int .i64 0, .int .i64 0, .int .i64 0, .string ⟨#[]⟩, .int .i64 0, .string ⟨#[]⟩, .int .i64 0, .string ⟨#[]⟩, .slice none 0 0, .slice none 0 0] w W9 r v l S8 w4.heap.size #[.int .i64 X1, .int .i64 X2, .int .i64 X3, .int .i64 X4, .complex .f64 (floatOfInt .f64 X5) (floatOfInt .f64 X6), .int .i64 X7, .int .i64 X8, .int .i64 0, .int .i64 0, .string ⟨#[]⟩, .int .i64 0, .string ⟨#[]⟩, .int .i64 0, .string ⟨#[]⟩, .slice none 0 0, .slice none 0 0]) := bW9
  clear hW9 bW9
  clear h9 H8a HW8 HC8 g6 gf
  have k0 := cell_of HW9.out.box 0
  simp at k0
  have hkd := HKd.out
  clear HKd
  subst hkd
  obtain ⟨ks, hks⟩ : ∃ o, (listP keyP S8).1 = o := ⟨_, rfl⟩
  obtain ⟨s9, hs9⟩ : ∃ o, (listP keyP S8).2 = o := ⟨_, rfl⟩
  have hB : bodyP 3 S8 = ((zeroOp, [], ks), s9) := by rw [← hks, ← hs9]; rfl
  rw [hB] at hM2
  have HM : Hid (M = (⟨3, X2, X3, X4, X5, X6, X7, X8, zeroOp, [], ks⟩, s9)) := hM2.symm
  have HO : Hid (Calls Try.prog 49 #[.pointer (some ⟨r, 0, none⟩), .func (.func 50) #[.pointer (some ⟨r, 0, none⟩)] #[]] W9 fun e w' => ∃ u, e = .returned u ∧ Hid (Red W9 w' r v l s9 ∧ RowK w' W9.heap.size u ks ∧ ks.length ≤ 48)) := by rw [← hks, ← hs9]; exact listK_r HW9.out.red.1
  clear hM2 hB hks hs9
  go_upto_region 12 with (go_at_call 49; refine HO.out.mono ?_; rintro e w10 ⟨u, rfl, h10⟩; obtain ⟨av, cv, hu⟩ := owns_len h10.out.2.1; subst hu; have Ha : Hid (Bx 30 #[.int .i64 0, .int .i64 0, .int .i64 0, .int .i64 0, .complex .f64 0 0, .int .i64 0, .int .i64 0, .int .i64 0, .int .i64 0, .string ⟨#[]⟩, .int .i64 0, .string ⟨#[]⟩, .int .i64 0, .string ⟨#[]⟩, .slice none 0 0, .slice none 0 0] w w10 r v l s9 w4.heap.size #[.int .i64 3, .int .i64 X2, .int .i64 X3, .int .i64 X4, .complex .f64 (floatOfInt .f64 X5) (floatOfInt .f64 X6), .int .i64 X7, .int .i64 X8, .int .i64 0, .int .i64 0, .string ⟨#[]⟩, .int .i64 0, .string ⟨#[]⟩, .int .i64 0, .string ⟨#[]⟩, .slice none 0 0, .slice none 0 0]) := HW9.out.on h10.out.1; have HRw : Hid (RowK w10 w.heap.size (.slice av ks.length cv) ks) := owns_le h10.out.2.1 HW9.out.red.2.size; have g15 := cell_of Ha.out.box 15; have gf := free_of Ha.out.box; simp at g15; clear h10)
  have HRx := rowK_tag HRw.out (only1 w10 w4.heap.size 15 (.slice av ks.length cv)) (fun k e => by rw [e]; exact ⟨_, _, Ha.out.box⟩)
  obtain ⟨W10, hW10⟩ : ∃ x, (w10).setCell ⟨w4.heap.size, 15, none⟩ (.slice av ks.length cv) = x := ⟨_, rfl⟩
  have bW10 := (Ha.out).set 15 (.slice av ks.length cv)
  simp only [List.setIfInBounds_toArray, List.set_cons_zero, List.set_cons_succ] at bW10
  rw [hW10] at bW10 HRx ⊢
  have HW10 : Hid (Bx 30 #[.int .i64 0, .int .i64 0, .int .i64 0, .int .i64 0, .complex .f64 0 0, .int .i64 0, .int .i64 0, .int .i64 0, .int .i64 0, .string ⟨#[]⟩, .int .i64 0, .string ⟨#[]⟩, .int .i64 0, .string ⟨#[]⟩, .slice none 0 0, .slice none 0 0] w W10 r v l s9 w4.heap.size #[.int .i64 3, .int .i64 X2, .int .i64 X3, .int .i64 X4, .complex .f64 (floatOfInt .f64 X5) (floatOfInt .f64 X6), .int .i64 X7, .int .i64 X8, .int .i64 0, .int .i64 0, .string ⟨#[]⟩, .int .i64 0, .string ⟨#[]⟩, .int .i64 0, .string ⟨#[]⟩, .slice none 0 0, .slice av ks.length cv]) := bW10
  clear hW10 bW10
  have HRy : Hid (RowK W10 w.heap.size (.slice av ks.length cv) ks) := HRx
  clear Ha HW9 HO gf k0 g15 HRx HRw
  have p0 := cell_of HW10.out.box 0
  have q0 := cell_of HW10.out.res 0
  have p1 := cell_of HW10.out.box 1
  have q1 := cell_of HW10.out.res 1
  have p2 := cell_of HW10.out.box 2
  have q2 := cell_of HW10.out.res 2
  have p3 := cell_of HW10.out.box 3
  have q3 := cell_of HW10.out.res 3
  have p4 := cell_of HW10.out.box 4
  have q4 := cell_of HW10.out.res 4
  have p5 := cell_of HW10.out.box 5
  have q5 := cell_of HW10.out.res 5
  have p6 := cell_of HW10.out.box 6
  have q6 := cell_of HW10.out.res 6
  have p7 := cell_of HW10.out.box 7
  have q7 := cell_of HW10.out.res 7
  have p8 := cell_of HW10.out.box 8
  have q8 := cell_of HW10.out.res 8
  have p9 := cell_of HW10.out.box 9
  have q9 := cell_of HW10.out.res 9
  have p10 := cell_of HW10.out.box 10
  have q10 := cell_of HW10.out.res 10
  have p11 := cell_of HW10.out.box 11
  have q11 := cell_of HW10.out.res 11
  have p12 := cell_of HW10.out.box 12
  have q12 := cell_of HW10.out.res 12
  have p13 := cell_of HW10.out.box 13
  have q13 := cell_of HW10.out.res 13
  have p14 := cell_of HW10.out.box 14
  have q14 := cell_of HW10.out.res 14
  have p15 := cell_of HW10.out.box 15
  have q15 := cell_of HW10.out.res 15
  simp at p0 q0 p1 q1 p2 q2 p3 q3 p4 q4 p5 q5 p6 q6 p7 q7 p8 q8 p9 q9 p10 q10 p11 q11 p12 q12 p13 q13 p14 q14 p15 q15
  have qf := free_of HW10.out.res
  go_wp2
  have hfin := putC_all (g := w.heap.size) (xs := [.int .i64 3, .int .i64 X2, .int .i64 X3, .int .i64 X4, .complex .f64 (floatOfInt .f64 X5) (floatOfInt .f64 X6), .int .i64 X7, .int .i64 X8, .int .i64 0, .int .i64 0, .string ⟨#[]⟩, .int .i64 0, .string ⟨#[]⟩, .int .i64 0, .string ⟨#[]⟩, .slice none 0 0, .slice av ks.length cv]) HW10.out.res rfl
  have hon := putC_only w.heap.size [.int .i64 3, .int .i64 X2, .int .i64 X3, .int .i64 X4, .complex .f64 (floatOfInt .f64 X5) (floatOfInt .f64 X6), .int .i64 X7, .int .i64 X8, .int .i64 0, .int .i64 0, .string ⟨#[]⟩, .int .i64 0, .string ⟨#[]⟩, .int .i64 0, .string ⟨#[]⟩, .slice none 0 0, .slice av ks.length cv] 0 W10
  have hfr := HW10.out.red.box HG.out hon (Nat.le_refl _)
  have htg : ∀ k, k = w.heap.size → Tag W10 k 30 := fun k e => by rw [e]; exact ⟨_, _, HW10.out.res⟩
  refine bodyPost_ret (results_cell_row rfl _ _ w.heap.size _ _ _ _ rfl hfin Try.underlying30 rfl Try.sizeMsg) rfl ?_
  rw [HM.out]
  exact ⟨.slice none 0 0, .slice av ks.length cv, rfl, hfr, World.ownsRow_nil _ _ _ _, rowK_tag HRy.out hon htg⟩
end
end Go.Proofs.Ytekonakanieeaaa
