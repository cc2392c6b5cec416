/- The reader in memory: message. -/
import Derived.Test.YtekonakanieeaaaJWEpt16
import Derived.Test.YtekonakanieeaaaJWEpt17
import Derived.Test.YtekonakanieeaaaJWEpt18
namespace Go.Proofs.Ytekonakanieeaaa
section
open Go.RowKit Go.Lib
attribute [local go_sem high] run_store_complex

set_option maxRecDepth 20000 in
set_option maxHeartbeats 16000000 in
theorem message_r0 {w : World} {r : Nat} {v : Value} {l : List Int} {s : St} (h : Rg w r v l s) (hkd : ¬ (octP s).1 = 1 ∧ ¬ (octP s).1 = 2 ∧ ¬ (octP s).1 = 3) : Calls Try.prog 19 #[.pointer (some ⟨r, 0, none⟩)] w fun e w' => ∃ ve vk, e = .returned (.agg (MsV (msgP s).1 ve vk).arr) ∧ Red w w' r v l (msgP s).2 ∧ Row7 w' w.heap.size ve (msgP s).1.es ∧ RowK w' w.heap.size vk (msgP s).1.ks := by
  have HG : Hid (Rg w r v l s) := h
  have hlft := h.lft
  obtain ⟨W, hW⟩ : ∃ W, w.alloc (.cells #[.int .i64 0, .int .i64 0, .int .i64 0, .int .i64 0, .complex .f64 0 0, .int .i64 0, .int .i64 0, .int .i64 0, .int .i64 0, .string ⟨#[]⟩, .int .i64 0, .string ⟨#[]⟩, .int .i64 0, .string ⟨#[]⟩, .slice none 0 0, .slice none 0 0] 30) = W := ⟨_, rfl⟩
  have hb := boxB hW
  have HW : Hid (w.alloc (.cells #[.int .i64 0, .int .i64 0, .int .i64 0, .int .i64 0, .complex .f64 0 0, .int .i64 0, .int .i64 0, .int .i64 0, .int .i64 0, .string ⟨#[]⟩, .int .i64 0, .string ⟨#[]⟩, .int .i64 0, .string ⟨#[]⟩, .slice none 0 0, .slice none 0 0] 30) = W) := hW
  have HC1 : Hid (Calls Try.prog 43 #[.pointer (some ⟨r, 0, none⟩)] W fun e w' => RdR W r v l (octP s).2 (.int .i64 (octP s).1) e w') := octet_r (h.below hb.2)
  obtain ⟨M, hM⟩ : ∃ M, msgP s = M := ⟨_, rfl⟩
  rw [hM]
  unfold msgP at hM
  simp only [] at hM
  have l1 := octP_lft hlft
  obtain ⟨X1, hX1⟩ : ∃ x, (octP s).1 = x := ⟨_, rfl⟩
  obtain ⟨S1, hS1⟩ : ∃ x, (octP s).2 = x := ⟨_, rfl⟩
  rw [hX1, hS1] at HC1 hM
  rw [hX1] at hkd
  have HKd : Hid (¬ X1 = 1 ∧ ¬ X1 = 2 ∧ ¬ X1 = 3) := hkd
  clear hkd
  rw [hS1] at l1
  have HC2 : Hid (∀ W2, Rg W2 r v l S1 → Calls Try.prog 44 #[.pointer (some ⟨r, 0, none⟩)] W2 fun e w' => RdR W2 r v l (numP S1).2 (.int .i64 (numP S1).1) e w') := fun W2 h2 => number_r h2
  have n2 := numP_in l1
  have l2 := numP_lft l1
  obtain ⟨X2, hX2⟩ : ∃ x, (numP S1).1 = x := ⟨_, rfl⟩
  obtain ⟨S2, hS2⟩ : ∃ x, (numP S1).2 = x := ⟨_, rfl⟩
  rw [hX2, hS2] at HC2 hM
  rw [hX2] at n2
  rw [hS2] at l2
  have HC3 : Hid (∀ W2, Rg W2 r v l S2 → Calls Try.prog 44 #[.pointer (some ⟨r, 0, none⟩)] W2 fun e w' => RdR W2 r v l (numP S2).2 (.int .i64 (numP S2).1) e w') := fun W2 h2 => number_r h2
  have n3 := numP_in l2
  have l3 := numP_lft l2
  obtain ⟨X3, hX3⟩ : ∃ x, (numP S2).1 = x := ⟨_, rfl⟩
  obtain ⟨S3, hS3⟩ : ∃ x, (numP S2).2 = x := ⟨_, rfl⟩
  rw [hX3, hS3] at HC3 hM
  rw [hX3] at n3
  rw [hS3] at l3
  have HC4 : Hid (∀ W2, Rg W2 r v l S3 → Calls Try.prog 44 #[.pointer (some ⟨r, 0, none⟩)] W2 fun e w' => RdR W2 r v l (numP S3).2 (.int .i64 (numP S3).1) e w') := fun W2 h2 => number_r h2
  have n4 := numP_in l3
  have l4 := numP_lft l3
  obtain ⟨X4, hX4⟩ : ∃ x, (numP S3).1 = x := ⟨_, rfl⟩
  obtain ⟨S4, hS4⟩ : ∃ x, (numP S3).2 = x := ⟨_, rfl⟩
  rw [hX4, hS4] at HC4 hM
  rw [hX4] at n4
  rw [hS4] at l4
  have HC5 : Hid (∀ W2, Rg W2 r v l S4 → Calls Try.prog 44 #[.pointer (some ⟨r, 0, none⟩)] W2 fun e w' => RdR W2 r v l (numP S4).2 (.int .i64 (numP S4).1) e w') := fun W2 h2 => number_r h2
  have n5 := numP_in l4
  have l5 := numP_lft l4
  obtain ⟨X5, hX5⟩ : ∃ x, (numP S4).1 = x := ⟨_, rfl⟩
  obtain ⟨S5, hS5⟩ : ∃ x, (numP S4).2 = x := ⟨_, rfl⟩
  rw [hX5, hS5] at HC5 hM
  rw [hX5] at n5
  rw [hS5] at l5
  have HC6 : Hid (∀ W2, Rg W2 r v l S5 → Calls Try.prog 44 #[.pointer (some ⟨r, 0, none⟩)] W2 fun e w' => RdR W2 r v l (numP S5).2 (.int .i64 (numP S5).1) e w') := fun W2 h2 => number_r h2
  have n6 := numP_in l5
  have l6 := numP_lft l5
  obtain ⟨X6, hX6⟩ : ∃ x, (numP S5).1 = x := ⟨_, rfl⟩
  obtain ⟨S6, hS6⟩ : ∃ x, (numP S5).2 = x := ⟨_, rfl⟩
  rw [hX6, hS6] at HC6 hM
  rw [hX6] at n6
  rw [hS6] at l6
  have HC7 : Hid (∀ W2, Rg W2 r v l S6 → Calls Try.prog 44 #[.pointer (some ⟨r, 0, none⟩)] W2 fun e w' => RdR W2 r v l (numP S6).2 (.int .i64 (numP S6).1) e w') := fun W2 h2 => number_r h2
  have n7 := numP_in l6
  have l7 := numP_lft l6
  obtain ⟨X7, hX7⟩ : ∃ x, (numP S6).1 = x := ⟨_, rfl⟩
  obtain ⟨S7, hS7⟩ : ∃ x, (numP S6).2 = x := ⟨_, rfl⟩
  rw [hX7, hS7] at HC7 hM
  rw [hX7] at n7
  rw [hS7] at l7
  have HC8 : Hid (∀ W2, Rg W2 r v l S7 → Calls Try.prog 44 #[.pointer (some ⟨r, 0, none⟩)] W2 fun e w' => RdR W2 r v l (numP S7).2 (.int .i64 (numP S7).1) e w') := fun W2 h2 => number_r h2
  have n8 := numP_in l7
  have l8 := numP_lft l7
  obtain ⟨X8, hX8⟩ : ∃ x, (numP S7).1 = x := ⟨_, rfl⟩
  obtain ⟨S8, hS8⟩ : ∃ x, (numP S7).2 = x := ⟨_, rfl⟩
  rw [hX8, hS8] at HC8 hM
  rw [hX8] at n8
  rw [hS8] at l8
  have HA : Hid (∀ W2, Calls Try.prog 45 #[.int .i64 X5, .int .i64 X6] W2 fun e w' => e = .returned (.tuple #[.complex .f64 (floatOfInt .f64 X5) (floatOfInt .f64 X6), .int .i64 0]) ∧ W2 = w') := fun W2 => (at_yes X5 X6 W2 (within_of n5) (within_of n6)).mono fun _ _ h => ⟨h.1, h.2.symm⟩
  have hM2 := hM
  clear h hb hlft hM l1 hX1 hS1 l2 hX2 hS2 l3 hX3 hS3 l4 hX4 hS4 l5 hX5 hS5 l6 hX6 hS6 l7 hX7 hS7 l8 hX8 hS8
  go_enter Try.func19, Try.ntmps19
  go_upto_region 1 with fail
  clear hW
  go_upto_region 2 with (first
    | (go_at_call 44; refine (HC4.out _ R3.out.1).mono ?_; rintro e w4 ⟨rfl, h4⟩; have R4 : Hid (Red W w4 r v l S4) := R3.out.on h4.out; obtain ⟨W5, hW5⟩ : ∃ W5, w4.alloc (.cells #[.int .i64 0, .int .i64 0, .int .i64 0, .int .i64 0, .complex .f64 0 0, .int .i64 0, .int .i64 0, .int .i64 0, .int .i64 0, .string ⟨#[]⟩, .int .i64 0, .string ⟨#[]⟩, .int .i64 0, .string ⟨#[]⟩, .slice none 0 0, .slice none 0 0] 30) = W5 := ⟨_, rfl⟩; have hb5 := boxB hW5; have yf := free_of hb5.1; have y0 := cell_of hb5.1 0; have y1 := cell_of hb5.1 1; have y2 := cell_of hb5.1 2; have y3 := cell_of hb5.1 3; have y4 := cell_of hb5.1 4; have y5 := cell_of hb5.1 5; have y6 := cell_of hb5.1 6; have y7 := cell_of hb5.1 7; have y8 := cell_of hb5.1 8; have y9 := cell_of hb5.1 9; have y10 := cell_of hb5.1 10; have y11 := cell_of hb5.1 11; have y12 := cell_of hb5.1 12; have y13 := cell_of hb5.1 13; have y14 := cell_of hb5.1 14; have y15 := cell_of hb5.1 15; simp at y0 y1 y2 y3 y4 y5 y6 y7 y8 y9 y10 y11 y12 y13 y14 y15; have HW5 : Hid (w4.alloc (.cells #[.int .i64 0, .int .i64 0, .int .i64 0, .int .i64 0, .complex .f64 0 0, .int .i64 0, .int .i64 0, .int .i64 0, .int .i64 0, .string ⟨#[]⟩, .int .i64 0, .string ⟨#[]⟩, .int .i64 0, .string ⟨#[]⟩, .slice none 0 0, .slice none 0 0] 30) = W5) := hW5; clear hb5)
    | (go_at_call 44; refine (HC3.out _ R2.out.1).mono ?_; rintro e w3 ⟨rfl, h3⟩; have R3 : Hid (Red W w3 r v l S3) := R2.out.on h3.out)
    | (go_at_call 44; refine (HC2.out _ R1.out.1).mono ?_; rintro e w2 ⟨rfl, h2⟩; have R2 : Hid (Red W w2 r v l S2) := R1.out.on h2.out)
    | (go_at_call 43; refine HC1.out.mono ?_; rintro e w1 ⟨rfl, h1⟩; have R1 : Hid (Red W w1 r v l S1) := h1.out))
  have H5 : Hid (Bx 30 #[.int .i64 0, .int .i64 0, .int .i64 0, .int .i64 0, .complex .f64 0 0, .int .i64 0, .int .i64 0, .int .i64 0, .int .i64 0, .string ⟨#[]⟩, .int .i64 0, .string ⟨#[]⟩, .int .i64 0, .string ⟨#[]⟩, .slice none 0 0, .slice none 0 0] w W5 r v l S4 w4.heap.size #[.int .i64 0, .int .i64 0, .int .i64 0, .int .i64 0, .complex .f64 0 0, .int .i64 0, .int .i64 0, .int .i64 0, .int .i64 0, .string ⟨#[]⟩, .int .i64 0, .string ⟨#[]⟩, .int .i64 0, .string ⟨#[]⟩, .slice none 0 0, .slice none 0 0]) := Bx.new HG.out HW.out R4.out HW5.out
  clear hW5 HW5 h1 h2 h3 h4 R1 R2 R3 R4 HC1 HC2 HC3 HC4 HW yf y0 y1 y2 y3 y4 y5 y6 y7 y8 y9 y10 y11 y12 y13 y14 y15
  obtain ⟨W6, hW6⟩ : ∃ x, ((((((((((((((((W5).setCell ⟨w4.heap.size, 0, none⟩ (.int .i64 X1)).setCell ⟨w4.heap.size, 1, none⟩ (.int .i64 X2)).setCell ⟨w4.heap.size, 2, none⟩ (.int .i64 X3)).setCell ⟨w4.heap.size, 3, none⟩ (.int .i64 X4)).setCell ⟨w4.heap.size, 4, none⟩ (.complex .f64 0 0)).setCell ⟨w4.heap.size, 5, none⟩ (.int .i64 0)).setCell ⟨w4.heap.size, 6, none⟩ (.int .i64 0)).setCell ⟨w4.heap.size, 7, none⟩ (.int .i64 0)).setCell ⟨w4.heap.size, 8, none⟩ (.int .i64 0)).setCell ⟨w4.heap.size, 9, none⟩ (.string ⟨#[]⟩)).setCell ⟨w4.heap.size, 10, none⟩ (.int .i64 0)).setCell ⟨w4.heap.size, 11, none⟩ (.string ⟨#[]⟩)).setCell ⟨w4.heap.size, 12, none⟩ (.int .i64 0)).setCell ⟨w4.heap.size, 13, none⟩ (.string ⟨#[]⟩)).setCell ⟨w4.heap.size, 14, none⟩ (.slice none 0 0)).setCell ⟨w4.heap.size, 15, none⟩ (.slice none 0 0) = x := ⟨_, rfl⟩
  have bW6 := ((((((((((((((((H5.out).set 0 (.int .i64 X1)).set 1 (.int .i64 X2)).set 2 (.int .i64 X3)).set 3 (.int .i64 X4)).set 4 (.complex .f64 0 0)).set 5 (.int .i64 0)).set 6 (.int .i64 0)).set 7 (.int .i64 0)).set 8 (.int .i64 0)).set 9 (.string ⟨#[]⟩)).set 10 (.int .i64 0)).set 11 (.string ⟨#[]⟩)).set 12 (.int .i64 0)).set 13 (.string ⟨#[]⟩)).set 14 (.slice none 0 0)).set 15 (.slice none 0 0)
  simp only [List.setIfInBounds_toArray, List.set_cons_zero, List.set_cons_succ] at bW6
  rw [hW6] at bW6 ⊢
  have HW6 : Hid (Bx 30 #[.int .i64 0, .int .i64 0, .int .i64 0, .int .i64 0, .complex .f64 0 0, .int .i64 0, .int .i64 0, .int .i64 0, .int .i64 0, .string ⟨#[]⟩, .int .i64 0, .string ⟨#[]⟩, .int .i64 0, .string ⟨#[]⟩, .slice none 0 0, .slice none 0 0] w W6 r v l S4 w4.heap.size #[.int .i64 X1, .int .i64 X2, .int .i64 X3, .int .i64 X4, .complex .f64 0 0, .int .i64 0, .int .i64 0, .int .i64 0, .int .i64 0, .string ⟨#[]⟩, .int .i64 0, .string ⟨#[]⟩, .int .i64 0, .string ⟨#[]⟩, .slice none 0 0, .slice none 0 0]) := bW6
  clear hW6 bW6
  go_upto_region 3 with (first
    | (go_at_call 45; refine (HA.out _).mono ?_; rintro e w7 ⟨rfl, rfl⟩; have g4 := cell_of H6b.out.box 4; have gf := free_of H6b.out.box; simp at g4)
    | (go_at_call 44; refine (HC6.out _ H6a.out.red.1).mono ?_; rintro e w6 ⟨rfl, h6⟩; have H6b : Hid (Bx 30 #[.int .i64 0, .int .i64 0, .int .i64 0, .int .i64 0, .complex .f64 0 0, .int .i64 0, .int .i64 0, .int .i64 0, .int .i64 0, .string ⟨#[]⟩, .int .i64 0, .string ⟨#[]⟩, .int .i64 0, .string ⟨#[]⟩, .slice none 0 0, .slice none 0 0] w w6 r v l S6 w4.heap.size #[.int .i64 X1, .int .i64 X2, .int .i64 X3, .int .i64 X4, .complex .f64 0 0, .int .i64 0, .int .i64 0, .int .i64 0, .int .i64 0, .string ⟨#[]⟩, .int .i64 0, .string ⟨#[]⟩, .int .i64 0, .string ⟨#[]⟩, .slice none 0 0, .slice none 0 0]) := H6a.out.on h6.out)
    | (go_at_call 44; refine (HC5.out _ HW6.out.red.1).mono ?_; rintro e w5 ⟨rfl, h5⟩; have H6a : Hid (Bx 30 #[.int .i64 0, .int .i64 0, .int .i64 0, .int .i64 0, .complex .f64 0 0, .int .i64 0, .int .i64 0, .int .i64 0, .int .i64 0, .string ⟨#[]⟩, .int .i64 0, .string ⟨#[]⟩, .int .i64 0, .string ⟨#[]⟩, .slice none 0 0, .slice none 0 0] w w5 r v l S5 w4.heap.size #[.int .i64 X1, .int .i64 X2, .int .i64 X3, .int .i64 X4, .complex .f64 0 0, .int .i64 0, .int .i64 0, .int .i64 0, .int .i64 0, .string ⟨#[]⟩, .int .i64 0, .string ⟨#[]⟩, .int .i64 0, .string ⟨#[]⟩, .slice none 0 0, .slice none 0 0]) := HW6.out.on h5.out))
  obtain ⟨W7, hW7⟩ : ∃ x, (w6).setCell ⟨w4.heap.size, 4, none⟩ (.complex .f64 (floatOfInt .f64 X5) (floatOfInt .f64 X6)) = x := ⟨_, rfl⟩
  have bW7 := (H6b.out).set 4 (.complex .f64 (floatOfInt .f64 X5) (floatOfInt .f64 X6))
  simp only [List.setIfInBounds_toArray, List.set_cons_zero, List.set_cons_succ] at bW7
  rw [hW7] at bW7 ⊢
  have HW7 : Hid (Bx 30 #[.int .i64 0, .int .i64 0, .int .i64 0, .int .i64 0, .complex .f64 0 0, .int .i64 0, .int .i64 0, .int .i64 0, .int .i64 0, .string ⟨#[]⟩, .int .i64 0, .string ⟨#[]⟩, .int .i64 0, .string ⟨#[]⟩, .slice none 0 0, .slice none 0 0] w W7 r v l S6 w4.heap.size #[.int .i64 X1, .int .i64 X2, .int .i64 X3, .int .i64 X4, .complex .f64 (floatOfInt .f64 X5) (floatOfInt .f64 X6), .int .i64 0, .int .i64 0, .int .i64 0, .int .i64 0, .string ⟨#[]⟩, .int .i64 0, .string ⟨#[]⟩, .int .i64 0, .string ⟨#[]⟩, .slice none 0 0, .slice none 0 0]) := bW7
  clear hW7 bW7
  clear h5 h6 H6a H6b HW6 H5 HC5 HC6 HA g4 gf
  go_upto_region 4 with (go_at_call 44; refine (HC7.out _ HW7.out.red.1).mono ?_; rintro e w8 ⟨rfl, h8⟩; have H7a : Hid (Bx 30 #[.int .i64 0, .int .i64 0, .int .i64 0, .int .i64 0, .complex .f64 0 0, .int .i64 0, .int .i64 0, .int .i64 0, .int .i64 0, .string ⟨#[]⟩, .int .i64 0, .string ⟨#[]⟩, .int .i64 0, .string ⟨#[]⟩, .slice none 0 0, .slice none 0 0] w w8 r v l S7 w4.heap.size #[.int .i64 X1, .int .i64 X2, .int .i64 X3, .int .i64 X4, .complex .f64 (floatOfInt .f64 X5) (floatOfInt .f64 X6), .int .i64 0, .int .i64 0, .int .i64 0, .int .i64 0, .string ⟨#[]⟩, .int .i64 0, .string ⟨#[]⟩, .int .i64 0, .string ⟨#[]⟩, .slice none 0 0, .slice none 0 0]) := HW7.out.on h8.out; have g5 := cell_of H7a.out.box 5; have gf := free_of H7a.out.box; simp at g5)
  obtain ⟨W8, hW8⟩ : ∃ x, (w8).setCell ⟨w4.heap.size, 5, none⟩ (.int .i64 X7) = x := ⟨_, rfl⟩
  have bW8 := (H7a.out).set 5 (.int .i64 X7)
  simp only [List.setIfInBounds_toArray, List.set_cons_zero, List.set_cons_succ] at bW8
  rw [hW8] at bW8 ⊢
  have HW8 : Hid (Bx 30 #[.int .i64 0, .int .i64 0, .int .i64 0, .int .i64 0, .complex .f64 0 0, .int .i64 0, .int .i64 0, .int .i64 0, .int .i64 0, .string ⟨#[]⟩, .int .i64 0, .string ⟨#[]⟩, .int .i64 0, .string ⟨#[]⟩, .slice none 0 0, .slice none 0 0] w W8 r v l S7 w4.heap.size #[.int .i64 X1, .int .i64 X2, .int .i64 X3, .int .i64 X4, .complex .f64 (floatOfInt .f64 X5) (floatOfInt .f64 X6), .int .i64 X7, .int .i64 0, .int .i64 0, .int .i64 0, .string ⟨#[]⟩, .int .i64 0, .string ⟨#[]⟩, .int .i64 0, .string ⟨#[]⟩, .slice none 0 0, .slice none 0 0]) := bW8
  clear hW8 bW8
  clear h8 H7a HW7 HC7 g5 gf
  go_upto_region 5 with (go_at_call 44; refine (HC8.out _ HW8.out.red.1).mono ?_; rintro e w9 ⟨rfl, h9⟩; have H8a : Hid (Bx 30 #[.int .i64 0, .int .i64 0, .int .i64 0, .int .i64 0, .complex .f64 0 0, .int .i64 0, .int .i64 0, .int .i64 0, .int .i64 0, .string ⟨#[]⟩, .int .i64 0, .string ⟨#[]⟩, .int .i64 0, .string ⟨#[]⟩, .slice none 0 0, .slice none 0 0] w w9 r v l S8 w4.heap.size #[.int .i64 X1, .int .i64 X2, .int .i64 X3, .int .i64 X4, .complex .f64 (floatOfInt .f64 X5) (floatOfInt .f64 X6), .int .i64 X7, .int .i64 0, .int .i64 0, .int .i64 0, .string ⟨#[]⟩, .int .i64 0, .string ⟨#[]⟩, .int .i64 0, .string ⟨#[]⟩, .slice none 0 0, .slice none 0 0]) := HW8.out.on h9.out; have g6 := cell_of H8a.out.box 6; have gf := free_of H8a.out.box; simp at g6)
  obtain ⟨W9, hW9⟩ : ∃ x, (w9).setCell ⟨w4.heap.size, 6, none⟩ (.int .i64 X8) = x := ⟨_, rfl⟩
  have bW9 := (H8a.out).set 6 (.int .i64 X8)
  simp only [List.setIfInBounds_toArray, List.set_cons_zero, List.set_cons_succ] at bW9
  rw [hW9] at bW9 ⊢
  have HW9 : Hid (Bx 30 #[.int .i64 0, .int .i64 0, .int .i64 0, .int .i64 0, .complex .f64 0 0, .int .i64 0, .int .i64 0, .int .i64 0, .int .i64 0, .string ⟨#[]⟩, .int .i64 0, .string ⟨#[]⟩, .int .i64 0, .string ⟨#[]⟩, .slice none 0 0, .slice none 0 0] w W9 r v l S8 w4.heap.size #[.int .i64 X1, .int .i64 X2, .int .i64 X3, .int .i64 X4, .complex .f64 (floatOfInt .f64 X5) (floatOfInt .f64 X6), .int .i64 X7, .int .i64 X8, .int .i64 0, .int .i64 0, .string ⟨#[]⟩, .int .i64 0, .string ⟨#[]⟩, .int .i64 0, .string ⟨#[]⟩, .slice none 0 0, .slice none 0 0]) := bW9
  clear hW9 bW9
  clear h9 H8a HW8 HC8 g6 gf
  have k0 := cell_of HW9.out.box 0
  simp at k0
  obtain ⟨k1, k2, k3⟩ := HKd.out
  have k1b : (X1 == 1) = false := by simpa using k1
  have k2b : (X1 == 2) = false := by simpa using k2
  have k3b : (X1 == 3) = false := by simpa using k3
  have hB : bodyP X1 S8 = ((zeroOp, [], []), S8) := by unfold bodyP; rw [if_neg k1, if_neg k2, if_neg k3]
  rw [hB] at hM2
  have HM : Hid (M = (⟨X1, X2, X3, X4, X5, X6, X7, X8, zeroOp, [], []⟩, S8)) := hM2.symm
  clear hM2 hB k1 k2 k3
  go_upto_region 12 with fail
  have p0 := cell_of HW9.out.box 0
  have q0 := cell_of HW9.out.res 0
  have p1 := cell_of HW9.out.box 1
  have q1 := cell_of HW9.out.res 1
  have p2 := cell_of HW9.out.box 2
  have q2 := cell_of HW9.out.res 2
  have p3 := cell_of HW9.out.box 3
  have q3 := cell_of HW9.out.res 3
  have p4 := cell_of HW9.out.box 4
  have q4 := cell_of HW9.out.res 4
  have p5 := cell_of HW9.out.box 5
  have q5 := cell_of HW9.out.res 5
  have p6 := cell_of HW9.out.box 6
  have q6 := cell_of HW9.out.res 6
  have p7 := cell_of HW9.out.box 7
  have q7 := cell_of HW9.out.res 7
  have p8 := cell_of HW9.out.box 8
  have q8 := cell_of HW9.out.res 8
  have p9 := cell_of HW9.out.box 9
  have q9 := cell_of HW9.out.res 9
  have p10 := cell_of HW9.out.box 10
  have q10 := cell_of HW9.out.res 10
  have p11 := cell_of HW9.out.box 11
  have q11 := cell_of HW9.out.res 11
  have p12 := cell_of HW9.out.box 12
  have q12 := cell_of HW9.out.res 12
  have p13 := cell_of HW9.out.box 13
  have q13 := cell_of HW9.out.res 13
  have p14 := cell_of HW9.out.box 14
  have q14 := cell_of HW9.out.res 14
  have p15 := cell_of HW9.out.box 15
  have q15 := cell_of HW9.out.res 15
  simp at p0 q0 p1 q1 p2 q2 p3 q3 p4 q4 p5 q5 p6 q6 p7 q7 p8 q8 p9 q9 p10 q10 p11 q11 p12 q12 p13 q13 p14 q14 p15 q15
  have qf := free_of HW9.out.res
  go_wp2
  have hfin := putC_all (g := w.heap.size) (xs := [.int .i64 X1, .int .i64 X2, .int .i64 X3, .int .i64 X4, .complex .f64 (floatOfInt .f64 X5) (floatOfInt .f64 X6), .int .i64 X7, .int .i64 X8, .int .i64 0, .int .i64 0, .string ⟨#[]⟩, .int .i64 0, .string ⟨#[]⟩, .int .i64 0, .string ⟨#[]⟩, .slice none 0 0, .slice none 0 0]) HW9.out.res rfl
  have hon := putC_only w.heap.size [.int .i64 X1, .int .i64 X2, .int .i64 X3, .int .i64 X4, .complex .f64 (floatOfInt .f64 X5) (floatOfInt .f64 X6), .int .i64 X7, .int .i64 X8, .int .i64 0, .int .i64 0, .string ⟨#[]⟩, .int .i64 0, .string ⟨#[]⟩, .int .i64 0, .string ⟨#[]⟩, .slice none 0 0, .slice none 0 0] 0 W9
  have hfr := HW9.out.red.box HG.out hon (Nat.le_refl _)
  have htg : ∀ k, k = w.heap.size → Tag W9 k 30 := fun k e => by rw [e]; exact ⟨_, _, HW9.out.res⟩
  refine bodyPost_ret (results_cell_row rfl _ _ w.heap.size _ _ _ _ rfl hfin Try.underlying30 rfl Try.sizeMsg) rfl ?_
  rw [HM.out]
  exact ⟨.slice none 0 0, .slice none 0 0, rfl, hfr, World.ownsRow_nil _ _ _ _, World.ownsRow_nil _ _ _ _⟩
end
section
open Go.RowKit Go.Lib

theorem message_r {w : World} {r : Nat} {v : Value} {l : List Int} {s : St} (h : Rg w r v l s) : Calls Try.prog 19 #[.pointer (some ⟨r, 0, none⟩)] w fun e w' => ∃ ve vk, e = .returned (.agg (MsV (msgP s).1 ve vk).arr) ∧ Red w w' r v l (msgP s).2 ∧ Row7 w' w.heap.size ve (msgP s).1.es ∧ RowK w' w.heap.size vk (msgP s).1.ks := by
  by_cases h1 : (octP s).1 = 1
  · exact message_r1 h h1
  · by_cases h2 : (octP s).1 = 2
    · exact message_r2 h h2
    · by_cases h3 : (octP s).1 = 3
      · exact message_r3 h h3
      · exact message_r0 h ⟨h1, h2, h3⟩
def doneB (s : St) : Bool := match s with
  | some [] => true
  | _ => false
theorem doneB_iff (s : St) : doneB s = true ↔ s = some [] := by
  unfold doneB
  split
  · simp
  · rename_i h
    constructor
    · intro h'; cases h'
    · intro h'; exact absurd h' h
set_option maxRecDepth 20000 in
set_option maxHeartbeats 8000000 in
theorem done_r {w : World} {r : Nat} {v : Value} {l : List Int} {s : St} (h : Rg w r v l s) : Calls Try.prog 20 #[.pointer (some ⟨r, 0, none⟩)] w fun e w' => e = .returned (.bool (doneB s)) ∧ Below w.heap.size w w' := by
  obtain ⟨a, st, h⟩ := h
  obtain ⟨c0, c1, c2, cf⟩ := h.cells
  obtain ⟨ad, cap, rfl, _, _⟩ := id h.rb
  obtain ⟨n, hn⟩ : ∃ n, l.length = n := ⟨_, rfl⟩
  rw [hn] at c0
  rcases h.state with ⟨rfl, rfl, ha⟩ | ⟨rfl, rfl, ha⟩
  · clear h
    have HE : Hid (doneB none = false) := rfl
    clear ha
    rw [HE.out]
    clear hn
    go_enter Try.func20, Try.ntmps20
    go_upto_region 1 with fail
    go_quiet (fail)
    obtain ⟨W, hW⟩ : ∃ W, w.drewN nq = W := ⟨_, rfl⟩
    have hb : Below w.heap.size w W := by rw [← hW]; exact below_drewN (Below.refl _ _) _
    rw [hW]
    go_wp2
    go_ret
    exact ⟨rfl, hb⟩
  · have HE : Hid (doneB (some (l.drop a)) = ((a : Int) == (n : Int))) := by
      show _ = _
      by_cases h1 : a = n
      · subst h1
        rw [List.drop_of_length_le (by omega)]
        simp [doneB]
      · have h2 : ((a : Int) == (n : Int)) = false := by rw [beq_eq_false_iff_ne]; omega
        rw [h2]
        cases hq : doneB (some (l.drop a)) with
        | false => rfl
        | true =>
          have := (doneB_iff _).1 hq
          have h3 := congrArg (Option.map List.length) this
          simp at h3
          omega
    rw [HE.out]
    clear h ha hn
    go_enter Try.func20, Try.ntmps20
    go_upto_region 1 with fail
    go_quiet (fail)
    obtain ⟨W, hW⟩ : ∃ W, w.drewN nq = W := ⟨_, rfl⟩
    have hb : Below w.heap.size w W := by rw [← hW]; exact below_drewN (Below.refl _ _) _
    rw [hW]
    go_wp2
    go_ret
    exact ⟨rfl, hb⟩
theorem ofInt_good {n k : Int} (hn : numOk n) (hk : numOk k) : goodB (floatOfInt .f64 n) (floatOfInt .f64 k) = true ∧ part (floatOfInt .f64 n) = n ∧ part (floatOfInt .f64 k) = k := by
  unfold numOk at hn hk
  have h1 := ofInt_val n (by omega)
  have h2 := ofInt_val k (by omega)
  refine ⟨?_, part_of h1, part_of h2⟩
  rw [good_of h1 h2]
  exact decide_eq_true ⟨hn.1, hn.2, hk.1, hk.2⟩
theorem MsV_mg {m : Mg} {ve vk : Value} (h1 : numOk m.ep) (h2 : numOk m.nb) : (MsV m ve vk).mg = m := by
  obtain ⟨_, e1, e2⟩ := ofInt_good h1 h2
  obtain ⟨kind, client, life, seq, ep, nb, vers, err, op, es, ks⟩ := m
  unfold MsV Ms.mg
  simp only [] at e1 e2 ⊢
  rw [e1, e2]
theorem MsV_plain {m : Mg} {ve vk : Value} (h1 : numOk m.ep) (h2 : numOk m.nb) : plainB (MsV m ve vk) = true ↔ msgOk m := by
  rw [plainB_iff, MsV_mg h1 h2]
  have := (ofInt_good h1 h2).1
  exact ⟨fun h => h.2, fun h => ⟨this, h⟩⟩
theorem msgP_marks {s : St} (h : Lft s) : numOk (msgP s).1.ep ∧ numOk (msgP s).1.nb := by
  have l1 := numP_lft (numP_lft (numP_lft (octP_lft h)))
  exact ⟨numP_in l1, numP_in (numP_lft l1)⟩
end
section
open Go.RowKit Go.Lib
attribute [local go_sem high] run_store_complex

theorem ret_msg2 {fn : Func} {p u : Tmp} (h : fn.results = #[.cell p 30, .tmp u]) (tmps : Array Value) (w : World) (g : Nat) {t : TypeId} {cs : Array Value} {fr : Nat × Nat} (hp : tmps.getD p undef = .pointer (some ⟨g, 0, none⟩)) (hg : w.heap[g]? = some (.cells cs t fr)) (hs : cs.size = 16) :
    (results fn tmps).run Try.prog w = .ok (.tuple #[.agg cs, tmps.getD u undef]) w := by
  rw [results_cell_tmp h, hp]
  simp [asAddr, run_loadVar_row w g t 30 _ fr _ hg Try.underlying30 rfl (by rw [hs]; exact Try.sizeMsg), Result.andThen]
/-- what Decode answers -/
def DecR (l : List Int) (w w' : World) (e : Ending) : Prop :=
  (∃ m ve vk, msgOk m ∧ msgB m = l ∧ e = .returned (.tuple #[.agg (MsV m ve vk).arr, .int .i64 0]) ∧ Row7 w' w.heap.size ve m.es ∧ RowK w' w.heap.size vk m.ks ∧ Below w.heap.size w w') ∨
  ((∀ m, msgOk m → msgB m ≠ l) ∧ e = .returned (.tuple #[.agg #[.int .i64 0, .int .i64 0, .int .i64 0, .int .i64 0, .complex .f64 0 0, .int .i64 0, .int .i64 0, .int .i64 0, .int .i64 0, .string ⟨#[]⟩, .int .i64 0, .string ⟨#[]⟩, .int .i64 0, .string ⟨#[]⟩, .slice none 0 0, .slice none 0 0], .int .i64 50]) ∧ Below w.heap.size w w')
theorem new_reader {w W W2 : World} {v : Value} {l : List Int} (hr : RC w v l) (hl : Byt l) (hlim : l.length ≤ 140737488355328) (hb : Below w.heap.size w W) (h2 : W.alloc (.cells #[v, .int .i64 0, .bool false] 65) = W2) : Rg W2 W.heap.size v l (some l) := by
  have hb2 := boxB h2
  refine ⟨0, false, hb2.1, .inr ⟨rfl, rfl, Nat.zero_le _⟩, (hr.below hb).below hb2.2, ?_, hl, hlim⟩
  rintro g off cap n rfl h0
  obtain ⟨a, c, e, _, hc⟩ := hr
  cases e
  rcases hc with hc | ⟨g', off', e', hg, _⟩
  · exact absurd hc h0
  · cases e'
    have := hb.size
    omega
set_option maxRecDepth 20000 in
set_option maxHeartbeats 16000000 in
theorem decode_p1 (v : Value) (l : List Int) (w : World) (hr : RC w v l) (hl : Byt l) (hlim : l.length ≤ 140737488355328) (hdn : doneB (msgP (some l)).2 = false) : Calls Try.prog 6 #[v] w fun e w' => DecR l w w' e := by
  obtain ⟨ad, cap, rfl, _, _⟩ := id hr
  obtain ⟨W, hW⟩ : ∃ W, w.alloc (.cells #[.int .i64 0, .int .i64 0, .int .i64 0, .int .i64 0, .complex .f64 0 0, .int .i64 0, .int .i64 0, .int .i64 0, .int .i64 0, .string ⟨#[]⟩, .int .i64 0, .string ⟨#[]⟩, .int .i64 0, .string ⟨#[]⟩, .slice none 0 0, .slice none 0 0] 30) = W := ⟨_, rfl⟩
  obtain ⟨W2, hW2⟩ : ∃ W2, W.alloc (.cells #[.slice ad l.length cap, .int .i64 0, .bool false] 65) = W2 := ⟨_, rfl⟩
  have HW2 : Hid (W.alloc (.cells #[.slice ad l.length cap, .int .i64 0, .bool false] 65) = W2) := hW2
  have hb := boxB hW
  have hb2 := boxB hW2
  have hg := new_reader hr hl hlim hb.2 hW2
  have HG : Hid (Rg W2 W.heap.size (.slice ad l.length cap) l (some l) ∧ Below w.heap.size w W2 ∧ W2.heap[w.heap.size]? = some (.cells #[.int .i64 0, .int .i64 0, .int .i64 0, .int .i64 0, .complex .f64 0 0, .int .i64 0, .int .i64 0, .int .i64 0, .int .i64 0, .string ⟨#[]⟩, .int .i64 0, .string ⟨#[]⟩, .int .i64 0, .string ⟨#[]⟩, .slice none 0 0, .slice none 0 0] 30 (0, 0)) ∧ w.heap.size < W.heap.size) := ⟨hg, chainB hb.2 hb2.2, hkeep hb.1 hb2.2, (Array.getElem?_eq_some_iff.1 hb.1).1⟩
  have HMs : Hid (Calls Try.prog 19 #[.pointer (some ⟨W.heap.size, 0, none⟩)] W2 fun e w' => ∃ ve vk, e = .returned (.agg (MsV (msgP (some l)).1 ve vk).arr) ∧ Red W2 w' W.heap.size (.slice ad l.length cap) l (msgP (some l)).2 ∧ Row7 w' W2.heap.size ve (msgP (some l)).1.es ∧ RowK w' W2.heap.size vk (msgP (some l)).1.ks) := message_r hg
  obtain ⟨hm1, hm2⟩ := msgP_marks (Lft.of hl)
  have HYes : Hid (∀ m, msgOk m → msgB m = l → msgP (some l) = (m, some [])) := fun m hm e => by rw [← e]; have := msgP_back hm []; rw [List.append_nil] at this; exact this
  have HNo : Hid (doneB (msgP (some l)).2 = true → msgB (msgP (some l)).1 = l) := fun h => by
    have := msgP_forth hl (prod_eta _ ((doneB_iff _).1 h))
    rw [List.append_nil] at this
    exact this.symm
  obtain ⟨M, hM⟩ : ∃ M, (msgP (some l)).1 = M := ⟨_, rfl⟩
  obtain ⟨s1, hs1⟩ : ∃ M, (msgP (some l)).2 = M := ⟨_, rfl⟩
  have HP : Hid (msgP (some l) = (M, s1)) := Prod.ext hM hs1
  rw [hM] at hm1 hm2
  rw [hM, hs1] at HNo HMs
  rw [hs1] at hdn
  have HDn : Hid (doneB s1 = false) := hdn
  clear hdn
  have HPl : Hid (∀ ve vk, plainB (MsV M ve vk) = true ↔ msgOk M) := fun ve vk => MsV_plain hm1 hm2
  clear hr hl hb hb2 hg hM hs1 hm1 hm2 hW2
  go_enter Try.func6, Try.ntmps6
  go_upto_region 1 with fail
  clear hW
  go_upto_region 2 with fail
  rw [HW2.out]
  go_upto_region 3 with (go_at_call 19; refine HMs.out.mono ?_; rintro e w3 ⟨ve, vk, rfl, hr3, he3, hk3⟩; obtain ⟨ae, ce, hve⟩ := owns_len he3; obtain ⟨ak, ck, hvk⟩ := owns_len hk3; subst hve hvk; have H3 : Hid (Red W2 w3 W.heap.size (.slice ad l.length cap) l s1 ∧ Row7 w3 W2.heap.size (.slice ae M.es.length ce) M.es ∧ RowK w3 W2.heap.size (.slice ak M.ks.length ck) M.ks) := ⟨hr3, he3, hk3⟩; clear hr3 he3 hk3; unfold MsV Ms.arr; simp only []; obtain ⟨W5, hW5⟩ : ∃ W5, w3.alloc (.cells #[.int .i64 0, .int .i64 0, .int .i64 0, .int .i64 0, .complex .f64 0 0, .int .i64 0, .int .i64 0, .int .i64 0, .int .i64 0, .string ⟨#[]⟩, .int .i64 0, .string ⟨#[]⟩, .int .i64 0, .string ⟨#[]⟩, .slice none 0 0, .slice none 0 0] 30) = W5 := ⟨_, rfl⟩; have hb5 := boxB hW5; have yf := free_of hb5.1; have y0 := cell_of hb5.1 0; have y1 := cell_of hb5.1 1; have y2 := cell_of hb5.1 2; have y3 := cell_of hb5.1 3; have y4 := cell_of hb5.1 4; have y5 := cell_of hb5.1 5; have y6 := cell_of hb5.1 6; have y7 := cell_of hb5.1 7; have y8 := cell_of hb5.1 8; have y9 := cell_of hb5.1 9; have y10 := cell_of hb5.1 10; have y11 := cell_of hb5.1 11; have y12 := cell_of hb5.1 12; have y13 := cell_of hb5.1 13; have y14 := cell_of hb5.1 14; have y15 := cell_of hb5.1 15; simp at y0 y1 y2 y3 y4 y5 y6 y7 y8 y9 y10 y11 y12 y13 y14 y15; have HW5 : Hid (w3.alloc (.cells #[.int .i64 0, .int .i64 0, .int .i64 0, .int .i64 0, .complex .f64 0 0, .int .i64 0, .int .i64 0, .int .i64 0, .int .i64 0, .string ⟨#[]⟩, .int .i64 0, .string ⟨#[]⟩, .int .i64 0, .string ⟨#[]⟩, .slice none 0 0, .slice none 0 0] 30) = W5) := hW5; clear hb5)
  obtain ⟨W6, hW6⟩ : ∃ x, ((((((((((((((((W5).setCell ⟨w3.heap.size, 0, none⟩ (.int .i64 M.kind)).setCell ⟨w3.heap.size, 1, none⟩ (.int .i64 M.client)).setCell ⟨w3.heap.size, 2, none⟩ (.int .i64 M.life)).setCell ⟨w3.heap.size, 3, none⟩ (.int .i64 M.seq)).setCell ⟨w3.heap.size, 4, none⟩ (.complex .f64 (floatOfInt .f64 M.ep) (floatOfInt .f64 M.nb))).setCell ⟨w3.heap.size, 5, none⟩ (.int .i64 M.vers)).setCell ⟨w3.heap.size, 6, none⟩ (.int .i64 M.err)).setCell ⟨w3.heap.size, 7, none⟩ (.int .i64 M.op.kind)).setCell ⟨w3.heap.size, 8, none⟩ (.int .i64 M.op.dir)).setCell ⟨w3.heap.size, 9, none⟩ (.string M.op.nm)).setCell ⟨w3.heap.size, 10, none⟩ (.int .i64 M.op.dst)).setCell ⟨w3.heap.size, 11, none⟩ (.string M.op.new)).setCell ⟨w3.heap.size, 12, none⟩ (.int .i64 M.op.mode)).setCell ⟨w3.heap.size, 13, none⟩ (.string M.op.tg)).setCell ⟨w3.heap.size, 14, none⟩ (.slice ae M.es.length ce)).setCell ⟨w3.heap.size, 15, none⟩ (.slice ak M.ks.length ck) = x := ⟨_, rfl⟩
  have hp6 : W6.heap[w3.heap.size]? = some (.cells #[.int .i64 M.kind, .int .i64 M.client, .int .i64 M.life, .int .i64 M.seq, .complex .f64 (floatOfInt .f64 M.ep) (floatOfInt .f64 M.nb), .int .i64 M.vers, .int .i64 M.err, .int .i64 M.op.kind, .int .i64 M.op.dir, .string M.op.nm, .int .i64 M.op.dst, .string M.op.new, .int .i64 M.op.mode, .string M.op.tg, .slice ae M.es.length ce, .slice ak M.ks.length ck] 30 (0, 0)) := by rw [← hW6]; exact putC_all (g := w3.heap.size) (xs := [.int .i64 M.kind, .int .i64 M.client, .int .i64 M.life, .int .i64 M.seq, .complex .f64 (floatOfInt .f64 M.ep) (floatOfInt .f64 M.nb), .int .i64 M.vers, .int .i64 M.err, .int .i64 M.op.kind, .int .i64 M.op.dir, .string M.op.nm, .int .i64 M.op.dst, .string M.op.new, .int .i64 M.op.mode, .string M.op.tg, .slice ae M.es.length ce, .slice ak M.ks.length ck]) (boxB HW5.out).1 rfl
  have ho6 : Only (· = w3.heap.size) W5 W6 := by rw [← hW6]; exact putC_only w3.heap.size [.int .i64 M.kind, .int .i64 M.client, .int .i64 M.life, .int .i64 M.seq, .complex .f64 (floatOfInt .f64 M.ep) (floatOfInt .f64 M.nb), .int .i64 M.vers, .int .i64 M.err, .int .i64 M.op.kind, .int .i64 M.op.dir, .string M.op.nm, .int .i64 M.op.dst, .string M.op.new, .int .i64 M.op.mode, .string M.op.tg, .slice ae M.es.length ce, .slice ak M.ks.length ck] 0 W5
  rw [hW6]
  have h23 : W2.heap.size ≤ w3.heap.size := H3.out.1.2.size
  have hr6 : Red W2 W6 W.heap.size (.slice ad l.length cap) l s1 := (H3.out.1.own HG.out.1 (Only.of (S := fun _ => False) (boxB HW5.out).2) (fun k hk => hk.elim)).own HG.out.1 ho6 (fun k hk => by omega)
  have hlt2 := HG.out.1.lt
  have hlt3 := HG.out.2.2.2
  have hz3 : w3.heap[w.heap.size]? = some (.cells #[.int .i64 0, .int .i64 0, .int .i64 0, .int .i64 0, .complex .f64 0 0, .int .i64 0, .int .i64 0, .int .i64 0, .int .i64 0, .string ⟨#[]⟩, .int .i64 0, .string ⟨#[]⟩, .int .i64 0, .string ⟨#[]⟩, .slice none 0 0, .slice none 0 0] 30 (0, 0)) := (H3.out.1.2.block _ (by omega) (by omega)).trans HG.out.2.2.1
  have hz6 : W6.heap[w.heap.size]? = some (.cells #[.int .i64 0, .int .i64 0, .int .i64 0, .int .i64 0, .complex .f64 0 0, .int .i64 0, .int .i64 0, .int .i64 0, .int .i64 0, .string ⟨#[]⟩, .int .i64 0, .string ⟨#[]⟩, .int .i64 0, .string ⟨#[]⟩, .slice none 0 0, .slice none 0 0] 30 (0, 0)) := (ho6.block _ (by have := (boxB HW5.out).2.size; omega) (by omega)).trans (hkeep hz3 (boxB HW5.out).2)
  have hbel : Below w.heap.size w W6 := hr6.2.below HG.out.2.1 HG.out.2.1.size (fun k hk => by omega)
  have he6 : Row7 W6 W2.heap.size (.slice ae M.es.length ce) M.es := row7_tag (H3.out.2.1.below (boxB HW5.out).2) ho6 (fun k e => by rw [e]; exact ⟨_, _, (boxB HW5.out).1⟩)
  have hk6 : RowK W6 W2.heap.size (.slice ak M.ks.length ck) M.ks := rowK_tag (H3.out.2.2.below (boxB HW5.out).2) ho6 (fun k e => by rw [e]; exact ⟨_, _, (boxB HW5.out).1⟩)
  have H6 : Hid (Red W2 W6 W.heap.size (.slice ad l.length cap) l s1 ∧ W6.heap[w3.heap.size]? = some (.cells #[.int .i64 M.kind, .int .i64 M.client, .int .i64 M.life, .int .i64 M.seq, .complex .f64 (floatOfInt .f64 M.ep) (floatOfInt .f64 M.nb), .int .i64 M.vers, .int .i64 M.err, .int .i64 M.op.kind, .int .i64 M.op.dir, .string M.op.nm, .int .i64 M.op.dst, .string M.op.new, .int .i64 M.op.mode, .string M.op.tg, .slice ae M.es.length ce, .slice ak M.ks.length ck] 30 (0, 0)) ∧ W6.heap[w.heap.size]? = some (.cells #[.int .i64 0, .int .i64 0, .int .i64 0, .int .i64 0, .complex .f64 0 0, .int .i64 0, .int .i64 0, .int .i64 0, .int .i64 0, .string ⟨#[]⟩, .int .i64 0, .string ⟨#[]⟩, .int .i64 0, .string ⟨#[]⟩, .slice none 0 0, .slice none 0 0] 30 (0, 0)) ∧ Row7 W6 W2.heap.size (.slice ae M.es.length ce) M.es ∧ RowK W6 W2.heap.size (.slice ak M.ks.length ck) M.ks ∧ Below w.heap.size w W6) := ⟨hr6, hp6, hz6, he6, hk6, hbel⟩
  have HD : Hid (Calls Try.prog 20 #[.pointer (some ⟨W.heap.size, 0, none⟩)] W6 fun e w' => e = .returned (.bool (doneB s1)) ∧ Below W6.heap.size W6 w') := done_r hr6.1
  clear hW5 HW5 hW6 hp6 ho6 hr6 hz3 hz6 hbel he6 hk6 yf y0 y1 y2 y3 y4 y5 y6 y7 y8 y9 y10 y11 y12 y13 y14 y15 H3 HMs HW2
  have HNone : Hid (∀ m, msgOk m → msgB m ≠ l) := fun m hm e => by
    have h1 := HYes.out m hm e
    rw [HP.out] at h1
    have h2 := (Prod.mk.inj h1).2
    have h3 := HDn.out
    rw [h2] at h3
    cases h3
  rw [HDn.out] at HD
  go_wp2_with (go_at_call 20; refine HD.out.mono ?_; rintro e w7 ⟨rfl, hb7⟩; have hres := hkeep H6.out.2.2.1 hb7; have HBl : Hid (Below w.heap.size w w7) := chainB H6.out.2.2.2.2.2 hb7; have HRes : Hid (w7.heap[w.heap.size]? = some (.cells #[.int .i64 0, .int .i64 0, .int .i64 0, .int .i64 0, .complex .f64 0 0, .int .i64 0, .int .i64 0, .int .i64 0, .int .i64 0, .string ⟨#[]⟩, .int .i64 0, .string ⟨#[]⟩, .int .i64 0, .string ⟨#[]⟩, .slice none 0 0, .slice none 0 0] 30 (0, 0))) := hres; have qf := free_of hres; have q0 := cell_of hres 0; have q1 := cell_of hres 1; have q2 := cell_of hres 2; have q3 := cell_of hres 3; have q4 := cell_of hres 4; have q5 := cell_of hres 5; have q6 := cell_of hres 6; have q7 := cell_of hres 7; have q8 := cell_of hres 8; have q9 := cell_of hres 9; have q10 := cell_of hres 10; have q11 := cell_of hres 11; have q12 := cell_of hres 12; have q13 := cell_of hres 13; have q14 := cell_of hres 14; have q15 := cell_of hres 15; simp at q0 q1 q2 q3 q4 q5 q6 q7 q8 q9 q10 q11 q12 q13 q14 q15; clear hres)
  have hfin := putC_all (g := w.heap.size) (xs := [.int .i64 0, .int .i64 0, .int .i64 0, .int .i64 0, .complex .f64 0 0, .int .i64 0, .int .i64 0, .int .i64 0, .int .i64 0, .string ⟨#[]⟩, .int .i64 0, .string ⟨#[]⟩, .int .i64 0, .string ⟨#[]⟩, .slice none 0 0, .slice none 0 0]) HRes.out rfl
  have hon := putC_only w.heap.size [.int .i64 0, .int .i64 0, .int .i64 0, .int .i64 0, .complex .f64 0 0, .int .i64 0, .int .i64 0, .int .i64 0, .int .i64 0, .string ⟨#[]⟩, .int .i64 0, .string ⟨#[]⟩, .int .i64 0, .string ⟨#[]⟩, .slice none 0 0, .slice none 0 0] 0 w7
  refine bodyPost_ret (ret_msg2 rfl _ _ w.heap.size rfl hfin rfl) rfl ?_
  exact .inr ⟨HNone.out, rfl, hon.below HBl.out HBl.out.size (fun k hk => by omega)⟩
end
end Go.Proofs.Ytekonakanieeaaa
