/- The reader in memory: key, node, op, seen. -/
import Derived.Test.YtekonakanieeaaaJWDes08
namespace Go.Proofs.Ytekonakanieeaaa
section
open Go.RowKit Go.Lib

theorem Rg.lt {w : World} {r : Nat} {v : Value} {l : List Int} {s : St} (h : Rg w r v l s) : r < w.heap.size := by obtain ⟨a, st, h⟩ := h; exact h.tt.lt
theorem Red.le {w W w' : World} {r : Nat} {v : Value} {l : List Int} {s s0 : St} (h : Red W w' r v l s) (_h0 : Rg w r v l s0) (hb : Below w.heap.size w W) : Red w w' r v l s := ⟨h.1, (Only.of hb).trans h.2⟩
/-- a box of the call's own turned -/
theorem Red.box {w w2 w3 : World} {r g : Nat} {v : Value} {l : List Int} {s s0 : St} (h : Red w w2 r v l s) (h0 : Rg w r v l s0) (hO : Only (· = g) w2 w3) (hg : w.heap.size ≤ g) : Red w w3 r v l s := by
  obtain ⟨⟨a, st, hi⟩, hO2⟩ := h
  have hr := h0.lt
  obtain ⟨a0, st0, hi0⟩ := h0
  have hlt := hi.tt.lt
  refine ⟨⟨a, st, (hO.block r hlt (by omega)).trans hi.head, hi.state, ?_, hi.off, hi.byt, hi.lim⟩, ?_⟩
  · obtain ⟨ad, cap, rfl, hcap, h⟩ := hi.rb
    obtain ⟨ad', cap', e, _, h'⟩ := hi0.rb
    cases e
    refine ⟨ad, cap, rfl, hcap, ?_⟩
    rcases h with h | ⟨g1, off, rfl, hg1, hc⟩
    · exact .inl h
    · rcases h' with h' | ⟨g2, off2, e2, hg2, _⟩
      · exact .inl h'
      · cases e2
        exact .inr ⟨g1, off, rfl, Nat.lt_of_lt_of_le hg1 hO.size, fun i x hx => (World.cell?_of_block (hO.block g1 hg1 (by omega))).trans (hc i x hx)⟩
  · exact ⟨hO.os.trans hO2.os, hO.tape.trans hO2.tape, hO.output.trans hO2.output, Nat.le_trans hO2.size hO.size, fun k hk hn => (hO.block k (Nat.lt_of_lt_of_le hk hO2.size) (by omega)).trans (hO2.block k hk hn)⟩
theorem Try.sizeKy : (Try.prog.info? 40).map (·.size) = some 2 := by kernel_rfl
theorem Try.sizeNd : (Try.prog.info? 42).map (·.size) = some 4 := by kernel_rfl
theorem Try.sizeOp : (Try.prog.info? 26).map (·.size) = some 7 := by kernel_rfl
theorem Try.sizeSn : (Try.prog.info? 46).map (·.size) = some 3 := by kernel_rfl
def seen3P (s : St) : (Int × Int × Int) × St := (((numP s).1, (numP (numP s).2).1, (numP (numP (numP s).2).2).1), (numP (numP (numP s).2).2).2)
set_option maxRecDepth 20000 in
set_option maxHeartbeats 8000000 in
theorem key_r {w : World} {r : Nat} {v : Value} {l : List Int} {s : St} (h : Rg w r v l s) : Calls Try.prog 50 #[.pointer (some ⟨r, 0, none⟩)] w fun e w' => RdR w r v l (keyP s).2 (.agg #[.int .i64 (keyP s).1.d, .string (keyP s).1.nm]) e w' := by
  have HG : Hid (Rg w r v l s) := h
  obtain ⟨W, hW⟩ : ∃ W, w.alloc (.cells #[.int .i64 0, .string ⟨#[]⟩] 40) = W := ⟨_, rfl⟩
  have hb := boxB hW
  have HB : Hid (W.heap[w.heap.size]? = some (.cells #[.int .i64 0, .string ⟨#[]⟩] 40 (0, 0)) ∧ Below w.heap.size w W) := hb
  have HC1 : Hid (Calls Try.prog 44 #[.pointer (some ⟨r, 0, none⟩)] W fun e w' => RdR W r v l (numP s).2 (.int .i64 (numP s).1) e w') := number_r (h.below hb.2)
  have HC2 : Hid (∀ W2, Rg W2 r v l (numP s).2 → Calls Try.prog 80 #[.pointer (some ⟨r, 0, none⟩)] W2 fun e w' => RdR W2 r v l (textP (numP s).2).2 (.string (textP (numP s).2).1) e w') := fun W2 h2 => text_r h2
  have HE : Hid (keyP s = (⟨(numP s).1, (textP (numP s).2).1⟩, (textP (numP s).2).2)) := rfl
  rw [HE.out]
  simp only []
  obtain ⟨X1, hX1⟩ : ∃ x, (numP s).1 = x := ⟨_, rfl⟩
  obtain ⟨S1, hS1⟩ : ∃ x, (numP s).2 = x := ⟨_, rfl⟩
  rw [hX1, hS1] at HC1
  rw [hS1] at HC2
  rw [hX1, hS1] 
  clear hX1 hS1
  obtain ⟨X2, hX2⟩ : ∃ x, (textP S1).1 = x := ⟨_, rfl⟩
  obtain ⟨S2, hS2⟩ : ∃ x, (textP S1).2 = x := ⟨_, rfl⟩
  rw [hX2, hS2] at HC2
  rw [hX2, hS2] 
  clear hX2 hS2
  clear h hb HE
  go_enter Try.func50, Try.ntmps50
  go_upto_region 1 with fail
  clear hW
  go_wp2_with (first
    | (go_at_call 80; refine (HC2.out _ R1.out.1).mono ?_; rintro e w2 ⟨rfl, h2⟩; have R2 : Hid (Red W w2 r v l S2) := R1.out.on h2.out; have hbx : w2.heap[w.heap.size]? = some (.cells #[.int .i64 0, .string ⟨#[]⟩] 40 (0, 0)) := (R2.out.2.block _ (Array.getElem?_eq_some_iff.1 HB.out.1).1 (by have := HG.out.lt; omega)).trans HB.out.1; have zf := free_of hbx; have z0 := cell_of hbx 0; have z1 := cell_of hbx 1; simp at z0 z1; have HBx : Hid (w2.heap[w.heap.size]? = some (.cells #[.int .i64 0, .string ⟨#[]⟩] 40 (0, 0))) := hbx; clear hbx)
    | (go_at_call 44; refine (HC1.out).mono ?_; rintro e w1 ⟨rfl, h1⟩; have R1 : Hid (Red W w1 r v l S1) := ⟨h1.out.1, h1.out.2⟩))
  have hfin := heap_set (heap_set (HBx.out) 0 (.int .i64 X1)) 1 (.string X2)
  simp only [List.setIfInBounds_toArray, List.set_cons_zero, List.set_cons_succ] at hfin
  refine bodyPost_ret (results_cell_row rfl _ _ w.heap.size _ _ _ _ rfl hfin Try.underlying40 rfl Try.sizeKy) rfl ?_
  exact ⟨rfl, (R2.out.le HG.out HB.out.2).box HG.out ((only1 _ w.heap.size 0 _).trans (only1 _ w.heap.size 1 _)) (Nat.le_refl _)⟩
set_option maxRecDepth 20000 in
set_option maxHeartbeats 8000000 in
theorem node_r {w : World} {r : Nat} {v : Value} {l : List Int} {s : St} (h : Rg w r v l s) : Calls Try.prog 81 #[.pointer (some ⟨r, 0, none⟩)] w fun e w' => RdR w r v l (nodeP s).2 (.agg #[.int .i64 (nodeP s).1.id, .int .i64 (nodeP s).1.kind, .int .i64 (nodeP s).1.mode, .string (nodeP s).1.tg]) e w' := by
  have HG : Hid (Rg w r v l s) := h
  obtain ⟨W, hW⟩ : ∃ W, w.alloc (.cells #[.int .i64 0, .int .i64 0, .int .i64 0, .string ⟨#[]⟩] 42) = W := ⟨_, rfl⟩
  have hb := boxB hW
  have HB : Hid (W.heap[w.heap.size]? = some (.cells #[.int .i64 0, .int .i64 0, .int .i64 0, .string ⟨#[]⟩] 42 (0, 0)) ∧ Below w.heap.size w W) := hb
  have HC1 : Hid (Calls Try.prog 44 #[.pointer (some ⟨r, 0, none⟩)] W fun e w' => RdR W r v l (numP s).2 (.int .i64 (numP s).1) e w') := number_r (h.below hb.2)
  have HC2 : Hid (∀ W2, Rg W2 r v l (numP s).2 → Calls Try.prog 43 #[.pointer (some ⟨r, 0, none⟩)] W2 fun e w' => RdR W2 r v l (octP (numP s).2).2 (.int .i64 (octP (numP s).2).1) e w') := fun W2 h2 => octet_r h2
  have HC3 : Hid (∀ W2, Rg W2 r v l (octP (numP s).2).2 → Calls Try.prog 44 #[.pointer (some ⟨r, 0, none⟩)] W2 fun e w' => RdR W2 r v l (numP (octP (numP s).2).2).2 (.int .i64 (numP (octP (numP s).2).2).1) e w') := fun W2 h2 => number_r h2
  have HC4 : Hid (∀ W2, Rg W2 r v l (numP (octP (numP s).2).2).2 → Calls Try.prog 80 #[.pointer (some ⟨r, 0, none⟩)] W2 fun e w' => RdR W2 r v l (textP (numP (octP (numP s).2).2).2).2 (.string (textP (numP (octP (numP s).2).2).2).1) e w') := fun W2 h2 => text_r h2
  have HE : Hid (nodeP s = (⟨(numP s).1, (octP (numP s).2).1, (numP (octP (numP s).2).2).1, (textP (numP (octP (numP s).2).2).2).1⟩, (textP (numP (octP (numP s).2).2).2).2)) := rfl
  rw [HE.out]
  simp only []
  obtain ⟨X1, hX1⟩ : ∃ x, (numP s).1 = x := ⟨_, rfl⟩
  obtain ⟨S1, hS1⟩ : ∃ x, (numP s).2 = x := ⟨_, rfl⟩
  rw [hX1, hS1] at HC1
  rw [hS1] at HC2
  rw [hS1] at HC3
  rw [hS1] at HC4
  rw [hX1, hS1] 
  clear hX1 hS1
  obtain ⟨X2, hX2⟩ : ∃ x, (octP S1).1 = x := ⟨_, rfl⟩
  obtain ⟨S2, hS2⟩ : ∃ x, (octP S1).2 = x := ⟨_, rfl⟩
  rw [hX2, hS2] at HC2
  rw [hS2] at HC3
  rw [hS2] at HC4
  rw [hX2, hS2] 
  clear hX2 hS2
  obtain ⟨X3, hX3⟩ : ∃ x, (numP S2).1 = x := ⟨_, rfl⟩
  obtain ⟨S3, hS3⟩ : ∃ x, (numP S2).2 = x := ⟨_, rfl⟩
  rw [hX3, hS3] at HC3
  rw [hS3] at HC4
  rw [hX3, hS3] 
  clear hX3 hS3
  obtain ⟨X4, hX4⟩ : ∃ x, (textP S3).1 = x := ⟨_, rfl⟩
  obtain ⟨S4, hS4⟩ : ∃ x, (textP S3).2 = x := ⟨_, rfl⟩
  rw [hX4, hS4] at HC4
  rw [hX4, hS4] 
  clear hX4 hS4
  clear h hb HE
  go_enter Try.func81, Try.ntmps81
  go_upto_region 1 with fail
  clear hW
  go_wp2_with (first
    | (go_at_call 80; refine (HC4.out _ R3.out.1).mono ?_; rintro e w4 ⟨rfl, h4⟩; have R4 : Hid (Red W w4 r v l S4) := R3.out.on h4.out; have hbx : w4.heap[w.heap.size]? = some (.cells #[.int .i64 0, .int .i64 0, .int .i64 0, .string ⟨#[]⟩] 42 (0, 0)) := (R4.out.2.block _ (Array.getElem?_eq_some_iff.1 HB.out.1).1 (by have := HG.out.lt; omega)).trans HB.out.1; have zf := free_of hbx; have z0 := cell_of hbx 0; have z1 := cell_of hbx 1; have z2 := cell_of hbx 2; have z3 := cell_of hbx 3; simp at z0 z1 z2 z3; have HBx : Hid (w4.heap[w.heap.size]? = some (.cells #[.int .i64 0, .int .i64 0, .int .i64 0, .string ⟨#[]⟩] 42 (0, 0))) := hbx; clear hbx)
    | (go_at_call 44; refine (HC3.out _ R2.out.1).mono ?_; rintro e w3 ⟨rfl, h3⟩; have R3 : Hid (Red W w3 r v l S3) := R2.out.on h3.out)
    | (go_at_call 43; refine (HC2.out _ R1.out.1).mono ?_; rintro e w2 ⟨rfl, h2⟩; have R2 : Hid (Red W w2 r v l S2) := R1.out.on h2.out)
    | (go_at_call 44; refine (HC1.out).mono ?_; rintro e w1 ⟨rfl, h1⟩; have R1 : Hid (Red W w1 r v l S1) := ⟨h1.out.1, h1.out.2⟩))
  have hfin := heap_set (heap_set (heap_set (heap_set (HBx.out) 0 (.int .i64 X1)) 1 (.int .i64 X2)) 2 (.int .i64 X3)) 3 (.string X4)
  simp only [List.setIfInBounds_toArray, List.set_cons_zero, List.set_cons_succ] at hfin
  refine bodyPost_ret (results_cell_row rfl _ _ w.heap.size _ _ _ _ rfl hfin Try.underlying42 rfl Try.sizeNd) rfl ?_
  exact ⟨rfl, (R4.out.le HG.out HB.out.2).box HG.out ((((only1 _ w.heap.size 0 _).trans (only1 _ w.heap.size 1 _)).trans (only1 _ w.heap.size 2 _)).trans (only1 _ w.heap.size 3 _)) (Nat.le_refl _)⟩
set_option maxRecDepth 20000 in
set_option maxHeartbeats 8000000 in
theorem op_r {w : World} {r : Nat} {v : Value} {l : List Int} {s : St} (h : Rg w r v l s) : Calls Try.prog 46 #[.pointer (some ⟨r, 0, none⟩)] w fun e w' => RdR w r v l (opP s).2 (.agg #[.int .i64 (opP s).1.kind, .int .i64 (opP s).1.dir, .string (opP s).1.nm, .int .i64 (opP s).1.dst, .string (opP s).1.new, .int .i64 (opP s).1.mode, .string (opP s).1.tg]) e w' := by
  have HG : Hid (Rg w r v l s) := h
  obtain ⟨W, hW⟩ : ∃ W, w.alloc (.cells #[.int .i64 0, .int .i64 0, .string ⟨#[]⟩, .int .i64 0, .string ⟨#[]⟩, .int .i64 0, .string ⟨#[]⟩] 26) = W := ⟨_, rfl⟩
  have hb := boxB hW
  have HB : Hid (W.heap[w.heap.size]? = some (.cells #[.int .i64 0, .int .i64 0, .string ⟨#[]⟩, .int .i64 0, .string ⟨#[]⟩, .int .i64 0, .string ⟨#[]⟩] 26 (0, 0)) ∧ Below w.heap.size w W) := hb
  have HC1 : Hid (Calls Try.prog 43 #[.pointer (some ⟨r, 0, none⟩)] W fun e w' => RdR W r v l (octP s).2 (.int .i64 (octP s).1) e w') := octet_r (h.below hb.2)
  have HC2 : Hid (∀ W2, Rg W2 r v l (octP s).2 → Calls Try.prog 44 #[.pointer (some ⟨r, 0, none⟩)] W2 fun e w' => RdR W2 r v l (numP (octP s).2).2 (.int .i64 (numP (octP s).2).1) e w') := fun W2 h2 => number_r h2
  have HC3 : Hid (∀ W2, Rg W2 r v l (numP (octP s).2).2 → Calls Try.prog 80 #[.pointer (some ⟨r, 0, none⟩)] W2 fun e w' => RdR W2 r v l (textP (numP (octP s).2).2).2 (.string (textP (numP (octP s).2).2).1) e w') := fun W2 h2 => text_r h2
  have HC4 : Hid (∀ W2, Rg W2 r v l (textP (numP (octP s).2).2).2 → Calls Try.prog 44 #[.pointer (some ⟨r, 0, none⟩)] W2 fun e w' => RdR W2 r v l (numP (textP (numP (octP s).2).2).2).2 (.int .i64 (numP (textP (numP (octP s).2).2).2).1) e w') := fun W2 h2 => number_r h2
  have HC5 : Hid (∀ W2, Rg W2 r v l (numP (textP (numP (octP s).2).2).2).2 → Calls Try.prog 80 #[.pointer (some ⟨r, 0, none⟩)] W2 fun e w' => RdR W2 r v l (textP (numP (textP (numP (octP s).2).2).2).2).2 (.string (textP (numP (textP (numP (octP s).2).2).2).2).1) e w') := fun W2 h2 => text_r h2
  have HC6 : Hid (∀ W2, Rg W2 r v l (textP (numP (textP (numP (octP s).2).2).2).2).2 → Calls Try.prog 44 #[.pointer (some ⟨r, 0, none⟩)] W2 fun e w' => RdR W2 r v l (numP (textP (numP (textP (numP (octP s).2).2).2).2).2).2 (.int .i64 (numP (textP (numP (textP (numP (octP s).2).2).2).2).2).1) e w') := fun W2 h2 => number_r h2
  have HC7 : Hid (∀ W2, Rg W2 r v l (numP (textP (numP (textP (numP (octP s).2).2).2).2).2).2 → Calls Try.prog 80 #[.pointer (some ⟨r, 0, none⟩)] W2 fun e w' => RdR W2 r v l (textP (numP (textP (numP (textP (numP (octP s).2).2).2).2).2).2).2 (.string (textP (numP (textP (numP (textP (numP (octP s).2).2).2).2).2).2).1) e w') := fun W2 h2 => text_r h2
  have HE : Hid (opP s = (⟨(octP s).1, (numP (octP s).2).1, (textP (numP (octP s).2).2).1, (numP (textP (numP (octP s).2).2).2).1, (textP (numP (textP (numP (octP s).2).2).2).2).1, (numP (textP (numP (textP (numP (octP s).2).2).2).2).2).1, (textP (numP (textP (numP (textP (numP (octP s).2).2).2).2).2).2).1⟩, (textP (numP (textP (numP (textP (numP (octP s).2).2).2).2).2).2).2)) := rfl
  rw [HE.out]
  simp only []
  obtain ⟨X1, hX1⟩ : ∃ x, (octP s).1 = x := ⟨_, rfl⟩
  obtain ⟨S1, hS1⟩ : ∃ x, (octP s).2 = x := ⟨_, rfl⟩
  rw [hX1, hS1] at HC1
  rw [hS1] at HC2
  rw [hS1] at HC3
  rw [hS1] at HC4
  rw [hS1] at HC5
  rw [hS1] at HC6
  rw [hS1] at HC7
  rw [hX1, hS1] 
  clear hX1 hS1
  obtain ⟨X2, hX2⟩ : ∃ x, (numP S1).1 = x := ⟨_, rfl⟩
  obtain ⟨S2, hS2⟩ : ∃ x, (numP S1).2 = x := ⟨_, rfl⟩
  rw [hX2, hS2] at HC2
  rw [hS2] at HC3
  rw [hS2] at HC4
  rw [hS2] at HC5
  rw [hS2] at HC6
  rw [hS2] at HC7
  rw [hX2, hS2] 
  clear hX2 hS2
  obtain ⟨X3, hX3⟩ : ∃ x, (textP S2).1 = x := ⟨_, rfl⟩
  obtain ⟨S3, hS3⟩ : ∃ x, (textP S2).2 = x := ⟨_, rfl⟩
  rw [hX3, hS3] at HC3
  rw [hS3] at HC4
  rw [hS3] at HC5
  rw [hS3] at HC6
  rw [hS3] at HC7
  rw [hX3, hS3] 
  clear hX3 hS3
  obtain ⟨X4, hX4⟩ : ∃ x, (numP S3).1 = x := ⟨_, rfl⟩
  obtain ⟨S4, hS4⟩ : ∃ x, (numP S3).2 = x := ⟨_, rfl⟩
  rw [hX4, hS4] at HC4
  rw [hS4] at HC5
  rw [hS4] at HC6
  rw [hS4] at HC7
  rw [hX4, hS4] 
  clear hX4 hS4
  obtain ⟨X5, hX5⟩ : ∃ x, (textP S4).1 = x := ⟨_, rfl⟩
  obtain ⟨S5, hS5⟩ : ∃ x, (textP S4).2 = x := ⟨_, rfl⟩
  rw [hX5, hS5] at HC5
  rw [hS5] at HC6
  rw [hS5] at HC7
  rw [hX5, hS5] 
  clear hX5 hS5
  obtain ⟨X6, hX6⟩ : ∃ x, (numP S5).1 = x := ⟨_, rfl⟩
  obtain ⟨S6, hS6⟩ : ∃ x, (numP S5).2 = x := ⟨_, rfl⟩
  rw [hX6, hS6] at HC6
  rw [hS6] at HC7
  rw [hX6, hS6] 
  clear hX6 hS6
  obtain ⟨X7, hX7⟩ : ∃ x, (textP S6).1 = x := ⟨_, rfl⟩
  obtain ⟨S7, hS7⟩ : ∃ x, (textP S6).2 = x := ⟨_, rfl⟩
  rw [hX7, hS7] at HC7
  rw [hX7, hS7] 
  clear hX7 hS7
  clear h hb HE
  go_enter Try.func46, Try.ntmps46
  go_upto_region 1 with fail
  clear hW
  go_wp2_with (first
    | (go_at_call 80; refine (HC7.out _ R6.out.1).mono ?_; rintro e w7 ⟨rfl, h7⟩; have R7 : Hid (Red W w7 r v l S7) := R6.out.on h7.out; have hbx : w7.heap[w.heap.size]? = some (.cells #[.int .i64 0, .int .i64 0, .string ⟨#[]⟩, .int .i64 0, .string ⟨#[]⟩, .int .i64 0, .string ⟨#[]⟩] 26 (0, 0)) := (R7.out.2.block _ (Array.getElem?_eq_some_iff.1 HB.out.1).1 (by have := HG.out.lt; omega)).trans HB.out.1; have zf := free_of hbx; have z0 := cell_of hbx 0; have z1 := cell_of hbx 1; have z2 := cell_of hbx 2; have z3 := cell_of hbx 3; have z4 := cell_of hbx 4; have z5 := cell_of hbx 5; have z6 := cell_of hbx 6; simp at z0 z1 z2 z3 z4 z5 z6; have HBx : Hid (w7.heap[w.heap.size]? = some (.cells #[.int .i64 0, .int .i64 0, .string ⟨#[]⟩, .int .i64 0, .string ⟨#[]⟩, .int .i64 0, .string ⟨#[]⟩] 26 (0, 0))) := hbx; clear hbx)
    | (go_at_call 44; refine (HC6.out _ R5.out.1).mono ?_; rintro e w6 ⟨rfl, h6⟩; have R6 : Hid (Red W w6 r v l S6) := R5.out.on h6.out)
    | (go_at_call 80; refine (HC5.out _ R4.out.1).mono ?_; rintro e w5 ⟨rfl, h5⟩; have R5 : Hid (Red W w5 r v l S5) := R4.out.on h5.out)
    | (go_at_call 44; refine (HC4.out _ R3.out.1).mono ?_; rintro e w4 ⟨rfl, h4⟩; have R4 : Hid (Red W w4 r v l S4) := R3.out.on h4.out)
    | (go_at_call 80; refine (HC3.out _ R2.out.1).mono ?_; rintro e w3 ⟨rfl, h3⟩; have R3 : Hid (Red W w3 r v l S3) := R2.out.on h3.out)
    | (go_at_call 44; refine (HC2.out _ R1.out.1).mono ?_; rintro e w2 ⟨rfl, h2⟩; have R2 : Hid (Red W w2 r v l S2) := R1.out.on h2.out)
    | (go_at_call 43; refine (HC1.out).mono ?_; rintro e w1 ⟨rfl, h1⟩; have R1 : Hid (Red W w1 r v l S1) := ⟨h1.out.1, h1.out.2⟩))
  have hfin := heap_set (heap_set (heap_set (heap_set (heap_set (heap_set (heap_set (HBx.out) 0 (.int .i64 X1)) 1 (.int .i64 X2)) 2 (.string X3)) 3 (.int .i64 X4)) 4 (.string X5)) 5 (.int .i64 X6)) 6 (.string X7)
  simp only [List.setIfInBounds_toArray, List.set_cons_zero, List.set_cons_succ] at hfin
  refine bodyPost_ret (results_cell_row rfl _ _ w.heap.size _ _ _ _ rfl hfin Try.underlying26 rfl Try.sizeOp) rfl ?_
  exact ⟨rfl, (R7.out.le HG.out HB.out.2).box HG.out (((((((only1 _ w.heap.size 0 _).trans (only1 _ w.heap.size 1 _)).trans (only1 _ w.heap.size 2 _)).trans (only1 _ w.heap.size 3 _)).trans (only1 _ w.heap.size 4 _)).trans (only1 _ w.heap.size 5 _)).trans (only1 _ w.heap.size 6 _)) (Nat.le_refl _)⟩
set_option maxRecDepth 20000 in
set_option maxHeartbeats 8000000 in
theorem seen_r {w : World} {r : Nat} {v : Value} {l : List Int} {s : St} (h : Rg w r v l s) : Calls Try.prog 59 #[.pointer (some ⟨r, 0, none⟩)] w fun e w' => RdR w r v l (seen3P s).2 (.agg #[.int .i64 (seen3P s).1.1, .int .i64 (seen3P s).1.2.1, .int .i64 (seen3P s).1.2.2]) e w' := by
  have HG : Hid (Rg w r v l s) := h
  obtain ⟨W, hW⟩ : ∃ W, w.alloc (.cells #[.int .i64 0, .int .i64 0, .int .i64 0] 46) = W := ⟨_, rfl⟩
  have hb := boxB hW
  have HB : Hid (W.heap[w.heap.size]? = some (.cells #[.int .i64 0, .int .i64 0, .int .i64 0] 46 (0, 0)) ∧ Below w.heap.size w W) := hb
  have HC1 : Hid (Calls Try.prog 44 #[.pointer (some ⟨r, 0, none⟩)] W fun e w' => RdR W r v l (numP s).2 (.int .i64 (numP s).1) e w') := number_r (h.below hb.2)
  have HC2 : Hid (∀ W2, Rg W2 r v l (numP s).2 → Calls Try.prog 44 #[.pointer (some ⟨r, 0, none⟩)] W2 fun e w' => RdR W2 r v l (numP (numP s).2).2 (.int .i64 (numP (numP s).2).1) e w') := fun W2 h2 => number_r h2
  have HC3 : Hid (∀ W2, Rg W2 r v l (numP (numP s).2).2 → Calls Try.prog 44 #[.pointer (some ⟨r, 0, none⟩)] W2 fun e w' => RdR W2 r v l (numP (numP (numP s).2).2).2 (.int .i64 (numP (numP (numP s).2).2).1) e w') := fun W2 h2 => number_r h2
  have HE : Hid (seen3P s = (((numP s).1, (numP (numP s).2).1, (numP (numP (numP s).2).2).1), (numP (numP (numP s).2).2).2)) := rfl
  rw [HE.out]
  simp only []
  obtain ⟨X1, hX1⟩ : ∃ x, (numP s).1 = x := ⟨_, rfl⟩
  obtain ⟨S1, hS1⟩ : ∃ x, (numP s).2 = x := ⟨_, rfl⟩
  rw [hX1, hS1] at HC1
  rw [hS1] at HC2
  rw [hS1] at HC3
  rw [hX1, hS1] 
  clear hX1 hS1
  obtain ⟨X2, hX2⟩ : ∃ x, (numP S1).1 = x := ⟨_, rfl⟩
  obtain ⟨S2, hS2⟩ : ∃ x, (numP S1).2 = x := ⟨_, rfl⟩
  rw [hX2, hS2] at HC2
  rw [hS2] at HC3
  rw [hX2, hS2] 
  clear hX2 hS2
  obtain ⟨X3, hX3⟩ : ∃ x, (numP S2).1 = x := ⟨_, rfl⟩
  obtain ⟨S3, hS3⟩ : ∃ x, (numP S2).2 = x := ⟨_, rfl⟩
  rw [hX3, hS3] at HC3
  rw [hX3, hS3] 
  clear hX3 hS3
  clear h hb HE
  go_enter Try.func59, Try.ntmps59
  go_upto_region 1 with fail
  clear hW
  go_wp2_with (first
    | (go_at_call 44; refine (HC3.out _ R2.out.1).mono ?_; rintro e w3 ⟨rfl, h3⟩; have R3 : Hid (Red W w3 r v l S3) := R2.out.on h3.out; have hbx : w3.heap[w.heap.size]? = some (.cells #[.int .i64 0, .int .i64 0, .int .i64 0] 46 (0, 0)) := (R3.out.2.block _ (Array.getElem?_eq_some_iff.1 HB.out.1).1 (by have := HG.out.lt; omega)).trans HB.out.1; have zf := free_of hbx; have z0 := cell_of hbx 0; have z1 := cell_of hbx 1; have z2 := cell_of hbx 2; simp at z0 z1 z2; have HBx : Hid (w3.heap[w.heap.size]? = some (.cells #[.int .i64 0, .int .i64 0, .int .i64 0] 46 (0, 0))) := hbx; clear hbx)
    | (go_at_call 44; refine (HC2.out _ R1.out.1).mono ?_; rintro e w2 ⟨rfl, h2⟩; have R2 : Hid (Red W w2 r v l S2) := R1.out.on h2.out)
    | (go_at_call 44; refine (HC1.out).mono ?_; rintro e w1 ⟨rfl, h1⟩; have R1 : Hid (Red W w1 r v l S1) := ⟨h1.out.1, h1.out.2⟩))
  have hfin := heap_set (heap_set (heap_set (HBx.out) 0 (.int .i64 X1)) 1 (.int .i64 X2)) 2 (.int .i64 X3)
  simp only [List.setIfInBounds_toArray, List.set_cons_zero, List.set_cons_succ] at hfin
  refine bodyPost_ret (results_cell_row rfl _ _ w.heap.size _ _ _ _ rfl hfin Try.underlying46 rfl Try.sizeSn) rfl ?_
  exact ⟨rfl, (R3.out.le HG.out HB.out.2).box HG.out (((only1 _ w.heap.size 0 _).trans (only1 _ w.heap.size 1 _)).trans (only1 _ w.heap.size 2 _)) (Nat.le_refl _)⟩
end
section
open Go.RowKit Go.Lib

set_option maxRecDepth 20000 in
set_option maxHeartbeats 8000000 in
theorem entry_r {w : World} {r : Nat} {v : Value} {l : List Int} {s : St} (h : Rg w r v l s) : Calls Try.prog 48 #[.pointer (some ⟨r, 0, none⟩)] w fun e w' => RdR w r v l (entP s).2 (entP s).1.agg e w' := by
  have HG : Hid (Rg w r v l s) := h
  have hrl := h.lt
  obtain ⟨W, hW⟩ : ∃ W, w.alloc (.cells #[.int .i64 0, .string ⟨#[]⟩, .bool false, .int .i64 0, .int .i64 0, .int .i64 0, .string ⟨#[]⟩] 44) = W := ⟨_, rfl⟩
  have hb := boxB hW
  have HB : Hid (W.heap[w.heap.size]? = some (.cells #[.int .i64 0, .string ⟨#[]⟩, .bool false, .int .i64 0, .int .i64 0, .int .i64 0, .string ⟨#[]⟩] 44 (0, 0)) ∧ Below w.heap.size w W) := hb
  have HK : Hid (Calls Try.prog 50 #[.pointer (some ⟨r, 0, none⟩)] W fun e w' => RdR W r v l (keyP s).2 (.agg #[.int .i64 (keyP s).1.d, .string (keyP s).1.nm]) e w') := key_r (h.below hb.2)
  obtain ⟨E, hE⟩ : ∃ E, entP s = E := ⟨_, rfl⟩
  have hE2 := hE
  unfold entP at hE2
  simp only [] at hE2
  rw [hE]
  obtain ⟨K, hK⟩ : ∃ K, (keyP s).1 = K := ⟨_, rfl⟩
  obtain ⟨s1, hs1⟩ : ∃ K, (keyP s).2 = K := ⟨_, rfl⟩
  rw [hK, hs1] at hE2
  rw [hK, hs1] at HK
  obtain ⟨f, hf⟩ : ∃ f, (octP s1).1 = f := ⟨_, rfl⟩
  obtain ⟨s2, hs2⟩ : ∃ f, (octP s1).2 = f := ⟨_, rfl⟩
  rw [hf, hs2] at hE2
  have HO : Hid (∀ W2, Rg W2 r v l s1 → Calls Try.prog 43 #[.pointer (some ⟨r, 0, none⟩)] W2 fun e w' => RdR W2 r v l s2 (.int .i64 f) e w') := fun W2 h2 => by rw [← hf, ← hs2]; exact octet_r h2
  clear h hb hE hK hs1 hf hs2
  go_enter Try.func48, Try.ntmps48
  go_wp2
  refine wp_scope_once 0 (by rfl) ?_
  clear hW
  go_upto_region 2 with (go_at_call 50; refine HK.out.mono ?_; rintro e w1 ⟨rfl, h1⟩)
  obtain ⟨W1, hW1⟩ : ∃ W1, w1.alloc (.cells #[.int .i64 K.d, .string K.nm, .bool false, .int .i64 0, .int .i64 0, .int .i64 0, .string ⟨#[]⟩] 44) = W1 := ⟨_, rfl⟩
  have hb1 := boxB hW1
  have H1 : Hid (W1.heap[w1.heap.size]? = some (.cells #[.int .i64 K.d, .string K.nm, .bool false, .int .i64 0, .int .i64 0, .int .i64 0, .string ⟨#[]⟩] 44 (0, 0)) ∧ W1.heap[w.heap.size]? = some (.cells #[.int .i64 0, .string ⟨#[]⟩, .bool false, .int .i64 0, .int .i64 0, .int .i64 0, .string ⟨#[]⟩] 44 (0, 0)) ∧ Red w W1 r v l s1 ∧ w.heap.size < w1.heap.size) := by
    have hlt := (Array.getElem?_eq_some_iff.1 HB.out.1).1
    have hk := (h1.out.2.block _ hlt (by omega)).trans HB.out.1
    exact ⟨hb1.1, hkeep hk hb1.2, ⟨h1.out.1.below hb1.2, ((Only.of HB.out.2).trans h1.out.2).trans (Only.of hb1.2)⟩, Nat.lt_of_lt_of_le hlt h1.out.2.size⟩
  rw [hW1]
  clear hW1 hb1 h1 HK
  go_upto_region 3 with (go_at_call 43; refine (HO.out _ H1.out.2.2.1.1).mono ?_; rintro e w2 ⟨rfl, h2⟩)
  have H2 : Hid (w2.heap[w1.heap.size]? = some (.cells #[.int .i64 K.d, .string K.nm, .bool false, .int .i64 0, .int .i64 0, .int .i64 0, .string ⟨#[]⟩] 44 (0, 0)) ∧ w2.heap[w.heap.size]? = some (.cells #[.int .i64 0, .string ⟨#[]⟩, .bool false, .int .i64 0, .int .i64 0, .int .i64 0, .string ⟨#[]⟩] 44 (0, 0)) ∧ Red w w2 r v l s2) := by
    have e1 := H1.out.1
    have e2 := H1.out.2.1
    have := H1.out.2.2.2
    exact ⟨(h2.out.2.block _ (Array.getElem?_eq_some_iff.1 e1).1 (by omega)).trans e1, (h2.out.2.block _ (Array.getElem?_eq_some_iff.1 e2).1 (by omega)).trans e2, H1.out.2.2.1.on h2.out⟩
  have hlt1 := H1.out.2.2.2
  clear h2 HO
  by_cases hf0 : f = 0
  · subst hf0
    rw [if_pos rfl] at hE2
    obtain ⟨N, hN⟩ : ∃ N, (nodeP s2).1 = N := ⟨_, rfl⟩
    obtain ⟨s3, hs3⟩ : ∃ N, (nodeP s2).2 = N := ⟨_, rfl⟩
    rw [hN, hs3] at hE2
    have HP : Hid (E = (⟨K.d, K.nm, false, N.id, N.kind, N.mode, N.tg⟩, s3)) := hE2.symm
    have HN : Hid (Calls Try.prog 81 #[.pointer (some ⟨r, 0, none⟩)] w2 fun e w' => RdR w2 r v l s3 (.agg #[.int .i64 N.id, .int .i64 N.kind, .int .i64 N.mode, .string N.tg]) e w') := by rw [← hN, ← hs3]; exact node_r H2.out.2.2.1
    clear hE2 hN hs3
    go_upto_region 7 with (go_at_call 81; refine HN.out.mono ?_; rintro e w3 ⟨rfl, h3⟩; have e1 : w3.heap[w1.heap.size]? = some (.cells #[.int .i64 K.d, .string K.nm, .bool false, .int .i64 0, .int .i64 0, .int .i64 0, .string ⟨#[]⟩] 44 (0, 0)) := (h3.out.2.block _ (Array.getElem?_eq_some_iff.1 H2.out.1).1 (by omega)).trans H2.out.1; have e2 : w3.heap[w.heap.size]? = some (.cells #[.int .i64 0, .string ⟨#[]⟩, .bool false, .int .i64 0, .int .i64 0, .int .i64 0, .string ⟨#[]⟩] 44 (0, 0)) := (h3.out.2.block _ (Array.getElem?_eq_some_iff.1 H2.out.2.1).1 (by omega)).trans H2.out.2.1; have H3 : Hid (w3.heap[w1.heap.size]? = some (.cells #[.int .i64 K.d, .string K.nm, .bool false, .int .i64 0, .int .i64 0, .int .i64 0, .string ⟨#[]⟩] 44 (0, 0)) ∧ w3.heap[w.heap.size]? = some (.cells #[.int .i64 0, .string ⟨#[]⟩, .bool false, .int .i64 0, .int .i64 0, .int .i64 0, .string ⟨#[]⟩] 44 (0, 0)) ∧ Red w w3 r v l s3) := ⟨e1, e2, H2.out.2.2.on h3.out⟩; have ef := free_of e1; have d3 := cell_of e1 3; have d4 := cell_of e1 4; have d5 := cell_of e1 5; have d6 := cell_of e1 6; simp at d3 d4 d5 d6; clear e1 e2 h3)
    obtain ⟨W4, hW4⟩ : ∃ W4, (((w3.setCell ⟨w1.heap.size, 3, none⟩ (.int .i64 N.id)).setCell ⟨w1.heap.size, 4, none⟩ (.int .i64 N.kind)).setCell ⟨w1.heap.size, 5, none⟩ (.int .i64 N.mode)).setCell ⟨w1.heap.size, 6, none⟩ (.string N.tg) = W4 := ⟨_, rfl⟩
    have HE1 : Hid (W4.heap[w1.heap.size]? = some (.cells #[.int .i64 K.d, .string K.nm, .bool false, .int .i64 N.id, .int .i64 N.kind, .int .i64 N.mode, .string N.tg] 44 (0, 0))) := by
      have k := heap_set (heap_set (heap_set (heap_set H3.out.1 3 (.int .i64 N.id)) 4 (.int .i64 N.kind)) 5 (.int .i64 N.mode)) 6 (.string N.tg)
      simp only [List.setIfInBounds_toArray, List.set_cons_zero, List.set_cons_succ] at k
      rw [← hW4]; exact k
    have hO4 : Only (· = w1.heap.size) w3 W4 := by rw [← hW4]; exact (((only1 _ w1.heap.size 3 _).trans (only1 _ w1.heap.size 4 _)).trans (only1 _ w1.heap.size 5 _)).trans (only1 _ w1.heap.size 6 _)
    have HZ : Hid (W4.heap[w.heap.size]? = some (.cells #[.int .i64 0, .string ⟨#[]⟩, .bool false, .int .i64 0, .int .i64 0, .int .i64 0, .string ⟨#[]⟩] 44 (0, 0))) := (hO4.block _ (Array.getElem?_eq_some_iff.1 H3.out.2.1).1 (by omega)).trans H3.out.2.1
    have HR4 : Hid (Red w W4 r v l s3) := H3.out.2.2.box HG.out hO4 (by omega)
    rw [hW4]
    clear hW4 hO4 ef d3 d4 d5 d6
    have p0 := cell_of HE1.out 0
    have p1 := cell_of HE1.out 1
    have p2 := cell_of HE1.out 2
    have p3 := cell_of HE1.out 3
    have p4 := cell_of HE1.out 4
    have p5 := cell_of HE1.out 5
    have p6 := cell_of HE1.out 6
    simp at p0 p1 p2 p3 p4 p5 p6
    have q0 := cell_of HZ.out 0
    have q1 := cell_of HZ.out 1
    have q2 := cell_of HZ.out 2
    have q3 := cell_of HZ.out 3
    have q4 := cell_of HZ.out 4
    have q5 := cell_of HZ.out 5
    have q6 := cell_of HZ.out 6
    simp at q0 q1 q2 q3 q4 q5 q6
    have qf := free_of HZ.out
    go_wp2
    have hfin := heap_set (heap_set (heap_set (heap_set (heap_set (heap_set (heap_set (HZ.out) 0 (.int .i64 K.d)) 1 (.string K.nm)) 2 (.bool false)) 3 (.int .i64 N.id)) 4 (.int .i64 N.kind)) 5 (.int .i64 N.mode)) 6 (.string N.tg)
    simp only [List.setIfInBounds_toArray, List.set_cons_zero, List.set_cons_succ] at hfin
    refine fwd_ret ?_
    refine bodyPost_ret (results_cell_row rfl _ _ w.heap.size _ _ _ _ rfl hfin Try.underlying44 rfl Try.sizeE) rfl ?_
    rw [HP.out]
    exact ⟨rfl, HR4.out.box HG.out (((((((only1 _ w.heap.size 0 _).trans (only1 _ w.heap.size 1 _)).trans (only1 _ w.heap.size 2 _)).trans (only1 _ w.heap.size 3 _)).trans (only1 _ w.heap.size 4 _)).trans (only1 _ w.heap.size 5 _)).trans (only1 _ w.heap.size 6 _)) (Nat.le_refl _)⟩
  · have hf0b : (f == 0) = false := by simpa using hf0
    rw [if_neg hf0] at hE2
    by_cases hf1 : f = 1
    · subst hf1
      rw [if_pos rfl] at hE2
      have HP : Hid (E = (⟨K.d, K.nm, true, 0, 0, 0, ⟨#[]⟩⟩, s2)) := hE2.symm
      have ef := free_of H2.out.1
      have d2 := cell_of H2.out.1 2
      simp at d2
      clear hE2
      go_upto_region 7 with fail
      obtain ⟨W4, hW4⟩ : ∃ W4, w2.setCell ⟨w1.heap.size, 2, none⟩ (.bool true) = W4 := ⟨_, rfl⟩
      have HE1 : Hid (W4.heap[w1.heap.size]? = some (.cells #[.int .i64 K.d, .string K.nm, .bool true, .int .i64 0, .int .i64 0, .int .i64 0, .string ⟨#[]⟩] 44 (0, 0))) := by
        have k := heap_set H2.out.1 2 (.bool true)
        simp only [List.setIfInBounds_toArray, List.set_cons_zero, List.set_cons_succ] at k
        rw [← hW4]; exact k
      have hO4 : Only (· = w1.heap.size) w2 W4 := by rw [← hW4]; exact only1 _ w1.heap.size 2 _
      have HZ : Hid (W4.heap[w.heap.size]? = some (.cells #[.int .i64 0, .string ⟨#[]⟩, .bool false, .int .i64 0, .int .i64 0, .int .i64 0, .string ⟨#[]⟩] 44 (0, 0))) := (hO4.block _ (Array.getElem?_eq_some_iff.1 H2.out.2.1).1 (by omega)).trans H2.out.2.1
      have HR4 : Hid (Red w W4 r v l s2) := H2.out.2.2.box HG.out hO4 (by omega)
      rw [hW4]
      clear hW4 hO4 ef d2
      have p0 := cell_of HE1.out 0
      have p1 := cell_of HE1.out 1
      have p2 := cell_of HE1.out 2
      have p3 := cell_of HE1.out 3
      have p4 := cell_of HE1.out 4
      have p5 := cell_of HE1.out 5
      have p6 := cell_of HE1.out 6
      simp at p0 p1 p2 p3 p4 p5 p6
      have q0 := cell_of HZ.out 0
      have q1 := cell_of HZ.out 1
      have q2 := cell_of HZ.out 2
      have q3 := cell_of HZ.out 3
      have q4 := cell_of HZ.out 4
      have q5 := cell_of HZ.out 5
      have q6 := cell_of HZ.out 6
      simp at q0 q1 q2 q3 q4 q5 q6
      have qf := free_of HZ.out
      go_wp2
      have hfin := heap_set (heap_set (heap_set (heap_set (heap_set (heap_set (heap_set (HZ.out) 0 (.int .i64 K.d)) 1 (.string K.nm)) 2 (.bool true)) 3 (.int .i64 0)) 4 (.int .i64 0)) 5 (.int .i64 0)) 6 (.string ⟨#[]⟩)
      simp only [List.setIfInBounds_toArray, List.set_cons_zero, List.set_cons_succ] at hfin
      refine fwd_ret ?_
      refine bodyPost_ret (results_cell_row rfl _ _ w.heap.size _ _ _ _ rfl hfin Try.underlying44 rfl Try.sizeE) rfl ?_
      rw [HP.out]
      exact ⟨rfl, HR4.out.box HG.out (((((((only1 _ w.heap.size 0 _).trans (only1 _ w.heap.size 1 _)).trans (only1 _ w.heap.size 2 _)).trans (only1 _ w.heap.size 3 _)).trans (only1 _ w.heap.size 4 _)).trans (only1 _ w.heap.size 5 _)).trans (only1 _ w.heap.size 6 _)) (Nat.le_refl _)⟩
    · have hf1b : (f == 1) = false := by simpa using hf1
      rw [if_neg hf1] at hE2
      have HP : Hid (E = (⟨0, ⟨#[]⟩, false, 0, 0, 0, ⟨#[]⟩⟩, none)) := hE2.symm
      have HS : Hid (Calls Try.prog 78 #[.pointer (some ⟨r, 0, none⟩)] w2 fun e w' => e = .returned (.tuple #[]) ∧ Hid (Red w2 w' r v l none)) := stop_r H2.out.2.2.1
      clear hE2 hf0 hf1
      go_wp2
      go_step3
      refine fwd_goto (l := 0) ?_
      go_wp2_with (go_at_call 78; refine HS.out.mono ?_; rintro e w3 ⟨rfl, h3⟩; have hbx : w3.heap[w.heap.size]? = some (.cells #[.int .i64 0, .string ⟨#[]⟩, .bool false, .int .i64 0, .int .i64 0, .int .i64 0, .string ⟨#[]⟩] 44 (0, 0)) := (h3.out.2.block _ (Array.getElem?_eq_some_iff.1 H2.out.2.1).1 (by omega)).trans H2.out.2.1; have HZ : Hid (w3.heap[w.heap.size]? = some (.cells #[.int .i64 0, .string ⟨#[]⟩, .bool false, .int .i64 0, .int .i64 0, .int .i64 0, .string ⟨#[]⟩] 44 (0, 0)) ∧ Red w w3 r v l none) := ⟨hbx, H2.out.2.2.on h3.out⟩; have qf := free_of hbx; have q0 := cell_of hbx 0; have q1 := cell_of hbx 1; have q2 := cell_of hbx 2; have q3 := cell_of hbx 3; have q4 := cell_of hbx 4; have q5 := cell_of hbx 5; have q6 := cell_of hbx 6; simp at q0 q1 q2 q3 q4 q5 q6; clear hbx h3)
      have hfin := heap_set (heap_set (heap_set (heap_set (heap_set (heap_set (heap_set HZ.out.1 0 (.int .i64 0)) 1 (.string ⟨#[]⟩)) 2 (.bool false)) 3 (.int .i64 0)) 4 (.int .i64 0)) 5 (.int .i64 0)) 6 (.string ⟨#[]⟩)
      simp only [List.setIfInBounds_toArray, List.set_cons_zero, List.set_cons_succ] at hfin
      rw [Exit.noGoto_ret]
      refine bodyPost_ret (results_cell_row rfl _ _ w.heap.size _ _ _ _ rfl hfin Try.underlying44 rfl Try.sizeE) rfl ?_
      rw [HP.out]
      exact ⟨rfl, HZ.out.2.box HG.out (((((((only1 _ w.heap.size 0 _).trans (only1 _ w.heap.size 1 _)).trans (only1 _ w.heap.size 2 _)).trans (only1 _ w.heap.size 3 _)).trans (only1 _ w.heap.size 4 _)).trans (only1 _ w.heap.size 5 _)).trans (only1 _ w.heap.size 6 _)) (Nat.le_refl _)⟩
end
end Go.Proofs.Ytekonakanieeaaa
