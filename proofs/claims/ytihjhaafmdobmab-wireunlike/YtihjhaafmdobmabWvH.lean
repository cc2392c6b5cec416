/- The reader in memory: notes. -/
import Derived.Test.YtihjhaafmdobmabWvB
import Derived.Test.YtihjhaafmdobmabWsD
import Derived.Test.YtihjhaafmdobmabWvE
import Derived.Test.YtihjhaafmdobmabWsE
namespace Go.Proofs.Ytihjhaafmdobmab
section
open Go.RowKit Go.Lib
attribute [local go_sem ↓ high] loadN storeN

theorem Bx.row {T : TypeId} {Z cs : Array Value} {w0 w : World} {r g : Nat} {v : Value} {l : List Int} {s : St} (h : Bx T Z w0 w r v l s g cs) (D : Array Value) : Bx T Z w0 (w.setRow g D) r v l s g D := by
  obtain ⟨s0, h0⟩ := h.old
  have := h.lt
  exact ⟨h.red.box h0 (setRow_only w g D) (by omega), (setRow_other _ _ _ _ (by omega)).trans h.res, setRow_heap _ _ _ _ _ _ h.box, h.lt, h.old⟩

set_option maxRecDepth 20000 in
set_option maxHeartbeats 8000000 in
theorem note_r1 {w : World} {r : Nat} {v : Value} {l : List Int} {s : St} (h : Rg w r v l s) (S1 S2 : St) (X1 : Int) (h1 : octP s = (1, S1)) (h2 : numP S1 = (X1, S2)) : Calls Try.prog 45 #[.pointer (some ⟨r, 0, none⟩)] w fun x w' => RdR w r v l S2 (.agg #[.int .i64 1, .int .i64 X1, .int .i64 0, .int .i64 0, .int .i64 0, .int .i64 0, .string ⟨#[]⟩, .bool false, .int .i64 0, .int .i64 0, .int .i64 0, .string ⟨#[]⟩, .int .i64 0, .int .i64 0, .int .i64 0, .int .i64 0, .int .i64 0, .string ⟨#[]⟩, .int .i64 0, .string ⟨#[]⟩, .int .i64 0, .string ⟨#[]⟩]) x w' := by
  have HG : Hid (Rg w r v l s) := h
  obtain ⟨W, hW⟩ : ∃ W, w.alloc (.cells #[.int .i64 0, .int .i64 0, .int .i64 0, .int .i64 0, .int .i64 0, .int .i64 0, .string ⟨#[]⟩, .bool false, .int .i64 0, .int .i64 0, .int .i64 0, .string ⟨#[]⟩, .int .i64 0, .int .i64 0, .int .i64 0, .int .i64 0, .int .i64 0, .string ⟨#[]⟩, .int .i64 0, .string ⟨#[]⟩, .int .i64 0, .string ⟨#[]⟩] 35) = W := ⟨_, rfl⟩
  have hb := boxB hW
  have HW : Hid (w.alloc (.cells #[.int .i64 0, .int .i64 0, .int .i64 0, .int .i64 0, .int .i64 0, .int .i64 0, .string ⟨#[]⟩, .bool false, .int .i64 0, .int .i64 0, .int .i64 0, .string ⟨#[]⟩, .int .i64 0, .int .i64 0, .int .i64 0, .int .i64 0, .int .i64 0, .string ⟨#[]⟩, .int .i64 0, .string ⟨#[]⟩, .int .i64 0, .string ⟨#[]⟩] 35) = W) := hW
  have HC1 : Hid (Calls Try.prog 95 #[.pointer (some ⟨r, 0, none⟩)] W fun x w' => RdR W r v l S1 (.int .i64 1) x w') := by have := octet_r (h.below hb.2); rw [h1] at this; exact this
  have HC2 : Hid (∀ W2, Rg W2 r v l S1 → Calls Try.prog 96 #[.pointer (some ⟨r, 0, none⟩)] W2 fun x w' => RdR W2 r v l S2 (.int .i64 X1) x w') := fun W2 hh => by have := number_r hh; rw [h2] at this; exact this
  clear h hb h1 h2
  go_enter Try.func45, Try.ntmps45
  go_upto_region 1 with fail
  go_upto_region 2 with (go_at_call 95; refine HC1.out.mono ?_; rintro x w1 ⟨rfl, R1⟩; obtain ⟨W2, hW2⟩ : ∃ W2, w1.alloc (.cells #[.int .i64 0, .int .i64 0, .int .i64 0, .int .i64 0, .int .i64 0, .int .i64 0, .string ⟨#[]⟩, .bool false, .int .i64 0, .int .i64 0, .int .i64 0, .string ⟨#[]⟩, .int .i64 0, .int .i64 0, .int .i64 0, .int .i64 0, .int .i64 0, .string ⟨#[]⟩, .int .i64 0, .string ⟨#[]⟩, .int .i64 0, .string ⟨#[]⟩] 35) = W2 := ⟨_, rfl⟩; obtain ⟨W3, hW3⟩ : ∃ W3, W2.setRow w1.heap.size #[.int .i64 1, .int .i64 0, .int .i64 0, .int .i64 0, .int .i64 0, .int .i64 0, .string ⟨#[]⟩, .bool false, .int .i64 0, .int .i64 0, .int .i64 0, .string ⟨#[]⟩, .int .i64 0, .int .i64 0, .int .i64 0, .int .i64 0, .int .i64 0, .string ⟨#[]⟩, .int .i64 0, .string ⟨#[]⟩, .int .i64 0, .string ⟨#[]⟩] = W3 := ⟨_, rfl⟩; have nt := noteT_of (boxB hW2).1 rfl rfl (by simp [Value.oneCell']) hW3)
  have H3 : Hid (Bx 35 #[.int .i64 0, .int .i64 0, .int .i64 0, .int .i64 0, .int .i64 0, .int .i64 0, .string ⟨#[]⟩, .bool false, .int .i64 0, .int .i64 0, .int .i64 0, .string ⟨#[]⟩, .int .i64 0, .int .i64 0, .int .i64 0, .int .i64 0, .int .i64 0, .string ⟨#[]⟩, .int .i64 0, .string ⟨#[]⟩, .int .i64 0, .string ⟨#[]⟩] w W3 r v l S1 w1.heap.size #[.int .i64 1, .int .i64 0, .int .i64 0, .int .i64 0, .int .i64 0, .int .i64 0, .string ⟨#[]⟩, .bool false, .int .i64 0, .int .i64 0, .int .i64 0, .string ⟨#[]⟩, .int .i64 0, .int .i64 0, .int .i64 0, .int .i64 0, .int .i64 0, .string ⟨#[]⟩, .int .i64 0, .string ⟨#[]⟩, .int .i64 0, .string ⟨#[]⟩]) := by rw [← hW3]; exact (Bx.new HG.out HW.out R1.out hW2).row _
  clear hW2 hW3 nt hW HW HC1 R1
  have k0 := cell_of H3.out.box 0
  simp at k0
  go_upto_region 13 with (go_at_call 96; refine (HC2.out _ H3.out.red.1).mono ?_; rintro x y0 ⟨rfl, q0⟩; have Ha0 : Hid (Bx 35 #[.int .i64 0, .int .i64 0, .int .i64 0, .int .i64 0, .int .i64 0, .int .i64 0, .string ⟨#[]⟩, .bool false, .int .i64 0, .int .i64 0, .int .i64 0, .string ⟨#[]⟩, .int .i64 0, .int .i64 0, .int .i64 0, .int .i64 0, .int .i64 0, .string ⟨#[]⟩, .int .i64 0, .string ⟨#[]⟩, .int .i64 0, .string ⟨#[]⟩] w y0 r v l S2 w1.heap.size #[.int .i64 1, .int .i64 0, .int .i64 0, .int .i64 0, .int .i64 0, .int .i64 0, .string ⟨#[]⟩, .bool false, .int .i64 0, .int .i64 0, .int .i64 0, .string ⟨#[]⟩, .int .i64 0, .int .i64 0, .int .i64 0, .int .i64 0, .int .i64 0, .string ⟨#[]⟩, .int .i64 0, .string ⟨#[]⟩, .int .i64 0, .string ⟨#[]⟩]) := H3.out.on q0.out; have g1 := cell_of Ha0.out.box 1; have gf := free_of Ha0.out.box; simp at g1)
  obtain ⟨W5, hW5⟩ : ∃ W, (y0).setCell ⟨w1.heap.size, 1, none⟩ (.int .i64 X1) = W := ⟨_, rfl⟩
  rw [hW5]
  have H5 : Hid (Bx 35 #[.int .i64 0, .int .i64 0, .int .i64 0, .int .i64 0, .int .i64 0, .int .i64 0, .string ⟨#[]⟩, .bool false, .int .i64 0, .int .i64 0, .int .i64 0, .string ⟨#[]⟩, .int .i64 0, .int .i64 0, .int .i64 0, .int .i64 0, .int .i64 0, .string ⟨#[]⟩, .int .i64 0, .string ⟨#[]⟩, .int .i64 0, .string ⟨#[]⟩] w W5 r v l S2 w1.heap.size #[.int .i64 1, .int .i64 X1, .int .i64 0, .int .i64 0, .int .i64 0, .int .i64 0, .string ⟨#[]⟩, .bool false, .int .i64 0, .int .i64 0, .int .i64 0, .string ⟨#[]⟩, .int .i64 0, .int .i64 0, .int .i64 0, .int .i64 0, .int .i64 0, .string ⟨#[]⟩, .int .i64 0, .string ⟨#[]⟩, .int .i64 0, .string ⟨#[]⟩]) := by
    rw [← hW5]
    have b := (Ha0.out).set 1 (.int .i64 X1)
    simp only [List.setIfInBounds_toArray, List.set_cons_zero, List.set_cons_succ] at b
    exact b
  have nl := noteS_of H5.out.box rfl
  obtain ⟨W6, hW6⟩ : ∃ W, W5.setRow w.heap.size #[.int .i64 1, .int .i64 X1, .int .i64 0, .int .i64 0, .int .i64 0, .int .i64 0, .string ⟨#[]⟩, .bool false, .int .i64 0, .int .i64 0, .int .i64 0, .string ⟨#[]⟩, .int .i64 0, .int .i64 0, .int .i64 0, .int .i64 0, .int .i64 0, .string ⟨#[]⟩, .int .i64 0, .string ⟨#[]⟩, .int .i64 0, .string ⟨#[]⟩] = W := ⟨_, rfl⟩
  have nt2 := noteT_of H5.out.res rfl rfl (by simp [Value.oneCell']) hW6
  have HF : Hid (W6.heap[w.heap.size]? = some (.cells #[.int .i64 1, .int .i64 X1, .int .i64 0, .int .i64 0, .int .i64 0, .int .i64 0, .string ⟨#[]⟩, .bool false, .int .i64 0, .int .i64 0, .int .i64 0, .string ⟨#[]⟩, .int .i64 0, .int .i64 0, .int .i64 0, .int .i64 0, .int .i64 0, .string ⟨#[]⟩, .int .i64 0, .string ⟨#[]⟩, .int .i64 0, .string ⟨#[]⟩] 35 (0, 0)) ∧ Red w W6 r v l S2) := by
    rw [← hW6]
    exact ⟨setRow_heap _ _ _ _ _ _ H5.out.res, H5.out.red.box HG.out (setRow_only _ _ _) (Nat.le_refl _)⟩
  clear hW5 hW6 H5 HG
  go_wp2
  refine bodyPost_ret (results_cell_row rfl _ _ w.heap.size _ _ _ _ rfl HF.out.1 Try.underlying35 rfl Try.sizeNote) rfl ?_
  exact ⟨rfl, HF.out.2⟩

set_option maxRecDepth 20000 in
set_option maxHeartbeats 8000000 in
theorem note_r2 {w : World} {r : Nat} {v : Value} {l : List Int} {s : St} (h : Rg w r v l s) (S1 S2 S3 S4 : St) (X1 X2 X3 : Int) (h1 : octP s = (2, S1)) (h2 : numP S1 = (X1, S2)) (h3 : numP S2 = (X2, S3)) (h4 : numP S3 = (X3, S4)) : Calls Try.prog 45 #[.pointer (some ⟨r, 0, none⟩)] w fun x w' => RdR w r v l S4 (.agg #[.int .i64 2, .int .i64 X1, .int .i64 X2, .int .i64 X3, .int .i64 0, .int .i64 0, .string ⟨#[]⟩, .bool false, .int .i64 0, .int .i64 0, .int .i64 0, .string ⟨#[]⟩, .int .i64 0, .int .i64 0, .int .i64 0, .int .i64 0, .int .i64 0, .string ⟨#[]⟩, .int .i64 0, .string ⟨#[]⟩, .int .i64 0, .string ⟨#[]⟩]) x w' := by
  have HG : Hid (Rg w r v l s) := h
  obtain ⟨W, hW⟩ : ∃ W, w.alloc (.cells #[.int .i64 0, .int .i64 0, .int .i64 0, .int .i64 0, .int .i64 0, .int .i64 0, .string ⟨#[]⟩, .bool false, .int .i64 0, .int .i64 0, .int .i64 0, .string ⟨#[]⟩, .int .i64 0, .int .i64 0, .int .i64 0, .int .i64 0, .int .i64 0, .string ⟨#[]⟩, .int .i64 0, .string ⟨#[]⟩, .int .i64 0, .string ⟨#[]⟩] 35) = W := ⟨_, rfl⟩
  have hb := boxB hW
  have HW : Hid (w.alloc (.cells #[.int .i64 0, .int .i64 0, .int .i64 0, .int .i64 0, .int .i64 0, .int .i64 0, .string ⟨#[]⟩, .bool false, .int .i64 0, .int .i64 0, .int .i64 0, .string ⟨#[]⟩, .int .i64 0, .int .i64 0, .int .i64 0, .int .i64 0, .int .i64 0, .string ⟨#[]⟩, .int .i64 0, .string ⟨#[]⟩, .int .i64 0, .string ⟨#[]⟩] 35) = W) := hW
  have HC1 : Hid (Calls Try.prog 95 #[.pointer (some ⟨r, 0, none⟩)] W fun x w' => RdR W r v l S1 (.int .i64 2) x w') := by have := octet_r (h.below hb.2); rw [h1] at this; exact this
  have HC2 : Hid (∀ W2, Rg W2 r v l S1 → Calls Try.prog 96 #[.pointer (some ⟨r, 0, none⟩)] W2 fun x w' => RdR W2 r v l S2 (.int .i64 X1) x w') := fun W2 hh => by have := number_r hh; rw [h2] at this; exact this
  have HC3 : Hid (∀ W2, Rg W2 r v l S2 → Calls Try.prog 96 #[.pointer (some ⟨r, 0, none⟩)] W2 fun x w' => RdR W2 r v l S3 (.int .i64 X2) x w') := fun W2 hh => by have := number_r hh; rw [h3] at this; exact this
  have HC4 : Hid (∀ W2, Rg W2 r v l S3 → Calls Try.prog 96 #[.pointer (some ⟨r, 0, none⟩)] W2 fun x w' => RdR W2 r v l S4 (.int .i64 X3) x w') := fun W2 hh => by have := number_r hh; rw [h4] at this; exact this
  clear h hb h1 h2 h3 h4
  go_enter Try.func45, Try.ntmps45
  go_upto_region 1 with fail
  go_upto_region 2 with (go_at_call 95; refine HC1.out.mono ?_; rintro x w1 ⟨rfl, R1⟩; obtain ⟨W2, hW2⟩ : ∃ W2, w1.alloc (.cells #[.int .i64 0, .int .i64 0, .int .i64 0, .int .i64 0, .int .i64 0, .int .i64 0, .string ⟨#[]⟩, .bool false, .int .i64 0, .int .i64 0, .int .i64 0, .string ⟨#[]⟩, .int .i64 0, .int .i64 0, .int .i64 0, .int .i64 0, .int .i64 0, .string ⟨#[]⟩, .int .i64 0, .string ⟨#[]⟩, .int .i64 0, .string ⟨#[]⟩] 35) = W2 := ⟨_, rfl⟩; obtain ⟨W3, hW3⟩ : ∃ W3, W2.setRow w1.heap.size #[.int .i64 2, .int .i64 0, .int .i64 0, .int .i64 0, .int .i64 0, .int .i64 0, .string ⟨#[]⟩, .bool false, .int .i64 0, .int .i64 0, .int .i64 0, .string ⟨#[]⟩, .int .i64 0, .int .i64 0, .int .i64 0, .int .i64 0, .int .i64 0, .string ⟨#[]⟩, .int .i64 0, .string ⟨#[]⟩, .int .i64 0, .string ⟨#[]⟩] = W3 := ⟨_, rfl⟩; have nt := noteT_of (boxB hW2).1 rfl rfl (by simp [Value.oneCell']) hW3)
  have H3 : Hid (Bx 35 #[.int .i64 0, .int .i64 0, .int .i64 0, .int .i64 0, .int .i64 0, .int .i64 0, .string ⟨#[]⟩, .bool false, .int .i64 0, .int .i64 0, .int .i64 0, .string ⟨#[]⟩, .int .i64 0, .int .i64 0, .int .i64 0, .int .i64 0, .int .i64 0, .string ⟨#[]⟩, .int .i64 0, .string ⟨#[]⟩, .int .i64 0, .string ⟨#[]⟩] w W3 r v l S1 w1.heap.size #[.int .i64 2, .int .i64 0, .int .i64 0, .int .i64 0, .int .i64 0, .int .i64 0, .string ⟨#[]⟩, .bool false, .int .i64 0, .int .i64 0, .int .i64 0, .string ⟨#[]⟩, .int .i64 0, .int .i64 0, .int .i64 0, .int .i64 0, .int .i64 0, .string ⟨#[]⟩, .int .i64 0, .string ⟨#[]⟩, .int .i64 0, .string ⟨#[]⟩]) := by rw [← hW3]; exact (Bx.new HG.out HW.out R1.out hW2).row _
  clear hW2 hW3 nt hW HW HC1 R1
  have k0 := cell_of H3.out.box 0
  simp at k0
  go_upto_region 13 with (first
    | (go_at_call 96; refine (HC4.out _ Ha1.out.red.1).mono ?_; rintro x y2 ⟨rfl, q2⟩; have Ha2 : Hid (Bx 35 #[.int .i64 0, .int .i64 0, .int .i64 0, .int .i64 0, .int .i64 0, .int .i64 0, .string ⟨#[]⟩, .bool false, .int .i64 0, .int .i64 0, .int .i64 0, .string ⟨#[]⟩, .int .i64 0, .int .i64 0, .int .i64 0, .int .i64 0, .int .i64 0, .string ⟨#[]⟩, .int .i64 0, .string ⟨#[]⟩, .int .i64 0, .string ⟨#[]⟩] w y2 r v l S4 w1.heap.size #[.int .i64 2, .int .i64 0, .int .i64 0, .int .i64 0, .int .i64 0, .int .i64 0, .string ⟨#[]⟩, .bool false, .int .i64 0, .int .i64 0, .int .i64 0, .string ⟨#[]⟩, .int .i64 0, .int .i64 0, .int .i64 0, .int .i64 0, .int .i64 0, .string ⟨#[]⟩, .int .i64 0, .string ⟨#[]⟩, .int .i64 0, .string ⟨#[]⟩]) := Ha1.out.on q2.out; have g1 := cell_of Ha2.out.box 1; have g2 := cell_of Ha2.out.box 2; have g3 := cell_of Ha2.out.box 3; have gf := free_of Ha2.out.box; simp at g1 g2 g3)
    | (go_at_call 96; refine (HC3.out _ Ha0.out.red.1).mono ?_; rintro x y1 ⟨rfl, q1⟩; have Ha1 : Hid (Bx 35 #[.int .i64 0, .int .i64 0, .int .i64 0, .int .i64 0, .int .i64 0, .int .i64 0, .string ⟨#[]⟩, .bool false, .int .i64 0, .int .i64 0, .int .i64 0, .string ⟨#[]⟩, .int .i64 0, .int .i64 0, .int .i64 0, .int .i64 0, .int .i64 0, .string ⟨#[]⟩, .int .i64 0, .string ⟨#[]⟩, .int .i64 0, .string ⟨#[]⟩] w y1 r v l S3 w1.heap.size #[.int .i64 2, .int .i64 0, .int .i64 0, .int .i64 0, .int .i64 0, .int .i64 0, .string ⟨#[]⟩, .bool false, .int .i64 0, .int .i64 0, .int .i64 0, .string ⟨#[]⟩, .int .i64 0, .int .i64 0, .int .i64 0, .int .i64 0, .int .i64 0, .string ⟨#[]⟩, .int .i64 0, .string ⟨#[]⟩, .int .i64 0, .string ⟨#[]⟩]) := Ha0.out.on q1.out)
    | (go_at_call 96; refine (HC2.out _ H3.out.red.1).mono ?_; rintro x y0 ⟨rfl, q0⟩; have Ha0 : Hid (Bx 35 #[.int .i64 0, .int .i64 0, .int .i64 0, .int .i64 0, .int .i64 0, .int .i64 0, .string ⟨#[]⟩, .bool false, .int .i64 0, .int .i64 0, .int .i64 0, .string ⟨#[]⟩, .int .i64 0, .int .i64 0, .int .i64 0, .int .i64 0, .int .i64 0, .string ⟨#[]⟩, .int .i64 0, .string ⟨#[]⟩, .int .i64 0, .string ⟨#[]⟩] w y0 r v l S2 w1.heap.size #[.int .i64 2, .int .i64 0, .int .i64 0, .int .i64 0, .int .i64 0, .int .i64 0, .string ⟨#[]⟩, .bool false, .int .i64 0, .int .i64 0, .int .i64 0, .string ⟨#[]⟩, .int .i64 0, .int .i64 0, .int .i64 0, .int .i64 0, .int .i64 0, .string ⟨#[]⟩, .int .i64 0, .string ⟨#[]⟩, .int .i64 0, .string ⟨#[]⟩]) := H3.out.on q0.out))
  obtain ⟨W5, hW5⟩ : ∃ W, (((y2).setCell ⟨w1.heap.size, 1, none⟩ (.int .i64 X1)).setCell ⟨w1.heap.size, 2, none⟩ (.int .i64 X2)).setCell ⟨w1.heap.size, 3, none⟩ (.int .i64 X3) = W := ⟨_, rfl⟩
  rw [hW5]
  have H5 : Hid (Bx 35 #[.int .i64 0, .int .i64 0, .int .i64 0, .int .i64 0, .int .i64 0, .int .i64 0, .string ⟨#[]⟩, .bool false, .int .i64 0, .int .i64 0, .int .i64 0, .string ⟨#[]⟩, .int .i64 0, .int .i64 0, .int .i64 0, .int .i64 0, .int .i64 0, .string ⟨#[]⟩, .int .i64 0, .string ⟨#[]⟩, .int .i64 0, .string ⟨#[]⟩] w W5 r v l S4 w1.heap.size #[.int .i64 2, .int .i64 X1, .int .i64 X2, .int .i64 X3, .int .i64 0, .int .i64 0, .string ⟨#[]⟩, .bool false, .int .i64 0, .int .i64 0, .int .i64 0, .string ⟨#[]⟩, .int .i64 0, .int .i64 0, .int .i64 0, .int .i64 0, .int .i64 0, .string ⟨#[]⟩, .int .i64 0, .string ⟨#[]⟩, .int .i64 0, .string ⟨#[]⟩]) := by
    rw [← hW5]
    have b := (((Ha2.out).set 1 (.int .i64 X1)).set 2 (.int .i64 X2)).set 3 (.int .i64 X3)
    simp only [List.setIfInBounds_toArray, List.set_cons_zero, List.set_cons_succ] at b
    exact b
  have nl := noteS_of H5.out.box rfl
  obtain ⟨W6, hW6⟩ : ∃ W, W5.setRow w.heap.size #[.int .i64 2, .int .i64 X1, .int .i64 X2, .int .i64 X3, .int .i64 0, .int .i64 0, .string ⟨#[]⟩, .bool false, .int .i64 0, .int .i64 0, .int .i64 0, .string ⟨#[]⟩, .int .i64 0, .int .i64 0, .int .i64 0, .int .i64 0, .int .i64 0, .string ⟨#[]⟩, .int .i64 0, .string ⟨#[]⟩, .int .i64 0, .string ⟨#[]⟩] = W := ⟨_, rfl⟩
  have nt2 := noteT_of H5.out.res rfl rfl (by simp [Value.oneCell']) hW6
  have HF : Hid (W6.heap[w.heap.size]? = some (.cells #[.int .i64 2, .int .i64 X1, .int .i64 X2, .int .i64 X3, .int .i64 0, .int .i64 0, .string ⟨#[]⟩, .bool false, .int .i64 0, .int .i64 0, .int .i64 0, .string ⟨#[]⟩, .int .i64 0, .int .i64 0, .int .i64 0, .int .i64 0, .int .i64 0, .string ⟨#[]⟩, .int .i64 0, .string ⟨#[]⟩, .int .i64 0, .string ⟨#[]⟩] 35 (0, 0)) ∧ Red w W6 r v l S4) := by
    rw [← hW6]
    exact ⟨setRow_heap _ _ _ _ _ _ H5.out.res, H5.out.red.box HG.out (setRow_only _ _ _) (Nat.le_refl _)⟩
  clear hW5 hW6 H5 HG
  go_wp2
  refine bodyPost_ret (results_cell_row rfl _ _ w.heap.size _ _ _ _ rfl HF.out.1 Try.underlying35 rfl Try.sizeNote) rfl ?_
  exact ⟨rfl, HF.out.2⟩

set_option maxRecDepth 20000 in
set_option maxHeartbeats 8000000 in
theorem note_r3 {w : World} {r : Nat} {v : Value} {l : List Int} {s : St} (h : Rg w r v l s) (S1 S2 : St) (e : En) (h1 : octP s = (3, S1)) (h2 : entP S1 = (e, S2)) : Calls Try.prog 45 #[.pointer (some ⟨r, 0, none⟩)] w fun x w' => RdR w r v l S2 (.agg #[.int .i64 3, .int .i64 0, .int .i64 0, .int .i64 0, .int .i64 0, .int .i64 e.d, .string e.nm, .bool e.neg, .int .i64 e.id, .int .i64 e.kind, .int .i64 e.mode, .string e.tg, .int .i64 0, .int .i64 0, .int .i64 0, .int .i64 0, .int .i64 0, .string ⟨#[]⟩, .int .i64 0, .string ⟨#[]⟩, .int .i64 0, .string ⟨#[]⟩]) x w' := by
  have HG : Hid (Rg w r v l s) := h
  obtain ⟨W, hW⟩ : ∃ W, w.alloc (.cells #[.int .i64 0, .int .i64 0, .int .i64 0, .int .i64 0, .int .i64 0, .int .i64 0, .string ⟨#[]⟩, .bool false, .int .i64 0, .int .i64 0, .int .i64 0, .string ⟨#[]⟩, .int .i64 0, .int .i64 0, .int .i64 0, .int .i64 0, .int .i64 0, .string ⟨#[]⟩, .int .i64 0, .string ⟨#[]⟩, .int .i64 0, .string ⟨#[]⟩] 35) = W := ⟨_, rfl⟩
  have hb := boxB hW
  have HW : Hid (w.alloc (.cells #[.int .i64 0, .int .i64 0, .int .i64 0, .int .i64 0, .int .i64 0, .int .i64 0, .string ⟨#[]⟩, .bool false, .int .i64 0, .int .i64 0, .int .i64 0, .string ⟨#[]⟩, .int .i64 0, .int .i64 0, .int .i64 0, .int .i64 0, .int .i64 0, .string ⟨#[]⟩, .int .i64 0, .string ⟨#[]⟩, .int .i64 0, .string ⟨#[]⟩] 35) = W) := hW
  have HC1 : Hid (Calls Try.prog 95 #[.pointer (some ⟨r, 0, none⟩)] W fun x w' => RdR W r v l S1 (.int .i64 3) x w') := by have := octet_r (h.below hb.2); rw [h1] at this; exact this
  have HC2 : Hid (∀ W2, Rg W2 r v l S1 → Calls Try.prog 97 #[.pointer (some ⟨r, 0, none⟩)] W2 fun x w' => RdR W2 r v l S2 (.agg #[.int .i64 e.d, .string e.nm, .bool e.neg, .int .i64 e.id, .int .i64 e.kind, .int .i64 e.mode, .string e.tg]) x w') := fun W2 hh => by have := entry_r hh; rw [h2] at this; exact this
  clear h hb h1 h2
  go_enter Try.func45, Try.ntmps45
  go_upto_region 1 with fail
  go_upto_region 2 with (go_at_call 95; refine HC1.out.mono ?_; rintro x w1 ⟨rfl, R1⟩; obtain ⟨W2, hW2⟩ : ∃ W2, w1.alloc (.cells #[.int .i64 0, .int .i64 0, .int .i64 0, .int .i64 0, .int .i64 0, .int .i64 0, .string ⟨#[]⟩, .bool false, .int .i64 0, .int .i64 0, .int .i64 0, .string ⟨#[]⟩, .int .i64 0, .int .i64 0, .int .i64 0, .int .i64 0, .int .i64 0, .string ⟨#[]⟩, .int .i64 0, .string ⟨#[]⟩, .int .i64 0, .string ⟨#[]⟩] 35) = W2 := ⟨_, rfl⟩; obtain ⟨W3, hW3⟩ : ∃ W3, W2.setRow w1.heap.size #[.int .i64 3, .int .i64 0, .int .i64 0, .int .i64 0, .int .i64 0, .int .i64 0, .string ⟨#[]⟩, .bool false, .int .i64 0, .int .i64 0, .int .i64 0, .string ⟨#[]⟩, .int .i64 0, .int .i64 0, .int .i64 0, .int .i64 0, .int .i64 0, .string ⟨#[]⟩, .int .i64 0, .string ⟨#[]⟩, .int .i64 0, .string ⟨#[]⟩] = W3 := ⟨_, rfl⟩; have nt := noteT_of (boxB hW2).1 rfl rfl (by simp [Value.oneCell']) hW3)
  have H3 : Hid (Bx 35 #[.int .i64 0, .int .i64 0, .int .i64 0, .int .i64 0, .int .i64 0, .int .i64 0, .string ⟨#[]⟩, .bool false, .int .i64 0, .int .i64 0, .int .i64 0, .string ⟨#[]⟩, .int .i64 0, .int .i64 0, .int .i64 0, .int .i64 0, .int .i64 0, .string ⟨#[]⟩, .int .i64 0, .string ⟨#[]⟩, .int .i64 0, .string ⟨#[]⟩] w W3 r v l S1 w1.heap.size #[.int .i64 3, .int .i64 0, .int .i64 0, .int .i64 0, .int .i64 0, .int .i64 0, .string ⟨#[]⟩, .bool false, .int .i64 0, .int .i64 0, .int .i64 0, .string ⟨#[]⟩, .int .i64 0, .int .i64 0, .int .i64 0, .int .i64 0, .int .i64 0, .string ⟨#[]⟩, .int .i64 0, .string ⟨#[]⟩, .int .i64 0, .string ⟨#[]⟩]) := by rw [← hW3]; exact (Bx.new HG.out HW.out R1.out hW2).row _
  clear hW2 hW3 nt hW HW HC1 R1
  have k0 := cell_of H3.out.box 0
  simp at k0
  go_upto_region 13 with (go_at_call 97; refine (HC2.out _ H3.out.red.1).mono ?_; rintro x y0 ⟨rfl, q0⟩; have Ha0 : Hid (Bx 35 #[.int .i64 0, .int .i64 0, .int .i64 0, .int .i64 0, .int .i64 0, .int .i64 0, .string ⟨#[]⟩, .bool false, .int .i64 0, .int .i64 0, .int .i64 0, .string ⟨#[]⟩, .int .i64 0, .int .i64 0, .int .i64 0, .int .i64 0, .int .i64 0, .string ⟨#[]⟩, .int .i64 0, .string ⟨#[]⟩, .int .i64 0, .string ⟨#[]⟩] w y0 r v l S2 w1.heap.size #[.int .i64 3, .int .i64 0, .int .i64 0, .int .i64 0, .int .i64 0, .int .i64 0, .string ⟨#[]⟩, .bool false, .int .i64 0, .int .i64 0, .int .i64 0, .string ⟨#[]⟩, .int .i64 0, .int .i64 0, .int .i64 0, .int .i64 0, .int .i64 0, .string ⟨#[]⟩, .int .i64 0, .string ⟨#[]⟩, .int .i64 0, .string ⟨#[]⟩]) := H3.out.on q0.out; have g5 := cell_of Ha0.out.box 5; have g6 := cell_of Ha0.out.box 6; have g7 := cell_of Ha0.out.box 7; have g8 := cell_of Ha0.out.box 8; have g9 := cell_of Ha0.out.box 9; have g10 := cell_of Ha0.out.box 10; have g11 := cell_of Ha0.out.box 11; have gf := free_of Ha0.out.box; simp at g5 g6 g7 g8 g9 g10 g11)
  obtain ⟨W5, hW5⟩ : ∃ W, (((((((y0).setCell ⟨w1.heap.size, 5, none⟩ (.int .i64 e.d)).setCell ⟨w1.heap.size, 6, none⟩ (.string e.nm)).setCell ⟨w1.heap.size, 7, none⟩ (.bool e.neg)).setCell ⟨w1.heap.size, 8, none⟩ (.int .i64 e.id)).setCell ⟨w1.heap.size, 9, none⟩ (.int .i64 e.kind)).setCell ⟨w1.heap.size, 10, none⟩ (.int .i64 e.mode)).setCell ⟨w1.heap.size, 11, none⟩ (.string e.tg) = W := ⟨_, rfl⟩
  rw [hW5]
  have H5 : Hid (Bx 35 #[.int .i64 0, .int .i64 0, .int .i64 0, .int .i64 0, .int .i64 0, .int .i64 0, .string ⟨#[]⟩, .bool false, .int .i64 0, .int .i64 0, .int .i64 0, .string ⟨#[]⟩, .int .i64 0, .int .i64 0, .int .i64 0, .int .i64 0, .int .i64 0, .string ⟨#[]⟩, .int .i64 0, .string ⟨#[]⟩, .int .i64 0, .string ⟨#[]⟩] w W5 r v l S2 w1.heap.size #[.int .i64 3, .int .i64 0, .int .i64 0, .int .i64 0, .int .i64 0, .int .i64 e.d, .string e.nm, .bool e.neg, .int .i64 e.id, .int .i64 e.kind, .int .i64 e.mode, .string e.tg, .int .i64 0, .int .i64 0, .int .i64 0, .int .i64 0, .int .i64 0, .string ⟨#[]⟩, .int .i64 0, .string ⟨#[]⟩, .int .i64 0, .string ⟨#[]⟩]) := by
    rw [← hW5]
    have b := (((((((Ha0.out).set 5 (.int .i64 e.d)).set 6 (.string e.nm)).set 7 (.bool e.neg)).set 8 (.int .i64 e.id)).set 9 (.int .i64 e.kind)).set 10 (.int .i64 e.mode)).set 11 (.string e.tg)
    simp only [List.setIfInBounds_toArray, List.set_cons_zero, List.set_cons_succ] at b
    exact b
  have nl := noteS_of H5.out.box rfl
  obtain ⟨W6, hW6⟩ : ∃ W, W5.setRow w.heap.size #[.int .i64 3, .int .i64 0, .int .i64 0, .int .i64 0, .int .i64 0, .int .i64 e.d, .string e.nm, .bool e.neg, .int .i64 e.id, .int .i64 e.kind, .int .i64 e.mode, .string e.tg, .int .i64 0, .int .i64 0, .int .i64 0, .int .i64 0, .int .i64 0, .string ⟨#[]⟩, .int .i64 0, .string ⟨#[]⟩, .int .i64 0, .string ⟨#[]⟩] = W := ⟨_, rfl⟩
  have nt2 := noteT_of H5.out.res rfl rfl (by simp [Value.oneCell']) hW6
  have HF : Hid (W6.heap[w.heap.size]? = some (.cells #[.int .i64 3, .int .i64 0, .int .i64 0, .int .i64 0, .int .i64 0, .int .i64 e.d, .string e.nm, .bool e.neg, .int .i64 e.id, .int .i64 e.kind, .int .i64 e.mode, .string e.tg, .int .i64 0, .int .i64 0, .int .i64 0, .int .i64 0, .int .i64 0, .string ⟨#[]⟩, .int .i64 0, .string ⟨#[]⟩, .int .i64 0, .string ⟨#[]⟩] 35 (0, 0)) ∧ Red w W6 r v l S2) := by
    rw [← hW6]
    exact ⟨setRow_heap _ _ _ _ _ _ H5.out.res, H5.out.red.box HG.out (setRow_only _ _ _) (Nat.le_refl _)⟩
  clear hW5 hW6 H5 HG
  go_wp2
  refine bodyPost_ret (results_cell_row rfl _ _ w.heap.size _ _ _ _ rfl HF.out.1 Try.underlying35 rfl Try.sizeNote) rfl ?_
  exact ⟨rfl, HF.out.2⟩

set_option maxRecDepth 20000 in
set_option maxHeartbeats 8000000 in
theorem note_r4 {w : World} {r : Nat} {v : Value} {l : List Int} {s : St} (h : Rg w r v l s) (S1 S2 S3 : St) (X1 a b c : Int) (h1 : octP s = (4, S1)) (h2 : numP S1 = (X1, S2)) (h3 : seen3P S2 = ((a, b, c), S3)) : Calls Try.prog 45 #[.pointer (some ⟨r, 0, none⟩)] w fun x w' => RdR w r v l S3 (.agg #[.int .i64 4, .int .i64 0, .int .i64 0, .int .i64 0, .int .i64 X1, .int .i64 0, .string ⟨#[]⟩, .bool false, .int .i64 0, .int .i64 0, .int .i64 0, .string ⟨#[]⟩, .int .i64 a, .int .i64 b, .int .i64 c, .int .i64 0, .int .i64 0, .string ⟨#[]⟩, .int .i64 0, .string ⟨#[]⟩, .int .i64 0, .string ⟨#[]⟩]) x w' := by
  have HG : Hid (Rg w r v l s) := h
  obtain ⟨W, hW⟩ : ∃ W, w.alloc (.cells #[.int .i64 0, .int .i64 0, .int .i64 0, .int .i64 0, .int .i64 0, .int .i64 0, .string ⟨#[]⟩, .bool false, .int .i64 0, .int .i64 0, .int .i64 0, .string ⟨#[]⟩, .int .i64 0, .int .i64 0, .int .i64 0, .int .i64 0, .int .i64 0, .string ⟨#[]⟩, .int .i64 0, .string ⟨#[]⟩, .int .i64 0, .string ⟨#[]⟩] 35) = W := ⟨_, rfl⟩
  have hb := boxB hW
  have HW : Hid (w.alloc (.cells #[.int .i64 0, .int .i64 0, .int .i64 0, .int .i64 0, .int .i64 0, .int .i64 0, .string ⟨#[]⟩, .bool false, .int .i64 0, .int .i64 0, .int .i64 0, .string ⟨#[]⟩, .int .i64 0, .int .i64 0, .int .i64 0, .int .i64 0, .int .i64 0, .string ⟨#[]⟩, .int .i64 0, .string ⟨#[]⟩, .int .i64 0, .string ⟨#[]⟩] 35) = W) := hW
  have HC1 : Hid (Calls Try.prog 95 #[.pointer (some ⟨r, 0, none⟩)] W fun x w' => RdR W r v l S1 (.int .i64 4) x w') := by have := octet_r (h.below hb.2); rw [h1] at this; exact this
  have HC2 : Hid (∀ W2, Rg W2 r v l S1 → Calls Try.prog 96 #[.pointer (some ⟨r, 0, none⟩)] W2 fun x w' => RdR W2 r v l S2 (.int .i64 X1) x w') := fun W2 hh => by have := number_r hh; rw [h2] at this; exact this
  have HC3 : Hid (∀ W2, Rg W2 r v l S2 → Calls Try.prog 98 #[.pointer (some ⟨r, 0, none⟩)] W2 fun x w' => RdR W2 r v l S3 (.agg #[.int .i64 a, .int .i64 b, .int .i64 c]) x w') := fun W2 hh => by have := seen_r hh; rw [h3] at this; exact this
  clear h hb h1 h2 h3
  go_enter Try.func45, Try.ntmps45
  go_upto_region 1 with fail
  go_upto_region 2 with (go_at_call 95; refine HC1.out.mono ?_; rintro x w1 ⟨rfl, R1⟩; obtain ⟨W2, hW2⟩ : ∃ W2, w1.alloc (.cells #[.int .i64 0, .int .i64 0, .int .i64 0, .int .i64 0, .int .i64 0, .int .i64 0, .string ⟨#[]⟩, .bool false, .int .i64 0, .int .i64 0, .int .i64 0, .string ⟨#[]⟩, .int .i64 0, .int .i64 0, .int .i64 0, .int .i64 0, .int .i64 0, .string ⟨#[]⟩, .int .i64 0, .string ⟨#[]⟩, .int .i64 0, .string ⟨#[]⟩] 35) = W2 := ⟨_, rfl⟩; obtain ⟨W3, hW3⟩ : ∃ W3, W2.setRow w1.heap.size #[.int .i64 4, .int .i64 0, .int .i64 0, .int .i64 0, .int .i64 0, .int .i64 0, .string ⟨#[]⟩, .bool false, .int .i64 0, .int .i64 0, .int .i64 0, .string ⟨#[]⟩, .int .i64 0, .int .i64 0, .int .i64 0, .int .i64 0, .int .i64 0, .string ⟨#[]⟩, .int .i64 0, .string ⟨#[]⟩, .int .i64 0, .string ⟨#[]⟩] = W3 := ⟨_, rfl⟩; have nt := noteT_of (boxB hW2).1 rfl rfl (by simp [Value.oneCell']) hW3)
  have H3 : Hid (Bx 35 #[.int .i64 0, .int .i64 0, .int .i64 0, .int .i64 0, .int .i64 0, .int .i64 0, .string ⟨#[]⟩, .bool false, .int .i64 0, .int .i64 0, .int .i64 0, .string ⟨#[]⟩, .int .i64 0, .int .i64 0, .int .i64 0, .int .i64 0, .int .i64 0, .string ⟨#[]⟩, .int .i64 0, .string ⟨#[]⟩, .int .i64 0, .string ⟨#[]⟩] w W3 r v l S1 w1.heap.size #[.int .i64 4, .int .i64 0, .int .i64 0, .int .i64 0, .int .i64 0, .int .i64 0, .string ⟨#[]⟩, .bool false, .int .i64 0, .int .i64 0, .int .i64 0, .string ⟨#[]⟩, .int .i64 0, .int .i64 0, .int .i64 0, .int .i64 0, .int .i64 0, .string ⟨#[]⟩, .int .i64 0, .string ⟨#[]⟩, .int .i64 0, .string ⟨#[]⟩]) := by rw [← hW3]; exact (Bx.new HG.out HW.out R1.out hW2).row _
  clear hW2 hW3 nt hW HW HC1 R1
  have k0 := cell_of H3.out.box 0
  simp at k0
  go_upto_region 13 with (first
    | (go_at_call 98; refine (HC3.out _ Ha0.out.red.1).mono ?_; rintro x y1 ⟨rfl, q1⟩; have Ha1 : Hid (Bx 35 #[.int .i64 0, .int .i64 0, .int .i64 0, .int .i64 0, .int .i64 0, .int .i64 0, .string ⟨#[]⟩, .bool false, .int .i64 0, .int .i64 0, .int .i64 0, .string ⟨#[]⟩, .int .i64 0, .int .i64 0, .int .i64 0, .int .i64 0, .int .i64 0, .string ⟨#[]⟩, .int .i64 0, .string ⟨#[]⟩, .int .i64 0, .string ⟨#[]⟩] w y1 r v l S3 w1.heap.size #[.int .i64 4, .int .i64 0, .int .i64 0, .int .i64 0, .int .i64 0, .int .i64 0, .string ⟨#[]⟩, .bool false, .int .i64 0, .int .i64 0, .int .i64 0, .string ⟨#[]⟩, .int .i64 0, .int .i64 0, .int .i64 0, .int .i64 0, .int .i64 0, .string ⟨#[]⟩, .int .i64 0, .string ⟨#[]⟩, .int .i64 0, .string ⟨#[]⟩]) := Ha0.out.on q1.out; have g4 := cell_of Ha1.out.box 4; have g12 := cell_of Ha1.out.box 12; have g13 := cell_of Ha1.out.box 13; have g14 := cell_of Ha1.out.box 14; have gf := free_of Ha1.out.box; simp at g4 g12 g13 g14)
    | (go_at_call 96; refine (HC2.out _ H3.out.red.1).mono ?_; rintro x y0 ⟨rfl, q0⟩; have Ha0 : Hid (Bx 35 #[.int .i64 0, .int .i64 0, .int .i64 0, .int .i64 0, .int .i64 0, .int .i64 0, .string ⟨#[]⟩, .bool false, .int .i64 0, .int .i64 0, .int .i64 0, .string ⟨#[]⟩, .int .i64 0, .int .i64 0, .int .i64 0, .int .i64 0, .int .i64 0, .string ⟨#[]⟩, .int .i64 0, .string ⟨#[]⟩, .int .i64 0, .string ⟨#[]⟩] w y0 r v l S2 w1.heap.size #[.int .i64 4, .int .i64 0, .int .i64 0, .int .i64 0, .int .i64 0, .int .i64 0, .string ⟨#[]⟩, .bool false, .int .i64 0, .int .i64 0, .int .i64 0, .string ⟨#[]⟩, .int .i64 0, .int .i64 0, .int .i64 0, .int .i64 0, .int .i64 0, .string ⟨#[]⟩, .int .i64 0, .string ⟨#[]⟩, .int .i64 0, .string ⟨#[]⟩]) := H3.out.on q0.out))
  obtain ⟨W5, hW5⟩ : ∃ W, ((((y1).setCell ⟨w1.heap.size, 4, none⟩ (.int .i64 X1)).setCell ⟨w1.heap.size, 12, none⟩ (.int .i64 a)).setCell ⟨w1.heap.size, 13, none⟩ (.int .i64 b)).setCell ⟨w1.heap.size, 14, none⟩ (.int .i64 c) = W := ⟨_, rfl⟩
  rw [hW5]
  have H5 : Hid (Bx 35 #[.int .i64 0, .int .i64 0, .int .i64 0, .int .i64 0, .int .i64 0, .int .i64 0, .string ⟨#[]⟩, .bool false, .int .i64 0, .int .i64 0, .int .i64 0, .string ⟨#[]⟩, .int .i64 0, .int .i64 0, .int .i64 0, .int .i64 0, .int .i64 0, .string ⟨#[]⟩, .int .i64 0, .string ⟨#[]⟩, .int .i64 0, .string ⟨#[]⟩] w W5 r v l S3 w1.heap.size #[.int .i64 4, .int .i64 0, .int .i64 0, .int .i64 0, .int .i64 X1, .int .i64 0, .string ⟨#[]⟩, .bool false, .int .i64 0, .int .i64 0, .int .i64 0, .string ⟨#[]⟩, .int .i64 a, .int .i64 b, .int .i64 c, .int .i64 0, .int .i64 0, .string ⟨#[]⟩, .int .i64 0, .string ⟨#[]⟩, .int .i64 0, .string ⟨#[]⟩]) := by
    rw [← hW5]
    have b := ((((Ha1.out).set 4 (.int .i64 X1)).set 12 (.int .i64 a)).set 13 (.int .i64 b)).set 14 (.int .i64 c)
    simp only [List.setIfInBounds_toArray, List.set_cons_zero, List.set_cons_succ] at b
    exact b
  have nl := noteS_of H5.out.box rfl
  obtain ⟨W6, hW6⟩ : ∃ W, W5.setRow w.heap.size #[.int .i64 4, .int .i64 0, .int .i64 0, .int .i64 0, .int .i64 X1, .int .i64 0, .string ⟨#[]⟩, .bool false, .int .i64 0, .int .i64 0, .int .i64 0, .string ⟨#[]⟩, .int .i64 a, .int .i64 b, .int .i64 c, .int .i64 0, .int .i64 0, .string ⟨#[]⟩, .int .i64 0, .string ⟨#[]⟩, .int .i64 0, .string ⟨#[]⟩] = W := ⟨_, rfl⟩
  have nt2 := noteT_of H5.out.res rfl rfl (by simp [Value.oneCell']) hW6
  have HF : Hid (W6.heap[w.heap.size]? = some (.cells #[.int .i64 4, .int .i64 0, .int .i64 0, .int .i64 0, .int .i64 X1, .int .i64 0, .string ⟨#[]⟩, .bool false, .int .i64 0, .int .i64 0, .int .i64 0, .string ⟨#[]⟩, .int .i64 a, .int .i64 b, .int .i64 c, .int .i64 0, .int .i64 0, .string ⟨#[]⟩, .int .i64 0, .string ⟨#[]⟩, .int .i64 0, .string ⟨#[]⟩] 35 (0, 0)) ∧ Red w W6 r v l S3) := by
    rw [← hW6]
    exact ⟨setRow_heap _ _ _ _ _ _ H5.out.res, H5.out.red.box HG.out (setRow_only _ _ _) (Nat.le_refl _)⟩
  clear hW5 hW6 H5 HG
  go_wp2
  refine bodyPost_ret (results_cell_row rfl _ _ w.heap.size _ _ _ _ rfl HF.out.1 Try.underlying35 rfl Try.sizeNote) rfl ?_
  exact ⟨rfl, HF.out.2⟩

set_option maxRecDepth 20000 in
set_option maxHeartbeats 8000000 in
theorem note_r5 {w : World} {r : Nat} {v : Value} {l : List Int} {s : St} (h : Rg w r v l s) (S1 S2 S3 S4 : St) (X1 a b c : Int) (o : Opn) (h1 : octP s = (5, S1)) (h2 : numP S1 = (X1, S2)) (h3 : seen3P S2 = ((a, b, c), S3)) (h4 : opP S3 = (o, S4)) : Calls Try.prog 45 #[.pointer (some ⟨r, 0, none⟩)] w fun x w' => RdR w r v l S4 (.agg #[.int .i64 5, .int .i64 0, .int .i64 0, .int .i64 0, .int .i64 X1, .int .i64 0, .string ⟨#[]⟩, .bool false, .int .i64 0, .int .i64 0, .int .i64 0, .string ⟨#[]⟩, .int .i64 a, .int .i64 b, .int .i64 c, .int .i64 o.kind, .int .i64 o.dir, .string o.nm, .int .i64 o.dst, .string o.new, .int .i64 o.mode, .string o.tg]) x w' := by
  have HG : Hid (Rg w r v l s) := h
  obtain ⟨W, hW⟩ : ∃ W, w.alloc (.cells #[.int .i64 0, .int .i64 0, .int .i64 0, .int .i64 0, .int .i64 0, .int .i64 0, .string ⟨#[]⟩, .bool false, .int .i64 0, .int .i64 0, .int .i64 0, .string ⟨#[]⟩, .int .i64 0, .int .i64 0, .int .i64 0, .int .i64 0, .int .i64 0, .string ⟨#[]⟩, .int .i64 0, .string ⟨#[]⟩, .int .i64 0, .string ⟨#[]⟩] 35) = W := ⟨_, rfl⟩
  have hb := boxB hW
  have HW : Hid (w.alloc (.cells #[.int .i64 0, .int .i64 0, .int .i64 0, .int .i64 0, .int .i64 0, .int .i64 0, .string ⟨#[]⟩, .bool false, .int .i64 0, .int .i64 0, .int .i64 0, .string ⟨#[]⟩, .int .i64 0, .int .i64 0, .int .i64 0, .int .i64 0, .int .i64 0, .string ⟨#[]⟩, .int .i64 0, .string ⟨#[]⟩, .int .i64 0, .string ⟨#[]⟩] 35) = W) := hW
  have HC1 : Hid (Calls Try.prog 95 #[.pointer (some ⟨r, 0, none⟩)] W fun x w' => RdR W r v l S1 (.int .i64 5) x w') := by have := octet_r (h.below hb.2); rw [h1] at this; exact this
  have HC2 : Hid (∀ W2, Rg W2 r v l S1 → Calls Try.prog 96 #[.pointer (some ⟨r, 0, none⟩)] W2 fun x w' => RdR W2 r v l S2 (.int .i64 X1) x w') := fun W2 hh => by have := number_r hh; rw [h2] at this; exact this
  have HC3 : Hid (∀ W2, Rg W2 r v l S2 → Calls Try.prog 98 #[.pointer (some ⟨r, 0, none⟩)] W2 fun x w' => RdR W2 r v l S3 (.agg #[.int .i64 a, .int .i64 b, .int .i64 c]) x w') := fun W2 hh => by have := seen_r hh; rw [h3] at this; exact this
  have HC4 : Hid (∀ W2, Rg W2 r v l S3 → Calls Try.prog 99 #[.pointer (some ⟨r, 0, none⟩)] W2 fun x w' => RdR W2 r v l S4 (.agg #[.int .i64 o.kind, .int .i64 o.dir, .string o.nm, .int .i64 o.dst, .string o.new, .int .i64 o.mode, .string o.tg]) x w') := fun W2 hh => by have := op_r hh; rw [h4] at this; exact this
  clear h hb h1 h2 h3 h4
  go_enter Try.func45, Try.ntmps45
  go_upto_region 1 with fail
  go_upto_region 2 with (go_at_call 95; refine HC1.out.mono ?_; rintro x w1 ⟨rfl, R1⟩; obtain ⟨W2, hW2⟩ : ∃ W2, w1.alloc (.cells #[.int .i64 0, .int .i64 0, .int .i64 0, .int .i64 0, .int .i64 0, .int .i64 0, .string ⟨#[]⟩, .bool false, .int .i64 0, .int .i64 0, .int .i64 0, .string ⟨#[]⟩, .int .i64 0, .int .i64 0, .int .i64 0, .int .i64 0, .int .i64 0, .string ⟨#[]⟩, .int .i64 0, .string ⟨#[]⟩, .int .i64 0, .string ⟨#[]⟩] 35) = W2 := ⟨_, rfl⟩; obtain ⟨W3, hW3⟩ : ∃ W3, W2.setRow w1.heap.size #[.int .i64 5, .int .i64 0, .int .i64 0, .int .i64 0, .int .i64 0, .int .i64 0, .string ⟨#[]⟩, .bool false, .int .i64 0, .int .i64 0, .int .i64 0, .string ⟨#[]⟩, .int .i64 0, .int .i64 0, .int .i64 0, .int .i64 0, .int .i64 0, .string ⟨#[]⟩, .int .i64 0, .string ⟨#[]⟩, .int .i64 0, .string ⟨#[]⟩] = W3 := ⟨_, rfl⟩; have nt := noteT_of (boxB hW2).1 rfl rfl (by simp [Value.oneCell']) hW3)
  have H3 : Hid (Bx 35 #[.int .i64 0, .int .i64 0, .int .i64 0, .int .i64 0, .int .i64 0, .int .i64 0, .string ⟨#[]⟩, .bool false, .int .i64 0, .int .i64 0, .int .i64 0, .string ⟨#[]⟩, .int .i64 0, .int .i64 0, .int .i64 0, .int .i64 0, .int .i64 0, .string ⟨#[]⟩, .int .i64 0, .string ⟨#[]⟩, .int .i64 0, .string ⟨#[]⟩] w W3 r v l S1 w1.heap.size #[.int .i64 5, .int .i64 0, .int .i64 0, .int .i64 0, .int .i64 0, .int .i64 0, .string ⟨#[]⟩, .bool false, .int .i64 0, .int .i64 0, .int .i64 0, .string ⟨#[]⟩, .int .i64 0, .int .i64 0, .int .i64 0, .int .i64 0, .int .i64 0, .string ⟨#[]⟩, .int .i64 0, .string ⟨#[]⟩, .int .i64 0, .string ⟨#[]⟩]) := by rw [← hW3]; exact (Bx.new HG.out HW.out R1.out hW2).row _
  clear hW2 hW3 nt hW HW HC1 R1
  have k0 := cell_of H3.out.box 0
  simp at k0
  go_upto_region 13 with (first
    | (go_at_call 99; refine (HC4.out _ Ha1.out.red.1).mono ?_; rintro x y2 ⟨rfl, q2⟩; have Ha2 : Hid (Bx 35 #[.int .i64 0, .int .i64 0, .int .i64 0, .int .i64 0, .int .i64 0, .int .i64 0, .string ⟨#[]⟩, .bool false, .int .i64 0, .int .i64 0, .int .i64 0, .string ⟨#[]⟩, .int .i64 0, .int .i64 0, .int .i64 0, .int .i64 0, .int .i64 0, .string ⟨#[]⟩, .int .i64 0, .string ⟨#[]⟩, .int .i64 0, .string ⟨#[]⟩] w y2 r v l S4 w1.heap.size #[.int .i64 5, .int .i64 0, .int .i64 0, .int .i64 0, .int .i64 0, .int .i64 0, .string ⟨#[]⟩, .bool false, .int .i64 0, .int .i64 0, .int .i64 0, .string ⟨#[]⟩, .int .i64 0, .int .i64 0, .int .i64 0, .int .i64 0, .int .i64 0, .string ⟨#[]⟩, .int .i64 0, .string ⟨#[]⟩, .int .i64 0, .string ⟨#[]⟩]) := Ha1.out.on q2.out; have g4 := cell_of Ha2.out.box 4; have g12 := cell_of Ha2.out.box 12; have g13 := cell_of Ha2.out.box 13; have g14 := cell_of Ha2.out.box 14; have g15 := cell_of Ha2.out.box 15; have g16 := cell_of Ha2.out.box 16; have g17 := cell_of Ha2.out.box 17; have g18 := cell_of Ha2.out.box 18; have g19 := cell_of Ha2.out.box 19; have g20 := cell_of Ha2.out.box 20; have g21 := cell_of Ha2.out.box 21; have gf := free_of Ha2.out.box; simp at g4 g12 g13 g14 g15 g16 g17 g18 g19 g20 g21)
    | (go_at_call 98; refine (HC3.out _ Ha0.out.red.1).mono ?_; rintro x y1 ⟨rfl, q1⟩; have Ha1 : Hid (Bx 35 #[.int .i64 0, .int .i64 0, .int .i64 0, .int .i64 0, .int .i64 0, .int .i64 0, .string ⟨#[]⟩, .bool false, .int .i64 0, .int .i64 0, .int .i64 0, .string ⟨#[]⟩, .int .i64 0, .int .i64 0, .int .i64 0, .int .i64 0, .int .i64 0, .string ⟨#[]⟩, .int .i64 0, .string ⟨#[]⟩, .int .i64 0, .string ⟨#[]⟩] w y1 r v l S3 w1.heap.size #[.int .i64 5, .int .i64 0, .int .i64 0, .int .i64 0, .int .i64 0, .int .i64 0, .string ⟨#[]⟩, .bool false, .int .i64 0, .int .i64 0, .int .i64 0, .string ⟨#[]⟩, .int .i64 0, .int .i64 0, .int .i64 0, .int .i64 0, .int .i64 0, .string ⟨#[]⟩, .int .i64 0, .string ⟨#[]⟩, .int .i64 0, .string ⟨#[]⟩]) := Ha0.out.on q1.out)
    | (go_at_call 96; refine (HC2.out _ H3.out.red.1).mono ?_; rintro x y0 ⟨rfl, q0⟩; have Ha0 : Hid (Bx 35 #[.int .i64 0, .int .i64 0, .int .i64 0, .int .i64 0, .int .i64 0, .int .i64 0, .string ⟨#[]⟩, .bool false, .int .i64 0, .int .i64 0, .int .i64 0, .string ⟨#[]⟩, .int .i64 0, .int .i64 0, .int .i64 0, .int .i64 0, .int .i64 0, .string ⟨#[]⟩, .int .i64 0, .string ⟨#[]⟩, .int .i64 0, .string ⟨#[]⟩] w y0 r v l S2 w1.heap.size #[.int .i64 5, .int .i64 0, .int .i64 0, .int .i64 0, .int .i64 0, .int .i64 0, .string ⟨#[]⟩, .bool false, .int .i64 0, .int .i64 0, .int .i64 0, .string ⟨#[]⟩, .int .i64 0, .int .i64 0, .int .i64 0, .int .i64 0, .int .i64 0, .string ⟨#[]⟩, .int .i64 0, .string ⟨#[]⟩, .int .i64 0, .string ⟨#[]⟩]) := H3.out.on q0.out))
  obtain ⟨W5, hW5⟩ : ∃ W, (((((((((((y2).setCell ⟨w1.heap.size, 4, none⟩ (.int .i64 X1)).setCell ⟨w1.heap.size, 12, none⟩ (.int .i64 a)).setCell ⟨w1.heap.size, 13, none⟩ (.int .i64 b)).setCell ⟨w1.heap.size, 14, none⟩ (.int .i64 c)).setCell ⟨w1.heap.size, 15, none⟩ (.int .i64 o.kind)).setCell ⟨w1.heap.size, 16, none⟩ (.int .i64 o.dir)).setCell ⟨w1.heap.size, 17, none⟩ (.string o.nm)).setCell ⟨w1.heap.size, 18, none⟩ (.int .i64 o.dst)).setCell ⟨w1.heap.size, 19, none⟩ (.string o.new)).setCell ⟨w1.heap.size, 20, none⟩ (.int .i64 o.mode)).setCell ⟨w1.heap.size, 21, none⟩ (.string o.tg) = W := ⟨_, rfl⟩
  rw [hW5]
  have H5 : Hid (Bx 35 #[.int .i64 0, .int .i64 0, .int .i64 0, .int .i64 0, .int .i64 0, .int .i64 0, .string ⟨#[]⟩, .bool false, .int .i64 0, .int .i64 0, .int .i64 0, .string ⟨#[]⟩, .int .i64 0, .int .i64 0, .int .i64 0, .int .i64 0, .int .i64 0, .string ⟨#[]⟩, .int .i64 0, .string ⟨#[]⟩, .int .i64 0, .string ⟨#[]⟩] w W5 r v l S4 w1.heap.size #[.int .i64 5, .int .i64 0, .int .i64 0, .int .i64 0, .int .i64 X1, .int .i64 0, .string ⟨#[]⟩, .bool false, .int .i64 0, .int .i64 0, .int .i64 0, .string ⟨#[]⟩, .int .i64 a, .int .i64 b, .int .i64 c, .int .i64 o.kind, .int .i64 o.dir, .string o.nm, .int .i64 o.dst, .string o.new, .int .i64 o.mode, .string o.tg]) := by
    rw [← hW5]
    have b := (((((((((((Ha2.out).set 4 (.int .i64 X1)).set 12 (.int .i64 a)).set 13 (.int .i64 b)).set 14 (.int .i64 c)).set 15 (.int .i64 o.kind)).set 16 (.int .i64 o.dir)).set 17 (.string o.nm)).set 18 (.int .i64 o.dst)).set 19 (.string o.new)).set 20 (.int .i64 o.mode)).set 21 (.string o.tg)
    simp only [List.setIfInBounds_toArray, List.set_cons_zero, List.set_cons_succ] at b
    exact b
  have nl := noteS_of H5.out.box rfl
  obtain ⟨W6, hW6⟩ : ∃ W, W5.setRow w.heap.size #[.int .i64 5, .int .i64 0, .int .i64 0, .int .i64 0, .int .i64 X1, .int .i64 0, .string ⟨#[]⟩, .bool false, .int .i64 0, .int .i64 0, .int .i64 0, .string ⟨#[]⟩, .int .i64 a, .int .i64 b, .int .i64 c, .int .i64 o.kind, .int .i64 o.dir, .string o.nm, .int .i64 o.dst, .string o.new, .int .i64 o.mode, .string o.tg] = W := ⟨_, rfl⟩
  have nt2 := noteT_of H5.out.res rfl rfl (by simp [Value.oneCell']) hW6
  have HF : Hid (W6.heap[w.heap.size]? = some (.cells #[.int .i64 5, .int .i64 0, .int .i64 0, .int .i64 0, .int .i64 X1, .int .i64 0, .string ⟨#[]⟩, .bool false, .int .i64 0, .int .i64 0, .int .i64 0, .string ⟨#[]⟩, .int .i64 a, .int .i64 b, .int .i64 c, .int .i64 o.kind, .int .i64 o.dir, .string o.nm, .int .i64 o.dst, .string o.new, .int .i64 o.mode, .string o.tg] 35 (0, 0)) ∧ Red w W6 r v l S4) := by
    rw [← hW6]
    exact ⟨setRow_heap _ _ _ _ _ _ H5.out.res, H5.out.red.box HG.out (setRow_only _ _ _) (Nat.le_refl _)⟩
  clear hW5 hW6 H5 HG
  go_wp2
  refine bodyPost_ret (results_cell_row rfl _ _ w.heap.size _ _ _ _ rfl HF.out.1 Try.underlying35 rfl Try.sizeNote) rfl ?_
  exact ⟨rfl, HF.out.2⟩

set_option maxRecDepth 20000 in
set_option maxHeartbeats 8000000 in
theorem note_r0 {w : World} {r : Nat} {v : Value} {l : List Int} {s : St} (h : Rg w r v l s) (S1 : St) (kind : Int) (k1 : (kind == 1) = false) (k2 : (kind == 2) = false) (k3 : (kind == 3) = false) (k4 : (kind == 4) = false) (k5 : (kind == 5) = false) (h1 : octP s = (kind, S1)) : Calls Try.prog 45 #[.pointer (some ⟨r, 0, none⟩)] w fun x w' => RdR w r v l S1 (.agg #[.int .i64 kind, .int .i64 0, .int .i64 0, .int .i64 0, .int .i64 0, .int .i64 0, .string ⟨#[]⟩, .bool false, .int .i64 0, .int .i64 0, .int .i64 0, .string ⟨#[]⟩, .int .i64 0, .int .i64 0, .int .i64 0, .int .i64 0, .int .i64 0, .string ⟨#[]⟩, .int .i64 0, .string ⟨#[]⟩, .int .i64 0, .string ⟨#[]⟩]) x w' := by
  have HG : Hid (Rg w r v l s) := h
  obtain ⟨W, hW⟩ : ∃ W, w.alloc (.cells #[.int .i64 0, .int .i64 0, .int .i64 0, .int .i64 0, .int .i64 0, .int .i64 0, .string ⟨#[]⟩, .bool false, .int .i64 0, .int .i64 0, .int .i64 0, .string ⟨#[]⟩, .int .i64 0, .int .i64 0, .int .i64 0, .int .i64 0, .int .i64 0, .string ⟨#[]⟩, .int .i64 0, .string ⟨#[]⟩, .int .i64 0, .string ⟨#[]⟩] 35) = W := ⟨_, rfl⟩
  have hb := boxB hW
  have HW : Hid (w.alloc (.cells #[.int .i64 0, .int .i64 0, .int .i64 0, .int .i64 0, .int .i64 0, .int .i64 0, .string ⟨#[]⟩, .bool false, .int .i64 0, .int .i64 0, .int .i64 0, .string ⟨#[]⟩, .int .i64 0, .int .i64 0, .int .i64 0, .int .i64 0, .int .i64 0, .string ⟨#[]⟩, .int .i64 0, .string ⟨#[]⟩, .int .i64 0, .string ⟨#[]⟩] 35) = W) := hW
  have HC1 : Hid (Calls Try.prog 95 #[.pointer (some ⟨r, 0, none⟩)] W fun x w' => RdR W r v l S1 (.int .i64 kind) x w') := by have := octet_r (h.below hb.2); rw [h1] at this; exact this
  clear h hb h1 
  go_enter Try.func45, Try.ntmps45
  go_upto_region 1 with fail
  go_upto_region 2 with (go_at_call 95; refine HC1.out.mono ?_; rintro x w1 ⟨rfl, R1⟩; obtain ⟨W2, hW2⟩ : ∃ W2, w1.alloc (.cells #[.int .i64 0, .int .i64 0, .int .i64 0, .int .i64 0, .int .i64 0, .int .i64 0, .string ⟨#[]⟩, .bool false, .int .i64 0, .int .i64 0, .int .i64 0, .string ⟨#[]⟩, .int .i64 0, .int .i64 0, .int .i64 0, .int .i64 0, .int .i64 0, .string ⟨#[]⟩, .int .i64 0, .string ⟨#[]⟩, .int .i64 0, .string ⟨#[]⟩] 35) = W2 := ⟨_, rfl⟩; obtain ⟨W3, hW3⟩ : ∃ W3, W2.setRow w1.heap.size #[.int .i64 kind, .int .i64 0, .int .i64 0, .int .i64 0, .int .i64 0, .int .i64 0, .string ⟨#[]⟩, .bool false, .int .i64 0, .int .i64 0, .int .i64 0, .string ⟨#[]⟩, .int .i64 0, .int .i64 0, .int .i64 0, .int .i64 0, .int .i64 0, .string ⟨#[]⟩, .int .i64 0, .string ⟨#[]⟩, .int .i64 0, .string ⟨#[]⟩] = W3 := ⟨_, rfl⟩; have nt := noteT_of (boxB hW2).1 rfl rfl (by simp [Value.oneCell']) hW3)
  have H3 : Hid (Bx 35 #[.int .i64 0, .int .i64 0, .int .i64 0, .int .i64 0, .int .i64 0, .int .i64 0, .string ⟨#[]⟩, .bool false, .int .i64 0, .int .i64 0, .int .i64 0, .string ⟨#[]⟩, .int .i64 0, .int .i64 0, .int .i64 0, .int .i64 0, .int .i64 0, .string ⟨#[]⟩, .int .i64 0, .string ⟨#[]⟩, .int .i64 0, .string ⟨#[]⟩] w W3 r v l S1 w1.heap.size #[.int .i64 kind, .int .i64 0, .int .i64 0, .int .i64 0, .int .i64 0, .int .i64 0, .string ⟨#[]⟩, .bool false, .int .i64 0, .int .i64 0, .int .i64 0, .string ⟨#[]⟩, .int .i64 0, .int .i64 0, .int .i64 0, .int .i64 0, .int .i64 0, .string ⟨#[]⟩, .int .i64 0, .string ⟨#[]⟩, .int .i64 0, .string ⟨#[]⟩]) := by rw [← hW3]; exact (Bx.new HG.out HW.out R1.out hW2).row _
  clear hW2 hW3 nt hW HW HC1 R1
  have k0 := cell_of H3.out.box 0
  simp at k0
  go_upto_region 13 with fail
  obtain ⟨W5, hW5⟩ : ∃ W, W3 = W := ⟨_, rfl⟩
  rw [hW5]
  have H5 : Hid (Bx 35 #[.int .i64 0, .int .i64 0, .int .i64 0, .int .i64 0, .int .i64 0, .int .i64 0, .string ⟨#[]⟩, .bool false, .int .i64 0, .int .i64 0, .int .i64 0, .string ⟨#[]⟩, .int .i64 0, .int .i64 0, .int .i64 0, .int .i64 0, .int .i64 0, .string ⟨#[]⟩, .int .i64 0, .string ⟨#[]⟩, .int .i64 0, .string ⟨#[]⟩] w W5 r v l S1 w1.heap.size #[.int .i64 kind, .int .i64 0, .int .i64 0, .int .i64 0, .int .i64 0, .int .i64 0, .string ⟨#[]⟩, .bool false, .int .i64 0, .int .i64 0, .int .i64 0, .string ⟨#[]⟩, .int .i64 0, .int .i64 0, .int .i64 0, .int .i64 0, .int .i64 0, .string ⟨#[]⟩, .int .i64 0, .string ⟨#[]⟩, .int .i64 0, .string ⟨#[]⟩]) := by
    rw [← hW5]
    have b := H3.out
    exact b
  have nl := noteS_of H5.out.box rfl
  obtain ⟨W6, hW6⟩ : ∃ W, W5.setRow w.heap.size #[.int .i64 kind, .int .i64 0, .int .i64 0, .int .i64 0, .int .i64 0, .int .i64 0, .string ⟨#[]⟩, .bool false, .int .i64 0, .int .i64 0, .int .i64 0, .string ⟨#[]⟩, .int .i64 0, .int .i64 0, .int .i64 0, .int .i64 0, .int .i64 0, .string ⟨#[]⟩, .int .i64 0, .string ⟨#[]⟩, .int .i64 0, .string ⟨#[]⟩] = W := ⟨_, rfl⟩
  have nt2 := noteT_of H5.out.res rfl rfl (by simp [Value.oneCell']) hW6
  have HF : Hid (W6.heap[w.heap.size]? = some (.cells #[.int .i64 kind, .int .i64 0, .int .i64 0, .int .i64 0, .int .i64 0, .int .i64 0, .string ⟨#[]⟩, .bool false, .int .i64 0, .int .i64 0, .int .i64 0, .string ⟨#[]⟩, .int .i64 0, .int .i64 0, .int .i64 0, .int .i64 0, .int .i64 0, .string ⟨#[]⟩, .int .i64 0, .string ⟨#[]⟩, .int .i64 0, .string ⟨#[]⟩] 35 (0, 0)) ∧ Red w W6 r v l S1) := by
    rw [← hW6]
    exact ⟨setRow_heap _ _ _ _ _ _ H5.out.res, H5.out.red.box HG.out (setRow_only _ _ _) (Nat.le_refl _)⟩
  clear hW5 hW6 H5 HG
  go_wp2
  refine bodyPost_ret (results_cell_row rfl _ _ w.heap.size _ _ _ _ rfl HF.out.1 Try.underlying35 rfl Try.sizeNote) rfl ?_
  exact ⟨rfl, HF.out.2⟩

theorem prod_mk {α β : Type} {p : α × β} {a : α} (h : p.1 = a) : p = (a, p.2) := by cases p; simp only [] at h; rw [h]
theorem note_r {w : World} {r : Nat} {v : Value} {l : List Int} {s : St} (h : Rg w r v l s) : Calls Try.prog 45 #[.pointer (some ⟨r, 0, none⟩)] w fun x w' => RdR w r v l (noteP s).2 (.agg (noteP s).1.arr) x w' := by
  unfold noteP
  by_cases k1 : (octP s).1 = 1
  · rw [k1]
    exact note_r1 h _ _ _ (prod_mk k1) rfl
  by_cases k2 : (octP s).1 = 2
  · rw [k2]
    exact note_r2 h _ _ _ _ _ _ _ (prod_mk k2) rfl rfl rfl
  by_cases k3 : (octP s).1 = 3
  · rw [k3]
    exact note_r3 h _ _ _ (prod_mk k3) rfl
  by_cases k4 : (octP s).1 = 4
  · rw [k4]
    exact note_r4 h _ _ _ _ _ _ _ (prod_mk k4) rfl rfl
  by_cases k5 : (octP s).1 = 5
  · rw [k5]
    exact note_r5 h _ _ _ _ _ _ _ _ _ (prod_mk k5) rfl rfl rfl
  have ho : ntP (octP s).1 (octP s).2 = ({ zeroNt with kind := (octP s).1 }, (octP s).2) := by
    unfold ntP
    rw [if_neg k1, if_neg k2, if_neg k3, if_neg k4, if_neg k5]
  rw [ho]
  exact note_r0 h _ _ (by simpa using k1) (by simpa using k2) (by simpa using k3) (by simpa using k4) (by simpa using k5) rfl
end
section
open Go.RowKit Go.Lib
attribute [local go_sem ↓ high] loadN storeN

theorem ret_note2 {fn : Func} {p u : Tmp} (h : fn.results = #[.cell p 35, .tmp u]) (tmps : Array Value) (w : World) (g : Nat) {t : TypeId} {cs : Array Value} {fr : Nat × Nat} (hp : tmps.getD p undef = .pointer (some ⟨g, 0, none⟩)) (hg : w.heap[g]? = some (.cells cs t fr)) (hs : cs.size = 22) :
    (results fn tmps).run Try.prog w = .ok (.tuple #[.agg cs, tmps.getD u undef]) w := by
  rw [results_cell_tmp h, hp]
  simp [asAddr, run_loadVar_row w g t 35 _ fr _ hg Try.underlying35 rfl (by rw [hs]; exact Try.sizeNote), Result.andThen]
/-- what Unpack answers -/
def UnpR (l : List Int) (w w' : World) (e : Ending) : Prop :=
  (∃ n, noteOk n ∧ noteB n = l ∧ e = .returned (.tuple #[.agg n.arr, .int .i64 0]) ∧ Below w.heap.size w w') ∨
  ((∀ n, noteOk n → noteB n ≠ l) ∧ e = .returned (.tuple #[.agg zeroNt.arr, .int .i64 50]) ∧ Below w.heap.size w w')
theorem unpack_no {l : List Int} {w w' : World} {e : Ending} {n : Nt} {s : St} (hl : noteP (some l) = (n, s)) (hno : doneB s = false ∨ plainN n = false) (he : e = .returned (.tuple #[.agg zeroNt.arr, .int .i64 50])) (hb : Below w.heap.size w w') : UnpR l w w' e := by
  refine .inr ⟨fun m hm hB => ?_, he, hb⟩
  have h1 := noteP_back hm []
  rw [List.append_nil, hB, hl] at h1
  obtain ⟨rfl, rfl⟩ := Prod.mk.inj h1
  rcases hno with h | h
  · cases h
  · rw [(plainN_iff _).2 hm] at h; cases h
theorem unpack_yes {l : List Int} {w w' : World} {e : Ending} {n : Nt} {s : St} (hby : Byt l) (hl : noteP (some l) = (n, s)) (hd : doneB s = true) (hp : plainN n = true) (he : e = .returned (.tuple #[.agg n.arr, .int .i64 0])) (hb : Below w.heap.size w w') : UnpR l w w' e := by
  refine .inl ⟨n, (plainN_iff _).1 hp, ?_, he, hb⟩
  have hs := (doneB_iff _).1 hd
  rw [hs] at hl
  have := noteP_forth hby hl
  rw [List.append_nil] at this
  exact this.symm
set_option maxRecDepth 20000 in
set_option maxHeartbeats 8000000 in
theorem unpack_p (v : Value) (l : List Int) (w : World) (hr : RC w v l) (hl : Byt l) (hlim : l.length ≤ 140737488355328) : Calls Try.prog 9 #[v] w fun e w' => UnpR l w w' e := by
  obtain ⟨ad, cap, rfl, _, _⟩ := id hr
  obtain ⟨W, hW⟩ : ∃ W, w.alloc (.cells #[.int .i64 0, .int .i64 0, .int .i64 0, .int .i64 0, .int .i64 0, .int .i64 0, .string ⟨#[]⟩, .bool false, .int .i64 0, .int .i64 0, .int .i64 0, .string ⟨#[]⟩, .int .i64 0, .int .i64 0, .int .i64 0, .int .i64 0, .int .i64 0, .string ⟨#[]⟩, .int .i64 0, .string ⟨#[]⟩, .int .i64 0, .string ⟨#[]⟩] 35) = W := ⟨_, rfl⟩
  obtain ⟨W2, hW2⟩ : ∃ W2, W.alloc (.cells #[.slice ad l.length cap, .int .i64 0, .bool false] 100) = W2 := ⟨_, rfl⟩
  have HW2 : Hid (W.alloc (.cells #[.slice ad l.length cap, .int .i64 0, .bool false] 100) = W2) := hW2
  have hb := boxB hW
  have hb2 := boxB hW2
  have hg := new_reader hr hl hlim hb.2 hW2
  have hlt := (Array.getElem?_eq_some_iff.1 hb.1).1
  have HG : Hid (Rg W2 W.heap.size (.slice ad l.length cap) l (some l) ∧ Below w.heap.size w W2 ∧ W2.heap[w.heap.size]? = some (.cells #[.int .i64 0, .int .i64 0, .int .i64 0, .int .i64 0, .int .i64 0, .int .i64 0, .string ⟨#[]⟩, .bool false, .int .i64 0, .int .i64 0, .int .i64 0, .string ⟨#[]⟩, .int .i64 0, .int .i64 0, .int .i64 0, .int .i64 0, .int .i64 0, .string ⟨#[]⟩, .int .i64 0, .string ⟨#[]⟩, .int .i64 0, .string ⟨#[]⟩] 35 (0, 0)) ∧ w.heap.size < W.heap.size) := ⟨hg, chainB hb.2 hb2.2, hkeep hb.1 hb2.2, hlt⟩
  have HMs : Hid (Calls Try.prog 45 #[.pointer (some ⟨W.heap.size, 0, none⟩)] W2 fun e w' => RdR W2 W.heap.size (.slice ad l.length cap) l (noteP (some l)).2 (.agg (noteP (some l)).1.arr) e w') := note_r hg
  obtain ⟨n, hn⟩ : ∃ n, (noteP (some l)).1 = n := ⟨_, rfl⟩
  obtain ⟨s1, hs1⟩ : ∃ s, (noteP (some l)).2 = s := ⟨_, rfl⟩
  have HP : Hid (noteP (some l) = (n, s1) ∧ Byt l) := ⟨Prod.ext hn hs1, hl⟩
  rw [hn, hs1] at HMs
  have HPl : Hid (∀ W2, Calls Try.prog 47 #[.agg n.arr] W2 fun e w' => e = .returned (.bool (plainN n)) ∧ Below W2.heap.size W2 w') := fun W2 => plainNote_p n W2
  obtain ⟨P, hP⟩ : ∃ x, plainN n = x := ⟨_, rfl⟩
  have HPe : Hid (plainN n = P) := hP
  rw [hP] at HPl
  obtain ⟨D, hD⟩ : ∃ x, doneB s1 = x := ⟨_, rfl⟩
  have HDe : Hid (doneB s1 = D) := hD
  have HDn : Hid (∀ W3, Rg W3 W.heap.size (.slice ad l.length cap) l s1 → Calls Try.prog 46 #[.pointer (some ⟨W.heap.size, 0, none⟩)] W3 fun e w' => e = .returned (.bool D) ∧ Below W3.heap.size W3 w') := fun W3 h3 => by rw [← hD]; exact done_r h3
  have hsz : n.arr.size = 22 := rfl
  have hone : n.arr.all (·.oneCell') = true := by unfold Nt.arr; simp [Value.oneCell']
  obtain ⟨A, hA⟩ : ∃ x, n.arr = x := ⟨_, rfl⟩
  have HA : Hid (n.arr = A) := hA
  rw [hA] at HMs HPl hsz hone
  have HZ : Hid (A.size = 22 ∧ A.all (·.oneCell') = true) := ⟨hsz, hone⟩
  clear hr hl hlim hb hb2 hg hlt hn hs1 hP hD hsz hone hA hW2
  go_enter Try.func9, Try.ntmps9
  go_upto_region 1 with fail
  clear hW
  go_upto_region 2 with fail
  rw [HW2.out]
  go_upto_region 3 with (go_at_call 45; refine HMs.out.mono ?_; rintro e w3 ⟨rfl, h3⟩; obtain ⟨W4, hW4⟩ : ∃ W4, w3.alloc (.cells #[.int .i64 0, .int .i64 0, .int .i64 0, .int .i64 0, .int .i64 0, .int .i64 0, .string ⟨#[]⟩, .bool false, .int .i64 0, .int .i64 0, .int .i64 0, .string ⟨#[]⟩, .int .i64 0, .int .i64 0, .int .i64 0, .int .i64 0, .int .i64 0, .string ⟨#[]⟩, .int .i64 0, .string ⟨#[]⟩, .int .i64 0, .string ⟨#[]⟩] 35) = W4 := ⟨_, rfl⟩; obtain ⟨W5, hW5⟩ : ∃ W5, W4.setRow w3.heap.size A = W5 := ⟨_, rfl⟩; have nt := noteT_of (boxB hW4).1 rfl HZ.out.1 HZ.out.2 hW5)
  have h23 : W2.heap.size ≤ w3.heap.size := h3.out.2.size
  have hlt2 := HG.out.1.lt
  have hlt3 := HG.out.2.2.2
  have hb4 := boxB hW4
  have hr5 : Red W2 W5 W.heap.size (.slice ad l.length cap) l s1 := by
    rw [← hW5]
    exact Red.box (g := w3.heap.size) ⟨h3.out.1.below hb4.2, h3.out.2.trans (Only.of hb4.2)⟩ HG.out.1 (setRow_only _ _ _) h23
  have hz3 : w3.heap[w.heap.size]? = some (.cells #[.int .i64 0, .int .i64 0, .int .i64 0, .int .i64 0, .int .i64 0, .int .i64 0, .string ⟨#[]⟩, .bool false, .int .i64 0, .int .i64 0, .int .i64 0, .string ⟨#[]⟩, .int .i64 0, .int .i64 0, .int .i64 0, .int .i64 0, .int .i64 0, .string ⟨#[]⟩, .int .i64 0, .string ⟨#[]⟩, .int .i64 0, .string ⟨#[]⟩] 35 (0, 0)) := (h3.out.2.block _ (by omega) (by omega)).trans HG.out.2.2.1
  have hz5 : W5.heap[w.heap.size]? = some (.cells #[.int .i64 0, .int .i64 0, .int .i64 0, .int .i64 0, .int .i64 0, .int .i64 0, .string ⟨#[]⟩, .bool false, .int .i64 0, .int .i64 0, .int .i64 0, .string ⟨#[]⟩, .int .i64 0, .int .i64 0, .int .i64 0, .int .i64 0, .int .i64 0, .string ⟨#[]⟩, .int .i64 0, .string ⟨#[]⟩, .int .i64 0, .string ⟨#[]⟩] 35 (0, 0)) := by rw [← hW5]; exact (setRow_other _ _ _ _ (by omega)).trans (hkeep hz3 hb4.2)
  have hp5 : W5.heap[w3.heap.size]? = some (.cells A 35 (0, 0)) := by rw [← hW5]; exact setRow_heap _ _ _ _ _ _ hb4.1
  have hbel : Below w.heap.size w W5 := hr5.2.below HG.out.2.1 HG.out.2.1.size (fun k hk => by omega)
  have H5 : Hid (Rg W5 W.heap.size (.slice ad l.length cap) l s1 ∧ W5.heap[w.heap.size]? = some (.cells #[.int .i64 0, .int .i64 0, .int .i64 0, .int .i64 0, .int .i64 0, .int .i64 0, .string ⟨#[]⟩, .bool false, .int .i64 0, .int .i64 0, .int .i64 0, .string ⟨#[]⟩, .int .i64 0, .int .i64 0, .int .i64 0, .int .i64 0, .int .i64 0, .string ⟨#[]⟩, .int .i64 0, .string ⟨#[]⟩, .int .i64 0, .string ⟨#[]⟩] 35 (0, 0)) ∧ W5.heap[w3.heap.size]? = some (.cells A 35 (0, 0)) ∧ Below w.heap.size w W5 ∧ w.heap.size < w3.heap.size) := ⟨hr5.1, hz5, hp5, hbel, by omega⟩
  clear hW4 hW5 nt h23 hlt2 hlt3 hb4 hr5 hz3 hz5 hp5 hbel h3 HMs HG
  cases D with
  | false =>
    go_upto_region 4 with (go_at_call 46; refine (HDn.out W5 H5.out.1).mono ?_; rintro e w7 ⟨rfl, hb7⟩)
    obtain ⟨W8, hW8⟩ : ∃ W, w7.setRow w.heap.size #[.int .i64 0, .int .i64 0, .int .i64 0, .int .i64 0, .int .i64 0, .int .i64 0, .string ⟨#[]⟩, .bool false, .int .i64 0, .int .i64 0, .int .i64 0, .string ⟨#[]⟩, .int .i64 0, .int .i64 0, .int .i64 0, .int .i64 0, .int .i64 0, .string ⟨#[]⟩, .int .i64 0, .string ⟨#[]⟩, .int .i64 0, .string ⟨#[]⟩] = W := ⟨_, rfl⟩
    have nt2 := noteT_of (hkeep H5.out.2.1 hb7) rfl rfl (by simp [Value.oneCell']) hW8
    have HF : Hid (W8.heap[w.heap.size]? = some (.cells #[.int .i64 0, .int .i64 0, .int .i64 0, .int .i64 0, .int .i64 0, .int .i64 0, .string ⟨#[]⟩, .bool false, .int .i64 0, .int .i64 0, .int .i64 0, .string ⟨#[]⟩, .int .i64 0, .int .i64 0, .int .i64 0, .int .i64 0, .int .i64 0, .string ⟨#[]⟩, .int .i64 0, .string ⟨#[]⟩, .int .i64 0, .string ⟨#[]⟩] 35 (0, 0)) ∧ Below w.heap.size w W8) := by
      rw [← hW8]
      exact ⟨setRow_heap _ _ _ _ _ _ (hkeep H5.out.2.1 hb7), below_setRow (chainB H5.out.2.2.2.1 hb7) (Nat.le_refl _) _⟩
    clear hW8 hb7
    go_wp2
    refine bodyPost_ret (ret_note2 rfl _ _ w.heap.size rfl HF.out.1 rfl) rfl ?_
    exact unpack_no HP.out.1 (.inl HDe.out) rfl HF.out.2
  | true =>
    cases P with
    | false =>
      go_upto_region 4 with (first
        | (go_at_call 47; refine (HPl.out w7).mono ?_; rintro e w8 ⟨rfl, hb8⟩)
        | (go_at_call 46; refine (HDn.out W5 H5.out.1).mono ?_; rintro e w7 ⟨rfl, hb7⟩; have nl := noteS_of (hkeep H5.out.2.2.1 hb7) HZ.out.1))
      have hc := chainB hb7 hb8
      obtain ⟨W8, hW8⟩ : ∃ W, w8.setRow w.heap.size #[.int .i64 0, .int .i64 0, .int .i64 0, .int .i64 0, .int .i64 0, .int .i64 0, .string ⟨#[]⟩, .bool false, .int .i64 0, .int .i64 0, .int .i64 0, .string ⟨#[]⟩, .int .i64 0, .int .i64 0, .int .i64 0, .int .i64 0, .int .i64 0, .string ⟨#[]⟩, .int .i64 0, .string ⟨#[]⟩, .int .i64 0, .string ⟨#[]⟩] = W := ⟨_, rfl⟩
      have nt2 := noteT_of (hkeep H5.out.2.1 hc) rfl rfl (by simp [Value.oneCell']) hW8
      have HF : Hid (W8.heap[w.heap.size]? = some (.cells #[.int .i64 0, .int .i64 0, .int .i64 0, .int .i64 0, .int .i64 0, .int .i64 0, .string ⟨#[]⟩, .bool false, .int .i64 0, .int .i64 0, .int .i64 0, .string ⟨#[]⟩, .int .i64 0, .int .i64 0, .int .i64 0, .int .i64 0, .int .i64 0, .string ⟨#[]⟩, .int .i64 0, .string ⟨#[]⟩, .int .i64 0, .string ⟨#[]⟩] 35 (0, 0)) ∧ Below w.heap.size w W8) := by
        rw [← hW8]
        exact ⟨setRow_heap _ _ _ _ _ _ (hkeep H5.out.2.1 hc), below_setRow (chainB H5.out.2.2.2.1 hc) (Nat.le_refl _) _⟩
      clear hW8 hb7 hb8 hc nl
      go_wp2
      refine bodyPost_ret (ret_note2 rfl _ _ w.heap.size rfl HF.out.1 rfl) rfl ?_
      exact unpack_no HP.out.1 (.inr HPe.out) rfl HF.out.2
    | true =>
      go_upto_region 5 with (first
        | (go_at_call 47; refine (HPl.out w7).mono ?_; rintro e w8 ⟨rfl, hb8⟩)
        | (go_at_call 46; refine (HDn.out W5 H5.out.1).mono ?_; rintro e w7 ⟨rfl, hb7⟩; have nl := noteS_of (hkeep H5.out.2.2.1 hb7) HZ.out.1))
      have hc := chainB hb7 hb8
      have nl2 := noteS_of (hkeep H5.out.2.2.1 hc) HZ.out.1
      obtain ⟨W8, hW8⟩ : ∃ W, w8.setRow w.heap.size A = W := ⟨_, rfl⟩
      have nt2 := noteT_of (hkeep H5.out.2.1 hc) rfl HZ.out.1 HZ.out.2 hW8
      have HF : Hid (W8.heap[w.heap.size]? = some (.cells A 35 (0, 0)) ∧ Below w.heap.size w W8) := by
        rw [← hW8]
        exact ⟨setRow_heap _ _ _ _ _ _ (hkeep H5.out.2.1 hc), below_setRow (chainB H5.out.2.2.2.1 hc) (Nat.le_refl _) _⟩
      clear hW8 hb7 hb8 hc nl
      go_wp2
      refine bodyPost_ret (ret_note2 rfl _ _ w.heap.size rfl HF.out.1 HZ.out.1) rfl ?_
      exact unpack_yes HP.out.2 HP.out.1 HDe.out HPe.out (by rw [HA.out]; rfl) HF.out.2
end
end Go.Proofs.Ytihjhaafmdobmab
