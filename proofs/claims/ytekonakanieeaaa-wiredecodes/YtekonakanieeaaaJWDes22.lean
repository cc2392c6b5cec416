/- The reader in memory: notes. -/
import Derived.Test.YtekonakanieeaaaJWDes12
import Derived.Test.YtekonakanieeaaaJWDes21
namespace Go.Proofs.Ytekonakanieeaaa
section
open Go.RowKit Go.Lib
attribute [local go_sem ↓ high] loadN storeN

theorem Bx.row {T : TypeId} {Z cs : Array Value} {w0 w : World} {r g : Nat} {v : Value} {l : List Int} {s : St} (h : Bx T Z w0 w r v l s g cs) (D : Array Value) : Bx T Z w0 (w.setRow g D) r v l s g D := by
  obtain ⟨s0, h0⟩ := h.old
  have := h.lt
  exact ⟨h.red.box h0 (setRow_only w g D) (by omega), (setRow_other _ _ _ _ (by omega)).trans h.res, setRow_heap _ _ _ _ _ _ h.box, h.lt, h.old⟩

set_option maxRecDepth 20000 in
set_option maxHeartbeats 8000000 in
theorem note_r1 {w : World} {r : Nat} {v : Value} {l : List Int} {s : St} (h : Rg w r v l s) (S1 S2 : St) (X1 : Int) (h1 : octP s = (1, S1)) (h2 : numP S1 = (X1, S2)) : Calls Try.prog 26 #[.pointer (some ⟨r, 0, none⟩)] w fun x w' => RdR w r v l S2 (.agg #[.int .i64 1, .int .i64 X1, .int .i64 0, .int .i64 0, .int .i64 0, .int .i64 0, .string ⟨#[]⟩, .bool false, .int .i64 0, .int .i64 0, .int .i64 0, .string ⟨#[]⟩, .int .i64 0, .int .i64 0, .int .i64 0, .int .i64 0, .int .i64 0, .string ⟨#[]⟩, .int .i64 0, .string ⟨#[]⟩, .int .i64 0, .string ⟨#[]⟩]) x w' := by
  have HG : Hid (Rg w r v l s) := h
  obtain ⟨W, hW⟩ : ∃ W, w.alloc (.cells #[.int .i64 0, .int .i64 0, .int .i64 0, .int .i64 0, .int .i64 0, .int .i64 0, .string ⟨#[]⟩, .bool false, .int .i64 0, .int .i64 0, .int .i64 0, .string ⟨#[]⟩, .int .i64 0, .int .i64 0, .int .i64 0, .int .i64 0, .int .i64 0, .string ⟨#[]⟩, .int .i64 0, .string ⟨#[]⟩, .int .i64 0, .string ⟨#[]⟩] 48) = W := ⟨_, rfl⟩
  have hb := boxB hW
  have HW : Hid (w.alloc (.cells #[.int .i64 0, .int .i64 0, .int .i64 0, .int .i64 0, .int .i64 0, .int .i64 0, .string ⟨#[]⟩, .bool false, .int .i64 0, .int .i64 0, .int .i64 0, .string ⟨#[]⟩, .int .i64 0, .int .i64 0, .int .i64 0, .int .i64 0, .int .i64 0, .string ⟨#[]⟩, .int .i64 0, .string ⟨#[]⟩, .int .i64 0, .string ⟨#[]⟩] 48) = W) := hW
  have HC1 : Hid (Calls Try.prog 43 #[.pointer (some ⟨r, 0, none⟩)] W fun x w' => RdR W r v l S1 (.int .i64 1) x w') := by have := octet_r (h.below hb.2); rw [h1] at this; exact this
  have HC2 : Hid (∀ W2, Rg W2 r v l S1 → Calls Try.prog 44 #[.pointer (some ⟨r, 0, none⟩)] W2 fun x w' => RdR W2 r v l S2 (.int .i64 X1) x w') := fun W2 hh => by have := number_r hh; rw [h2] at this; exact this
  clear h hb h1 h2
  go_enter Try.func26, Try.ntmps26
  go_upto_region 1 with fail
  go_upto_region 2 with (go_at_call 43; refine HC1.out.mono ?_; rintro x w1 ⟨rfl, R1⟩; obtain ⟨W2, hW2⟩ : ∃ W2, w1.alloc (.cells #[.int .i64 0, .int .i64 0, .int .i64 0, .int .i64 0, .int .i64 0, .int .i64 0, .string ⟨#[]⟩, .bool false, .int .i64 0, .int .i64 0, .int .i64 0, .string ⟨#[]⟩, .int .i64 0, .int .i64 0, .int .i64 0, .int .i64 0, .int .i64 0, .string ⟨#[]⟩, .int .i64 0, .string ⟨#[]⟩, .int .i64 0, .string ⟨#[]⟩] 48) = W2 := ⟨_, rfl⟩; obtain ⟨W3, hW3⟩ : ∃ W3, W2.setRow w1.heap.size #[.int .i64 1, .int .i64 0, .int .i64 0, .int .i64 0, .int .i64 0, .int .i64 0, .string ⟨#[]⟩, .bool false, .int .i64 0, .int .i64 0, .int .i64 0, .string ⟨#[]⟩, .int .i64 0, .int .i64 0, .int .i64 0, .int .i64 0, .int .i64 0, .string ⟨#[]⟩, .int .i64 0, .string ⟨#[]⟩, .int .i64 0, .string ⟨#[]⟩] = W3 := ⟨_, rfl⟩; have nt := noteT_of (boxB hW2).1 rfl rfl (by simp [Value.oneCell']) hW3)
  have H3 : Hid (Bx 48 #[.int .i64 0, .int .i64 0, .int .i64 0, .int .i64 0, .int .i64 0, .int .i64 0, .string ⟨#[]⟩, .bool false, .int .i64 0, .int .i64 0, .int .i64 0, .string ⟨#[]⟩, .int .i64 0, .int .i64 0, .int .i64 0, .int .i64 0, .int .i64 0, .string ⟨#[]⟩, .int .i64 0, .string ⟨#[]⟩, .int .i64 0, .string ⟨#[]⟩] w W3 r v l S1 w1.heap.size #[.int .i64 1, .int .i64 0, .int .i64 0, .int .i64 0, .int .i64 0, .int .i64 0, .string ⟨#[]⟩, .bool false, .int .i64 0, .int .i64 0, .int .i64 0, .string ⟨#[]⟩, .int .i64 0, .int .i64 0, .int .i64 0, .int .i64 0, .int .i64 0, .string ⟨#[]⟩, .int .i64 0, .string ⟨#[]⟩, .int .i64 0, .string ⟨#[]⟩]) := by rw [← hW3]; exact (Bx.new HG.out HW.out R1.out hW2).row _
  clear hW2 hW3 nt hW HW HC1 R1
  have k0 := cell_of H3.out.box 0
  simp at k0
  go_upto_region 13 with (go_at_call 44; refine (HC2.out _ H3.out.red.1).mono ?_; rintro x y0 ⟨rfl, q0⟩; have Ha0 : Hid (Bx 48 #[.int .i64 0, .int .i64 0, .int .i64 0, .int .i64 0, .int .i64 0, .int .i64 0, .string ⟨#[]⟩, .bool false, .int .i64 0, .int .i64 0, .int .i64 0, .string ⟨#[]⟩, .int .i64 0, .int .i64 0, .int .i64 0, .int .i64 0, .int .i64 0, .string ⟨#[]⟩, .int .i64 0, .string ⟨#[]⟩, .int .i64 0, .string ⟨#[]⟩] w y0 r v l S2 w1.heap.size #[.int .i64 1, .int .i64 0, .int .i64 0, .int .i64 0, .int .i64 0, .int .i64 0, .string ⟨#[]⟩, .bool false, .int .i64 0, .int .i64 0, .int .i64 0, .string ⟨#[]⟩, .int .i64 0, .int .i64 0, .int .i64 0, .int .i64 0, .int .i64 0, .string ⟨#[]⟩, .int .i64 0, .string ⟨#[]⟩, .int .i64 0, .string ⟨#[]⟩]) := H3.out.on q0.out; have g1 := cell_of Ha0.out.box 1; have gf := free_of Ha0.out.box; simp at g1)
  obtain ⟨W5, hW5⟩ : ∃ W, (y0).setCell ⟨w1.heap.size, 1, none⟩ (.int .i64 X1) = W := ⟨_, rfl⟩
  rw [hW5]
  have H5 : Hid (Bx 48 #[.int .i64 0, .int .i64 0, .int .i64 0, .int .i64 0, .int .i64 0, .int .i64 0, .string ⟨#[]⟩, .bool false, .int .i64 0, .int .i64 0, .int .i64 0, .string ⟨#[]⟩, .int .i64 0, .int .i64 0, .int .i64 0, .int .i64 0, .int .i64 0, .string ⟨#[]⟩, .int .i64 0, .string ⟨#[]⟩, .int .i64 0, .string ⟨#[]⟩] w W5 r v l S2 w1.heap.size #[.int .i64 1, .int .i64 X1, .int .i64 0, .int .i64 0, .int .i64 0, .int .i64 0, .string ⟨#[]⟩, .bool false, .int .i64 0, .int .i64 0, .int .i64 0, .string ⟨#[]⟩, .int .i64 0, .int .i64 0, .int .i64 0, .int .i64 0, .int .i64 0, .string ⟨#[]⟩, .int .i64 0, .string ⟨#[]⟩, .int .i64 0, .string ⟨#[]⟩]) := by
    rw [← hW5]
    have b := (Ha0.out).set 1 (.int .i64 X1)
    simp only [List.setIfInBounds_toArray, List.set_cons_zero, List.set_cons_succ] at b
    exact b
  have nl := noteS_of H5.out.box rfl
  obtain ⟨W6, hW6⟩ : ∃ W, W5.setRow w.heap.size #[.int .i64 1, .int .i64 X1, .int .i64 0, .int .i64 0, .int .i64 0, .int .i64 0, .string ⟨#[]⟩, .bool false, .int .i64 0, .int .i64 0, .int .i64 0, .string ⟨#[]⟩, .int .i64 0, .int .i64 0, .int .i64 0, .int .i64 0, .int .i64 0, .string ⟨#[]⟩, .int .i64 0, .string ⟨#[]⟩, .int .i64 0, .string ⟨#[]⟩] = W := ⟨_, rfl⟩
  have nt2 := noteT_of H5.out.res rfl rfl (by simp [Value.oneCell']) hW6
  have HF : Hid (W6.heap[w.heap.size]? = some (.cells #[.int .i64 1, .int .i64 X1, .int .i64 0, .int .i64 0, .int .i64 0, .int .i64 0, .string ⟨#[]⟩, .bool false, .int .i64 0, .int .i64 0, .int .i64 0, .string ⟨#[]⟩, .int .i64 0, .int .i64 0, .int .i64 0, .int .i64 0, .int .i64 0, .string ⟨#[]⟩, .int .i64 0, .string ⟨#[]⟩, .int .i64 0, .string ⟨#[]⟩] 48 (0, 0)) ∧ Red w W6 r v l S2) := by
    rw [← hW6]
    exact ⟨setRow_heap _ _ _ _ _ _ H5.out.res, H5.out.red.box HG.out (setRow_only _ _ _) (Nat.le_refl _)⟩
  clear hW5 hW6 H5 HG
  go_wp2
  refine bodyPost_ret (results_cell_row rfl _ _ w.heap.size _ _ _ _ rfl HF.out.1 Try.underlying48 rfl Try.sizeNote) rfl ?_
  exact ⟨rfl, HF.out.2⟩

set_option maxRecDepth 20000 in
set_option maxHeartbeats 8000000 in
theorem note_r2 {w : World} {r : Nat} {v : Value} {l : List Int} {s : St} (h : Rg w r v l s) (S1 S2 S3 S4 : St) (X1 X2 X3 : Int) (h1 : octP s = (2, S1)) (h2 : numP S1 = (X1, S2)) (h3 : numP S2 = (X2, S3)) (h4 : numP S3 = (X3, S4)) : Calls Try.prog 26 #[.pointer (some ⟨r, 0, none⟩)] w fun x w' => RdR w r v l S4 (.agg #[.int .i64 2, .int .i64 X1, .int .i64 X2, .int .i64 X3, .int .i64 0, .int .i64 0, .string ⟨#[]⟩, .bool false, .int .i64 0, .int .i64 0, .int .i64 0, .string ⟨#[]⟩, .int .i64 0, .int .i64 0, .int .i64 0, .int .i64 0, .int .i64 0, .string ⟨#[]⟩, .int .i64 0, .string ⟨#[]⟩, .int .i64 0, .string ⟨#[]⟩]) x w' := by
  have HG : Hid (Rg w r v l s) := h
  obtain ⟨W, hW⟩ : ∃ W, w.alloc (.cells #[.int .i64 0, .int .i64 0, .int .i64 0, .int .i64 0, .int .i64 0, .int .i64 0, .string ⟨#[]⟩, .bool false, .int .i64 0, .int .i64 0, .int .i64 0, .string ⟨#[]⟩, .int .i64 0, .int .i64 0, .int .i64 0, .int .i64 0, .int .i64 0, .string ⟨#[]⟩, .int .i64 0, .string ⟨#[]⟩, .int .i64 0, .string ⟨#[]⟩] 48) = W := ⟨_, rfl⟩
  have hb := boxB hW
  have HW : Hid (w.alloc (.cells #[.int .i64 0, .int .i64 0, .int .i64 0, .int .i64 0, .int .i64 0, .int .i64 0, .string ⟨#[]⟩, .bool false, .int .i64 0, .int .i64 0, .int .i64 0, .string ⟨#[]⟩, .int .i64 0, .int .i64 0, .int .i64 0, .int .i64 0, .int .i64 0, .string ⟨#[]⟩, .int .i64 0, .string ⟨#[]⟩, .int .i64 0, .string ⟨#[]⟩] 48) = W) := hW
  have HC1 : Hid (Calls Try.prog 43 #[.pointer (some ⟨r, 0, none⟩)] W fun x w' => RdR W r v l S1 (.int .i64 2) x w') := by have := octet_r (h.below hb.2); rw [h1] at this; exact this
  have HC2 : Hid (∀ W2, Rg W2 r v l S1 → Calls Try.prog 44 #[.pointer (some ⟨r, 0, none⟩)] W2 fun x w' => RdR W2 r v l S2 (.int .i64 X1) x w') := fun W2 hh => by have := number_r hh; rw [h2] at this; exact this
  have HC3 : Hid (∀ W2, Rg W2 r v l S2 → Calls Try.prog 44 #[.pointer (some ⟨r, 0, none⟩)] W2 fun x w' => RdR W2 r v l S3 (.int .i64 X2) x w') := fun W2 hh => by have := number_r hh; rw [h3] at this; exact this
  have HC4 : Hid (∀ W2, Rg W2 r v l S3 → Calls Try.prog 44 #[.pointer (some ⟨r, 0, none⟩)] W2 fun x w' => RdR W2 r v l S4 (.int .i64 X3) x w') := fun W2 hh => by have := number_r hh; rw [h4] at this; exact this
  clear h hb h1 h2 h3 h4
  go_enter Try.func26, Try.ntmps26
  go_upto_region 1 with fail
  go_upto_region 2 with (go_at_call 43; refine HC1.out.mono ?_; rintro x w1 ⟨rfl, R1⟩; obtain ⟨W2, hW2⟩ : ∃ W2, w1.alloc (.cells #[.int .i64 0, .int .i64 0, .int .i64 0, .int .i64 0, .int .i64 0, .int .i64 0, .string ⟨#[]⟩, .bool false, .int .i64 0, .int .i64 0, .int .i64 0, .string ⟨#[]⟩, .int .i64 0, .int .i64 0, .int .i64 0, .int .i64 0, .int .i64 0, .string ⟨#[]⟩, .int .i64 0, .string ⟨#[]⟩, .int .i64 0, .string ⟨#[]⟩] 48) = W2 := ⟨_, rfl⟩; obtain ⟨W3, hW3⟩ : ∃ W3, W2.setRow w1.heap.size #[.int .i64 2, .int .i64 0, .int .i64 0, .int .i64 0, .int .i64 0, .int .i64 0, .string ⟨#[]⟩, .bool false, .int .i64 0, .int .i64 0, .int .i64 0, .string ⟨#[]⟩, .int .i64 0, .int .i64 0, .int .i64 0, .int .i64 0, .int .i64 0, .string ⟨#[]⟩, .int .i64 0, .string ⟨#[]⟩, .int .i64 0, .string ⟨#[]⟩] = W3 := ⟨_, rfl⟩; have nt := noteT_of (boxB hW2).1 rfl rfl (by simp [Value.oneCell']) hW3)
  have H3 : Hid (Bx 48 #[.int .i64 0, .int .i64 0, .int .i64 0, .int .i64 0, .int .i64 0, .int .i64 0, .string ⟨#[]⟩, .bool false, .int .i64 0, .int .i64 0, .int .i64 0, .string ⟨#[]⟩, .int .i64 0, .int .i64 0, .int .i64 0, .int .i64 0, .int .i64 0, .string ⟨#[]⟩, .int .i64 0, .string ⟨#[]⟩, .int .i64 0, .string ⟨#[]⟩] w W3 r v l S1 w1.heap.size #[.int .i64 2, .int .i64 0, .int .i64 0, .int .i64 0, .int .i64 0, .int .i64 0, .string ⟨#[]⟩, .bool false, .int .i64 0, .int .i64 0, .int .i64 0, .string ⟨#[]⟩, .int .i64 0, .int .i64 0, .int .i64 0, .int .i64 0, .int .i64 0, .string ⟨#[]⟩, .int .i64 0, .string ⟨#[]⟩, .int .i64 0, .string ⟨#[]⟩]) := by rw [← hW3]; exact (Bx.new HG.out HW.out R1.out hW2).row _
  clear hW2 hW3 nt hW HW HC1 R1
  have k0 := cell_of H3.out.box 0
  simp at k0
  go_upto_region 13 with (first
    | (go_at_call 44; refine (HC4.out _ Ha1.out.red.1).mono ?_; rintro x y2 ⟨rfl, q2⟩; have Ha2 : Hid (Bx 48 #[.int .i64 0, .int .i64 0, .int .i64 0, .int .i64 0, .int .i64 0, .int .i64 0, .string ⟨#[]⟩, .bool false, .int .i64 0, .int .i64 0, .int .i64 0, .string ⟨#[]⟩, .int .i64 0, .int .i64 0, .int .i64 0, .int .i64 0, .int .i64 0, .string ⟨#[]⟩, .int .i64 0, .string ⟨#[]⟩, .int .i64 0, .string ⟨#[]⟩] w y2 r v l S4 w1.heap.size #[.int .i64 2, .int .i64 0, .int .i64 0, .int .i64 0, .int .i64 0, .int .i64 0, .string ⟨#[]⟩, .bool false, .int .i64 0, .int .i64 0, .int .i64 0, .string ⟨#[]⟩, .int .i64 0, .int .i64 0, .int .i64 0, .int .i64 0, .int .i64 0, .string ⟨#[]⟩, .int .i64 0, .string ⟨#[]⟩, .int .i64 0, .string ⟨#[]⟩]) := Ha1.out.on q2.out; have g1 := cell_of Ha2.out.box 1; have g2 := cell_of Ha2.out.box 2; have g3 := cell_of Ha2.out.box 3; have gf := free_of Ha2.out.box; simp at g1 g2 g3)
    | (go_at_call 44; refine (HC3.out _ Ha0.out.red.1).mono ?_; rintro x y1 ⟨rfl, q1⟩; have Ha1 : Hid (Bx 48 #[.int .i64 0, .int .i64 0, .int .i64 0, .int .i64 0, .int .i64 0, .int .i64 0, .string ⟨#[]⟩, .bool false, .int .i64 0, .int .i64 0, .int .i64 0, .string ⟨#[]⟩, .int .i64 0, .int .i64 0, .int .i64 0, .int .i64 0, .int .i64 0, .string ⟨#[]⟩, .int .i64 0, .string ⟨#[]⟩, .int .i64 0, .string ⟨#[]⟩] w y1 r v l S3 w1.heap.size #[.int .i64 2, .int .i64 0, .int .i64 0, .int .i64 0, .int .i64 0, .int .i64 0, .string ⟨#[]⟩, .bool false, .int .i64 0, .int .i64 0, .int .i64 0, .string ⟨#[]⟩, .int .i64 0, .int .i64 0, .int .i64 0, .int .i64 0, .int .i64 0, .string ⟨#[]⟩, .int .i64 0, .string ⟨#[]⟩, .int .i64 0, .string ⟨#[]⟩]) := Ha0.out.on q1.out)
    | (go_at_call 44; refine (HC2.out _ H3.out.red.1).mono ?_; rintro x y0 ⟨rfl, q0⟩; have Ha0 : Hid (Bx 48 #[.int .i64 0, .int .i64 0, .int .i64 0, .int .i64 0, .int .i64 0, .int .i64 0, .string ⟨#[]⟩, .bool false, .int .i64 0, .int .i64 0, .int .i64 0, .string ⟨#[]⟩, .int .i64 0, .int .i64 0, .int .i64 0, .int .i64 0, .int .i64 0, .string ⟨#[]⟩, .int .i64 0, .string ⟨#[]⟩, .int .i64 0, .string ⟨#[]⟩] w y0 r v l S2 w1.heap.size #[.int .i64 2, .int .i64 0, .int .i64 0, .int .i64 0, .int .i64 0, .int .i64 0, .string ⟨#[]⟩, .bool false, .int .i64 0, .int .i64 0, .int .i64 0, .string ⟨#[]⟩, .int .i64 0, .int .i64 0, .int .i64 0, .int .i64 0, .int .i64 0, .string ⟨#[]⟩, .int .i64 0, .string ⟨#[]⟩, .int .i64 0, .string ⟨#[]⟩]) := H3.out.on q0.out))
  obtain ⟨W5, hW5⟩ : ∃ W, (((y2).setCell ⟨w1.heap.size, 1, none⟩ (.int .i64 X1)).setCell ⟨w1.heap.size, 2, none⟩ (.int .i64 X2)).setCell ⟨w1.heap.size, 3, none⟩ (.int .i64 X3) = W := ⟨_, rfl⟩
  rw [hW5]
  have H5 : Hid (Bx 48 #[.int .i64 0, .int .i64 0, .int .i64 0, .int .i64 0, .int .i64 0, .int .i64 0, .string ⟨#[]⟩, .bool false, .int .i64 0, .int .i64 0, .int .i64 0, .string ⟨#[]⟩, .int .i64 0, .int .i64 0, .int .i64 0, .int .i64 0, .int .i64 0, .string ⟨#[]⟩, .int .i64 0, .string ⟨#[]⟩, .int .i64 0, .string ⟨#[]⟩] w W5 r v l S4 w1.heap.size #[.int .i64 2, .int .i64 X1, .int .i64 X2, .int .i64 X3, .int .i64 0, .int .i64 0, .string ⟨#[]⟩, .bool false, .int .i64 0, .int .i64 0, .int .i64 0, .string ⟨#[]⟩, .int .i64 0, .int .i64 0, .int .i64 0, .int .i64 0, .int .i64 0, .string ⟨#[]⟩, .int .i64 0, .string ⟨#[]⟩, .int .i64 0, .string ⟨#[]⟩]) := by
    rw [← hW5]
    have b := (((Ha2.out).set 1 (.int .i64 X1)).set 2 (.int .i64 X2)).set 3 (.int .i64 X3)
    simp only [List.setIfInBounds_toArray, List.set_cons_zero, List.set_cons_succ] at b
    exact b
  have nl := noteS_of H5.out.box rfl
  obtain ⟨W6, hW6⟩ : ∃ W, W5.setRow w.heap.size #[.int .i64 2, .int .i64 X1, .int .i64 X2, .int .i64 X3, .int .i64 0, .int .i64 0, .string ⟨#[]⟩, .bool false, .int .i64 0, .int .i64 0, .int .i64 0, .string ⟨#[]⟩, .int .i64 0, .int .i64 0, .int .i64 0, .int .i64 0, .int .i64 0, .string ⟨#[]⟩, .int .i64 0, .string ⟨#[]⟩, .int .i64 0, .string ⟨#[]⟩] = W := ⟨_, rfl⟩
  have nt2 := noteT_of H5.out.res rfl rfl (by simp [Value.oneCell']) hW6
  have HF : Hid (W6.heap[w.heap.size]? = some (.cells #[.int .i64 2, .int .i64 X1, .int .i64 X2, .int .i64 X3, .int .i64 0, .int .i64 0, .string ⟨#[]⟩, .bool false, .int .i64 0, .int .i64 0, .int .i64 0, .string ⟨#[]⟩, .int .i64 0, .int .i64 0, .int .i64 0, .int .i64 0, .int .i64 0, .string ⟨#[]⟩, .int .i64 0, .string ⟨#[]⟩, .int .i64 0, .string ⟨#[]⟩] 48 (0, 0)) ∧ Red w W6 r v l S4) := by
    rw [← hW6]
    exact ⟨setRow_heap _ _ _ _ _ _ H5.out.res, H5.out.red.box HG.out (setRow_only _ _ _) (Nat.le_refl _)⟩
  clear hW5 hW6 H5 HG
  go_wp2
  refine bodyPost_ret (results_cell_row rfl _ _ w.heap.size _ _ _ _ rfl HF.out.1 Try.underlying48 rfl Try.sizeNote) rfl ?_
  exact ⟨rfl, HF.out.2⟩

set_option maxRecDepth 20000 in
set_option maxHeartbeats 8000000 in
theorem note_r3 {w : World} {r : Nat} {v : Value} {l : List Int} {s : St} (h : Rg w r v l s) (S1 S2 : St) (e : En) (h1 : octP s = (3, S1)) (h2 : entP S1 = (e, S2)) : Calls Try.prog 26 #[.pointer (some ⟨r, 0, none⟩)] w fun x w' => RdR w r v l S2 (.agg #[.int .i64 3, .int .i64 0, .int .i64 0, .int .i64 0, .int .i64 0, .int .i64 e.d, .string e.nm, .bool e.neg, .int .i64 e.id, .int .i64 e.kind, .int .i64 e.mode, .string e.tg, .int .i64 0, .int .i64 0, .int .i64 0, .int .i64 0, .int .i64 0, .string ⟨#[]⟩, .int .i64 0, .string ⟨#[]⟩, .int .i64 0, .string ⟨#[]⟩]) x w' := by
  have HG : Hid (Rg w r v l s) := h
  obtain ⟨W, hW⟩ : ∃ W, w.alloc (.cells #[.int .i64 0, .int .i64 0, .int .i64 0, .int .i64 0, .int .i64 0, .int .i64 0, .string ⟨#[]⟩, .bool false, .int .i64 0, .int .i64 0, .int .i64 0, .string ⟨#[]⟩, .int .i64 0, .int .i64 0, .int .i64 0, .int .i64 0, .int .i64 0, .string ⟨#[]⟩, .int .i64 0, .string ⟨#[]⟩, .int .i64 0, .string ⟨#[]⟩] 48) = W := ⟨_, rfl⟩
  have hb := boxB hW
  have HW : Hid (w.alloc (.cells #[.int .i64 0, .int .i64 0, .int .i64 0, .int .i64 0, .int .i64 0, .int .i64 0, .string ⟨#[]⟩, .bool false, .int .i64 0, .int .i64 0, .int .i64 0, .string ⟨#[]⟩, .int .i64 0, .int .i64 0, .int .i64 0, .int .i64 0, .int .i64 0, .string ⟨#[]⟩, .int .i64 0, .string ⟨#[]⟩, .int .i64 0, .string ⟨#[]⟩] 48) = W) := hW
  have HC1 : Hid (Calls Try.prog 43 #[.pointer (some ⟨r, 0, none⟩)] W fun x w' => RdR W r v l S1 (.int .i64 3) x w') := by have := octet_r (h.below hb.2); rw [h1] at this; exact this
  have HC2 : Hid (∀ W2, Rg W2 r v l S1 → Calls Try.prog 48 #[.pointer (some ⟨r, 0, none⟩)] W2 fun x w' => RdR W2 r v l S2 (.agg #[.int .i64 e.d, .string e.nm, .bool e.neg, .int .i64 e.id, .int .i64 e.kind, .int .i64 e.mode, .string e.tg]) x w') := fun W2 hh => by have := entry_r hh; rw [h2] at this; exact this
  clear h hb h1 h2
  go_enter Try.func26, Try.ntmps26
  go_upto_region 1 with fail
  go_upto_region 2 with (go_at_call 43; refine HC1.out.mono ?_; rintro x w1 ⟨rfl, R1⟩; obtain ⟨W2, hW2⟩ : ∃ W2, w1.alloc (.cells #[.int .i64 0, .int .i64 0, .int .i64 0, .int .i64 0, .int .i64 0, .int .i64 0, .string ⟨#[]⟩, .bool false, .int .i64 0, .int .i64 0, .int .i64 0, .string ⟨#[]⟩, .int .i64 0, .int .i64 0, .int .i64 0, .int .i64 0, .int .i64 0, .string ⟨#[]⟩, .int .i64 0, .string ⟨#[]⟩, .int .i64 0, .string ⟨#[]⟩] 48) = W2 := ⟨_, rfl⟩; obtain ⟨W3, hW3⟩ : ∃ W3, W2.setRow w1.heap.size #[.int .i64 3, .int .i64 0, .int .i64 0, .int .i64 0, .int .i64 0, .int .i64 0, .string ⟨#[]⟩, .bool false, .int .i64 0, .int .i64 0, .int .i64 0, .string ⟨#[]⟩, .int .i64 0, .int .i64 0, .int .i64 0, .int .i64 0, .int .i64 0, .string ⟨#[]⟩, .int .i64 0, .string ⟨#[]⟩, .int .i64 0, .string ⟨#[]⟩] = W3 := ⟨_, rfl⟩; have nt := noteT_of (boxB hW2).1 rfl rfl (by simp [Value.oneCell']) hW3)
  have H3 : Hid (Bx 48 #[.int .i64 0, .int .i64 0, .int .i64 0, .int .i64 0, .int .i64 0, .int .i64 0, .string ⟨#[]⟩, .bool false, .int .i64 0, .int .i64 0, .int .i64 0, .string ⟨#[]⟩, .int .i64 0, .int .i64 0, .int .i64 0, .int .i64 0, .int .i64 0, .string ⟨#[]⟩, .int .i64 0, .string ⟨#[]⟩, .int .i64 0, .string ⟨#[]⟩] w W3 r v l S1 w1.heap.size #[.int .i64 3, .int .i64 0, .int .i64 0, .int .i64 0, .int .i64 0, .int .i64 0, .string ⟨#[]⟩, .bool false, .int .i64 0, .int .i64 0, .int .i64 0, .string ⟨#[]⟩, .int .i64 0, .int .i64 0, .int .i64 0, .int .i64 0, .int .i64 0, .string ⟨#[]⟩, .int .i64 0, .string ⟨#[]⟩, .int .i64 0, .string ⟨#[]⟩]) := by rw [← hW3]; exact (Bx.new HG.out HW.out R1.out hW2).row _
  clear hW2 hW3 nt hW HW HC1 R1
  have k0 := cell_of H3.out.box 0
  simp at k0
  go_upto_region 13 with (go_at_call 48; refine (HC2.out _ H3.out.red.1).mono ?_; rintro x y0 ⟨rfl, q0⟩; have Ha0 : Hid (Bx 48 #[.int .i64 0, .int .i64 0, .int .i64 0, .int .i64 0, .int .i64 0, .int .i64 0, .string ⟨#[]⟩, .bool false, .int .i64 0, .int .i64 0, .int .i64 0, .string ⟨#[]⟩, .int .i64 0, .int .i64 0, .int .i64 0, .int .i64 0, .int .i64 0, .string ⟨#[]⟩, .int .i64 0, .string ⟨#[]⟩, .int .i64 0, .string ⟨#[]⟩] w y0 r v l S2 w1.heap.size #[.int .i64 3, .int .i64 0, .int .i64 0, .int .i64 0, .int .i64 0, .int .i64 0, .string ⟨#[]⟩, .bool false, .int .i64 0, .int .i64 0, .int .i64 0, .string ⟨#[]⟩, .int .i64 0, .int .i64 0, .int .i64 0, .int .i64 0, .int .i64 0, .string ⟨#[]⟩, .int .i64 0, .string ⟨#[]⟩, .int .i64 0, .string ⟨#[]⟩]) := H3.out.on q0.out; have g5 := cell_of Ha0.out.box 5; have g6 := cell_of Ha0.out.box 6; have g7 := cell_of Ha0.out.box 7; have g8 := cell_of Ha0.out.box 8; have g9 := cell_of Ha0.out.box 9; have g10 := cell_of Ha0.out.box 10; have g11 := cell_of Ha0.out.box 11; have gf := free_of Ha0.out.box; simp at g5 g6 g7 g8 g9 g10 g11)
  obtain ⟨W5, hW5⟩ : ∃ W, (((((((y0).setCell ⟨w1.heap.size, 5, none⟩ (.int .i64 e.d)).setCell ⟨w1.heap.size, 6, none⟩ (.string e.nm)).setCell ⟨w1.heap.size, 7, none⟩ (.bool e.neg)).setCell ⟨w1.heap.size, 8, none⟩ (.int .i64 e.id)).setCell ⟨w1.heap.size, 9, none⟩ (.int .i64 e.kind)).setCell ⟨w1.heap.size, 10, none⟩ (.int .i64 e.mode)).setCell ⟨w1.heap.size, 11, none⟩ (.string e.tg) = W := ⟨_, rfl⟩
  rw [hW5]
  have H5 : Hid (Bx 48 #[.int .i64 0, .int .i64 0, .int .i64 0, .int .i64 0, .int .i64 0, .int .i64 0, .string ⟨#[]⟩, .bool false, .int .i64 0, .int .i64 0, .int .i64 0, .string ⟨#[]⟩, .int .i64 0, .int .i64 0, .int .i64 0, .int .i64 0, .int .i64 0, .string ⟨#[]⟩, .int .i64 0, .string ⟨#[]⟩, .int .i64 0, .string ⟨#[]⟩] w W5 r v l S2 w1.heap.size #[.int .i64 3, .int .i64 0, .int .i64 0, .int .i64 0, .int .i64 0, .int .i64 e.d, .string e.nm, .bool e.neg, .int .i64 e.id, .int .i64 e.kind, .int .i64 e.mode, .string e.tg, .int .i64 0, .int .i64 0, .int .i64 0, .int .i64 0, .int .i64 0, .string ⟨#[]⟩, .int .i64 0, .string ⟨#[]⟩, .int .i64 0, .string ⟨#[]⟩]) := by
    rw [← hW5]
    have b := (((((((Ha0.out).set 5 (.int .i64 e.d)).set 6 (.string e.nm)).set 7 (.bool e.neg)).set 8 (.int .i64 e.id)).set 9 (.int .i64 e.kind)).set 10 (.int .i64 e.mode)).set 11 (.string e.tg)
    simp only [List.setIfInBounds_toArray, List.set_cons_zero, List.set_cons_succ] at b
    exact b
  have nl := noteS_of H5.out.box rfl
  obtain ⟨W6, hW6⟩ : ∃ W, W5.setRow w.heap.size #[.int .i64 3, .int .i64 0, .int .i64 0, .int .i64 0, .int .i64 0, .int .i64 e.d, .string e.nm, .bool e.neg, .int .i64 e.id, .int .i64 e.kind, .int .i64 e.mode, .string e.tg, .int .i64 0, .int .i64 0, .int .i64 0, .int .i64 0, .int .i64 0, .string ⟨#[]⟩, .int .i64 0, .string ⟨#[]⟩, .int .i64 0, .string ⟨#[]⟩] = W := ⟨_, rfl⟩
  have nt2 := noteT_of H5.out.res rfl rfl (by simp [Value.oneCell']) hW6
  have HF : Hid (W6.heap[w.heap.size]? = some (.cells #[.int .i64 3, .int .i64 0, .int .i64 0, .int .i64 0, .int .i64 0, .int .i64 e.d, .string e.nm, .bool e.neg, .int .i64 e.id, .int .i64 e.kind, .int .i64 e.mode, .string e.tg, .int .i64 0, .int .i64 0, .int .i64 0, .int .i64 0, .int .i64 0, .string ⟨#[]⟩, .int .i64 0, .string ⟨#[]⟩, .int .i64 0, .string ⟨#[]⟩] 48 (0, 0)) ∧ Red w W6 r v l S2) := by
    rw [← hW6]
    exact ⟨setRow_heap _ _ _ _ _ _ H5.out.res, H5.out.red.box HG.out (setRow_only _ _ _) (Nat.le_refl _)⟩
  clear hW5 hW6 H5 HG
  go_wp2
  refine bodyPost_ret (results_cell_row rfl _ _ w.heap.size _ _ _ _ rfl HF.out.1 Try.underlying48 rfl Try.sizeNote) rfl ?_
  exact ⟨rfl, HF.out.2⟩

set_option maxRecDepth 20000 in
set_option maxHeartbeats 8000000 in
theorem note_r4 {w : World} {r : Nat} {v : Value} {l : List Int} {s : St} (h : Rg w r v l s) (S1 S2 S3 : St) (X1 a b c : Int) (h1 : octP s = (4, S1)) (h2 : numP S1 = (X1, S2)) (h3 : seen3P S2 = ((a, b, c), S3)) : Calls Try.prog 26 #[.pointer (some ⟨r, 0, none⟩)] w fun x w' => RdR w r v l S3 (.agg #[.int .i64 4, .int .i64 0, .int .i64 0, .int .i64 0, .int .i64 X1, .int .i64 0, .string ⟨#[]⟩, .bool false, .int .i64 0, .int .i64 0, .int .i64 0, .string ⟨#[]⟩, .int .i64 a, .int .i64 b, .int .i64 c, .int .i64 0, .int .i64 0, .string ⟨#[]⟩, .int .i64 0, .string ⟨#[]⟩, .int .i64 0, .string ⟨#[]⟩]) x w' := by
  have HG : Hid (Rg w r v l s) := h
  obtain ⟨W, hW⟩ : ∃ W, w.alloc (.cells #[.int .i64 0, .int .i64 0, .int .i64 0, .int .i64 0, .int .i64 0, .int .i64 0, .string ⟨#[]⟩, .bool false, .int .i64 0, .int .i64 0, .int .i64 0, .string ⟨#[]⟩, .int .i64 0, .int .i64 0, .int .i64 0, .int .i64 0, .int .i64 0, .string ⟨#[]⟩, .int .i64 0, .string ⟨#[]⟩, .int .i64 0, .string ⟨#[]⟩] 48) = W := ⟨_, rfl⟩
  have hb := boxB hW
  have HW : Hid (w.alloc (.cells #[.int .i64 0, .int .i64 0, .int .i64 0, .int .i64 0, .int .i64 0, .int .i64 0, .string ⟨#[]⟩, .bool false, .int .i64 0, .int .i64 0, .int .i64 0, .string ⟨#[]⟩, .int .i64 0, .int .i64 0, .int .i64 0, .int .i64 0, .int .i64 0, .string ⟨#[]⟩, .int .i64 0, .string ⟨#[]⟩, .int .i64 0, .string ⟨#[]⟩] 48) = W) := hW
  have HC1 : Hid (Calls Try.prog 43 #[.pointer (some ⟨r, 0, none⟩)] W fun x w' => RdR W r v l S1 (.int .i64 4) x w') := by have := octet_r (h.below hb.2); rw [h1] at this; exact this
  have HC2 : Hid (∀ W2, Rg W2 r v l S1 → Calls Try.prog 44 #[.pointer (some ⟨r, 0, none⟩)] W2 fun x w' => RdR W2 r v l S2 (.int .i64 X1) x w') := fun W2 hh => by have := number_r hh; rw [h2] at this; exact this
  have HC3 : Hid (∀ W2, Rg W2 r v l S2 → Calls Try.prog 59 #[.pointer (some ⟨r, 0, none⟩)] W2 fun x w' => RdR W2 r v l S3 (.agg #[.int .i64 a, .int .i64 b, .int .i64 c]) x w') := fun W2 hh => by have := seen_r hh; rw [h3] at this; exact this
  clear h hb h1 h2 h3
  go_enter Try.func26, Try.ntmps26
  go_upto_region 1 with fail
  go_upto_region 2 with (go_at_call 43; refine HC1.out.mono ?_; rintro x w1 ⟨rfl, R1⟩; obtain ⟨W2, hW2⟩ : ∃ W2, w1.alloc (.cells #[.int .i64 0, .int .i64 0, .int .i64 0, .int .i64 0, .int .i64 0, .int .i64 0, .string ⟨#[]⟩, .bool false, .int .i64 0, .int .i64 0, .int .i64 0, .string ⟨#[]⟩, .int .i64 0, .int .i64 0, .int .i64 0, .int .i64 0, .int .i64 0, .string ⟨#[]⟩, .int .i64 0, .string ⟨#[]⟩, .int .i64 0, .string ⟨#[]⟩] 48) = W2 := ⟨_, rfl⟩; obtain ⟨W3, hW3⟩ : ∃ W3, W2.setRow w1.heap.size #[.int .i64 4, .int .i64 0, .int .i64 0, .int .i64 0, .int .i64 0, .int .i64 0, .string ⟨#[]⟩, .bool false, .int .i64 0, .int .i64 0, .int .i64 0, .string ⟨#[]⟩, .int .i64 0, .int .i64 0, .int .i64 0, .int .i64 0, .int .i64 0, .string ⟨#[]⟩, .int .i64 0, .string ⟨#[]⟩, .int .i64 0, .string ⟨#[]⟩] = W3 := ⟨_, rfl⟩; have nt := noteT_of (boxB hW2).1 rfl rfl (by simp [Value.oneCell']) hW3)
  have H3 : Hid (Bx 48 #[.int .i64 0, .int .i64 0, .int .i64 0, .int .i64 0, .int .i64 0, .int .i64 0, .string ⟨#[]⟩, .bool false, .int .i64 0, .int .i64 0, .int .i64 0, .string ⟨#[]⟩, .int .i64 0, .int .i64 0, .int .i64 0, .int .i64 0, .int .i64 0, .string ⟨#[]⟩, .int .i64 0, .string ⟨#[]⟩, .int .i64 0, .string ⟨#[]⟩] w W3 r v l S1 w1.heap.size #[.int .i64 4, .int .i64 0, .int .i64 0, .int .i64 0, .int .i64 0, .int .i64 0, .string ⟨#[]⟩, .bool false, .int .i64 0, .int .i64 0, .int .i64 0, .string ⟨#[]⟩, .int .i64 0, .int .i64 0, .int .i64 0, .int .i64 0, .int .i64 0, .string ⟨#[]⟩, .int .i64 0, .string ⟨#[]⟩, .int .i64 0, .string ⟨#[]⟩]) := by rw [← hW3]; exact (Bx.new HG.out HW.out R1.out hW2).row _
  clear hW2 hW3 nt hW HW HC1 R1
  have k0 := cell_of H3.out.box 0
  simp at k0
  go_upto_region 13 with (first
    | (go_at_call 59; refine (HC3.out _ Ha0.out.red.1).mono ?_; rintro x y1 ⟨rfl, q1⟩; have Ha1 : Hid (Bx 48 #[.int .i64 0, .int .i64 0, .int .i64 0, .int .i64 0, .int .i64 0, .int .i64 0, .string ⟨#[]⟩, .bool false, .int .i64 0, .int .i64 0, .int .i64 0, .string ⟨#[]⟩, .int .i64 0, .int .i64 0, .int .i64 0, .int .i64 0, .int .i64 0, .string ⟨#[]⟩, .int .i64 0, .string ⟨#[]⟩, .int .i64 0, .string ⟨#[]⟩] w y1 r v l S3 w1.heap.size #[.int .i64 4, .int .i64 0, .int .i64 0, .int .i64 0, .int .i64 0, .int .i64 0, .string ⟨#[]⟩, .bool false, .int .i64 0, .int .i64 0, .int .i64 0, .string ⟨#[]⟩, .int .i64 0, .int .i64 0, .int .i64 0, .int .i64 0, .int .i64 0, .string ⟨#[]⟩, .int .i64 0, .string ⟨#[]⟩, .int .i64 0, .string ⟨#[]⟩]) := Ha0.out.on q1.out; have g4 := cell_of Ha1.out.box 4; have g12 := cell_of Ha1.out.box 12; have g13 := cell_of Ha1.out.box 13; have g14 := cell_of Ha1.out.box 14; have gf := free_of Ha1.out.box; simp at g4 g12 g13 g14)
    | (go_at_call 44; refine (HC2.out _ H3.out.red.1).mono ?_; rintro x y0 ⟨rfl, q0⟩; have Ha0 : Hid (Bx 48 #[.int .i64 0, .int .i64 0, .int .i64 0, .int .i64 0, .int .i64 0, .int .i64 0, .string ⟨#[]⟩, .bool false, .int .i64 0, .int .i64 0, .int .i64 0, .string ⟨#[]⟩, .int .i64 0, .int .i64 0, .int .i64 0, .int .i64 0, .int .i64 0, .string ⟨#[]⟩, .int .i64 0, .string ⟨#[]⟩, .int .i64 0, .string ⟨#[]⟩] w y0 r v l S2 w1.heap.size #[.int .i64 4, .int .i64 0, .int .i64 0, .int .i64 0, .int .i64 0, .int .i64 0, .string ⟨#[]⟩, .bool false, .int .i64 0, .int .i64 0, .int .i64 0, .string ⟨#[]⟩, .int .i64 0, .int .i64 0, .int .i64 0, .int .i64 0, .int .i64 0, .string ⟨#[]⟩, .int .i64 0, .string ⟨#[]⟩, .int .i64 0, .string ⟨#[]⟩]) := H3.out.on q0.out))
  obtain ⟨W5, hW5⟩ : ∃ W, ((((y1).setCell ⟨w1.heap.size, 4, none⟩ (.int .i64 X1)).setCell ⟨w1.heap.size, 12, none⟩ (.int .i64 a)).setCell ⟨w1.heap.size, 13, none⟩ (.int .i64 b)).setCell ⟨w1.heap.size, 14, none⟩ (.int .i64 c) = W := ⟨_, rfl⟩
  rw [hW5]
  have H5 : Hid (Bx 48 #[.int .i64 0, .int .i64 0, .int .i64 0, .int .i64 0, .int .i64 0, .int .i64 0, .string ⟨#[]⟩, .bool false, .int .i64 0, .int .i64 0, .int .i64 0, .string ⟨#[]⟩, .int .i64 0, .int .i64 0, .int .i64 0, .int .i64 0, .int .i64 0, .string ⟨#[]⟩, .int .i64 0, .string ⟨#[]⟩, .int .i64 0, .string ⟨#[]⟩] w W5 r v l S3 w1.heap.size #[.int .i64 4, .int .i64 0, .int .i64 0, .int .i64 0, .int .i64 X1, .int .i64 0, .string ⟨#[]⟩, .bool false, .int .i64 0, .int .i64 0, .int .i64 0, .string ⟨#[]⟩, .int .i64 a, .int .i64 b, .int .i64 c, .int .i64 0, .int .i64 0, .string ⟨#[]⟩, .int .i64 0, .string ⟨#[]⟩, .int .i64 0, .string ⟨#[]⟩]) := by
    rw [← hW5]
    have b := ((((Ha1.out).set 4 (.int .i64 X1)).set 12 (.int .i64 a)).set 13 (.int .i64 b)).set 14 (.int .i64 c)
    simp only [List.setIfInBounds_toArray, List.set_cons_zero, List.set_cons_succ] at b
    exact b
  have nl := noteS_of H5.out.box rfl
  obtain ⟨W6, hW6⟩ : ∃ W, W5.setRow w.heap.size #[.int .i64 4, .int .i64 0, .int .i64 0, .int .i64 0, .int .i64 X1, .int .i64 0, .string ⟨#[]⟩, .bool false, .int .i64 0, .int .i64 0, .int .i64 0, .string ⟨#[]⟩, .int .i64 a, .int .i64 b, .int .i64 c, .int .i64 0, .int .i64 0, .string ⟨#[]⟩, .int .i64 0, .string ⟨#[]⟩, .int .i64 0, .string ⟨#[]⟩] = W := ⟨_, rfl⟩
  have nt2 := noteT_of H5.out.res rfl rfl (by simp [Value.oneCell']) hW6
  have HF : Hid (W6.heap[w.heap.size]? = some (.cells #[.int .i64 4, .int .i64 0, .int .i64 0, .int .i64 0, .int .i64 X1, .int .i64 0, .string ⟨#[]⟩, .bool false, .int .i64 0, .int .i64 0, .int .i64 0, .string ⟨#[]⟩, .int .i64 a, .int .i64 b, .int .i64 c, .int .i64 0, .int .i64 0, .string ⟨#[]⟩, .int .i64 0, .string ⟨#[]⟩, .int .i64 0, .string ⟨#[]⟩] 48 (0, 0)) ∧ Red w W6 r v l S3) := by
    rw [← hW6]
    exact ⟨setRow_heap _ _ _ _ _ _ H5.out.res, H5.out.red.box HG.out (setRow_only _ _ _) (Nat.le_refl _)⟩
  clear hW5 hW6 H5 HG
  go_wp2
  refine bodyPost_ret (results_cell_row rfl _ _ w.heap.size _ _ _ _ rfl HF.out.1 Try.underlying48 rfl Try.sizeNote) rfl ?_
  exact ⟨rfl, HF.out.2⟩

set_option maxRecDepth 20000 in
set_option maxHeartbeats 8000000 in
theorem note_r5 {w : World} {r : Nat} {v : Value} {l : List Int} {s : St} (h : Rg w r v l s) (S1 S2 S3 S4 : St) (X1 a b c : Int) (o : Opn) (h1 : octP s = (5, S1)) (h2 : numP S1 = (X1, S2)) (h3 : seen3P S2 = ((a, b, c), S3)) (h4 : opP S3 = (o, S4)) : Calls Try.prog 26 #[.pointer (some ⟨r, 0, none⟩)] w fun x w' => RdR w r v l S4 (.agg #[.int .i64 5, .int .i64 0, .int .i64 0, .int .i64 0, .int .i64 X1, .int .i64 0, .string ⟨#[]⟩, .bool false, .int .i64 0, .int .i64 0, .int .i64 0, .string ⟨#[]⟩, .int .i64 a, .int .i64 b, .int .i64 c, .int .i64 o.kind, .int .i64 o.dir, .string o.nm, .int .i64 o.dst, .string o.new, .int .i64 o.mode, .string o.tg]) x w' := by
  have HG : Hid (Rg w r v l s) := h
  obtain ⟨W, hW⟩ : ∃ W, w.alloc (.cells #[.int .i64 0, .int .i64 0, .int .i64 0, .int .i64 0, .int .i64 0, .int .i64 0, .string ⟨#[]⟩, .bool false, .int .i64 0, .int .i64 0, .int .i64 0, .string ⟨#[]⟩, .int .i64 0, .int .i64 0, .int .i64 0, .int .i64 0, .int .i64 0, .string ⟨#[]⟩, .int .i64 0, .string ⟨#[]⟩, .int .i64 0, .string ⟨#[]⟩] 48) = W := ⟨_, rfl⟩
  have hb := boxB hW
  have HW : Hid (w.alloc (.cells #[.int .i64 0, .int .i64 0, .int .i64 0, .int .i64 0, .int .i64 0, .int .i64 0, .string ⟨#[]⟩, .bool false, .int .i64 0, .int .i64 0, .int .i64 0, .string ⟨#[]⟩, .int .i64 0, .int .i64 0, .int .i64 0, .int .i64 0, .int .i64 0, .string ⟨#[]⟩, .int .i64 0, .string ⟨#[]⟩, .int .i64 0, .string ⟨#[]⟩] 48) = W) := hW
  have HC1 : Hid (Calls Try.prog 43 #[.pointer (some ⟨r, 0, none⟩)] W fun x w' => RdR W r v l S1 (.int .i64 5) x w') := by have := octet_r (h.below hb.2); rw [h1] at this; exact this
  have HC2 : Hid (∀ W2, Rg W2 r v l S1 → Calls Try.prog 44 #[.pointer (some ⟨r, 0, none⟩)] W2 fun x w' => RdR W2 r v l S2 (.int .i64 X1) x w') := fun W2 hh => by have := number_r hh; rw [h2] at this; exact this
  have HC3 : Hid (∀ W2, Rg W2 r v l S2 → Calls Try.prog 59 #[.pointer (some ⟨r, 0, none⟩)] W2 fun x w' => RdR W2 r v l S3 (.agg #[.int .i64 a, .int .i64 b, .int .i64 c]) x w') := fun W2 hh => by have := seen_r hh; rw [h3] at this; exact this
  have HC4 : Hid (∀ W2, Rg W2 r v l S3 → Calls Try.prog 46 #[.pointer (some ⟨r, 0, none⟩)] W2 fun x w' => RdR W2 r v l S4 (.agg #[.int .i64 o.kind, .int .i64 o.dir, .string o.nm, .int .i64 o.dst, .string o.new, .int .i64 o.mode, .string o.tg]) x w') := fun W2 hh => by have := op_r hh; rw [h4] at this; exact this
  clear h hb h1 h2 h3 h4
  go_enter Try.func26, Try.ntmps26
  go_upto_region 1 with fail
  go_upto_region 2 with (go_at_call 43; refine HC1.out.mono ?_; rintro x w1 ⟨rfl, R1⟩; obtain ⟨W2, hW2⟩ : ∃ W2, w1.alloc (.cells #[.int .i64 0, .int .i64 0, .int .i64 0, .int .i64 0, .int .i64 0, .int .i64 0, .string ⟨#[]⟩, .bool false, .int .i64 0, .int .i64 0, .int .i64 0, .string ⟨#[]⟩, .int .i64 0, .int .i64 0, .int .i64 0, .int .i64 0, .int .i64 0, .string ⟨#[]⟩, .int .i64 0, .string ⟨#[]⟩, .int .i64 0, .string ⟨#[]⟩] 48) = W2 := ⟨_, rfl⟩; obtain ⟨W3, hW3⟩ : ∃ W3, W2.setRow w1.heap.size #[.int .i64 5, .int .i64 0, .int .i64 0, .int .i64 0, .int .i64 0, .int .i64 0, .string ⟨#[]⟩, .bool false, .int .i64 0, .int .i64 0, .int .i64 0, .string ⟨#[]⟩, .int .i64 0, .int .i64 0, .int .i64 0, .int .i64 0, .int .i64 0, .string ⟨#[]⟩, .int .i64 0, .string ⟨#[]⟩, .int .i64 0, .string ⟨#[]⟩] = W3 := ⟨_, rfl⟩; have nt := noteT_of (boxB hW2).1 rfl rfl (by simp [Value.oneCell']) hW3)
  have H3 : Hid (Bx 48 #[.int .i64 0, .int .i64 0, .int .i64 0, .int .i64 0, .int .i64 0, .int .i64 0, .string ⟨#[]⟩, .bool false, .int .i64 0, .int .i64 0, .int .i64 0, .string ⟨#[]⟩, .int .i64 0, .int .i64 0, .int .i64 0, .int .i64 0, .int .i64 0, .string ⟨#[]⟩, .int .i64 0, .string ⟨#[]⟩, .int .i64 0, .string ⟨#[]⟩] w W3 r v l S1 w1.heap.size #[.int .i64 5, .int .i64 0, .int .i64 0, .int .i64 0, .int .i64 0, .int .i64 0, .string ⟨#[]⟩, .bool false, .int .i64 0, .int .i64 0, .int .i64 0, .string ⟨#[]⟩, .int .i64 0, .int .i64 0, .int .i64 0, .int .i64 0, .int .i64 0, .string ⟨#[]⟩, .int .i64 0, .string ⟨#[]⟩, .int .i64 0, .string ⟨#[]⟩]) := by rw [← hW3]; exact (Bx.new HG.out HW.out R1.out hW2).row _
  clear hW2 hW3 nt hW HW HC1 R1
  have k0 := cell_of H3.out.box 0
  simp at k0
  go_upto_region 13 with (first
    | (go_at_call 46; refine (HC4.out _ Ha1.out.red.1).mono ?_; rintro x y2 ⟨rfl, q2⟩; have Ha2 : Hid (Bx 48 #[.int .i64 0, .int .i64 0, .int .i64 0, .int .i64 0, .int .i64 0, .int .i64 0, .string ⟨#[]⟩, .bool false, .int .i64 0, .int .i64 0, .int .i64 0, .string ⟨#[]⟩, .int .i64 0, .int .i64 0, .int .i64 0, .int .i64 0, .int .i64 0, .string ⟨#[]⟩, .int .i64 0, .string ⟨#[]⟩, .int .i64 0, .string ⟨#[]⟩] w y2 r v l S4 w1.heap.size #[.int .i64 5, .int .i64 0, .int .i64 0, .int .i64 0, .int .i64 0, .int .i64 0, .string ⟨#[]⟩, .bool false, .int .i64 0, .int .i64 0, .int .i64 0, .string ⟨#[]⟩, .int .i64 0, .int .i64 0, .int .i64 0, .int .i64 0, .int .i64 0, .string ⟨#[]⟩, .int .i64 0, .string ⟨#[]⟩, .int .i64 0, .string ⟨#[]⟩]) := Ha1.out.on q2.out; have g4 := cell_of Ha2.out.box 4; have g12 := cell_of Ha2.out.box 12; have g13 := cell_of Ha2.out.box 13; have g14 := cell_of Ha2.out.box 14; have g15 := cell_of Ha2.out.box 15; have g16 := cell_of Ha2.out.box 16; have g17 := cell_of Ha2.out.box 17; have g18 := cell_of Ha2.out.box 18; have g19 := cell_of Ha2.out.box 19; have g20 := cell_of Ha2.out.box 20; have g21 := cell_of Ha2.out.box 21; have gf := free_of Ha2.out.box; simp at g4 g12 g13 g14 g15 g16 g17 g18 g19 g20 g21)
    | (go_at_call 59; refine (HC3.out _ Ha0.out.red.1).mono ?_; rintro x y1 ⟨rfl, q1⟩; have Ha1 : Hid (Bx 48 #[.int .i64 0, .int .i64 0, .int .i64 0, .int .i64 0, .int .i64 0, .int .i64 0, .string ⟨#[]⟩, .bool false, .int .i64 0, .int .i64 0, .int .i64 0, .string ⟨#[]⟩, .int .i64 0, .int .i64 0, .int .i64 0, .int .i64 0, .int .i64 0, .string ⟨#[]⟩, .int .i64 0, .string ⟨#[]⟩, .int .i64 0, .string ⟨#[]⟩] w y1 r v l S3 w1.heap.size #[.int .i64 5, .int .i64 0, .int .i64 0, .int .i64 0, .int .i64 0, .int .i64 0, .string ⟨#[]⟩, .bool false, .int .i64 0, .int .i64 0, .int .i64 0, .string ⟨#[]⟩, .int .i64 0, .int .i64 0, .int .i64 0, .int .i64 0, .int .i64 0, .string ⟨#[]⟩, .int .i64 0, .string ⟨#[]⟩, .int .i64 0, .string ⟨#[]⟩]) := Ha0.out.on q1.out)
    | (go_at_call 44; refine (HC2.out _ H3.out.red.1).mono ?_; rintro x y0 ⟨rfl, q0⟩; have Ha0 : Hid (Bx 48 #[.int .i64 0, .int .i64 0, .int .i64 0, .int .i64 0, .int .i64 0, .int .i64 0, .string ⟨#[]⟩, .bool false, .int .i64 0, .int .i64 0, .int .i64 0, .string ⟨#[]⟩, .int .i64 0, .int .i64 0, .int .i64 0, .int .i64 0, .int .i64 0, .string ⟨#[]⟩, .int .i64 0, .string ⟨#[]⟩, .int .i64 0, .string ⟨#[]⟩] w y0 r v l S2 w1.heap.size #[.int .i64 5, .int .i64 0, .int .i64 0, .int .i64 0, .int .i64 0, .int .i64 0, .string ⟨#[]⟩, .bool false, .int .i64 0, .int .i64 0, .int .i64 0, .string ⟨#[]⟩, .int .i64 0, .int .i64 0, .int .i64 0, .int .i64 0, .int .i64 0, .string ⟨#[]⟩, .int .i64 0, .string ⟨#[]⟩, .int .i64 0, .string ⟨#[]⟩]) := H3.out.on q0.out))
  obtain ⟨W5, hW5⟩ : ∃ W, (((((((((((y2).setCell ⟨w1.heap.size, 4, none⟩ (.int .i64 X1)).setCell ⟨w1.heap.size, 12, none⟩ (.int .i64 a)).setCell ⟨w1.heap.size, 13, none⟩ (.int .i64 b)).setCell ⟨w1.heap.size, 14, none⟩ (.int .i64 c)).setCell ⟨w1.heap.size, 15, none⟩ (.int .i64 o.kind)).setCell ⟨w1.heap.size, 16, none⟩ (.int .i64 o.dir)).setCell ⟨w1.heap.size, 17, none⟩ (.string o.nm)).setCell ⟨w1.heap.size, 18, none⟩ (.int .i64 o.dst)).setCell ⟨w1.heap.size, 19, none⟩ (.string o.new)).setCell ⟨w1.heap.size, 20, none⟩ (.int .i64 o.mode)).setCell ⟨w1.heap.size, 21, none⟩ (.string o.tg) = W := ⟨_, rfl⟩
  rw [hW5]
  have H5 : Hid (Bx 48 #[.int .i64 0, .int .i64 0, .int .i64 0, .int .i64 0, .int .i64 0, .int .i64 0, .string ⟨#[]⟩, .bool false, .int .i64 0, .int .i64 0, .int .i64 0, .string ⟨#[]⟩, .int .i64 0, .int .i64 0, .int .i64 0, .int .i64 0, .int .i64 0, .string ⟨#[]⟩, .int .i64 0, .string ⟨#[]⟩, .int .i64 0, .string ⟨#[]⟩] w W5 r v l S4 w1.heap.size #[.int .i64 5, .int .i64 0, .int .i64 0, .int .i64 0, .int .i64 X1, .int .i64 0, .string ⟨#[]⟩, .bool false, .int .i64 0, .int .i64 0, .int .i64 0, .string ⟨#[]⟩, .int .i64 a, .int .i64 b, .int .i64 c, .int .i64 o.kind, .int .i64 o.dir, .string o.nm, .int .i64 o.dst, .string o.new, .int .i64 o.mode, .string o.tg]) := by
    rw [← hW5]
    have b := (((((((((((Ha2.out).set 4 (.int .i64 X1)).set 12 (.int .i64 a)).set 13 (.int .i64 b)).set 14 (.int .i64 c)).set 15 (.int .i64 o.kind)).set 16 (.int .i64 o.dir)).set 17 (.string o.nm)).set 18 (.int .i64 o.dst)).set 19 (.string o.new)).set 20 (.int .i64 o.mode)).set 21 (.string o.tg)
    simp only [List.setIfInBounds_toArray, List.set_cons_zero, List.set_cons_succ] at b
    exact b
  have nl := noteS_of H5.out.box rfl
  obtain ⟨W6, hW6⟩ : ∃ W, W5.setRow w.heap.size #[.int .i64 5, .int .i64 0, .int .i64 0, .int .i64 0, .int .i64 X1, .int .i64 0, .string ⟨#[]⟩, .bool false, .int .i64 0, .int .i64 0, .int .i64 0, .string ⟨#[]⟩, .int .i64 a, .int .i64 b, .int .i64 c, .int .i64 o.kind, .int .i64 o.dir, .string o.nm, .int .i64 o.dst, .string o.new, .int .i64 o.mode, .string o.tg] = W := ⟨_, rfl⟩
  have nt2 := noteT_of H5.out.res rfl rfl (by simp [Value.oneCell']) hW6
  have HF : Hid (W6.heap[w.heap.size]? = some (.cells #[.int .i64 5, .int .i64 0, .int .i64 0, .int .i64 0, .int .i64 X1, .int .i64 0, .string ⟨#[]⟩, .bool false, .int .i64 0, .int .i64 0, .int .i64 0, .string ⟨#[]⟩, .int .i64 a, .int .i64 b, .int .i64 c, .int .i64 o.kind, .int .i64 o.dir, .string o.nm, .int .i64 o.dst, .string o.new, .int .i64 o.mode, .string o.tg] 48 (0, 0)) ∧ Red w W6 r v l S4) := by
    rw [← hW6]
    exact ⟨setRow_heap _ _ _ _ _ _ H5.out.res, H5.out.red.box HG.out (setRow_only _ _ _) (Nat.le_refl _)⟩
  clear hW5 hW6 H5 HG
  go_wp2
  refine bodyPost_ret (results_cell_row rfl _ _ w.heap.size _ _ _ _ rfl HF.out.1 Try.underlying48 rfl Try.sizeNote) rfl ?_
  exact ⟨rfl, HF.out.2⟩

set_option maxRecDepth 20000 in
set_option maxHeartbeats 8000000 in
theorem note_r0 {w : World} {r : Nat} {v : Value} {l : List Int} {s : St} (h : Rg w r v l s) (S1 : St) (kind : Int) (k1 : (kind == 1) = false) (k2 : (kind == 2) = false) (k3 : (kind == 3) = false) (k4 : (kind == 4) = false) (k5 : (kind == 5) = false) (h1 : octP s = (kind, S1)) : Calls Try.prog 26 #[.pointer (some ⟨r, 0, none⟩)] w fun x w' => RdR w r v l S1 (.agg #[.int .i64 kind, .int .i64 0, .int .i64 0, .int .i64 0, .int .i64 0, .int .i64 0, .string ⟨#[]⟩, .bool false, .int .i64 0, .int .i64 0, .int .i64 0, .string ⟨#[]⟩, .int .i64 0, .int .i64 0, .int .i64 0, .int .i64 0, .int .i64 0, .string ⟨#[]⟩, .int .i64 0, .string ⟨#[]⟩, .int .i64 0, .string ⟨#[]⟩]) x w' := by
  have HG : Hid (Rg w r v l s) := h
  obtain ⟨W, hW⟩ : ∃ W, w.alloc (.cells #[.int .i64 0, .int .i64 0, .int .i64 0, .int .i64 0, .int .i64 0, .int .i64 0, .string ⟨#[]⟩, .bool false, .int .i64 0, .int .i64 0, .int .i64 0, .string ⟨#[]⟩, .int .i64 0, .int .i64 0, .int .i64 0, .int .i64 0, .int .i64 0, .string ⟨#[]⟩, .int .i64 0, .string ⟨#[]⟩, .int .i64 0, .string ⟨#[]⟩] 48) = W := ⟨_, rfl⟩
  have hb := boxB hW
  have HW : Hid (w.alloc (.cells #[.int .i64 0, .int .i64 0, .int .i64 0, .int .i64 0, .int .i64 0, .int .i64 0, .string ⟨#[]⟩, .bool false, .int .i64 0, .int .i64 0, .int .i64 0, .string ⟨#[]⟩, .int .i64 0, .int .i64 0, .int .i64 0, .int .i64 0, .int .i64 0, .string ⟨#[]⟩, .int .i64 0, .string ⟨#[]⟩, .int .i64 0, .string ⟨#[]⟩] 48) = W) := hW
  have HC1 : Hid (Calls Try.prog 43 #[.pointer (some ⟨r, 0, none⟩)] W fun x w' => RdR W r v l S1 (.int .i64 kind) x w') := by have := octet_r (h.below hb.2); rw [h1] at this; exact this
  clear h hb h1 
  go_enter Try.func26, Try.ntmps26
  go_upto_region 1 with fail
  go_upto_region 2 with (go_at_call 43; refine HC1.out.mono ?_; rintro x w1 ⟨rfl, R1⟩; obtain ⟨W2, hW2⟩ : ∃ W2, w1.alloc (.cells #[.int .i64 0, .int .i64 0, .int .i64 0, .int .i64 0, .int .i64 0, .int .i64 0, .string ⟨#[]⟩, .bool false, .int .i64 0, .int .i64 0, .int .i64 0, .string ⟨#[]⟩, .int .i64 0, .int .i64 0, .int .i64 0, .int .i64 0, .int .i64 0, .string ⟨#[]⟩, .int .i64 0, .string ⟨#[]⟩, .int .i64 0, .string ⟨#[]⟩] 48) = W2 := ⟨_, rfl⟩; obtain ⟨W3, hW3⟩ : ∃ W3, W2.setRow w1.heap.size #[.int .i64 kind, .int .i64 0, .int .i64 0, .int .i64 0, .int .i64 0, .int .i64 0, .string ⟨#[]⟩, .bool false, .int .i64 0, .int .i64 0, .int .i64 0, .string ⟨#[]⟩, .int .i64 0, .int .i64 0, .int .i64 0, .int .i64 0, .int .i64 0, .string ⟨#[]⟩, .int .i64 0, .string ⟨#[]⟩, .int .i64 0, .string ⟨#[]⟩] = W3 := ⟨_, rfl⟩; have nt := noteT_of (boxB hW2).1 rfl rfl (by simp [Value.oneCell']) hW3)
  have H3 : Hid (Bx 48 #[.int .i64 0, .int .i64 0, .int .i64 0, .int .i64 0, .int .i64 0, .int .i64 0, .string ⟨#[]⟩, .bool false, .int .i64 0, .int .i64 0, .int .i64 0, .string ⟨#[]⟩, .int .i64 0, .int .i64 0, .int .i64 0, .int .i64 0, .int .i64 0, .string ⟨#[]⟩, .int .i64 0, .string ⟨#[]⟩, .int .i64 0, .string ⟨#[]⟩] w W3 r v l S1 w1.heap.size #[.int .i64 kind, .int .i64 0, .int .i64 0, .int .i64 0, .int .i64 0, .int .i64 0, .string ⟨#[]⟩, .bool false, .int .i64 0, .int .i64 0, .int .i64 0, .string ⟨#[]⟩, .int .i64 0, .int .i64 0, .int .i64 0, .int .i64 0, .int .i64 0, .string ⟨#[]⟩, .int .i64 0, .string ⟨#[]⟩, .int .i64 0, .string ⟨#[]⟩]) := by rw [← hW3]; exact (Bx.new HG.out HW.out R1.out hW2).row _
  clear hW2 hW3 nt hW HW HC1 R1
  have k0 := cell_of H3.out.box 0
  simp at k0
  go_upto_region 13 with fail
  obtain ⟨W5, hW5⟩ : ∃ W, W3 = W := ⟨_, rfl⟩
  rw [hW5]
  have H5 : Hid (Bx 48 #[.int .i64 0, .int .i64 0, .int .i64 0, .int .i64 0, .int .i64 0, .int .i64 0, .string ⟨#[]⟩, .bool false, .int .i64 0, .int .i64 0, .int .i64 0, .string ⟨#[]⟩, .int .i64 0, .int .i64 0, .int .i64 0, .int .i64 0, .int .i64 0, .string ⟨#[]⟩, .int .i64 0, .string ⟨#[]⟩, .int .i64 0, .string ⟨#[]⟩] w W5 r v l S1 w1.heap.size #[.int .i64 kind, .int .i64 0, .int .i64 0, .int .i64 0, .int .i64 0, .int .i64 0, .string ⟨#[]⟩, .bool false, .int .i64 0, .int .i64 0, .int .i64 0, .string ⟨#[]⟩, .int .i64 0, .int .i64 0, .int .i64 0, .int .i64 0, .int .i64 0, .string ⟨#[]⟩, .int .i64 0, .string ⟨#[]⟩, .int .i64 0, .string ⟨#[]⟩]) := by
    rw [← hW5]
    have b := H3.out
    exact b
  have nl := noteS_of H5.out.box rfl
  obtain ⟨W6, hW6⟩ : ∃ W, W5.setRow w.heap.size #[.int .i64 kind, .int .i64 0, .int .i64 0, .int .i64 0, .int .i64 0, .int .i64 0, .string ⟨#[]⟩, .bool false, .int .i64 0, .int .i64 0, .int .i64 0, .string ⟨#[]⟩, .int .i64 0, .int .i64 0, .int .i64 0, .int .i64 0, .int .i64 0, .string ⟨#[]⟩, .int .i64 0, .string ⟨#[]⟩, .int .i64 0, .string ⟨#[]⟩] = W := ⟨_, rfl⟩
  have nt2 := noteT_of H5.out.res rfl rfl (by simp [Value.oneCell']) hW6
  have HF : Hid (W6.heap[w.heap.size]? = some (.cells #[.int .i64 kind, .int .i64 0, .int .i64 0, .int .i64 0, .int .i64 0, .int .i64 0, .string ⟨#[]⟩, .bool false, .int .i64 0, .int .i64 0, .int .i64 0, .string ⟨#[]⟩, .int .i64 0, .int .i64 0, .int .i64 0, .int .i64 0, .int .i64 0, .string ⟨#[]⟩, .int .i64 0, .string ⟨#[]⟩, .int .i64 0, .string ⟨#[]⟩] 48 (0, 0)) ∧ Red w W6 r v l S1) := by
    rw [← hW6]
    exact ⟨setRow_heap _ _ _ _ _ _ H5.out.res, H5.out.red.box HG.out (setRow_only _ _ _) (Nat.le_refl _)⟩
  clear hW5 hW6 H5 HG
  go_wp2
  refine bodyPost_ret (results_cell_row rfl _ _ w.heap.size _ _ _ _ rfl HF.out.1 Try.underlying48 rfl Try.sizeNote) rfl ?_
  exact ⟨rfl, HF.out.2⟩

theorem prod_mk {α β : Type} {p : α × β} {a : α} (h : p.1 = a) : p = (a, p.2) := by cases p; simp only [] at h; rw [h]
theorem note_r {w : World} {r : Nat} {v : Value} {l : List Int} {s : St} (h : Rg w r v l s) : Calls Try.prog 26 #[.pointer (some ⟨r, 0, none⟩)] w fun x w' => RdR w r v l (noteP s).2 (.agg (noteP s).1.arr) x w' := by
  unfold noteP
  by_cases k1 : (octP s).1 = 1
  · rw [k1]
    exact note_r1 h _ _ _ (prod_mk k1) rfl
  by_cases k2 : (octP s).1 = 2
  · rw [k2]
    exact note_r2 h _ _ _ _ _ _ _ (prod_mk k2) rfl rfl rfl
  by_cases k3 : (octP s).1 = 3
  · rw [k3]
    exact note_r3 h _ _ _ (prod_mk k3) rfl
  by_cases k4 : (octP s).1 = 4
  · rw [k4]
    exact note_r4 h _ _ _ _ _ _ _ (prod_mk k4) rfl rfl
  by_cases k5 : (octP s).1 = 5
  · rw [k5]
    exact note_r5 h _ _ _ _ _ _ _ _ _ (prod_mk k5) rfl rfl rfl
  have ho : ntP (octP s).1 (octP s).2 = ({ zeroNt with kind := (octP s).1 }, (octP s).2) := by
    unfold ntP
    rw [if_neg k1, if_neg k2, if_neg k3, if_neg k4, if_neg k5]
  rw [ho]
  exact note_r0 h _ _ (by simpa using k1) (by simpa using k2) (by simpa using k3) (by simpa using k4) (by simpa using k5) rfl
end
end Go.Proofs.Ytekonakanieeaaa
