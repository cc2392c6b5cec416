/- A note with the fields alone that its kind names. -/
import Derived.Test.YtekonakanieeaaaJWDes11
import Derived.Test.YtekonakanieeaaaJWDes06
namespace Go.Proofs.Ytekonakanieeaaa
section
open Go.RowKit Go.Lib
attribute [local go_sem ↓ high] loadN

def noteT (a v : Value) : Sem Unit := Instr.storeAt 48 a v
theorem storeN (a v : Value) : Instr.storeAt 48 a v = noteT a v := rfl
theorem noteT_of {w W : World} {g : Nat} {old cs : Array Value} {t : TypeId} (h : w.heap[g]? = some (.cells old t (0, 0))) (ho : old.size = 22) (hs : cs.size = 22) (h1 : cs.all (·.oneCell') = true) (hW : w.setRow g cs = W) : (noteT (.pointer (some ⟨g, 0, none⟩)) (.agg cs)).run Try.prog w = .ok () W := by
  subst hW
  unfold noteT Instr.storeAt Instr.sureAddr
  simp [run_storeVar_row w g t 48 old cs h (by rw [hs]; exact Try.sizeNote) (by rw [ho, hs]) h1]
attribute [irreducible] noteT
attribute [local go_sem ↓ high] storeN
theorem setRow_only (w : World) (g : Nat) (cs : Array Value) : Only (· = g) w (w.setRow g cs) :=
  ⟨rfl, rfl, rfl, by simp, fun k _ hk => setRow_other w g k cs hk⟩
/-- a parameter's box, a result's and a variable's -/
structure NBx (w W : World) (g2 g3 : Nat) (A Z C : Array Value) : Prop where
  par : W.heap[w.heap.size]? = some (.cells A 48 (0, 0))
  res : W.heap[g2]? = some (.cells Z 48 (0, 0))
  box : W.heap[g3]? = some (.cells C 48 (0, 0))
  bel : Below w.heap.size w W
  lt2 : w.heap.size < g2
  lt3 : g2 < g3
theorem NBx.set {w W : World} {g2 g3 : Nat} {A Z C : Array Value} (h : NBx w W g2 g3 A Z C) (i : Nat) (u : Value) : NBx w (W.setCell ⟨g3, i, none⟩ u) g2 g3 A Z (C.setIfInBounds i u) := by
  have := h.lt2
  have := h.lt3
  exact ⟨(heap_set_ne (by omega)).trans h.par, (heap_set_ne (by omega)).trans h.res, heap_set h.box i u, h.bel.setCell (p := ⟨g3, i, none⟩) (by show _ ≤ g3; omega) u, h.lt2, h.lt3⟩
theorem NBx.row {w W : World} {g2 g3 : Nat} {A Z C : Array Value} (h : NBx w W g2 g3 A Z C) (D : Array Value) : NBx w (W.setRow g3 D) g2 g3 A Z D := by
  have := h.lt2
  have := h.lt3
  exact ⟨(setRow_other _ _ _ _ (by omega)).trans h.par, (setRow_other _ _ _ _ (by omega)).trans h.res, setRow_heap _ _ _ _ _ _ h.box, below_setRow h.bel (by omega) D, h.lt2, h.lt3⟩
theorem NBx.drew {w W : World} {g2 g3 : Nat} {A Z C : Array Value} (h : NBx w W g2 g3 A Z C) : NBx w W.drew g2 g3 A Z C := ⟨h.par, h.res, h.box, h.bel.drew, h.lt2, h.lt3⟩
theorem NBx.drewN {w W : World} {g2 g3 : Nat} {A Z C : Array Value} (h : NBx w W g2 g3 A Z C) (n : Nat) : NBx w (W.drewN n) g2 g3 A Z C :=
  ⟨h.par, h.res, h.box, below_drewN h.bel n, h.lt2, h.lt3⟩

set_option maxRecDepth 20000 in
set_option maxHeartbeats 8000000 in
theorem named_1 (epoch vers next client : Int) (e : En) (life seq err : Int) (op : Opn) (w : World) : Calls Try.prog 60 #[.agg #[.int .i64 1, .int .i64 epoch, .int .i64 vers, .int .i64 next, .int .i64 client, .int .i64 e.d, .string e.nm, .bool e.neg, .int .i64 e.id, .int .i64 e.kind, .int .i64 e.mode, .string e.tg, .int .i64 life, .int .i64 seq, .int .i64 err, .int .i64 op.kind, .int .i64 op.dir, .string op.nm, .int .i64 op.dst, .string op.new, .int .i64 op.mode, .string op.tg]] w fun x w' => x = .returned (.agg #[.int .i64 1, .int .i64 epoch, .int .i64 0, .int .i64 0, .int .i64 0, .int .i64 0, .string ⟨#[]⟩, .bool false, .int .i64 0, .int .i64 0, .int .i64 0, .string ⟨#[]⟩, .int .i64 0, .int .i64 0, .int .i64 0, .int .i64 0, .int .i64 0, .string ⟨#[]⟩, .int .i64 0, .string ⟨#[]⟩, .int .i64 0, .string ⟨#[]⟩]) ∧ Below w.heap.size w w' := by
  obtain ⟨A, hA⟩ : ∃ A, (#[.int .i64 1, .int .i64 epoch, .int .i64 vers, .int .i64 next, .int .i64 client, .int .i64 e.d, .string e.nm, .bool e.neg, .int .i64 e.id, .int .i64 e.kind, .int .i64 e.mode, .string e.tg, .int .i64 life, .int .i64 seq, .int .i64 err, .int .i64 op.kind, .int .i64 op.dir, .string op.nm, .int .i64 op.dst, .string op.new, .int .i64 op.mode, .string op.tg] : Array Value) = A := ⟨_, rfl⟩
  obtain ⟨W1, hW1⟩ : ∃ W, w.alloc (.cells A 48) = W := ⟨_, rfl⟩
  obtain ⟨W2, hW2⟩ : ∃ W, W1.alloc (.cells #[.int .i64 0, .int .i64 0, .int .i64 0, .int .i64 0, .int .i64 0, .int .i64 0, .string ⟨#[]⟩, .bool false, .int .i64 0, .int .i64 0, .int .i64 0, .string ⟨#[]⟩, .int .i64 0, .int .i64 0, .int .i64 0, .int .i64 0, .int .i64 0, .string ⟨#[]⟩, .int .i64 0, .string ⟨#[]⟩, .int .i64 0, .string ⟨#[]⟩] 48) = W := ⟨_, rfl⟩
  obtain ⟨W3, hW3⟩ : ∃ W, W2.alloc (.cells #[.int .i64 0, .int .i64 0, .int .i64 0, .int .i64 0, .int .i64 0, .int .i64 0, .string ⟨#[]⟩, .bool false, .int .i64 0, .int .i64 0, .int .i64 0, .string ⟨#[]⟩, .int .i64 0, .int .i64 0, .int .i64 0, .int .i64 0, .int .i64 0, .string ⟨#[]⟩, .int .i64 0, .string ⟨#[]⟩, .int .i64 0, .string ⟨#[]⟩] 48) = W := ⟨_, rfl⟩
  obtain ⟨W4, hW4⟩ : ∃ W, W3.setRow W2.heap.size #[.int .i64 1, .int .i64 0, .int .i64 0, .int .i64 0, .int .i64 0, .int .i64 0, .string ⟨#[]⟩, .bool false, .int .i64 0, .int .i64 0, .int .i64 0, .string ⟨#[]⟩, .int .i64 0, .int .i64 0, .int .i64 0, .int .i64 0, .int .i64 0, .string ⟨#[]⟩, .int .i64 0, .string ⟨#[]⟩, .int .i64 0, .string ⟨#[]⟩] = W := ⟨_, rfl⟩
  have hb1 := boxB hW1
  have hb2 := boxB hW2
  have hb3 := boxB hW3
  have l1 := (Array.getElem?_eq_some_iff.1 hb1.1).1
  have l2 := (Array.getElem?_eq_some_iff.1 hb2.1).1
  have H3 : NBx w W3 W1.heap.size W2.heap.size A #[.int .i64 0, .int .i64 0, .int .i64 0, .int .i64 0, .int .i64 0, .int .i64 0, .string ⟨#[]⟩, .bool false, .int .i64 0, .int .i64 0, .int .i64 0, .string ⟨#[]⟩, .int .i64 0, .int .i64 0, .int .i64 0, .int .i64 0, .int .i64 0, .string ⟨#[]⟩, .int .i64 0, .string ⟨#[]⟩, .int .i64 0, .string ⟨#[]⟩] #[.int .i64 0, .int .i64 0, .int .i64 0, .int .i64 0, .int .i64 0, .int .i64 0, .string ⟨#[]⟩, .bool false, .int .i64 0, .int .i64 0, .int .i64 0, .string ⟨#[]⟩, .int .i64 0, .int .i64 0, .int .i64 0, .int .i64 0, .int .i64 0, .string ⟨#[]⟩, .int .i64 0, .string ⟨#[]⟩, .int .i64 0, .string ⟨#[]⟩] := ⟨hkeep (hkeep hb1.1 hb2.2) hb3.2, hkeep hb2.1 hb3.2, hb3.1, chainB hb1.2 (chainB hb2.2 hb3.2), l1, l2⟩
  have H4 : Hid (NBx w W4 W1.heap.size W2.heap.size A #[.int .i64 0, .int .i64 0, .int .i64 0, .int .i64 0, .int .i64 0, .int .i64 0, .string ⟨#[]⟩, .bool false, .int .i64 0, .int .i64 0, .int .i64 0, .string ⟨#[]⟩, .int .i64 0, .int .i64 0, .int .i64 0, .int .i64 0, .int .i64 0, .string ⟨#[]⟩, .int .i64 0, .string ⟨#[]⟩, .int .i64 0, .string ⟨#[]⟩] #[.int .i64 1, .int .i64 0, .int .i64 0, .int .i64 0, .int .i64 0, .int .i64 0, .string ⟨#[]⟩, .bool false, .int .i64 0, .int .i64 0, .int .i64 0, .string ⟨#[]⟩, .int .i64 0, .int .i64 0, .int .i64 0, .int .i64 0, .int .i64 0, .string ⟨#[]⟩, .int .i64 0, .string ⟨#[]⟩, .int .i64 0, .string ⟨#[]⟩]) := by rw [← hW4]; exact H3.row _
  have nt := noteT_of H3.box rfl rfl (by simp [Value.oneCell']) hW4
  have x0 := cell_of (hkeep hb1.1 hb2.2) 0
  have y0 := cell_of H4.out.par 0
  have y1 := cell_of H4.out.par 1
  have v1 := cell_of H4.out.box 1
  have vf := free_of H4.out.box
  rw [← hA] at x0 y0 y1
  simp at x0 y0 y1 v1
  rw [hA]
  clear hA H3 hb1 hb2 hb3 l1 l2 hW4
  go_enter Try.func60, Try.ntmps60
  go_upto_region 1 with fail
  go_upto_region 2 with fail
  clear hW1 hW2 hW3 nt x0
  go_upto_region 13 with fail
  obtain ⟨W5, hW5⟩ : ∃ W, (W4).setCell ⟨W2.heap.size, 1, none⟩ (.int .i64 epoch) = W := ⟨_, rfl⟩
  rw [hW5]
  have H5 : Hid (NBx w W5 W1.heap.size W2.heap.size A #[.int .i64 0, .int .i64 0, .int .i64 0, .int .i64 0, .int .i64 0, .int .i64 0, .string ⟨#[]⟩, .bool false, .int .i64 0, .int .i64 0, .int .i64 0, .string ⟨#[]⟩, .int .i64 0, .int .i64 0, .int .i64 0, .int .i64 0, .int .i64 0, .string ⟨#[]⟩, .int .i64 0, .string ⟨#[]⟩, .int .i64 0, .string ⟨#[]⟩] #[.int .i64 1, .int .i64 epoch, .int .i64 0, .int .i64 0, .int .i64 0, .int .i64 0, .string ⟨#[]⟩, .bool false, .int .i64 0, .int .i64 0, .int .i64 0, .string ⟨#[]⟩, .int .i64 0, .int .i64 0, .int .i64 0, .int .i64 0, .int .i64 0, .string ⟨#[]⟩, .int .i64 0, .string ⟨#[]⟩, .int .i64 0, .string ⟨#[]⟩]) := by
    rw [← hW5]
    have b := (H4.out).set 1 (.int .i64 epoch)
    simp only [List.setIfInBounds_toArray, List.set_cons_zero, List.set_cons_succ] at b
    exact b
  have nl := noteS_of H5.out.box rfl
  obtain ⟨W6, hW6⟩ : ∃ W, W5.setRow W1.heap.size #[.int .i64 1, .int .i64 epoch, .int .i64 0, .int .i64 0, .int .i64 0, .int .i64 0, .string ⟨#[]⟩, .bool false, .int .i64 0, .int .i64 0, .int .i64 0, .string ⟨#[]⟩, .int .i64 0, .int .i64 0, .int .i64 0, .int .i64 0, .int .i64 0, .string ⟨#[]⟩, .int .i64 0, .string ⟨#[]⟩, .int .i64 0, .string ⟨#[]⟩] = W := ⟨_, rfl⟩
  have nt2 := noteT_of H5.out.res rfl rfl (by simp [Value.oneCell']) hW6
  have HF : Hid (W6.heap[W1.heap.size]? = some (.cells #[.int .i64 1, .int .i64 epoch, .int .i64 0, .int .i64 0, .int .i64 0, .int .i64 0, .string ⟨#[]⟩, .bool false, .int .i64 0, .int .i64 0, .int .i64 0, .string ⟨#[]⟩, .int .i64 0, .int .i64 0, .int .i64 0, .int .i64 0, .int .i64 0, .string ⟨#[]⟩, .int .i64 0, .string ⟨#[]⟩, .int .i64 0, .string ⟨#[]⟩] 48 (0, 0)) ∧ Below w.heap.size w W6) := ⟨by rw [← hW6]; exact setRow_heap _ _ _ _ _ _ H5.out.res, by rw [← hW6]; exact below_setRow H5.out.bel (by have := H5.out.lt2; omega) _⟩
  clear hW5 hW6 H5 H4 vf y0 y1 v1
  go_wp2
  refine bodyPost_ret (results_cell_row rfl _ _ W1.heap.size _ _ _ _ rfl HF.out.1 Try.underlying48 rfl Try.sizeNote) rfl ?_
  exact ⟨rfl, HF.out.2⟩

set_option maxRecDepth 20000 in
set_option maxHeartbeats 8000000 in
theorem named_2 (epoch vers next client : Int) (e : En) (life seq err : Int) (op : Opn) (w : World) : Calls Try.prog 60 #[.agg #[.int .i64 2, .int .i64 epoch, .int .i64 vers, .int .i64 next, .int .i64 client, .int .i64 e.d, .string e.nm, .bool e.neg, .int .i64 e.id, .int .i64 e.kind, .int .i64 e.mode, .string e.tg, .int .i64 life, .int .i64 seq, .int .i64 err, .int .i64 op.kind, .int .i64 op.dir, .string op.nm, .int .i64 op.dst, .string op.new, .int .i64 op.mode, .string op.tg]] w fun x w' => x = .returned (.agg #[.int .i64 2, .int .i64 epoch, .int .i64 vers, .int .i64 next, .int .i64 0, .int .i64 0, .string ⟨#[]⟩, .bool false, .int .i64 0, .int .i64 0, .int .i64 0, .string ⟨#[]⟩, .int .i64 0, .int .i64 0, .int .i64 0, .int .i64 0, .int .i64 0, .string ⟨#[]⟩, .int .i64 0, .string ⟨#[]⟩, .int .i64 0, .string ⟨#[]⟩]) ∧ Below w.heap.size w w' := by
  obtain ⟨A, hA⟩ : ∃ A, (#[.int .i64 2, .int .i64 epoch, .int .i64 vers, .int .i64 next, .int .i64 client, .int .i64 e.d, .string e.nm, .bool e.neg, .int .i64 e.id, .int .i64 e.kind, .int .i64 e.mode, .string e.tg, .int .i64 life, .int .i64 seq, .int .i64 err, .int .i64 op.kind, .int .i64 op.dir, .string op.nm, .int .i64 op.dst, .string op.new, .int .i64 op.mode, .string op.tg] : Array Value) = A := ⟨_, rfl⟩
  obtain ⟨W1, hW1⟩ : ∃ W, w.alloc (.cells A 48) = W := ⟨_, rfl⟩
  obtain ⟨W2, hW2⟩ : ∃ W, W1.alloc (.cells #[.int .i64 0, .int .i64 0, .int .i64 0, .int .i64 0, .int .i64 0, .int .i64 0, .string ⟨#[]⟩, .bool false, .int .i64 0, .int .i64 0, .int .i64 0, .string ⟨#[]⟩, .int .i64 0, .int .i64 0, .int .i64 0, .int .i64 0, .int .i64 0, .string ⟨#[]⟩, .int .i64 0, .string ⟨#[]⟩, .int .i64 0, .string ⟨#[]⟩] 48) = W := ⟨_, rfl⟩
  obtain ⟨W3, hW3⟩ : ∃ W, W2.alloc (.cells #[.int .i64 0, .int .i64 0, .int .i64 0, .int .i64 0, .int .i64 0, .int .i64 0, .string ⟨#[]⟩, .bool false, .int .i64 0, .int .i64 0, .int .i64 0, .string ⟨#[]⟩, .int .i64 0, .int .i64 0, .int .i64 0, .int .i64 0, .int .i64 0, .string ⟨#[]⟩, .int .i64 0, .string ⟨#[]⟩, .int .i64 0, .string ⟨#[]⟩] 48) = W := ⟨_, rfl⟩
  obtain ⟨W4, hW4⟩ : ∃ W, W3.setRow W2.heap.size #[.int .i64 2, .int .i64 0, .int .i64 0, .int .i64 0, .int .i64 0, .int .i64 0, .string ⟨#[]⟩, .bool false, .int .i64 0, .int .i64 0, .int .i64 0, .string ⟨#[]⟩, .int .i64 0, .int .i64 0, .int .i64 0, .int .i64 0, .int .i64 0, .string ⟨#[]⟩, .int .i64 0, .string ⟨#[]⟩, .int .i64 0, .string ⟨#[]⟩] = W := ⟨_, rfl⟩
  have hb1 := boxB hW1
  have hb2 := boxB hW2
  have hb3 := boxB hW3
  have l1 := (Array.getElem?_eq_some_iff.1 hb1.1).1
  have l2 := (Array.getElem?_eq_some_iff.1 hb2.1).1
  have H3 : NBx w W3 W1.heap.size W2.heap.size A #[.int .i64 0, .int .i64 0, .int .i64 0, .int .i64 0, .int .i64 0, .int .i64 0, .string ⟨#[]⟩, .bool false, .int .i64 0, .int .i64 0, .int .i64 0, .string ⟨#[]⟩, .int .i64 0, .int .i64 0, .int .i64 0, .int .i64 0, .int .i64 0, .string ⟨#[]⟩, .int .i64 0, .string ⟨#[]⟩, .int .i64 0, .string ⟨#[]⟩] #[.int .i64 0, .int .i64 0, .int .i64 0, .int .i64 0, .int .i64 0, .int .i64 0, .string ⟨#[]⟩, .bool false, .int .i64 0, .int .i64 0, .int .i64 0, .string ⟨#[]⟩, .int .i64 0, .int .i64 0, .int .i64 0, .int .i64 0, .int .i64 0, .string ⟨#[]⟩, .int .i64 0, .string ⟨#[]⟩, .int .i64 0, .string ⟨#[]⟩] := ⟨hkeep (hkeep hb1.1 hb2.2) hb3.2, hkeep hb2.1 hb3.2, hb3.1, chainB hb1.2 (chainB hb2.2 hb3.2), l1, l2⟩
  have H4 : Hid (NBx w W4 W1.heap.size W2.heap.size A #[.int .i64 0, .int .i64 0, .int .i64 0, .int .i64 0, .int .i64 0, .int .i64 0, .string ⟨#[]⟩, .bool false, .int .i64 0, .int .i64 0, .int .i64 0, .string ⟨#[]⟩, .int .i64 0, .int .i64 0, .int .i64 0, .int .i64 0, .int .i64 0, .string ⟨#[]⟩, .int .i64 0, .string ⟨#[]⟩, .int .i64 0, .string ⟨#[]⟩] #[.int .i64 2, .int .i64 0, .int .i64 0, .int .i64 0, .int .i64 0, .int .i64 0, .string ⟨#[]⟩, .bool false, .int .i64 0, .int .i64 0, .int .i64 0, .string ⟨#[]⟩, .int .i64 0, .int .i64 0, .int .i64 0, .int .i64 0, .int .i64 0, .string ⟨#[]⟩, .int .i64 0, .string ⟨#[]⟩, .int .i64 0, .string ⟨#[]⟩]) := by rw [← hW4]; exact H3.row _
  have nt := noteT_of H3.box rfl rfl (by simp [Value.oneCell']) hW4
  have x0 := cell_of (hkeep hb1.1 hb2.2) 0
  have y0 := cell_of H4.out.par 0
  have y1 := cell_of H4.out.par 1
  have y2 := cell_of H4.out.par 2
  have y3 := cell_of H4.out.par 3
  have v1 := cell_of H4.out.box 1
  have v2 := cell_of H4.out.box 2
  have v3 := cell_of H4.out.box 3
  have vf := free_of H4.out.box
  rw [← hA] at x0 y0 y1 y2 y3
  simp at x0 y0 y1 y2 y3 v1 v2 v3
  rw [hA]
  clear hA H3 hb1 hb2 hb3 l1 l2 hW4
  go_enter Try.func60, Try.ntmps60
  go_upto_region 1 with fail
  go_upto_region 2 with fail
  clear hW1 hW2 hW3 nt x0
  have hne : w.heap.size ≠ W2.heap.size := by have := H4.out.lt2; have := H4.out.lt3; omega
  have hne2 : W2.heap.size ≠ w.heap.size := fun h => hne h.symm
  go_upto_region 6 with fail
  go_region_held3 (fun w' => w'.cell? ⟨w.heap.size, 1, none⟩ = some (.int .i64 epoch) ∧ w'.cell? ⟨w.heap.size, 2, none⟩ = some (.int .i64 vers) ∧ w'.cell? ⟨w.heap.size, 3, none⟩ = some (.int .i64 next)) (go_keep) (fail)
  obtain ⟨W5, hW5⟩ : ∃ W, ((((W4).setCell ⟨W2.heap.size, 1, none⟩ (.int .i64 epoch)).setCell ⟨W2.heap.size, 2, none⟩ (.int .i64 vers)).setCell ⟨W2.heap.size, 3, none⟩ (.int .i64 next)).drew = W := ⟨_, rfl⟩
  rw [hW5]
  have H5 : Hid (NBx w W5 W1.heap.size W2.heap.size A #[.int .i64 0, .int .i64 0, .int .i64 0, .int .i64 0, .int .i64 0, .int .i64 0, .string ⟨#[]⟩, .bool false, .int .i64 0, .int .i64 0, .int .i64 0, .string ⟨#[]⟩, .int .i64 0, .int .i64 0, .int .i64 0, .int .i64 0, .int .i64 0, .string ⟨#[]⟩, .int .i64 0, .string ⟨#[]⟩, .int .i64 0, .string ⟨#[]⟩] #[.int .i64 2, .int .i64 epoch, .int .i64 vers, .int .i64 next, .int .i64 0, .int .i64 0, .string ⟨#[]⟩, .bool false, .int .i64 0, .int .i64 0, .int .i64 0, .string ⟨#[]⟩, .int .i64 0, .int .i64 0, .int .i64 0, .int .i64 0, .int .i64 0, .string ⟨#[]⟩, .int .i64 0, .string ⟨#[]⟩, .int .i64 0, .string ⟨#[]⟩]) := by
    rw [← hW5]
    have b := ((((H4.out).set 1 (.int .i64 epoch)).set 2 (.int .i64 vers)).set 3 (.int .i64 next)).drew
    simp only [List.setIfInBounds_toArray, List.set_cons_zero, List.set_cons_succ] at b
    exact b
  go_upto_region 13 with fail
  have nl := noteS_of H5.out.box rfl
  obtain ⟨W6, hW6⟩ : ∃ W, W5.setRow W1.heap.size #[.int .i64 2, .int .i64 epoch, .int .i64 vers, .int .i64 next, .int .i64 0, .int .i64 0, .string ⟨#[]⟩, .bool false, .int .i64 0, .int .i64 0, .int .i64 0, .string ⟨#[]⟩, .int .i64 0, .int .i64 0, .int .i64 0, .int .i64 0, .int .i64 0, .string ⟨#[]⟩, .int .i64 0, .string ⟨#[]⟩, .int .i64 0, .string ⟨#[]⟩] = W := ⟨_, rfl⟩
  have nt2 := noteT_of H5.out.res rfl rfl (by simp [Value.oneCell']) hW6
  have HF : Hid (W6.heap[W1.heap.size]? = some (.cells #[.int .i64 2, .int .i64 epoch, .int .i64 vers, .int .i64 next, .int .i64 0, .int .i64 0, .string ⟨#[]⟩, .bool false, .int .i64 0, .int .i64 0, .int .i64 0, .string ⟨#[]⟩, .int .i64 0, .int .i64 0, .int .i64 0, .int .i64 0, .int .i64 0, .string ⟨#[]⟩, .int .i64 0, .string ⟨#[]⟩, .int .i64 0, .string ⟨#[]⟩] 48 (0, 0)) ∧ Below w.heap.size w W6) := ⟨by rw [← hW6]; exact setRow_heap _ _ _ _ _ _ H5.out.res, by rw [← hW6]; exact below_setRow H5.out.bel (by have := H5.out.lt2; omega) _⟩
  clear hW5 hW6 H5 H4 vf y0 y1 y2 y3 v1 v2 v3
  go_wp2
  refine bodyPost_ret (results_cell_row rfl _ _ W1.heap.size _ _ _ _ rfl HF.out.1 Try.underlying48 rfl Try.sizeNote) rfl ?_
  exact ⟨rfl, HF.out.2⟩

set_option maxRecDepth 20000 in
set_option maxHeartbeats 8000000 in
theorem named_3 (epoch vers next client : Int) (e : En) (life seq err : Int) (op : Opn) (w : World) : Calls Try.prog 60 #[.agg #[.int .i64 3, .int .i64 epoch, .int .i64 vers, .int .i64 next, .int .i64 client, .int .i64 e.d, .string e.nm, .bool e.neg, .int .i64 e.id, .int .i64 e.kind, .int .i64 e.mode, .string e.tg, .int .i64 life, .int .i64 seq, .int .i64 err, .int .i64 op.kind, .int .i64 op.dir, .string op.nm, .int .i64 op.dst, .string op.new, .int .i64 op.mode, .string op.tg]] w fun x w' => x = .returned (.agg #[.int .i64 3, .int .i64 0, .int .i64 0, .int .i64 0, .int .i64 0, .int .i64 e.d, .string e.nm, .bool e.neg, .int .i64 e.id, .int .i64 e.kind, .int .i64 e.mode, .string e.tg, .int .i64 0, .int .i64 0, .int .i64 0, .int .i64 0, .int .i64 0, .string ⟨#[]⟩, .int .i64 0, .string ⟨#[]⟩, .int .i64 0, .string ⟨#[]⟩]) ∧ Below w.heap.size w w' := by
  obtain ⟨A, hA⟩ : ∃ A, (#[.int .i64 3, .int .i64 epoch, .int .i64 vers, .int .i64 next, .int .i64 client, .int .i64 e.d, .string e.nm, .bool e.neg, .int .i64 e.id, .int .i64 e.kind, .int .i64 e.mode, .string e.tg, .int .i64 life, .int .i64 seq, .int .i64 err, .int .i64 op.kind, .int .i64 op.dir, .string op.nm, .int .i64 op.dst, .string op.new, .int .i64 op.mode, .string op.tg] : Array Value) = A := ⟨_, rfl⟩
  obtain ⟨W1, hW1⟩ : ∃ W, w.alloc (.cells A 48) = W := ⟨_, rfl⟩
  obtain ⟨W2, hW2⟩ : ∃ W, W1.alloc (.cells #[.int .i64 0, .int .i64 0, .int .i64 0, .int .i64 0, .int .i64 0, .int .i64 0, .string ⟨#[]⟩, .bool false, .int .i64 0, .int .i64 0, .int .i64 0, .string ⟨#[]⟩, .int .i64 0, .int .i64 0, .int .i64 0, .int .i64 0, .int .i64 0, .string ⟨#[]⟩, .int .i64 0, .string ⟨#[]⟩, .int .i64 0, .string ⟨#[]⟩] 48) = W := ⟨_, rfl⟩
  obtain ⟨W3, hW3⟩ : ∃ W, W2.alloc (.cells #[.int .i64 0, .int .i64 0, .int .i64 0, .int .i64 0, .int .i64 0, .int .i64 0, .string ⟨#[]⟩, .bool false, .int .i64 0, .int .i64 0, .int .i64 0, .string ⟨#[]⟩, .int .i64 0, .int .i64 0, .int .i64 0, .int .i64 0, .int .i64 0, .string ⟨#[]⟩, .int .i64 0, .string ⟨#[]⟩, .int .i64 0, .string ⟨#[]⟩] 48) = W := ⟨_, rfl⟩
  obtain ⟨W4, hW4⟩ : ∃ W, W3.setRow W2.heap.size #[.int .i64 3, .int .i64 0, .int .i64 0, .int .i64 0, .int .i64 0, .int .i64 0, .string ⟨#[]⟩, .bool false, .int .i64 0, .int .i64 0, .int .i64 0, .string ⟨#[]⟩, .int .i64 0, .int .i64 0, .int .i64 0, .int .i64 0, .int .i64 0, .string ⟨#[]⟩, .int .i64 0, .string ⟨#[]⟩, .int .i64 0, .string ⟨#[]⟩] = W := ⟨_, rfl⟩
  have hb1 := boxB hW1
  have hb2 := boxB hW2
  have hb3 := boxB hW3
  have l1 := (Array.getElem?_eq_some_iff.1 hb1.1).1
  have l2 := (Array.getElem?_eq_some_iff.1 hb2.1).1
  have H3 : NBx w W3 W1.heap.size W2.heap.size A #[.int .i64 0, .int .i64 0, .int .i64 0, .int .i64 0, .int .i64 0, .int .i64 0, .string ⟨#[]⟩, .bool false, .int .i64 0, .int .i64 0, .int .i64 0, .string ⟨#[]⟩, .int .i64 0, .int .i64 0, .int .i64 0, .int .i64 0, .int .i64 0, .string ⟨#[]⟩, .int .i64 0, .string ⟨#[]⟩, .int .i64 0, .string ⟨#[]⟩] #[.int .i64 0, .int .i64 0, .int .i64 0, .int .i64 0, .int .i64 0, .int .i64 0, .string ⟨#[]⟩, .bool false, .int .i64 0, .int .i64 0, .int .i64 0, .string ⟨#[]⟩, .int .i64 0, .int .i64 0, .int .i64 0, .int .i64 0, .int .i64 0, .string ⟨#[]⟩, .int .i64 0, .string ⟨#[]⟩, .int .i64 0, .string ⟨#[]⟩] := ⟨hkeep (hkeep hb1.1 hb2.2) hb3.2, hkeep hb2.1 hb3.2, hb3.1, chainB hb1.2 (chainB hb2.2 hb3.2), l1, l2⟩
  have H4 : Hid (NBx w W4 W1.heap.size W2.heap.size A #[.int .i64 0, .int .i64 0, .int .i64 0, .int .i64 0, .int .i64 0, .int .i64 0, .string ⟨#[]⟩, .bool false, .int .i64 0, .int .i64 0, .int .i64 0, .string ⟨#[]⟩, .int .i64 0, .int .i64 0, .int .i64 0, .int .i64 0, .int .i64 0, .string ⟨#[]⟩, .int .i64 0, .string ⟨#[]⟩, .int .i64 0, .string ⟨#[]⟩] #[.int .i64 3, .int .i64 0, .int .i64 0, .int .i64 0, .int .i64 0, .int .i64 0, .string ⟨#[]⟩, .bool false, .int .i64 0, .int .i64 0, .int .i64 0, .string ⟨#[]⟩, .int .i64 0, .int .i64 0, .int .i64 0, .int .i64 0, .int .i64 0, .string ⟨#[]⟩, .int .i64 0, .string ⟨#[]⟩, .int .i64 0, .string ⟨#[]⟩]) := by rw [← hW4]; exact H3.row _
  have nt := noteT_of H3.box rfl rfl (by simp [Value.oneCell']) hW4
  have x0 := cell_of (hkeep hb1.1 hb2.2) 0
  have y0 := cell_of H4.out.par 0
  have y5 := cell_of H4.out.par 5
  have y6 := cell_of H4.out.par 6
  have y7 := cell_of H4.out.par 7
  have y8 := cell_of H4.out.par 8
  have y9 := cell_of H4.out.par 9
  have y10 := cell_of H4.out.par 10
  have y11 := cell_of H4.out.par 11
  have v5 := cell_of H4.out.box 5
  have v6 := cell_of H4.out.box 6
  have v7 := cell_of H4.out.box 7
  have v8 := cell_of H4.out.box 8
  have v9 := cell_of H4.out.box 9
  have v10 := cell_of H4.out.box 10
  have v11 := cell_of H4.out.box 11
  have vf := free_of H4.out.box
  rw [← hA] at x0 y0 y5 y6 y7 y8 y9 y10 y11
  simp at x0 y0 y5 y6 y7 y8 y9 y10 y11 v5 v6 v7 v8 v9 v10 v11
  rw [hA]
  clear hA H3 hb1 hb2 hb3 l1 l2 hW4
  go_enter Try.func60, Try.ntmps60
  go_upto_region 1 with fail
  go_upto_region 2 with fail
  clear hW1 hW2 hW3 nt x0
  go_upto_region 13 with fail
  obtain ⟨W5, hW5⟩ : ∃ W, (((((((W4).setCell ⟨W2.heap.size, 5, none⟩ (.int .i64 e.d)).setCell ⟨W2.heap.size, 6, none⟩ (.string e.nm)).setCell ⟨W2.heap.size, 7, none⟩ (.bool e.neg)).setCell ⟨W2.heap.size, 8, none⟩ (.int .i64 e.id)).setCell ⟨W2.heap.size, 9, none⟩ (.int .i64 e.kind)).setCell ⟨W2.heap.size, 10, none⟩ (.int .i64 e.mode)).setCell ⟨W2.heap.size, 11, none⟩ (.string e.tg) = W := ⟨_, rfl⟩
  rw [hW5]
  have H5 : Hid (NBx w W5 W1.heap.size W2.heap.size A #[.int .i64 0, .int .i64 0, .int .i64 0, .int .i64 0, .int .i64 0, .int .i64 0, .string ⟨#[]⟩, .bool false, .int .i64 0, .int .i64 0, .int .i64 0, .string ⟨#[]⟩, .int .i64 0, .int .i64 0, .int .i64 0, .int .i64 0, .int .i64 0, .string ⟨#[]⟩, .int .i64 0, .string ⟨#[]⟩, .int .i64 0, .string ⟨#[]⟩] #[.int .i64 3, .int .i64 0, .int .i64 0, .int .i64 0, .int .i64 0, .int .i64 e.d, .string e.nm, .bool e.neg, .int .i64 e.id, .int .i64 e.kind, .int .i64 e.mode, .string e.tg, .int .i64 0, .int .i64 0, .int .i64 0, .int .i64 0, .int .i64 0, .string ⟨#[]⟩, .int .i64 0, .string ⟨#[]⟩, .int .i64 0, .string ⟨#[]⟩]) := by
    rw [← hW5]
    have b := (((((((H4.out).set 5 (.int .i64 e.d)).set 6 (.string e.nm)).set 7 (.bool e.neg)).set 8 (.int .i64 e.id)).set 9 (.int .i64 e.kind)).set 10 (.int .i64 e.mode)).set 11 (.string e.tg)
    simp only [List.setIfInBounds_toArray, List.set_cons_zero, List.set_cons_succ] at b
    exact b
  have nl := noteS_of H5.out.box rfl
  obtain ⟨W6, hW6⟩ : ∃ W, W5.setRow W1.heap.size #[.int .i64 3, .int .i64 0, .int .i64 0, .int .i64 0, .int .i64 0, .int .i64 e.d, .string e.nm, .bool e.neg, .int .i64 e.id, .int .i64 e.kind, .int .i64 e.mode, .string e.tg, .int .i64 0, .int .i64 0, .int .i64 0, .int .i64 0, .int .i64 0, .string ⟨#[]⟩, .int .i64 0, .string ⟨#[]⟩, .int .i64 0, .string ⟨#[]⟩] = W := ⟨_, rfl⟩
  have nt2 := noteT_of H5.out.res rfl rfl (by simp [Value.oneCell']) hW6
  have HF : Hid (W6.heap[W1.heap.size]? = some (.cells #[.int .i64 3, .int .i64 0, .int .i64 0, .int .i64 0, .int .i64 0, .int .i64 e.d, .string e.nm, .bool e.neg, .int .i64 e.id, .int .i64 e.kind, .int .i64 e.mode, .string e.tg, .int .i64 0, .int .i64 0, .int .i64 0, .int .i64 0, .int .i64 0, .string ⟨#[]⟩, .int .i64 0, .string ⟨#[]⟩, .int .i64 0, .string ⟨#[]⟩] 48 (0, 0)) ∧ Below w.heap.size w W6) := ⟨by rw [← hW6]; exact setRow_heap _ _ _ _ _ _ H5.out.res, by rw [← hW6]; exact below_setRow H5.out.bel (by have := H5.out.lt2; omega) _⟩
  clear hW5 hW6 H5 H4 vf y0 y5 y6 y7 y8 y9 y10 y11 v5 v6 v7 v8 v9 v10 v11
  go_wp2
  refine bodyPost_ret (results_cell_row rfl _ _ W1.heap.size _ _ _ _ rfl HF.out.1 Try.underlying48 rfl Try.sizeNote) rfl ?_
  exact ⟨rfl, HF.out.2⟩

set_option maxRecDepth 20000 in
set_option maxHeartbeats 8000000 in
theorem named_4 (epoch vers next client : Int) (e : En) (life seq err : Int) (op : Opn) (w : World) : Calls Try.prog 60 #[.agg #[.int .i64 4, .int .i64 epoch, .int .i64 vers, .int .i64 next, .int .i64 client, .int .i64 e.d, .string e.nm, .bool e.neg, .int .i64 e.id, .int .i64 e.kind, .int .i64 e.mode, .string e.tg, .int .i64 life, .int .i64 seq, .int .i64 err, .int .i64 op.kind, .int .i64 op.dir, .string op.nm, .int .i64 op.dst, .string op.new, .int .i64 op.mode, .string op.tg]] w fun x w' => x = .returned (.agg #[.int .i64 4, .int .i64 0, .int .i64 0, .int .i64 0, .int .i64 client, .int .i64 0, .string ⟨#[]⟩, .bool false, .int .i64 0, .int .i64 0, .int .i64 0, .string ⟨#[]⟩, .int .i64 life, .int .i64 seq, .int .i64 err, .int .i64 0, .int .i64 0, .string ⟨#[]⟩, .int .i64 0, .string ⟨#[]⟩, .int .i64 0, .string ⟨#[]⟩]) ∧ Below w.heap.size w w' := by
  obtain ⟨A, hA⟩ : ∃ A, (#[.int .i64 4, .int .i64 epoch, .int .i64 vers, .int .i64 next, .int .i64 client, .int .i64 e.d, .string e.nm, .bool e.neg, .int .i64 e.id, .int .i64 e.kind, .int .i64 e.mode, .string e.tg, .int .i64 life, .int .i64 seq, .int .i64 err, .int .i64 op.kind, .int .i64 op.dir, .string op.nm, .int .i64 op.dst, .string op.new, .int .i64 op.mode, .string op.tg] : Array Value) = A := ⟨_, rfl⟩
  obtain ⟨W1, hW1⟩ : ∃ W, w.alloc (.cells A 48) = W := ⟨_, rfl⟩
  obtain ⟨W2, hW2⟩ : ∃ W, W1.alloc (.cells #[.int .i64 0, .int .i64 0, .int .i64 0, .int .i64 0, .int .i64 0, .int .i64 0, .string ⟨#[]⟩, .bool false, .int .i64 0, .int .i64 0, .int .i64 0, .string ⟨#[]⟩, .int .i64 0, .int .i64 0, .int .i64 0, .int .i64 0, .int .i64 0, .string ⟨#[]⟩, .int .i64 0, .string ⟨#[]⟩, .int .i64 0, .string ⟨#[]⟩] 48) = W := ⟨_, rfl⟩
  obtain ⟨W3, hW3⟩ : ∃ W, W2.alloc (.cells #[.int .i64 0, .int .i64 0, .int .i64 0, .int .i64 0, .int .i64 0, .int .i64 0, .string ⟨#[]⟩, .bool false, .int .i64 0, .int .i64 0, .int .i64 0, .string ⟨#[]⟩, .int .i64 0, .int .i64 0, .int .i64 0, .int .i64 0, .int .i64 0, .string ⟨#[]⟩, .int .i64 0, .string ⟨#[]⟩, .int .i64 0, .string ⟨#[]⟩] 48) = W := ⟨_, rfl⟩
  obtain ⟨W4, hW4⟩ : ∃ W, W3.setRow W2.heap.size #[.int .i64 4, .int .i64 0, .int .i64 0, .int .i64 0, .int .i64 0, .int .i64 0, .string ⟨#[]⟩, .bool false, .int .i64 0, .int .i64 0, .int .i64 0, .string ⟨#[]⟩, .int .i64 0, .int .i64 0, .int .i64 0, .int .i64 0, .int .i64 0, .string ⟨#[]⟩, .int .i64 0, .string ⟨#[]⟩, .int .i64 0, .string ⟨#[]⟩] = W := ⟨_, rfl⟩
  have hb1 := boxB hW1
  have hb2 := boxB hW2
  have hb3 := boxB hW3
  have l1 := (Array.getElem?_eq_some_iff.1 hb1.1).1
  have l2 := (Array.getElem?_eq_some_iff.1 hb2.1).1
  have H3 : NBx w W3 W1.heap.size W2.heap.size A #[.int .i64 0, .int .i64 0, .int .i64 0, .int .i64 0, .int .i64 0, .int .i64 0, .string ⟨#[]⟩, .bool false, .int .i64 0, .int .i64 0, .int .i64 0, .string ⟨#[]⟩, .int .i64 0, .int .i64 0, .int .i64 0, .int .i64 0, .int .i64 0, .string ⟨#[]⟩, .int .i64 0, .string ⟨#[]⟩, .int .i64 0, .string ⟨#[]⟩] #[.int .i64 0, .int .i64 0, .int .i64 0, .int .i64 0, .int .i64 0, .int .i64 0, .string ⟨#[]⟩, .bool false, .int .i64 0, .int .i64 0, .int .i64 0, .string ⟨#[]⟩, .int .i64 0, .int .i64 0, .int .i64 0, .int .i64 0, .int .i64 0, .string ⟨#[]⟩, .int .i64 0, .string ⟨#[]⟩, .int .i64 0, .string ⟨#[]⟩] := ⟨hkeep (hkeep hb1.1 hb2.2) hb3.2, hkeep hb2.1 hb3.2, hb3.1, chainB hb1.2 (chainB hb2.2 hb3.2), l1, l2⟩
  have H4 : Hid (NBx w W4 W1.heap.size W2.heap.size A #[.int .i64 0, .int .i64 0, .int .i64 0, .int .i64 0, .int .i64 0, .int .i64 0, .string ⟨#[]⟩, .bool false, .int .i64 0, .int .i64 0, .int .i64 0, .string ⟨#[]⟩, .int .i64 0, .int .i64 0, .int .i64 0, .int .i64 0, .int .i64 0, .string ⟨#[]⟩, .int .i64 0, .string ⟨#[]⟩, .int .i64 0, .string ⟨#[]⟩] #[.int .i64 4, .int .i64 0, .int .i64 0, .int .i64 0, .int .i64 0, .int .i64 0, .string ⟨#[]⟩, .bool false, .int .i64 0, .int .i64 0, .int .i64 0, .string ⟨#[]⟩, .int .i64 0, .int .i64 0, .int .i64 0, .int .i64 0, .int .i64 0, .string ⟨#[]⟩, .int .i64 0, .string ⟨#[]⟩, .int .i64 0, .string ⟨#[]⟩]) := by rw [← hW4]; exact H3.row _
  have nt := noteT_of H3.box rfl rfl (by simp [Value.oneCell']) hW4
  have x0 := cell_of (hkeep hb1.1 hb2.2) 0
  have y0 := cell_of H4.out.par 0
  have y4 := cell_of H4.out.par 4
  have y12 := cell_of H4.out.par 12
  have y13 := cell_of H4.out.par 13
  have y14 := cell_of H4.out.par 14
  have v4 := cell_of H4.out.box 4
  have v12 := cell_of H4.out.box 12
  have v13 := cell_of H4.out.box 13
  have v14 := cell_of H4.out.box 14
  have vf := free_of H4.out.box
  rw [← hA] at x0 y0 y4 y12 y13 y14
  simp at x0 y0 y4 y12 y13 y14 v4 v12 v13 v14
  rw [hA]
  clear hA H3 hb1 hb2 hb3 l1 l2 hW4
  go_enter Try.func60, Try.ntmps60
  go_upto_region 1 with fail
  go_upto_region 2 with fail
  clear hW1 hW2 hW3 nt x0
  have hne : w.heap.size ≠ W2.heap.size := by have := H4.out.lt2; have := H4.out.lt3; omega
  have hne2 : W2.heap.size ≠ w.heap.size := fun h => hne h.symm
  go_upto_region 10 with fail
  go_region_held3 (fun w' => w'.cell? ⟨w.heap.size, 4, none⟩ = some (.int .i64 client) ∧ w'.cell? ⟨w.heap.size, 12, none⟩ = some (.int .i64 life) ∧ w'.cell? ⟨w.heap.size, 13, none⟩ = some (.int .i64 seq) ∧ w'.cell? ⟨w.heap.size, 14, none⟩ = some (.int .i64 err)) (go_keep) (fail)
  obtain ⟨W5, hW5⟩ : ∃ W, (((((W4).setCell ⟨W2.heap.size, 4, none⟩ (.int .i64 client)).setCell ⟨W2.heap.size, 12, none⟩ (.int .i64 life)).setCell ⟨W2.heap.size, 13, none⟩ (.int .i64 seq)).setCell ⟨W2.heap.size, 14, none⟩ (.int .i64 err)).drew = W := ⟨_, rfl⟩
  rw [hW5]
  have H5 : Hid (NBx w W5 W1.heap.size W2.heap.size A #[.int .i64 0, .int .i64 0, .int .i64 0, .int .i64 0, .int .i64 0, .int .i64 0, .string ⟨#[]⟩, .bool false, .int .i64 0, .int .i64 0, .int .i64 0, .string ⟨#[]⟩, .int .i64 0, .int .i64 0, .int .i64 0, .int .i64 0, .int .i64 0, .string ⟨#[]⟩, .int .i64 0, .string ⟨#[]⟩, .int .i64 0, .string ⟨#[]⟩] #[.int .i64 4, .int .i64 0, .int .i64 0, .int .i64 0, .int .i64 client, .int .i64 0, .string ⟨#[]⟩, .bool false, .int .i64 0, .int .i64 0, .int .i64 0, .string ⟨#[]⟩, .int .i64 life, .int .i64 seq, .int .i64 err, .int .i64 0, .int .i64 0, .string ⟨#[]⟩, .int .i64 0, .string ⟨#[]⟩, .int .i64 0, .string ⟨#[]⟩]) := by
    rw [← hW5]
    have b := (((((H4.out).set 4 (.int .i64 client)).set 12 (.int .i64 life)).set 13 (.int .i64 seq)).set 14 (.int .i64 err)).drew
    simp only [List.setIfInBounds_toArray, List.set_cons_zero, List.set_cons_succ] at b
    exact b
  go_upto_region 13 with fail
  have nl := noteS_of H5.out.box rfl
  obtain ⟨W6, hW6⟩ : ∃ W, W5.setRow W1.heap.size #[.int .i64 4, .int .i64 0, .int .i64 0, .int .i64 0, .int .i64 client, .int .i64 0, .string ⟨#[]⟩, .bool false, .int .i64 0, .int .i64 0, .int .i64 0, .string ⟨#[]⟩, .int .i64 life, .int .i64 seq, .int .i64 err, .int .i64 0, .int .i64 0, .string ⟨#[]⟩, .int .i64 0, .string ⟨#[]⟩, .int .i64 0, .string ⟨#[]⟩] = W := ⟨_, rfl⟩
  have nt2 := noteT_of H5.out.res rfl rfl (by simp [Value.oneCell']) hW6
  have HF : Hid (W6.heap[W1.heap.size]? = some (.cells #[.int .i64 4, .int .i64 0, .int .i64 0, .int .i64 0, .int .i64 client, .int .i64 0, .string ⟨#[]⟩, .bool false, .int .i64 0, .int .i64 0, .int .i64 0, .string ⟨#[]⟩, .int .i64 life, .int .i64 seq, .int .i64 err, .int .i64 0, .int .i64 0, .string ⟨#[]⟩, .int .i64 0, .string ⟨#[]⟩, .int .i64 0, .string ⟨#[]⟩] 48 (0, 0)) ∧ Below w.heap.size w W6) := ⟨by rw [← hW6]; exact setRow_heap _ _ _ _ _ _ H5.out.res, by rw [← hW6]; exact below_setRow H5.out.bel (by have := H5.out.lt2; omega) _⟩
  clear hW5 hW6 H5 H4 vf y0 y4 y12 y13 y14 v4 v12 v13 v14
  go_wp2
  refine bodyPost_ret (results_cell_row rfl _ _ W1.heap.size _ _ _ _ rfl HF.out.1 Try.underlying48 rfl Try.sizeNote) rfl ?_
  exact ⟨rfl, HF.out.2⟩

set_option maxRecDepth 20000 in
set_option maxHeartbeats 8000000 in
theorem named_5 (epoch vers next client : Int) (e : En) (life seq err : Int) (op : Opn) (w : World) : Calls Try.prog 60 #[.agg #[.int .i64 5, .int .i64 epoch, .int .i64 vers, .int .i64 next, .int .i64 client, .int .i64 e.d, .string e.nm, .bool e.neg, .int .i64 e.id, .int .i64 e.kind, .int .i64 e.mode, .string e.tg, .int .i64 life, .int .i64 seq, .int .i64 err, .int .i64 op.kind, .int .i64 op.dir, .string op.nm, .int .i64 op.dst, .string op.new, .int .i64 op.mode, .string op.tg]] w fun x w' => x = .returned (.agg #[.int .i64 5, .int .i64 0, .int .i64 0, .int .i64 0, .int .i64 client, .int .i64 0, .string ⟨#[]⟩, .bool false, .int .i64 0, .int .i64 0, .int .i64 0, .string ⟨#[]⟩, .int .i64 life, .int .i64 seq, .int .i64 err, .int .i64 op.kind, .int .i64 op.dir, .string op.nm, .int .i64 op.dst, .string op.new, .int .i64 op.mode, .string op.tg]) ∧ Below w.heap.size w w' := by
  obtain ⟨A, hA⟩ : ∃ A, (#[.int .i64 5, .int .i64 epoch, .int .i64 vers, .int .i64 next, .int .i64 client, .int .i64 e.d, .string e.nm, .bool e.neg, .int .i64 e.id, .int .i64 e.kind, .int .i64 e.mode, .string e.tg, .int .i64 life, .int .i64 seq, .int .i64 err, .int .i64 op.kind, .int .i64 op.dir, .string op.nm, .int .i64 op.dst, .string op.new, .int .i64 op.mode, .string op.tg] : Array Value) = A := ⟨_, rfl⟩
  obtain ⟨W1, hW1⟩ : ∃ W, w.alloc (.cells A 48) = W := ⟨_, rfl⟩
  obtain ⟨W2, hW2⟩ : ∃ W, W1.alloc (.cells #[.int .i64 0, .int .i64 0, .int .i64 0, .int .i64 0, .int .i64 0, .int .i64 0, .string ⟨#[]⟩, .bool false, .int .i64 0, .int .i64 0, .int .i64 0, .string ⟨#[]⟩, .int .i64 0, .int .i64 0, .int .i64 0, .int .i64 0, .int .i64 0, .string ⟨#[]⟩, .int .i64 0, .string ⟨#[]⟩, .int .i64 0, .string ⟨#[]⟩] 48) = W := ⟨_, rfl⟩
  obtain ⟨W3, hW3⟩ : ∃ W, W2.alloc (.cells #[.int .i64 0, .int .i64 0, .int .i64 0, .int .i64 0, .int .i64 0, .int .i64 0, .string ⟨#[]⟩, .bool false, .int .i64 0, .int .i64 0, .int .i64 0, .string ⟨#[]⟩, .int .i64 0, .int .i64 0, .int .i64 0, .int .i64 0, .int .i64 0, .string ⟨#[]⟩, .int .i64 0, .string ⟨#[]⟩, .int .i64 0, .string ⟨#[]⟩] 48) = W := ⟨_, rfl⟩
  obtain ⟨W4, hW4⟩ : ∃ W, W3.setRow W2.heap.size #[.int .i64 5, .int .i64 0, .int .i64 0, .int .i64 0, .int .i64 0, .int .i64 0, .string ⟨#[]⟩, .bool false, .int .i64 0, .int .i64 0, .int .i64 0, .string ⟨#[]⟩, .int .i64 0, .int .i64 0, .int .i64 0, .int .i64 0, .int .i64 0, .string ⟨#[]⟩, .int .i64 0, .string ⟨#[]⟩, .int .i64 0, .string ⟨#[]⟩] = W := ⟨_, rfl⟩
  have hb1 := boxB hW1
  have hb2 := boxB hW2
  have hb3 := boxB hW3
  have l1 := (Array.getElem?_eq_some_iff.1 hb1.1).1
  have l2 := (Array.getElem?_eq_some_iff.1 hb2.1).1
  have H3 : NBx w W3 W1.heap.size W2.heap.size A #[.int .i64 0, .int .i64 0, .int .i64 0, .int .i64 0, .int .i64 0, .int .i64 0, .string ⟨#[]⟩, .bool false, .int .i64 0, .int .i64 0, .int .i64 0, .string ⟨#[]⟩, .int .i64 0, .int .i64 0, .int .i64 0, .int .i64 0, .int .i64 0, .string ⟨#[]⟩, .int .i64 0, .string ⟨#[]⟩, .int .i64 0, .string ⟨#[]⟩] #[.int .i64 0, .int .i64 0, .int .i64 0, .int .i64 0, .int .i64 0, .int .i64 0, .string ⟨#[]⟩, .bool false, .int .i64 0, .int .i64 0, .int .i64 0, .string ⟨#[]⟩, .int .i64 0, .int .i64 0, .int .i64 0, .int .i64 0, .int .i64 0, .string ⟨#[]⟩, .int .i64 0, .string ⟨#[]⟩, .int .i64 0, .string ⟨#[]⟩] := ⟨hkeep (hkeep hb1.1 hb2.2) hb3.2, hkeep hb2.1 hb3.2, hb3.1, chainB hb1.2 (chainB hb2.2 hb3.2), l1, l2⟩
  have H4 : Hid (NBx w W4 W1.heap.size W2.heap.size A #[.int .i64 0, .int .i64 0, .int .i64 0, .int .i64 0, .int .i64 0, .int .i64 0, .string ⟨#[]⟩, .bool false, .int .i64 0, .int .i64 0, .int .i64 0, .string ⟨#[]⟩, .int .i64 0, .int .i64 0, .int .i64 0, .int .i64 0, .int .i64 0, .string ⟨#[]⟩, .int .i64 0, .string ⟨#[]⟩, .int .i64 0, .string ⟨#[]⟩] #[.int .i64 5, .int .i64 0, .int .i64 0, .int .i64 0, .int .i64 0, .int .i64 0, .string ⟨#[]⟩, .bool false, .int .i64 0, .int .i64 0, .int .i64 0, .string ⟨#[]⟩, .int .i64 0, .int .i64 0, .int .i64 0, .int .i64 0, .int .i64 0, .string ⟨#[]⟩, .int .i64 0, .string ⟨#[]⟩, .int .i64 0, .string ⟨#[]⟩]) := by rw [← hW4]; exact H3.row _
  have nt := noteT_of H3.box rfl rfl (by simp [Value.oneCell']) hW4
  have x0 := cell_of (hkeep hb1.1 hb2.2) 0
  have y0 := cell_of H4.out.par 0
  have y4 := cell_of H4.out.par 4
  have y12 := cell_of H4.out.par 12
  have y13 := cell_of H4.out.par 13
  have y14 := cell_of H4.out.par 14
  have y15 := cell_of H4.out.par 15
  have y16 := cell_of H4.out.par 16
  have y17 := cell_of H4.out.par 17
  have y18 := cell_of H4.out.par 18
  have y19 := cell_of H4.out.par 19
  have y20 := cell_of H4.out.par 20
  have y21 := cell_of H4.out.par 21
  have v4 := cell_of H4.out.box 4
  have v12 := cell_of H4.out.box 12
  have v13 := cell_of H4.out.box 13
  have v14 := cell_of H4.out.box 14
  have v15 := cell_of H4.out.box 15
  have v16 := cell_of H4.out.box 16
  have v17 := cell_of H4.out.box 17
  have v18 := cell_of H4.out.box 18
  have v19 := cell_of H4.out.box 19
  have v20 := cell_of H4.out.box 20
  have v21 := cell_of H4.out.box 21
  have vf := free_of H4.out.box
  rw [← hA] at x0 y0 y4 y12 y13 y14 y15 y16 y17 y18 y19 y20 y21
  simp at x0 y0 y4 y12 y13 y14 y15 y16 y17 y18 y19 y20 y21 v4 v12 v13 v14 v15 v16 v17 v18 v19 v20 v21
  rw [hA]
  clear hA H3 hb1 hb2 hb3 l1 l2 hW4
  go_enter Try.func60, Try.ntmps60
  go_upto_region 1 with fail
  go_upto_region 2 with fail
  clear hW1 hW2 hW3 nt x0
  have hne : w.heap.size ≠ W2.heap.size := by have := H4.out.lt2; have := H4.out.lt3; omega
  have hne2 : W2.heap.size ≠ w.heap.size := fun h => hne h.symm
  go_upto_region 12 with fail
  go_region_held3 (fun w' => w'.cell? ⟨w.heap.size, 4, none⟩ = some (.int .i64 client) ∧ w'.cell? ⟨w.heap.size, 12, none⟩ = some (.int .i64 life) ∧ w'.cell? ⟨w.heap.size, 13, none⟩ = some (.int .i64 seq) ∧ w'.cell? ⟨w.heap.size, 14, none⟩ = some (.int .i64 err) ∧ w'.cell? ⟨w.heap.size, 15, none⟩ = some (.int .i64 op.kind) ∧ w'.cell? ⟨w.heap.size, 16, none⟩ = some (.int .i64 op.dir) ∧ w'.cell? ⟨w.heap.size, 17, none⟩ = some (.string op.nm) ∧ w'.cell? ⟨w.heap.size, 18, none⟩ = some (.int .i64 op.dst) ∧ w'.cell? ⟨w.heap.size, 19, none⟩ = some (.string op.new) ∧ w'.cell? ⟨w.heap.size, 20, none⟩ = some (.int .i64 op.mode) ∧ w'.cell? ⟨w.heap.size, 21, none⟩ = some (.string op.tg)) (go_keep) (fail)
  obtain ⟨W5, hW5⟩ : ∃ W, ((((((((((((W4).setCell ⟨W2.heap.size, 4, none⟩ (.int .i64 client)).setCell ⟨W2.heap.size, 12, none⟩ (.int .i64 life)).setCell ⟨W2.heap.size, 13, none⟩ (.int .i64 seq)).setCell ⟨W2.heap.size, 14, none⟩ (.int .i64 err)).setCell ⟨W2.heap.size, 15, none⟩ (.int .i64 op.kind)).setCell ⟨W2.heap.size, 16, none⟩ (.int .i64 op.dir)).setCell ⟨W2.heap.size, 17, none⟩ (.string op.nm)).setCell ⟨W2.heap.size, 18, none⟩ (.int .i64 op.dst)).setCell ⟨W2.heap.size, 19, none⟩ (.string op.new)).setCell ⟨W2.heap.size, 20, none⟩ (.int .i64 op.mode)).setCell ⟨W2.heap.size, 21, none⟩ (.string op.tg)).drew = W := ⟨_, rfl⟩
  rw [hW5]
  have H5 : Hid (NBx w W5 W1.heap.size W2.heap.size A #[.int .i64 0, .int .i64 0, .int .i64 0, .int .i64 0, .int .i64 0, .int .i64 0, .string ⟨#[]⟩, .bool false, .int .i64 0, .int .i64 0, .int .i64 0, .string ⟨#[]⟩, .int .i64 0, .int .i64 0, .int .i64 0, .int .i64 0, .int .i64 0, .string ⟨#[]⟩, .int .i64 0, .string ⟨#[]⟩, .int .i64 0, .string ⟨#[]⟩] #[.int .i64 5, .int .i64 0, .int .i64 0, .int .i64 0, .int .i64 client, .int .i64 0, .string ⟨#[]⟩, .bool false, .int .i64 0, .int .i64 0, .int .i64 0, .string ⟨#[]⟩, .int .i64 life, .int .i64 seq, .int .i64 err, .int .i64 op.kind, .int .i64 op.dir, .string op.nm, .int .i64 op.dst, .string op.new, .int .i64 op.mode, .string op.tg]) := by
    rw [← hW5]
    have b := ((((((((((((H4.out).set 4 (.int .i64 client)).set 12 (.int .i64 life)).set 13 (.int .i64 seq)).set 14 (.int .i64 err)).set 15 (.int .i64 op.kind)).set 16 (.int .i64 op.dir)).set 17 (.string op.nm)).set 18 (.int .i64 op.dst)).set 19 (.string op.new)).set 20 (.int .i64 op.mode)).set 21 (.string op.tg)).drew
    simp only [List.setIfInBounds_toArray, List.set_cons_zero, List.set_cons_succ] at b
    exact b
  go_upto_region 13 with fail
  have nl := noteS_of H5.out.box rfl
  obtain ⟨W6, hW6⟩ : ∃ W, W5.setRow W1.heap.size #[.int .i64 5, .int .i64 0, .int .i64 0, .int .i64 0, .int .i64 client, .int .i64 0, .string ⟨#[]⟩, .bool false, .int .i64 0, .int .i64 0, .int .i64 0, .string ⟨#[]⟩, .int .i64 life, .int .i64 seq, .int .i64 err, .int .i64 op.kind, .int .i64 op.dir, .string op.nm, .int .i64 op.dst, .string op.new, .int .i64 op.mode, .string op.tg] = W := ⟨_, rfl⟩
  have nt2 := noteT_of H5.out.res rfl rfl (by simp [Value.oneCell']) hW6
  have HF : Hid (W6.heap[W1.heap.size]? = some (.cells #[.int .i64 5, .int .i64 0, .int .i64 0, .int .i64 0, .int .i64 client, .int .i64 0, .string ⟨#[]⟩, .bool false, .int .i64 0, .int .i64 0, .int .i64 0, .string ⟨#[]⟩, .int .i64 life, .int .i64 seq, .int .i64 err, .int .i64 op.kind, .int .i64 op.dir, .string op.nm, .int .i64 op.dst, .string op.new, .int .i64 op.mode, .string op.tg] 48 (0, 0)) ∧ Below w.heap.size w W6) := ⟨by rw [← hW6]; exact setRow_heap _ _ _ _ _ _ H5.out.res, by rw [← hW6]; exact below_setRow H5.out.bel (by have := H5.out.lt2; omega) _⟩
  clear hW5 hW6 H5 H4 vf y0 y4 y12 y13 y14 y15 y16 y17 y18 y19 y20 y21 v4 v12 v13 v14 v15 v16 v17 v18 v19 v20 v21
  go_wp2
  refine bodyPost_ret (results_cell_row rfl _ _ W1.heap.size _ _ _ _ rfl HF.out.1 Try.underlying48 rfl Try.sizeNote) rfl ?_
  exact ⟨rfl, HF.out.2⟩

set_option maxRecDepth 20000 in
set_option maxHeartbeats 8000000 in
theorem named_0 (kind epoch vers next client : Int) (e : En) (life seq err : Int) (op : Opn) (w : World) (k1 : (kind == 1) = false) (k2 : (kind == 2) = false) (k3 : (kind == 3) = false) (k4 : (kind == 4) = false) (k5 : (kind == 5) = false) : Calls Try.prog 60 #[.agg #[.int .i64 kind, .int .i64 epoch, .int .i64 vers, .int .i64 next, .int .i64 client, .int .i64 e.d, .string e.nm, .bool e.neg, .int .i64 e.id, .int .i64 e.kind, .int .i64 e.mode, .string e.tg, .int .i64 life, .int .i64 seq, .int .i64 err, .int .i64 op.kind, .int .i64 op.dir, .string op.nm, .int .i64 op.dst, .string op.new, .int .i64 op.mode, .string op.tg]] w fun x w' => x = .returned (.agg #[.int .i64 kind, .int .i64 0, .int .i64 0, .int .i64 0, .int .i64 0, .int .i64 0, .string ⟨#[]⟩, .bool false, .int .i64 0, .int .i64 0, .int .i64 0, .string ⟨#[]⟩, .int .i64 0, .int .i64 0, .int .i64 0, .int .i64 0, .int .i64 0, .string ⟨#[]⟩, .int .i64 0, .string ⟨#[]⟩, .int .i64 0, .string ⟨#[]⟩]) ∧ Below w.heap.size w w' := by
  obtain ⟨A, hA⟩ : ∃ A, (#[.int .i64 kind, .int .i64 epoch, .int .i64 vers, .int .i64 next, .int .i64 client, .int .i64 e.d, .string e.nm, .bool e.neg, .int .i64 e.id, .int .i64 e.kind, .int .i64 e.mode, .string e.tg, .int .i64 life, .int .i64 seq, .int .i64 err, .int .i64 op.kind, .int .i64 op.dir, .string op.nm, .int .i64 op.dst, .string op.new, .int .i64 op.mode, .string op.tg] : Array Value) = A := ⟨_, rfl⟩
  obtain ⟨W1, hW1⟩ : ∃ W, w.alloc (.cells A 48) = W := ⟨_, rfl⟩
  obtain ⟨W2, hW2⟩ : ∃ W, W1.alloc (.cells #[.int .i64 0, .int .i64 0, .int .i64 0, .int .i64 0, .int .i64 0, .int .i64 0, .string ⟨#[]⟩, .bool false, .int .i64 0, .int .i64 0, .int .i64 0, .string ⟨#[]⟩, .int .i64 0, .int .i64 0, .int .i64 0, .int .i64 0, .int .i64 0, .string ⟨#[]⟩, .int .i64 0, .string ⟨#[]⟩, .int .i64 0, .string ⟨#[]⟩] 48) = W := ⟨_, rfl⟩
  obtain ⟨W3, hW3⟩ : ∃ W, W2.alloc (.cells #[.int .i64 0, .int .i64 0, .int .i64 0, .int .i64 0, .int .i64 0, .int .i64 0, .string ⟨#[]⟩, .bool false, .int .i64 0, .int .i64 0, .int .i64 0, .string ⟨#[]⟩, .int .i64 0, .int .i64 0, .int .i64 0, .int .i64 0, .int .i64 0, .string ⟨#[]⟩, .int .i64 0, .string ⟨#[]⟩, .int .i64 0, .string ⟨#[]⟩] 48) = W := ⟨_, rfl⟩
  obtain ⟨W4, hW4⟩ : ∃ W, W3.setRow W2.heap.size #[.int .i64 kind, .int .i64 0, .int .i64 0, .int .i64 0, .int .i64 0, .int .i64 0, .string ⟨#[]⟩, .bool false, .int .i64 0, .int .i64 0, .int .i64 0, .string ⟨#[]⟩, .int .i64 0, .int .i64 0, .int .i64 0, .int .i64 0, .int .i64 0, .string ⟨#[]⟩, .int .i64 0, .string ⟨#[]⟩, .int .i64 0, .string ⟨#[]⟩] = W := ⟨_, rfl⟩
  have hb1 := boxB hW1
  have hb2 := boxB hW2
  have hb3 := boxB hW3
  have l1 := (Array.getElem?_eq_some_iff.1 hb1.1).1
  have l2 := (Array.getElem?_eq_some_iff.1 hb2.1).1
  have H3 : NBx w W3 W1.heap.size W2.heap.size A #[.int .i64 0, .int .i64 0, .int .i64 0, .int .i64 0, .int .i64 0, .int .i64 0, .string ⟨#[]⟩, .bool false, .int .i64 0, .int .i64 0, .int .i64 0, .string ⟨#[]⟩, .int .i64 0, .int .i64 0, .int .i64 0, .int .i64 0, .int .i64 0, .string ⟨#[]⟩, .int .i64 0, .string ⟨#[]⟩, .int .i64 0, .string ⟨#[]⟩] #[.int .i64 0, .int .i64 0, .int .i64 0, .int .i64 0, .int .i64 0, .int .i64 0, .string ⟨#[]⟩, .bool false, .int .i64 0, .int .i64 0, .int .i64 0, .string ⟨#[]⟩, .int .i64 0, .int .i64 0, .int .i64 0, .int .i64 0, .int .i64 0, .string ⟨#[]⟩, .int .i64 0, .string ⟨#[]⟩, .int .i64 0, .string ⟨#[]⟩] := ⟨hkeep (hkeep hb1.1 hb2.2) hb3.2, hkeep hb2.1 hb3.2, hb3.1, chainB hb1.2 (chainB hb2.2 hb3.2), l1, l2⟩
  have H4 : Hid (NBx w W4 W1.heap.size W2.heap.size A #[.int .i64 0, .int .i64 0, .int .i64 0, .int .i64 0, .int .i64 0, .int .i64 0, .string ⟨#[]⟩, .bool false, .int .i64 0, .int .i64 0, .int .i64 0, .string ⟨#[]⟩, .int .i64 0, .int .i64 0, .int .i64 0, .int .i64 0, .int .i64 0, .string ⟨#[]⟩, .int .i64 0, .string ⟨#[]⟩, .int .i64 0, .string ⟨#[]⟩] #[.int .i64 kind, .int .i64 0, .int .i64 0, .int .i64 0, .int .i64 0, .int .i64 0, .string ⟨#[]⟩, .bool false, .int .i64 0, .int .i64 0, .int .i64 0, .string ⟨#[]⟩, .int .i64 0, .int .i64 0, .int .i64 0, .int .i64 0, .int .i64 0, .string ⟨#[]⟩, .int .i64 0, .string ⟨#[]⟩, .int .i64 0, .string ⟨#[]⟩]) := by rw [← hW4]; exact H3.row _
  have nt := noteT_of H3.box rfl rfl (by simp [Value.oneCell']) hW4
  have x0 := cell_of (hkeep hb1.1 hb2.2) 0
  have y0 := cell_of H4.out.par 0
  have vf := free_of H4.out.box
  rw [← hA] at x0 y0
  simp at x0 y0 
  rw [hA]
  clear hA H3 hb1 hb2 hb3 l1 l2 hW4
  go_enter Try.func60, Try.ntmps60
  go_upto_region 1 with fail
  go_upto_region 2 with fail
  clear hW1 hW2 hW3 nt x0
  go_upto_region 13 with fail
  obtain ⟨W5, hW5⟩ : ∃ W, W4 = W := ⟨_, rfl⟩
  rw [hW5]
  have H5 : Hid (NBx w W5 W1.heap.size W2.heap.size A #[.int .i64 0, .int .i64 0, .int .i64 0, .int .i64 0, .int .i64 0, .int .i64 0, .string ⟨#[]⟩, .bool false, .int .i64 0, .int .i64 0, .int .i64 0, .string ⟨#[]⟩, .int .i64 0, .int .i64 0, .int .i64 0, .int .i64 0, .int .i64 0, .string ⟨#[]⟩, .int .i64 0, .string ⟨#[]⟩, .int .i64 0, .string ⟨#[]⟩] #[.int .i64 kind, .int .i64 0, .int .i64 0, .int .i64 0, .int .i64 0, .int .i64 0, .string ⟨#[]⟩, .bool false, .int .i64 0, .int .i64 0, .int .i64 0, .string ⟨#[]⟩, .int .i64 0, .int .i64 0, .int .i64 0, .int .i64 0, .int .i64 0, .string ⟨#[]⟩, .int .i64 0, .string ⟨#[]⟩, .int .i64 0, .string ⟨#[]⟩]) := by
    rw [← hW5]
    have b := H4.out
    exact b
  have nl := noteS_of H5.out.box rfl
  obtain ⟨W6, hW6⟩ : ∃ W, W5.setRow W1.heap.size #[.int .i64 kind, .int .i64 0, .int .i64 0, .int .i64 0, .int .i64 0, .int .i64 0, .string ⟨#[]⟩, .bool false, .int .i64 0, .int .i64 0, .int .i64 0, .string ⟨#[]⟩, .int .i64 0, .int .i64 0, .int .i64 0, .int .i64 0, .int .i64 0, .string ⟨#[]⟩, .int .i64 0, .string ⟨#[]⟩, .int .i64 0, .string ⟨#[]⟩] = W := ⟨_, rfl⟩
  have nt2 := noteT_of H5.out.res rfl rfl (by simp [Value.oneCell']) hW6
  have HF : Hid (W6.heap[W1.heap.size]? = some (.cells #[.int .i64 kind, .int .i64 0, .int .i64 0, .int .i64 0, .int .i64 0, .int .i64 0, .string ⟨#[]⟩, .bool false, .int .i64 0, .int .i64 0, .int .i64 0, .string ⟨#[]⟩, .int .i64 0, .int .i64 0, .int .i64 0, .int .i64 0, .int .i64 0, .string ⟨#[]⟩, .int .i64 0, .string ⟨#[]⟩, .int .i64 0, .string ⟨#[]⟩] 48 (0, 0)) ∧ Below w.heap.size w W6) := ⟨by rw [← hW6]; exact setRow_heap _ _ _ _ _ _ H5.out.res, by rw [← hW6]; exact below_setRow H5.out.bel (by have := H5.out.lt2; omega) _⟩
  clear hW5 hW6 H5 H4 vf y0 
  go_wp2
  refine bodyPost_ret (results_cell_row rfl _ _ W1.heap.size _ _ _ _ rfl HF.out.1 Try.underlying48 rfl Try.sizeNote) rfl ?_
  exact ⟨rfl, HF.out.2⟩

theorem named_p (n : Nt) (w : World) : Calls Try.prog 60 #[.agg n.arr] w fun x w' => x = .returned (.agg (onlyN n).arr) ∧ Below w.heap.size w w' := by
  obtain ⟨kind, epoch, vers, next, client, e, life, seq, err, op⟩ := n
  by_cases k1 : kind = 1
  · subst k1; exact named_1 epoch vers next client e life seq err op w
  by_cases k2 : kind = 2
  · subst k2; exact named_2 epoch vers next client e life seq err op w
  by_cases k3 : kind = 3
  · subst k3; exact named_3 epoch vers next client e life seq err op w
  by_cases k4 : kind = 4
  · subst k4; exact named_4 epoch vers next client e life seq err op w
  by_cases k5 : kind = 5
  · subst k5; exact named_5 epoch vers next client e life seq err op w
  have ho : onlyN ⟨kind, epoch, vers, next, client, e, life, seq, err, op⟩ = { zeroNt with kind := kind } := by
    unfold onlyN
    simp only []
    rw [if_neg k1, if_neg k2, if_neg k3, if_neg k4, if_neg k5]
  rw [ho]
  exact named_0 kind epoch vers next client e life seq err op w (by simpa using k1) (by simpa using k2) (by simpa using k3) (by simpa using k4) (by simpa using k5)
end
end Go.Proofs.Ytekonakanieeaaa
