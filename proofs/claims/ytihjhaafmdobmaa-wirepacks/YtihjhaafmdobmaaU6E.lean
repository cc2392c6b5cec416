/- The document's own 'only': a note's fields that its kind names. -/
import Derived.Test.YtihjhaafmdobmaaU6D
import Derived.Test.YtihjhaafmdobmaaWvC
namespace Go.Proofs.Ytihjhaafmdobmaa
open Go.RowKit Go.Lib
attribute [local go_sem ↓ high] loadN storeN

def onlyF (n : Nt) : Nt := if n.kind = 1 ∨ n.kind = 2 ∨ n.kind = 3 ∨ n.kind = 4 ∨ n.kind = 5 then onlyN n else zeroNt
set_option maxRecDepth 20000 in
set_option maxHeartbeats 4000000 in
theorem only_1 (epoch vers next client : Int) (e : En) (life seq err : Int) (op : Opn) (w : World) : Calls Try.prog 133 #[.agg #[.int .i64 1, .int .i64 epoch, .int .i64 vers, .int .i64 next, .int .i64 client, .int .i64 e.d, .string e.nm, .bool e.neg, .int .i64 e.id, .int .i64 e.kind, .int .i64 e.mode, .string e.tg, .int .i64 life, .int .i64 seq, .int .i64 err, .int .i64 op.kind, .int .i64 op.dir, .string op.nm, .int .i64 op.dst, .string op.new, .int .i64 op.mode, .string op.tg]] w fun x w' => x = .returned (.agg #[.int .i64 1, .int .i64 epoch, .int .i64 0, .int .i64 0, .int .i64 0, .int .i64 0, .string ⟨#[]⟩, .bool false, .int .i64 0, .int .i64 0, .int .i64 0, .string ⟨#[]⟩, .int .i64 0, .int .i64 0, .int .i64 0, .int .i64 0, .int .i64 0, .string ⟨#[]⟩, .int .i64 0, .string ⟨#[]⟩, .int .i64 0, .string ⟨#[]⟩]) ∧ Below w.heap.size w w' := by
  obtain ⟨W, hW⟩ : ∃ W, w.alloc (.cells #[.int .i64 1, .int .i64 epoch, .int .i64 vers, .int .i64 next, .int .i64 client, .int .i64 e.d, .string e.nm, .bool e.neg, .int .i64 e.id, .int .i64 e.kind, .int .i64 e.mode, .string e.tg, .int .i64 life, .int .i64 seq, .int .i64 err, .int .i64 op.kind, .int .i64 op.dir, .string op.nm, .int .i64 op.dst, .string op.new, .int .i64 op.mode, .string op.tg] 81) = W := ⟨_, rfl⟩
  obtain ⟨W2, hW2⟩ : ∃ W2, W.alloc (.cells #[.int .i64 0, .int .i64 0, .int .i64 0, .int .i64 0, .int .i64 0, .int .i64 0, .string ⟨#[]⟩, .bool false, .int .i64 0, .int .i64 0, .int .i64 0, .string ⟨#[]⟩, .int .i64 0, .int .i64 0, .int .i64 0, .int .i64 0, .int .i64 0, .string ⟨#[]⟩, .int .i64 0, .string ⟨#[]⟩, .int .i64 0, .string ⟨#[]⟩] 81) = W2 := ⟨_, rfl⟩
  obtain ⟨W3, hW3⟩ : ∃ W3, W2.setRow W.heap.size #[.int .i64 1, .int .i64 epoch, .int .i64 0, .int .i64 0, .int .i64 0, .int .i64 0, .string ⟨#[]⟩, .bool false, .int .i64 0, .int .i64 0, .int .i64 0, .string ⟨#[]⟩, .int .i64 0, .int .i64 0, .int .i64 0, .int .i64 0, .int .i64 0, .string ⟨#[]⟩, .int .i64 0, .string ⟨#[]⟩, .int .i64 0, .string ⟨#[]⟩] = W3 := ⟨_, rfl⟩
  have hb := boxB hW
  have hb2 := boxB hW2
  have nt := noteT_of hb2.1 rfl rfl (by simp [Value.oneCell']) hW3
  have HF : Hid (W3.heap[W.heap.size]? = some (.cells #[.int .i64 1, .int .i64 epoch, .int .i64 0, .int .i64 0, .int .i64 0, .int .i64 0, .string ⟨#[]⟩, .bool false, .int .i64 0, .int .i64 0, .int .i64 0, .string ⟨#[]⟩, .int .i64 0, .int .i64 0, .int .i64 0, .int .i64 0, .int .i64 0, .string ⟨#[]⟩, .int .i64 0, .string ⟨#[]⟩, .int .i64 0, .string ⟨#[]⟩] 81 (0, 0)) ∧ Below w.heap.size w W3) := ⟨by rw [← hW3]; exact setRow_heap _ _ _ _ _ _ hb2.1, by rw [← hW3]; exact below_setRow (chainB hb.2 hb2.2) hb.2.size _⟩
  have n1 := hkeep hb.1 hb2.2
  have x0 := cell_of n1 0
  have x1 := cell_of n1 1
  simp at x0 x1
  clear hb hb2 n1 hW3
  go_enter Try.func133, Try.ntmps133
  go_upto_region 1 with fail
  clear hW hW2
  go_wp2
  refine bodyPost_ret (results_cell_row rfl _ _ W.heap.size _ _ _ _ rfl HF.out.1 Try.underlying81 rfl Try.sizeNote) rfl ?_
  exact ⟨rfl, HF.out.2⟩
set_option maxRecDepth 20000 in
set_option maxHeartbeats 4000000 in
theorem only_2 (epoch vers next client : Int) (e : En) (life seq err : Int) (op : Opn) (w : World) : Calls Try.prog 133 #[.agg #[.int .i64 2, .int .i64 epoch, .int .i64 vers, .int .i64 next, .int .i64 client, .int .i64 e.d, .string e.nm, .bool e.neg, .int .i64 e.id, .int .i64 e.kind, .int .i64 e.mode, .string e.tg, .int .i64 life, .int .i64 seq, .int .i64 err, .int .i64 op.kind, .int .i64 op.dir, .string op.nm, .int .i64 op.dst, .string op.new, .int .i64 op.mode, .string op.tg]] w fun x w' => x = .returned (.agg #[.int .i64 2, .int .i64 epoch, .int .i64 vers, .int .i64 next, .int .i64 0, .int .i64 0, .string ⟨#[]⟩, .bool false, .int .i64 0, .int .i64 0, .int .i64 0, .string ⟨#[]⟩, .int .i64 0, .int .i64 0, .int .i64 0, .int .i64 0, .int .i64 0, .string ⟨#[]⟩, .int .i64 0, .string ⟨#[]⟩, .int .i64 0, .string ⟨#[]⟩]) ∧ Below w.heap.size w w' := by
  obtain ⟨W, hW⟩ : ∃ W, w.alloc (.cells #[.int .i64 2, .int .i64 epoch, .int .i64 vers, .int .i64 next, .int .i64 client, .int .i64 e.d, .string e.nm, .bool e.neg, .int .i64 e.id, .int .i64 e.kind, .int .i64 e.mode, .string e.tg, .int .i64 life, .int .i64 seq, .int .i64 err, .int .i64 op.kind, .int .i64 op.dir, .string op.nm, .int .i64 op.dst, .string op.new, .int .i64 op.mode, .string op.tg] 81) = W := ⟨_, rfl⟩
  obtain ⟨W2, hW2⟩ : ∃ W2, W.alloc (.cells #[.int .i64 0, .int .i64 0, .int .i64 0, .int .i64 0, .int .i64 0, .int .i64 0, .string ⟨#[]⟩, .bool false, .int .i64 0, .int .i64 0, .int .i64 0, .string ⟨#[]⟩, .int .i64 0, .int .i64 0, .int .i64 0, .int .i64 0, .int .i64 0, .string ⟨#[]⟩, .int .i64 0, .string ⟨#[]⟩, .int .i64 0, .string ⟨#[]⟩] 81) = W2 := ⟨_, rfl⟩
  obtain ⟨W3, hW3⟩ : ∃ W3, W2.setRow W.heap.size #[.int .i64 2, .int .i64 epoch, .int .i64 vers, .int .i64 next, .int .i64 0, .int .i64 0, .string ⟨#[]⟩, .bool false, .int .i64 0, .int .i64 0, .int .i64 0, .string ⟨#[]⟩, .int .i64 0, .int .i64 0, .int .i64 0, .int .i64 0, .int .i64 0, .string ⟨#[]⟩, .int .i64 0, .string ⟨#[]⟩, .int .i64 0, .string ⟨#[]⟩] = W3 := ⟨_, rfl⟩
  have hb := boxB hW
  have hb2 := boxB hW2
  have nt := noteT_of hb2.1 rfl rfl (by simp [Value.oneCell']) hW3
  have HF : Hid (W3.heap[W.heap.size]? = some (.cells #[.int .i64 2, .int .i64 epoch, .int .i64 vers, .int .i64 next, .int .i64 0, .int .i64 0, .string ⟨#[]⟩, .bool false, .int .i64 0, .int .i64 0, .int .i64 0, .string ⟨#[]⟩, .int .i64 0, .int .i64 0, .int .i64 0, .int .i64 0, .int .i64 0, .string ⟨#[]⟩, .int .i64 0, .string ⟨#[]⟩, .int .i64 0, .string ⟨#[]⟩] 81 (0, 0)) ∧ Below w.heap.size w W3) := ⟨by rw [← hW3]; exact setRow_heap _ _ _ _ _ _ hb2.1, by rw [← hW3]; exact below_setRow (chainB hb.2 hb2.2) hb.2.size _⟩
  have n1 := hkeep hb.1 hb2.2
  have x0 := cell_of n1 0
  have x1 := cell_of n1 1
  have x2 := cell_of n1 2
  have x3 := cell_of n1 3
  simp at x0 x1 x2 x3
  clear hb hb2 n1 hW3
  go_enter Try.func133, Try.ntmps133
  go_upto_region 1 with fail
  clear hW hW2
  go_wp2
  refine bodyPost_ret (results_cell_row rfl _ _ W.heap.size _ _ _ _ rfl HF.out.1 Try.underlying81 rfl Try.sizeNote) rfl ?_
  exact ⟨rfl, HF.out.2⟩
set_option maxRecDepth 20000 in
set_option maxHeartbeats 4000000 in
theorem only_3 (epoch vers next client : Int) (e : En) (life seq err : Int) (op : Opn) (w : World) : Calls Try.prog 133 #[.agg #[.int .i64 3, .int .i64 epoch, .int .i64 vers, .int .i64 next, .int .i64 client, .int .i64 e.d, .string e.nm, .bool e.neg, .int .i64 e.id, .int .i64 e.kind, .int .i64 e.mode, .string e.tg, .int .i64 life, .int .i64 seq, .int .i64 err, .int .i64 op.kind, .int .i64 op.dir, .string op.nm, .int .i64 op.dst, .string op.new, .int .i64 op.mode, .string op.tg]] w fun x w' => x = .returned (.agg #[.int .i64 3, .int .i64 0, .int .i64 0, .int .i64 0, .int .i64 0, .int .i64 e.d, .string e.nm, .bool e.neg, .int .i64 e.id, .int .i64 e.kind, .int .i64 e.mode, .string e.tg, .int .i64 0, .int .i64 0, .int .i64 0, .int .i64 0, .int .i64 0, .string ⟨#[]⟩, .int .i64 0, .string ⟨#[]⟩, .int .i64 0, .string ⟨#[]⟩]) ∧ Below w.heap.size w w' := by
  obtain ⟨W, hW⟩ : ∃ W, w.alloc (.cells #[.int .i64 3, .int .i64 epoch, .int .i64 vers, .int .i64 next, .int .i64 client, .int .i64 e.d, .string e.nm, .bool e.neg, .int .i64 e.id, .int .i64 e.kind, .int .i64 e.mode, .string e.tg, .int .i64 life, .int .i64 seq, .int .i64 err, .int .i64 op.kind, .int .i64 op.dir, .string op.nm, .int .i64 op.dst, .string op.new, .int .i64 op.mode, .string op.tg] 81) = W := ⟨_, rfl⟩
  obtain ⟨W2, hW2⟩ : ∃ W2, W.alloc (.cells #[.int .i64 0, .int .i64 0, .int .i64 0, .int .i64 0, .int .i64 0, .int .i64 0, .string ⟨#[]⟩, .bool false, .int .i64 0, .int .i64 0, .int .i64 0, .string ⟨#[]⟩, .int .i64 0, .int .i64 0, .int .i64 0, .int .i64 0, .int .i64 0, .string ⟨#[]⟩, .int .i64 0, .string ⟨#[]⟩, .int .i64 0, .string ⟨#[]⟩] 81) = W2 := ⟨_, rfl⟩
  obtain ⟨W3, hW3⟩ : ∃ W3, W2.setRow W.heap.size #[.int .i64 3, .int .i64 0, .int .i64 0, .int .i64 0, .int .i64 0, .int .i64 e.d, .string e.nm, .bool e.neg, .int .i64 e.id, .int .i64 e.kind, .int .i64 e.mode, .string e.tg, .int .i64 0, .int .i64 0, .int .i64 0, .int .i64 0, .int .i64 0, .string ⟨#[]⟩, .int .i64 0, .string ⟨#[]⟩, .int .i64 0, .string ⟨#[]⟩] = W3 := ⟨_, rfl⟩
  have hb := boxB hW
  have hb2 := boxB hW2
  have nt := noteT_of hb2.1 rfl rfl (by simp [Value.oneCell']) hW3
  have HF : Hid (W3.heap[W.heap.size]? = some (.cells #[.int .i64 3, .int .i64 0, .int .i64 0, .int .i64 0, .int .i64 0, .int .i64 e.d, .string e.nm, .bool e.neg, .int .i64 e.id, .int .i64 e.kind, .int .i64 e.mode, .string e.tg, .int .i64 0, .int .i64 0, .int .i64 0, .int .i64 0, .int .i64 0, .string ⟨#[]⟩, .int .i64 0, .string ⟨#[]⟩, .int .i64 0, .string ⟨#[]⟩] 81 (0, 0)) ∧ Below w.heap.size w W3) := ⟨by rw [← hW3]; exact setRow_heap _ _ _ _ _ _ hb2.1, by rw [← hW3]; exact below_setRow (chainB hb.2 hb2.2) hb.2.size _⟩
  have n1 := hkeep hb.1 hb2.2
  have x0 := cell_of n1 0
  have x5 := cell_of n1 5
  have x6 := cell_of n1 6
  have x7 := cell_of n1 7
  have x8 := cell_of n1 8
  have x9 := cell_of n1 9
  have x10 := cell_of n1 10
  have x11 := cell_of n1 11
  simp at x0 x5 x6 x7 x8 x9 x10 x11
  clear hb hb2 n1 hW3
  go_enter Try.func133, Try.ntmps133
  go_upto_region 1 with fail
  clear hW hW2
  go_wp2
  refine bodyPost_ret (results_cell_row rfl _ _ W.heap.size _ _ _ _ rfl HF.out.1 Try.underlying81 rfl Try.sizeNote) rfl ?_
  exact ⟨rfl, HF.out.2⟩
set_option maxRecDepth 20000 in
set_option maxHeartbeats 4000000 in
theorem only_4 (epoch vers next client : Int) (e : En) (life seq err : Int) (op : Opn) (w : World) : Calls Try.prog 133 #[.agg #[.int .i64 4, .int .i64 epoch, .int .i64 vers, .int .i64 next, .int .i64 client, .int .i64 e.d, .string e.nm, .bool e.neg, .int .i64 e.id, .int .i64 e.kind, .int .i64 e.mode, .string e.tg, .int .i64 life, .int .i64 seq, .int .i64 err, .int .i64 op.kind, .int .i64 op.dir, .string op.nm, .int .i64 op.dst, .string op.new, .int .i64 op.mode, .string op.tg]] w fun x w' => x = .returned (.agg #[.int .i64 4, .int .i64 0, .int .i64 0, .int .i64 0, .int .i64 client, .int .i64 0, .string ⟨#[]⟩, .bool false, .int .i64 0, .int .i64 0, .int .i64 0, .string ⟨#[]⟩, .int .i64 life, .int .i64 seq, .int .i64 err, .int .i64 0, .int .i64 0, .string ⟨#[]⟩, .int .i64 0, .string ⟨#[]⟩, .int .i64 0, .string ⟨#[]⟩]) ∧ Below w.heap.size w w' := by
  obtain ⟨W, hW⟩ : ∃ W, w.alloc (.cells #[.int .i64 4, .int .i64 epoch, .int .i64 vers, .int .i64 next, .int .i64 client, .int .i64 e.d, .string e.nm, .bool e.neg, .int .i64 e.id, .int .i64 e.kind, .int .i64 e.mode, .string e.tg, .int .i64 life, .int .i64 seq, .int .i64 err, .int .i64 op.kind, .int .i64 op.dir, .string op.nm, .int .i64 op.dst, .string op.new, .int .i64 op.mode, .string op.tg] 81) = W := ⟨_, rfl⟩
  obtain ⟨W2, hW2⟩ : ∃ W2, W.alloc (.cells #[.int .i64 0, .int .i64 0, .int .i64 0, .int .i64 0, .int .i64 0, .int .i64 0, .string ⟨#[]⟩, .bool false, .int .i64 0, .int .i64 0, .int .i64 0, .string ⟨#[]⟩, .int .i64 0, .int .i64 0, .int .i64 0, .int .i64 0, .int .i64 0, .string ⟨#[]⟩, .int .i64 0, .string ⟨#[]⟩, .int .i64 0, .string ⟨#[]⟩] 81) = W2 := ⟨_, rfl⟩
  obtain ⟨W3, hW3⟩ : ∃ W3, W2.setRow W.heap.size #[.int .i64 4, .int .i64 0, .int .i64 0, .int .i64 0, .int .i64 client, .int .i64 0, .string ⟨#[]⟩, .bool false, .int .i64 0, .int .i64 0, .int .i64 0, .string ⟨#[]⟩, .int .i64 life, .int .i64 seq, .int .i64 err, .int .i64 0, .int .i64 0, .string ⟨#[]⟩, .int .i64 0, .string ⟨#[]⟩, .int .i64 0, .string ⟨#[]⟩] = W3 := ⟨_, rfl⟩
  have hb := boxB hW
  have hb2 := boxB hW2
  have nt := noteT_of hb2.1 rfl rfl (by simp [Value.oneCell']) hW3
  have HF : Hid (W3.heap[W.heap.size]? = some (.cells #[.int .i64 4, .int .i64 0, .int .i64 0, .int .i64 0, .int .i64 client, .int .i64 0, .string ⟨#[]⟩, .bool false, .int .i64 0, .int .i64 0, .int .i64 0, .string ⟨#[]⟩, .int .i64 life, .int .i64 seq, .int .i64 err, .int .i64 0, .int .i64 0, .string ⟨#[]⟩, .int .i64 0, .string ⟨#[]⟩, .int .i64 0, .string ⟨#[]⟩] 81 (0, 0)) ∧ Below w.heap.size w W3) := ⟨by rw [← hW3]; exact setRow_heap _ _ _ _ _ _ hb2.1, by rw [← hW3]; exact below_setRow (chainB hb.2 hb2.2) hb.2.size _⟩
  have n1 := hkeep hb.1 hb2.2
  have x0 := cell_of n1 0
  have x4 := cell_of n1 4
  have x12 := cell_of n1 12
  have x13 := cell_of n1 13
  have x14 := cell_of n1 14
  simp at x0 x4 x12 x13 x14
  clear hb hb2 n1 hW3
  go_enter Try.func133, Try.ntmps133
  go_upto_region 1 with fail
  clear hW hW2
  go_wp2
  refine bodyPost_ret (results_cell_row rfl _ _ W.heap.size _ _ _ _ rfl HF.out.1 Try.underlying81 rfl Try.sizeNote) rfl ?_
  exact ⟨rfl, HF.out.2⟩
set_option maxRecDepth 20000 in
set_option maxHeartbeats 4000000 in
theorem only_5 (epoch vers next client : Int) (e : En) (life seq err : Int) (op : Opn) (w : World) : Calls Try.prog 133 #[.agg #[.int .i64 5, .int .i64 epoch, .int .i64 vers, .int .i64 next, .int .i64 client, .int .i64 e.d, .string e.nm, .bool e.neg, .int .i64 e.id, .int .i64 e.kind, .int .i64 e.mode, .string e.tg, .int .i64 life, .int .i64 seq, .int .i64 err, .int .i64 op.kind, .int .i64 op.dir, .string op.nm, .int .i64 op.dst, .string op.new, .int .i64 op.mode, .string op.tg]] w fun x w' => x = .returned (.agg #[.int .i64 5, .int .i64 0, .int .i64 0, .int .i64 0, .int .i64 client, .int .i64 0, .string ⟨#[]⟩, .bool false, .int .i64 0, .int .i64 0, .int .i64 0, .string ⟨#[]⟩, .int .i64 life, .int .i64 seq, .int .i64 err, .int .i64 op.kind, .int .i64 op.dir, .string op.nm, .int .i64 op.dst, .string op.new, .int .i64 op.mode, .string op.tg]) ∧ Below w.heap.size w w' := by
  obtain ⟨W, hW⟩ : ∃ W, w.alloc (.cells #[.int .i64 5, .int .i64 epoch, .int .i64 vers, .int .i64 next, .int .i64 client, .int .i64 e.d, .string e.nm, .bool e.neg, .int .i64 e.id, .int .i64 e.kind, .int .i64 e.mode, .string e.tg, .int .i64 life, .int .i64 seq, .int .i64 err, .int .i64 op.kind, .int .i64 op.dir, .string op.nm, .int .i64 op.dst, .string op.new, .int .i64 op.mode, .string op.tg] 81) = W := ⟨_, rfl⟩
  obtain ⟨W2, hW2⟩ : ∃ W2, W.alloc (.cells #[.int .i64 0, .int .i64 0, .int .i64 0, .int .i64 0, .int .i64 0, .int .i64 0, .string ⟨#[]⟩, .bool false, .int .i64 0, .int .i64 0, .int .i64 0, .string ⟨#[]⟩, .int .i64 0, .int .i64 0, .int .i64 0, .int .i64 0, .int .i64 0, .string ⟨#[]⟩, .int .i64 0, .string ⟨#[]⟩, .int .i64 0, .string ⟨#[]⟩] 81) = W2 := ⟨_, rfl⟩
  obtain ⟨W3, hW3⟩ : ∃ W3, W2.setRow W.heap.size #[.int .i64 5, .int .i64 0, .int .i64 0, .int .i64 0, .int .i64 client, .int .i64 0, .string ⟨#[]⟩, .bool false, .int .i64 0, .int .i64 0, .int .i64 0, .string ⟨#[]⟩, .int .i64 life, .int .i64 seq, .int .i64 err, .int .i64 op.kind, .int .i64 op.dir, .string op.nm, .int .i64 op.dst, .string op.new, .int .i64 op.mode, .string op.tg] = W3 := ⟨_, rfl⟩
  have hb := boxB hW
  have hb2 := boxB hW2
  have nt := noteT_of hb2.1 rfl rfl (by simp [Value.oneCell']) hW3
  have HF : Hid (W3.heap[W.heap.size]? = some (.cells #[.int .i64 5, .int .i64 0, .int .i64 0, .int .i64 0, .int .i64 client, .int .i64 0, .string ⟨#[]⟩, .bool false, .int .i64 0, .int .i64 0, .int .i64 0, .string ⟨#[]⟩, .int .i64 life, .int .i64 seq, .int .i64 err, .int .i64 op.kind, .int .i64 op.dir, .string op.nm, .int .i64 op.dst, .string op.new, .int .i64 op.mode, .string op.tg] 81 (0, 0)) ∧ Below w.heap.size w W3) := ⟨by rw [← hW3]; exact setRow_heap _ _ _ _ _ _ hb2.1, by rw [← hW3]; exact below_setRow (chainB hb.2 hb2.2) hb.2.size _⟩
  have n1 := hkeep hb.1 hb2.2
  have x0 := cell_of n1 0
  have x4 := cell_of n1 4
  have x12 := cell_of n1 12
  have x13 := cell_of n1 13
  have x14 := cell_of n1 14
  have x15 := cell_of n1 15
  have x16 := cell_of n1 16
  have x17 := cell_of n1 17
  have x18 := cell_of n1 18
  have x19 := cell_of n1 19
  have x20 := cell_of n1 20
  have x21 := cell_of n1 21
  simp at x0 x4 x12 x13 x14 x15 x16 x17 x18 x19 x20 x21
  clear hb hb2 n1 hW3
  go_enter Try.func133, Try.ntmps133
  go_upto_region 1 with fail
  clear hW hW2
  go_wp2
  refine bodyPost_ret (results_cell_row rfl _ _ W.heap.size _ _ _ _ rfl HF.out.1 Try.underlying81 rfl Try.sizeNote) rfl ?_
  exact ⟨rfl, HF.out.2⟩
set_option maxRecDepth 20000 in
set_option maxHeartbeats 4000000 in
theorem only_0 (kind : Int) (epoch vers next client : Int) (e : En) (life seq err : Int) (op : Opn) (w : World) (k1 : kind ≠ 1) (k2 : kind ≠ 2) (k3 : kind ≠ 3) (k4 : kind ≠ 4) (k5 : kind ≠ 5) : Calls Try.prog 133 #[.agg #[.int .i64 kind, .int .i64 epoch, .int .i64 vers, .int .i64 next, .int .i64 client, .int .i64 e.d, .string e.nm, .bool e.neg, .int .i64 e.id, .int .i64 e.kind, .int .i64 e.mode, .string e.tg, .int .i64 life, .int .i64 seq, .int .i64 err, .int .i64 op.kind, .int .i64 op.dir, .string op.nm, .int .i64 op.dst, .string op.new, .int .i64 op.mode, .string op.tg]] w fun x w' => x = .returned (.agg #[.int .i64 0, .int .i64 0, .int .i64 0, .int .i64 0, .int .i64 0, .int .i64 0, .string ⟨#[]⟩, .bool false, .int .i64 0, .int .i64 0, .int .i64 0, .string ⟨#[]⟩, .int .i64 0, .int .i64 0, .int .i64 0, .int .i64 0, .int .i64 0, .string ⟨#[]⟩, .int .i64 0, .string ⟨#[]⟩, .int .i64 0, .string ⟨#[]⟩]) ∧ Below w.heap.size w w' := by
  obtain ⟨W, hW⟩ : ∃ W, w.alloc (.cells #[.int .i64 kind, .int .i64 epoch, .int .i64 vers, .int .i64 next, .int .i64 client, .int .i64 e.d, .string e.nm, .bool e.neg, .int .i64 e.id, .int .i64 e.kind, .int .i64 e.mode, .string e.tg, .int .i64 life, .int .i64 seq, .int .i64 err, .int .i64 op.kind, .int .i64 op.dir, .string op.nm, .int .i64 op.dst, .string op.new, .int .i64 op.mode, .string op.tg] 81) = W := ⟨_, rfl⟩
  obtain ⟨W2, hW2⟩ : ∃ W2, W.alloc (.cells #[.int .i64 0, .int .i64 0, .int .i64 0, .int .i64 0, .int .i64 0, .int .i64 0, .string ⟨#[]⟩, .bool false, .int .i64 0, .int .i64 0, .int .i64 0, .string ⟨#[]⟩, .int .i64 0, .int .i64 0, .int .i64 0, .int .i64 0, .int .i64 0, .string ⟨#[]⟩, .int .i64 0, .string ⟨#[]⟩, .int .i64 0, .string ⟨#[]⟩] 81) = W2 := ⟨_, rfl⟩
  obtain ⟨W3, hW3⟩ : ∃ W3, W2.setRow W.heap.size #[.int .i64 0, .int .i64 0, .int .i64 0, .int .i64 0, .int .i64 0, .int .i64 0, .string ⟨#[]⟩, .bool false, .int .i64 0, .int .i64 0, .int .i64 0, .string ⟨#[]⟩, .int .i64 0, .int .i64 0, .int .i64 0, .int .i64 0, .int .i64 0, .string ⟨#[]⟩, .int .i64 0, .string ⟨#[]⟩, .int .i64 0, .string ⟨#[]⟩] = W3 := ⟨_, rfl⟩
  have hb := boxB hW
  have hb2 := boxB hW2
  have nt := noteT_of hb2.1 rfl rfl (by simp [Value.oneCell']) hW3
  have HF : Hid (W3.heap[W.heap.size]? = some (.cells #[.int .i64 0, .int .i64 0, .int .i64 0, .int .i64 0, .int .i64 0, .int .i64 0, .string ⟨#[]⟩, .bool false, .int .i64 0, .int .i64 0, .int .i64 0, .string ⟨#[]⟩, .int .i64 0, .int .i64 0, .int .i64 0, .int .i64 0, .int .i64 0, .string ⟨#[]⟩, .int .i64 0, .string ⟨#[]⟩, .int .i64 0, .string ⟨#[]⟩] 81 (0, 0)) ∧ Below w.heap.size w W3) := ⟨by rw [← hW3]; exact setRow_heap _ _ _ _ _ _ hb2.1, by rw [← hW3]; exact below_setRow (chainB hb.2 hb2.2) hb.2.size _⟩
  have n1 := hkeep hb.1 hb2.2
  have x0 := cell_of n1 0
  simp at x0
  clear hb hb2 n1 hW3
  have b1 : (kind == 1) = false := by simpa using k1
  have b2 : (kind == 2) = false := by simpa using k2
  have b3 : (kind == 3) = false := by simpa using k3
  have b4 : (kind == 4) = false := by simpa using k4
  have b5 : (kind == 5) = false := by simpa using k5
  go_enter Try.func133, Try.ntmps133
  go_upto_region 1 with fail
  clear hW hW2
  go_wp2
  refine bodyPost_ret (results_cell_row rfl _ _ W.heap.size _ _ _ _ rfl HF.out.1 Try.underlying81 rfl Try.sizeNote) rfl ?_
  exact ⟨rfl, HF.out.2⟩
theorem only_d (n : Nt) (w : World) : Calls Try.prog 133 #[.agg n.arr] w fun x w' => x = .returned (.agg (onlyF n).arr) ∧ Below w.heap.size w w' := by
  obtain ⟨kind, epoch, vers, next, client, e, life, seq, err, op⟩ := n
  by_cases k1 : kind = 1
  · subst k1; exact only_1 epoch vers next client e life seq err op w
  by_cases k2 : kind = 2
  · subst k2; exact only_2 epoch vers next client e life seq err op w
  by_cases k3 : kind = 3
  · subst k3; exact only_3 epoch vers next client e life seq err op w
  by_cases k4 : kind = 4
  · subst k4; exact only_4 epoch vers next client e life seq err op w
  by_cases k5 : kind = 5
  · subst k5; exact only_5 epoch vers next client e life seq err op w
  have ho : onlyF ⟨kind, epoch, vers, next, client, e, life, seq, err, op⟩ = zeroNt := if_neg (by rintro (h | h | h | h | h) <;> contradiction)
  rw [ho]
  exact only_0 kind epoch vers next client e life seq err op w k1 k2 k3 k4 k5
end Go.Proofs.Ytihjhaafmdobmaa
