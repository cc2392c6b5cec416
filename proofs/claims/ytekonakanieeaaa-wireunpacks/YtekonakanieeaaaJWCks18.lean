/- Notes compared. -/
import Derived.Test.YtekonakanieeaaaJWCks17
import Derived.Test.YtekonakanieeaaaJWCks16
namespace Go.Proofs.Ytekonakanieeaaa
section
open Go.RowKit Go.Lib

theorem Try.stoodNt : Try.prog.stoodInHeld 48 = false := by kernel_rfl
theorem Try.guardNt : Try.prog.eqGuardType Try.prog.depth 48 = false := by kernel_rfl
theorem Try.undNt : Try.prog.underlying 48 = some (.struct (Try.prog.fieldsOf 48)) := by kernel_rfl
theorem Try.stoodSn : Try.prog.stoodInHeld 46 = false := by kernel_rfl
theorem Try.undSn : Try.prog.underlying 46 = some (.struct (Try.prog.fieldsOf 46)) := by kernel_rfl
theorem guardNt (w : World) (op : BinOp) (p q : Operand) (xs ys : Array Value) : (eqGuard op 48 p q (.agg xs) (.agg ys)).run Try.prog w = .ok () w := run_eqGuard_agg w op _ p q xs ys Try.guardNt
/-- are two the same (shut) -/
def eqSn (a b c a' b' c' : Int) : Bool := decide (a = a' ∧ b = b' ∧ c = c')
def eqNt (n m : Nt) : Bool := decide (n.kind = m.kind) && (decide (n.epoch = m.epoch) && (decide (n.vers = m.vers) && (decide (n.next = m.next) && (decide (n.client = m.client) && (eqEn n.e m.e && (eqSn n.life n.seq n.err m.life m.seq m.err && eqOp n.op m.op))))))
theorem eqNt_iff (n m : Nt) : eqNt n m = true ↔ n = m := by
  obtain ⟨kind, epoch, vers, next, client, e, life, seq, err, op⟩ := n
  obtain ⟨kind', epoch', vers', next', client', e', life', seq', err', op'⟩ := m
  unfold eqNt eqSn
  simp [eqEn_iff, eqOp_iff, and_assoc]
theorem eqInE9 (w : World) (e f : En) : (Op.equalIn 9999 44 (.agg #[.int .i64 e.d, .string e.nm, .bool e.neg, .int .i64 e.id, .int .i64 e.kind, .int .i64 e.mode, .string e.tg]) (.agg #[.int .i64 f.d, .string f.nm, .bool f.neg, .int .i64 f.id, .int .i64 f.kind, .int .i64 f.mode, .string f.tg])).run Try.prog w = .ok (eqEn e f) w := by
  rw [run_equalIn_agg _ 9998 _ _ _ Try.undE Try.stoodE]
  simp [Program.fieldsOf, Try.underlying44, Op.eqFields, go_sem]
  simp only [bytes_eq]
  unfold eqEn
  obtain ⟨a, b, c, d, g, h, i⟩ := e
  obtain ⟨a', b', c', d', g', h', i'⟩ := f
  by_cases h1 : a = a' <;> by_cases h2 : b = b' <;> by_cases h3 : c = c' <;> by_cases h4 : d = d' <;> by_cases h5 : g = g' <;> by_cases h6 : h = h' <;> by_cases h7 : i = i' <;> simp [h1, h2, h3, h4, h5, h6, h7]
theorem eqInS9 (w : World) (a b c a' b' c' : Int) : (Op.equalIn 9999 46 (.agg #[.int .i64 a, .int .i64 b, .int .i64 c]) (.agg #[.int .i64 a', .int .i64 b', .int .i64 c'])).run Try.prog w = .ok (eqSn a b c a' b' c') w := by
  rw [run_equalIn_agg _ 9998 _ _ _ Try.undSn Try.stoodSn]
  simp [Program.fieldsOf, Try.underlying46, Op.eqFields, go_sem]
  unfold eqSn
  by_cases h1 : a = a' <;> by_cases h2 : b = b' <;> by_cases h3 : c = c' <;> simp [h1, h2, h3]
theorem eqInO9 (w : World) (e f : Opn) : (Op.equalIn 9999 26 (.agg #[.int .i64 e.kind, .int .i64 e.dir, .string e.nm, .int .i64 e.dst, .string e.new, .int .i64 e.mode, .string e.tg]) (.agg #[.int .i64 f.kind, .int .i64 f.dir, .string f.nm, .int .i64 f.dst, .string f.new, .int .i64 f.mode, .string f.tg])).run Try.prog w = .ok (eqOp e f) w := eqInO 9997 w e f
attribute [local go_sem high] eqInE9 eqInS9 eqInO9
set_option maxRecDepth 20000 in
set_option maxHeartbeats 4000000 in
theorem eqInNt (w : World) (n m : Nt) : (Op.equalIn 10000 48 (.agg n.arr) (.agg m.arr)).run Try.prog w = .ok (eqNt n m) w := by
  obtain ⟨kind, epoch, vers, next, client, e, life, seq, err, op⟩ := n
  obtain ⟨kind', epoch', vers', next', client', e', life', seq', err', op'⟩ := m
  unfold Nt.arr
  simp only []
  rw [run_equalIn_agg _ 9999 _ _ _ Try.undNt Try.stoodNt]
  simp [Program.fieldsOf, Try.underlying48, Op.eqFields, go_sem]
  unfold eqNt
  simp only []
  by_cases h1 : kind = kind'
  · by_cases h2 : epoch = epoch'
    · by_cases h3 : vers = vers'
      · by_cases h4 : next = next'
        · by_cases h5 : client = client'
          · subst h1 h2 h3 h4 h5
            cases eqEn e e' <;> cases eqSn life seq err life' seq' err' <;> cases eqOp op op' <;> simp
          · simp [h5]
        · simp [h4]
      · simp [h3]
    · simp [h2]
  · simp [h1]
theorem neqNt (w : World) (n m : Nt) : (binOp .neq 48 (.agg n.arr) (.agg m.arr)).run Try.prog w = .ok (.bool (!eqNt n m)) w := by
  rw [run_neq_struct, eqInNt]; rfl
theorem eqNtB (w : World) (n m : Nt) : (binOp .eql 48 (.agg n.arr) (.agg m.arr)).run Try.prog w = .ok (.bool (eqNt n m)) w := by
  rw [run_eql_struct, eqInNt]; rfl
end
section
open Go.RowKit Go.Lib
attribute [local go_sem ↓ high] loadN storeN

def onlyF (n : Nt) : Nt := if n.kind = 1 ∨ n.kind = 2 ∨ n.kind = 3 ∨ n.kind = 4 ∨ n.kind = 5 then onlyN n else zeroNt
set_option maxRecDepth 20000 in
set_option maxHeartbeats 4000000 in
theorem only_1 (epoch vers next client : Int) (e : En) (life seq err : Int) (op : Opn) (w : World) : Calls Try.prog 85 #[.agg #[.int .i64 1, .int .i64 epoch, .int .i64 vers, .int .i64 next, .int .i64 client, .int .i64 e.d, .string e.nm, .bool e.neg, .int .i64 e.id, .int .i64 e.kind, .int .i64 e.mode, .string e.tg, .int .i64 life, .int .i64 seq, .int .i64 err, .int .i64 op.kind, .int .i64 op.dir, .string op.nm, .int .i64 op.dst, .string op.new, .int .i64 op.mode, .string op.tg]] w fun x w' => x = .returned (.agg #[.int .i64 1, .int .i64 epoch, .int .i64 0, .int .i64 0, .int .i64 0, .int .i64 0, .string ⟨#[]⟩, .bool false, .int .i64 0, .int .i64 0, .int .i64 0, .string ⟨#[]⟩, .int .i64 0, .int .i64 0, .int .i64 0, .int .i64 0, .int .i64 0, .string ⟨#[]⟩, .int .i64 0, .string ⟨#[]⟩, .int .i64 0, .string ⟨#[]⟩]) ∧ Below w.heap.size w w' := by
  obtain ⟨W, hW⟩ : ∃ W, w.alloc (.cells #[.int .i64 1, .int .i64 epoch, .int .i64 vers, .int .i64 next, .int .i64 client, .int .i64 e.d, .string e.nm, .bool e.neg, .int .i64 e.id, .int .i64 e.kind, .int .i64 e.mode, .string e.tg, .int .i64 life, .int .i64 seq, .int .i64 err, .int .i64 op.kind, .int .i64 op.dir, .string op.nm, .int .i64 op.dst, .string op.new, .int .i64 op.mode, .string op.tg] 48) = W := ⟨_, rfl⟩
  obtain ⟨W2, hW2⟩ : ∃ W2, W.alloc (.cells #[.int .i64 0, .int .i64 0, .int .i64 0, .int .i64 0, .int .i64 0, .int .i64 0, .string ⟨#[]⟩, .bool false, .int .i64 0, .int .i64 0, .int .i64 0, .string ⟨#[]⟩, .int .i64 0, .int .i64 0, .int .i64 0, .int .i64 0, .int .i64 0, .string ⟨#[]⟩, .int .i64 0, .string ⟨#[]⟩, .int .i64 0, .string ⟨#[]⟩] 48) = W2 := ⟨_, rfl⟩
  obtain ⟨W3, hW3⟩ : ∃ W3, W2.setRow W.heap.size #[.int .i64 1, .int .i64 epoch, .int .i64 0, .int .i64 0, .int .i64 0, .int .i64 0, .string ⟨#[]⟩, .bool false, .int .i64 0, .int .i64 0, .int .i64 0, .string ⟨#[]⟩, .int .i64 0, .int .i64 0, .int .i64 0, .int .i64 0, .int .i64 0, .string ⟨#[]⟩, .int .i64 0, .string ⟨#[]⟩, .int .i64 0, .string ⟨#[]⟩] = W3 := ⟨_, rfl⟩
  have hb := boxB hW
  have hb2 := boxB hW2
  have nt := noteT_of hb2.1 rfl rfl (by simp [Value.oneCell']) hW3
  have HF : Hid (W3.heap[W.heap.size]? = some (.cells #[.int .i64 1, .int .i64 epoch, .int .i64 0, .int .i64 0, .int .i64 0, .int .i64 0, .string ⟨#[]⟩, .bool false, .int .i64 0, .int .i64 0, .int .i64 0, .string ⟨#[]⟩, .int .i64 0, .int .i64 0, .int .i64 0, .int .i64 0, .int .i64 0, .string ⟨#[]⟩, .int .i64 0, .string ⟨#[]⟩, .int .i64 0, .string ⟨#[]⟩] 48 (0, 0)) ∧ Below w.heap.size w W3) := ⟨by rw [← hW3]; exact setRow_heap _ _ _ _ _ _ hb2.1, by rw [← hW3]; exact below_setRow (chainB hb.2 hb2.2) hb.2.size _⟩
  have n1 := hkeep hb.1 hb2.2
  have x0 := cell_of n1 0
  have x1 := cell_of n1 1
  simp at x0 x1
  clear hb hb2 n1 hW3
  go_enter Try.func85, Try.ntmps85
  go_upto_region 1 with fail
  clear hW hW2
  go_wp2
  refine bodyPost_ret (results_cell_row rfl _ _ W.heap.size _ _ _ _ rfl HF.out.1 Try.underlying48 rfl Try.sizeNote) rfl ?_
  exact ⟨rfl, HF.out.2⟩
set_option maxRecDepth 20000 in
set_option maxHeartbeats 4000000 in
theorem only_2 (epoch vers next client : Int) (e : En) (life seq err : Int) (op : Opn) (w : World) : Calls Try.prog 85 #[.agg #[.int .i64 2, .int .i64 epoch, .int .i64 vers, .int .i64 next, .int .i64 client, .int .i64 e.d, .string e.nm, .bool e.neg, .int .i64 e.id, .int .i64 e.kind, .int .i64 e.mode, .string e.tg, .int .i64 life, .int .i64 seq, .int .i64 err, .int .i64 op.kind, .int .i64 op.dir, .string op.nm, .int .i64 op.dst, .string op.new, .int .i64 op.mode, .string op.tg]] w fun x w' => x = .returned (.agg #[.int .i64 2, .int .i64 epoch, .int .i64 vers, .int .i64 next, .int .i64 0, .int .i64 0, .string ⟨#[]⟩, .bool false, .int .i64 0, .int .i64 0, .int .i64 0, .string ⟨#[]⟩, .int .i64 0, .int .i64 0, .int .i64 0, .int .i64 0, .int .i64 0, .string ⟨#[]⟩, .int .i64 0, .string ⟨#[]⟩, .int .i64 0, .string ⟨#[]⟩]) ∧ Below w.heap.size w w' := by
  obtain ⟨W, hW⟩ : ∃ W, w.alloc (.cells #[.int .i64 2, .int .i64 epoch, .int .i64 vers, .int .i64 next, .int .i64 client, .int .i64 e.d, .string e.nm, .bool e.neg, .int .i64 e.id, .int .i64 e.kind, .int .i64 e.mode, .string e.tg, .int .i64 life, .int .i64 seq, .int .i64 err, .int .i64 op.kind, .int .i64 op.dir, .string op.nm, .int .i64 op.dst, .string op.new, .int .i64 op.mode, .string op.tg] 48) = W := ⟨_, rfl⟩
  obtain ⟨W2, hW2⟩ : ∃ W2, W.alloc (.cells #[.int .i64 0, .int .i64 0, .int .i64 0, .int .i64 0, .int .i64 0, .int .i64 0, .string ⟨#[]⟩, .bool false, .int .i64 0, .int .i64 0, .int .i64 0, .string ⟨#[]⟩, .int .i64 0, .int .i64 0, .int .i64 0, .int .i64 0, .int .i64 0, .string ⟨#[]⟩, .int .i64 0, .string ⟨#[]⟩, .int .i64 0, .string ⟨#[]⟩] 48) = W2 := ⟨_, rfl⟩
  obtain ⟨W3, hW3⟩ : ∃ W3, W2.setRow W.heap.size #[.int .i64 2, .int .i64 epoch, .int .i64 vers, .int .i64 next, .int .i64 0, .int .i64 0, .string ⟨#[]⟩, .bool false, .int .i64 0, .int .i64 0, .int .i64 0, .string ⟨#[]⟩, .int .i64 0, .int .i64 0, .int .i64 0, .int .i64 0, .int .i64 0, .string ⟨#[]⟩, .int .i64 0, .string ⟨#[]⟩, .int .i64 0, .string ⟨#[]⟩] = W3 := ⟨_, rfl⟩
  have hb := boxB hW
  have hb2 := boxB hW2
  have nt := noteT_of hb2.1 rfl rfl (by simp [Value.oneCell']) hW3
  have HF : Hid (W3.heap[W.heap.size]? = some (.cells #[.int .i64 2, .int .i64 epoch, .int .i64 vers, .int .i64 next, .int .i64 0, .int .i64 0, .string ⟨#[]⟩, .bool false, .int .i64 0, .int .i64 0, .int .i64 0, .string ⟨#[]⟩, .int .i64 0, .int .i64 0, .int .i64 0, .int .i64 0, .int .i64 0, .string ⟨#[]⟩, .int .i64 0, .string ⟨#[]⟩, .int .i64 0, .string ⟨#[]⟩] 48 (0, 0)) ∧ Below w.heap.size w W3) := ⟨by rw [← hW3]; exact setRow_heap _ _ _ _ _ _ hb2.1, by rw [← hW3]; exact below_setRow (chainB hb.2 hb2.2) hb.2.size _⟩
  have n1 := hkeep hb.1 hb2.2
  have x0 := cell_of n1 0
  have x1 := cell_of n1 1
  have x2 := cell_of n1 2
  have x3 := cell_of n1 3
  simp at x0 x1 x2 x3
  clear hb hb2 n1 hW3
  go_enter Try.func85, Try.ntmps85
  go_upto_region 1 with fail
  clear hW hW2
  go_wp2
  refine bodyPost_ret (results_cell_row rfl _ _ W.heap.size _ _ _ _ rfl HF.out.1 Try.underlying48 rfl Try.sizeNote) rfl ?_
  exact ⟨rfl, HF.out.2⟩
set_option maxRecDepth 20000 in
set_option maxHeartbeats 4000000 in
theorem only_3 (epoch vers next client : Int) (e : En) (life seq err : Int) (op : Opn) (w : World) : Calls Try.prog 85 #[.agg #[.int .i64 3, .int .i64 epoch, .int .i64 vers, .int .i64 next, .int .i64 client, .int .i64 e.d, .string e.nm, .bool e.neg, .int .i64 e.id, .int .i64 e.kind, .int .i64 e.mode, .string e.tg, .int .i64 life, .int .i64 seq, .int .i64 err, .int .i64 op.kind, .int .i64 op.dir, .string op.nm, .int .i64 op.dst, .string op.new, .int .i64 op.mode, .string op.tg]] w fun x w' => x = .returned (.agg #[.int .i64 3, .int .i64 0, .int .i64 0, .int .i64 0, .int .i64 0, .int .i64 e.d, .string e.nm, .bool e.neg, .int .i64 e.id, .int .i64 e.kind, .int .i64 e.mode, .string e.tg, .int .i64 0, .int .i64 0, .int .i64 0, .int .i64 0, .int .i64 0, .string ⟨#[]⟩, .int .i64 0, .string ⟨#[]⟩, .int .i64 0, .string ⟨#[]⟩]) ∧ Below w.heap.size w w' := by
  obtain ⟨W, hW⟩ : ∃ W, w.alloc (.cells #[.int .i64 3, .int .i64 epoch, .int .i64 vers, .int .i64 next, .int .i64 client, .int .i64 e.d, .string e.nm, .bool e.neg, .int .i64 e.id, .int .i64 e.kind, .int .i64 e.mode, .string e.tg, .int .i64 life, .int .i64 seq, .int .i64 err, .int .i64 op.kind, .int .i64 op.dir, .string op.nm, .int .i64 op.dst, .string op.new, .int .i64 op.mode, .string op.tg] 48) = W := ⟨_, rfl⟩
  obtain ⟨W2, hW2⟩ : ∃ W2, W.alloc (.cells #[.int .i64 0, .int .i64 0, .int .i64 0, .int .i64 0, .int .i64 0, .int .i64 0, .string ⟨#[]⟩, .bool false, .int .i64 0, .int .i64 0, .int .i64 0, .string ⟨#[]⟩, .int .i64 0, .int .i64 0, .int .i64 0, .int .i64 0, .int .i64 0, .string ⟨#[]⟩, .int .i64 0, .string ⟨#[]⟩, .int .i64 0, .string ⟨#[]⟩] 48) = W2 := ⟨_, rfl⟩
  obtain ⟨W3, hW3⟩ : ∃ W3, W2.setRow W.heap.size #[.int .i64 3, .int .i64 0, .int .i64 0, .int .i64 0, .int .i64 0, .int .i64 e.d, .string e.nm, .bool e.neg, .int .i64 e.id, .int .i64 e.kind, .int .i64 e.mode, .string e.tg, .int .i64 0, .int .i64 0, .int .i64 0, .int .i64 0, .int .i64 0, .string ⟨#[]⟩, .int .i64 0, .string ⟨#[]⟩, .int .i64 0, .string ⟨#[]⟩] = W3 := ⟨_, rfl⟩
  have hb := boxB hW
  have hb2 := boxB hW2
  have nt := noteT_of hb2.1 rfl rfl (by simp [Value.oneCell']) hW3
  have HF : Hid (W3.heap[W.heap.size]? = some (.cells #[.int .i64 3, .int .i64 0, .int .i64 0, .int .i64 0, .int .i64 0, .int .i64 e.d, .string e.nm, .bool e.neg, .int .i64 e.id, .int .i64 e.kind, .int .i64 e.mode, .string e.tg, .int .i64 0, .int .i64 0, .int .i64 0, .int .i64 0, .int .i64 0, .string ⟨#[]⟩, .int .i64 0, .string ⟨#[]⟩, .int .i64 0, .string ⟨#[]⟩] 48 (0, 0)) ∧ Below w.heap.size w W3) := ⟨by rw [← hW3]; exact setRow_heap _ _ _ _ _ _ hb2.1, by rw [← hW3]; exact below_setRow (chainB hb.2 hb2.2) hb.2.size _⟩
  have n1 := hkeep hb.1 hb2.2
  have x0 := cell_of n1 0
  have x5 := cell_of n1 5
  have x6 := cell_of n1 6
  have x7 := cell_of n1 7
  have x8 := cell_of n1 8
  have x9 := cell_of n1 9
  have x10 := cell_of n1 10
  have x11 := cell_of n1 11
  simp at x0 x5 x6 x7 x8 x9 x10 x11
  clear hb hb2 n1 hW3
  go_enter Try.func85, Try.ntmps85
  go_upto_region 1 with fail
  clear hW hW2
  go_wp2
  refine bodyPost_ret (results_cell_row rfl _ _ W.heap.size _ _ _ _ rfl HF.out.1 Try.underlying48 rfl Try.sizeNote) rfl ?_
  exact ⟨rfl, HF.out.2⟩
set_option maxRecDepth 20000 in
set_option maxHeartbeats 4000000 in
theorem only_4 (epoch vers next client : Int) (e : En) (life seq err : Int) (op : Opn) (w : World) : Calls Try.prog 85 #[.agg #[.int .i64 4, .int .i64 epoch, .int .i64 vers, .int .i64 next, .int .i64 client, .int .i64 e.d, .string e.nm, .bool e.neg, .int .i64 e.id, .int .i64 e.kind, .int .i64 e.mode, .string e.tg, .int .i64 life, .int .i64 seq, .int .i64 err, .int .i64 op.kind, .int .i64 op.dir, .string op.nm, .int .i64 op.dst, .string op.new, .int .i64 op.mode, .string op.tg]] w fun x w' => x = .returned (.agg #[.int .i64 4, .int .i64 0, .int .i64 0, .int .i64 0, .int .i64 client, .int .i64 0, .string ⟨#[]⟩, .bool false, .int .i64 0, .int .i64 0, .int .i64 0, .string ⟨#[]⟩, .int .i64 life, .int .i64 seq, .int .i64 err, .int .i64 0, .int .i64 0, .string ⟨#[]⟩, .int .i64 0, .string ⟨#[]⟩, .int .i64 0, .string ⟨#[]⟩]) ∧ Below w.heap.size w w' := by
  obtain ⟨W, hW⟩ : ∃ W, w.alloc (.cells #[.int .i64 4, .int .i64 epoch, .int .i64 vers, .int .i64 next, .int .i64 client, .int .i64 e.d, .string e.nm, .bool e.neg, .int .i64 e.id, .int .i64 e.kind, .int .i64 e.mode, .string e.tg, .int .i64 life, .int .i64 seq, .int .i64 err, .int .i64 op.kind, .int .i64 op.dir, .string op.nm, .int .i64 op.dst, .string op.new, .int .i64 op.mode, .string op.tg] 48) = W := ⟨_, rfl⟩
  obtain ⟨W2, hW2⟩ : ∃ W2, W.alloc (.cells #[.int .i64 0, .int .i64 0, .int .i64 0, .int .i64 0, .int .i64 0, .int .i64 0, .string ⟨#[]⟩, .bool false, .int .i64 0, .int .i64 0, .int .i64 0, .string ⟨#[]⟩, .int .i64 0, .int .i64 0, .int .i64 0, .int .i64 0, .int .i64 0, .string ⟨#[]⟩, .int .i64 0, .string ⟨#[]⟩, .int .i64 0, .string ⟨#[]⟩] 48) = W2 := ⟨_, rfl⟩
  obtain ⟨W3, hW3⟩ : ∃ W3, W2.setRow W.heap.size #[.int .i64 4, .int .i64 0, .int .i64 0, .int .i64 0, .int .i64 client, .int .i64 0, .string ⟨#[]⟩, .bool false, .int .i64 0, .int .i64 0, .int .i64 0, .string ⟨#[]⟩, .int .i64 life, .int .i64 seq, .int .i64 err, .int .i64 0, .int .i64 0, .string ⟨#[]⟩, .int .i64 0, .string ⟨#[]⟩, .int .i64 0, .string ⟨#[]⟩] = W3 := ⟨_, rfl⟩
  have hb := boxB hW
  have hb2 := boxB hW2
  have nt := noteT_of hb2.1 rfl rfl (by simp [Value.oneCell']) hW3
  have HF : Hid (W3.heap[W.heap.size]? = some (.cells #[.int .i64 4, .int .i64 0, .int .i64 0, .int .i64 0, .int .i64 client, .int .i64 0, .string ⟨#[]⟩, .bool false, .int .i64 0, .int .i64 0, .int .i64 0, .string ⟨#[]⟩, .int .i64 life, .int .i64 seq, .int .i64 err, .int .i64 0, .int .i64 0, .string ⟨#[]⟩, .int .i64 0, .string ⟨#[]⟩, .int .i64 0, .string ⟨#[]⟩] 48 (0, 0)) ∧ Below w.heap.size w W3) := ⟨by rw [← hW3]; exact setRow_heap _ _ _ _ _ _ hb2.1, by rw [← hW3]; exact below_setRow (chainB hb.2 hb2.2) hb.2.size _⟩
  have n1 := hkeep hb.1 hb2.2
  have x0 := cell_of n1 0
  have x4 := cell_of n1 4
  have x12 := cell_of n1 12
  have x13 := cell_of n1 13
  have x14 := cell_of n1 14
  simp at x0 x4 x12 x13 x14
  clear hb hb2 n1 hW3
  go_enter Try.func85, Try.ntmps85
  go_upto_region 1 with fail
  clear hW hW2
  go_wp2
  refine bodyPost_ret (results_cell_row rfl _ _ W.heap.size _ _ _ _ rfl HF.out.1 Try.underlying48 rfl Try.sizeNote) rfl ?_
  exact ⟨rfl, HF.out.2⟩
set_option maxRecDepth 20000 in
set_option maxHeartbeats 4000000 in
theorem only_5 (epoch vers next client : Int) (e : En) (life seq err : Int) (op : Opn) (w : World) : Calls Try.prog 85 #[.agg #[.int .i64 5, .int .i64 epoch, .int .i64 vers, .int .i64 next, .int .i64 client, .int .i64 e.d, .string e.nm, .bool e.neg, .int .i64 e.id, .int .i64 e.kind, .int .i64 e.mode, .string e.tg, .int .i64 life, .int .i64 seq, .int .i64 err, .int .i64 op.kind, .int .i64 op.dir, .string op.nm, .int .i64 op.dst, .string op.new, .int .i64 op.mode, .string op.tg]] w fun x w' => x = .returned (.agg #[.int .i64 5, .int .i64 0, .int .i64 0, .int .i64 0, .int .i64 client, .int .i64 0, .string ⟨#[]⟩, .bool false, .int .i64 0, .int .i64 0, .int .i64 0, .string ⟨#[]⟩, .int .i64 life, .int .i64 seq, .int .i64 err, .int .i64 op.kind, .int .i64 op.dir, .string op.nm, .int .i64 op.dst, .string op.new, .int .i64 op.mode, .string op.tg]) ∧ Below w.heap.size w w' := by
  obtain ⟨W, hW⟩ : ∃ W, w.alloc (.cells #[.int .i64 5, .int .i64 epoch, .int .i64 vers, .int .i64 next, .int .i64 client, .int .i64 e.d, .string e.nm, .bool e.neg, .int .i64 e.id, .int .i64 e.kind, .int .i64 e.mode, .string e.tg, .int .i64 life, .int .i64 seq, .int .i64 err, .int .i64 op.kind, .int .i64 op.dir, .string op.nm, .int .i64 op.dst, .string op.new, .int .i64 op.mode, .string op.tg] 48) = W := ⟨_, rfl⟩
  obtain ⟨W2, hW2⟩ : ∃ W2, W.alloc (.cells #[.int .i64 0, .int .i64 0, .int .i64 0, .int .i64 0, .int .i64 0, .int .i64 0, .string ⟨#[]⟩, .bool false, .int .i64 0, .int .i64 0, .int .i64 0, .string ⟨#[]⟩, .int .i64 0, .int .i64 0, .int .i64 0, .int .i64 0, .int .i64 0, .string ⟨#[]⟩, .int .i64 0, .string ⟨#[]⟩, .int .i64 0, .string ⟨#[]⟩] 48) = W2 := ⟨_, rfl⟩
  obtain ⟨W3, hW3⟩ : ∃ W3, W2.setRow W.heap.size #[.int .i64 5, .int .i64 0, .int .i64 0, .int .i64 0, .int .i64 client, .int .i64 0, .string ⟨#[]⟩, .bool false, .int .i64 0, .int .i64 0, .int .i64 0, .string ⟨#[]⟩, .int .i64 life, .int .i64 seq, .int .i64 err, .int .i64 op.kind, .int .i64 op.dir, .string op.nm, .int .i64 op.dst, .string op.new, .int .i64 op.mode, .string op.tg] = W3 := ⟨_, rfl⟩
  have hb := boxB hW
  have hb2 := boxB hW2
  have nt := noteT_of hb2.1 rfl rfl (by simp [Value.oneCell']) hW3
  have HF : Hid (W3.heap[W.heap.size]? = some (.cells #[.int .i64 5, .int .i64 0, .int .i64 0, .int .i64 0, .int .i64 client, .int .i64 0, .string ⟨#[]⟩, .bool false, .int .i64 0, .int .i64 0, .int .i64 0, .string ⟨#[]⟩, .int .i64 life, .int .i64 seq, .int .i64 err, .int .i64 op.kind, .int .i64 op.dir, .string op.nm, .int .i64 op.dst, .string op.new, .int .i64 op.mode, .string op.tg] 48 (0, 0)) ∧ Below w.heap.size w W3) := ⟨by rw [← hW3]; exact setRow_heap _ _ _ _ _ _ hb2.1, by rw [← hW3]; exact below_setRow (chainB hb.2 hb2.2) hb.2.size _⟩
  have n1 := hkeep hb.1 hb2.2
  have x0 := cell_of n1 0
  have x4 := cell_of n1 4
  have x12 := cell_of n1 12
  have x13 := cell_of n1 13
  have x14 := cell_of n1 14
  have x15 := cell_of n1 15
  have x16 := cell_of n1 16
  have x17 := cell_of n1 17
  have x18 := cell_of n1 18
  have x19 := cell_of n1 19
  have x20 := cell_of n1 20
  have x21 := cell_of n1 21
  simp at x0 x4 x12 x13 x14 x15 x16 x17 x18 x19 x20 x21
  clear hb hb2 n1 hW3
  go_enter Try.func85, Try.ntmps85
  go_upto_region 1 with fail
  clear hW hW2
  go_wp2
  refine bodyPost_ret (results_cell_row rfl _ _ W.heap.size _ _ _ _ rfl HF.out.1 Try.underlying48 rfl Try.sizeNote) rfl ?_
  exact ⟨rfl, HF.out.2⟩
set_option maxRecDepth 20000 in
set_option maxHeartbeats 4000000 in
theorem only_0 (kind : Int) (epoch vers next client : Int) (e : En) (life seq err : Int) (op : Opn) (w : World) (k1 : kind ≠ 1) (k2 : kind ≠ 2) (k3 : kind ≠ 3) (k4 : kind ≠ 4) (k5 : kind ≠ 5) : Calls Try.prog 85 #[.agg #[.int .i64 kind, .int .i64 epoch, .int .i64 vers, .int .i64 next, .int .i64 client, .int .i64 e.d, .string e.nm, .bool e.neg, .int .i64 e.id, .int .i64 e.kind, .int .i64 e.mode, .string e.tg, .int .i64 life, .int .i64 seq, .int .i64 err, .int .i64 op.kind, .int .i64 op.dir, .string op.nm, .int .i64 op.dst, .string op.new, .int .i64 op.mode, .string op.tg]] w fun x w' => x = .returned (.agg #[.int .i64 0, .int .i64 0, .int .i64 0, .int .i64 0, .int .i64 0, .int .i64 0, .string ⟨#[]⟩, .bool false, .int .i64 0, .int .i64 0, .int .i64 0, .string ⟨#[]⟩, .int .i64 0, .int .i64 0, .int .i64 0, .int .i64 0, .int .i64 0, .string ⟨#[]⟩, .int .i64 0, .string ⟨#[]⟩, .int .i64 0, .string ⟨#[]⟩]) ∧ Below w.heap.size w w' := by
  obtain ⟨W, hW⟩ : ∃ W, w.alloc (.cells #[.int .i64 kind, .int .i64 epoch, .int .i64 vers, .int .i64 next, .int .i64 client, .int .i64 e.d, .string e.nm, .bool e.neg, .int .i64 e.id, .int .i64 e.kind, .int .i64 e.mode, .string e.tg, .int .i64 life, .int .i64 seq, .int .i64 err, .int .i64 op.kind, .int .i64 op.dir, .string op.nm, .int .i64 op.dst, .string op.new, .int .i64 op.mode, .string op.tg] 48) = W := ⟨_, rfl⟩
  obtain ⟨W2, hW2⟩ : ∃ W2, W.alloc (.cells #[.int .i64 0, .int .i64 0, .int .i64 0, .int .i64 0, .int .i64 0, .int .i64 0, .string ⟨#[]⟩, .bool false, .int .i64 0, .int .i64 0, .int .i64 0, .string ⟨#[]⟩, .int .i64 0, .int .i64 0, .int .i64 0, .int .i64 0, .int .i64 0, .string ⟨#[]⟩, .int .i64 0, .string ⟨#[]⟩, .int .i64 0, .string ⟨#[]⟩] 48) = W2 := ⟨_, rfl⟩
  obtain ⟨W3, hW3⟩ : ∃ W3, W2.setRow W.heap.size #[.int .i64 0, .int .i64 0, .int .i64 0, .int .i64 0, .int .i64 0, .int .i64 0, .string ⟨#[]⟩, .bool false, .int .i64 0, .int .i64 0, .int .i64 0, .string ⟨#[]⟩, .int .i64 0, .int .i64 0, .int .i64 0, .int .i64 0, .int .i64 0, .string ⟨#[]⟩, .int .i64 0, .string ⟨#[]⟩, .int .i64 0, .string ⟨#[]⟩] = W3 := ⟨_, rfl⟩
  have hb := boxB hW
  have hb2 := boxB hW2
  have nt := noteT_of hb2.1 rfl rfl (by simp [Value.oneCell']) hW3
  have HF : Hid (W3.heap[W.heap.size]? = some (.cells #[.int .i64 0, .int .i64 0, .int .i64 0, .int .i64 0, .int .i64 0, .int .i64 0, .string ⟨#[]⟩, .bool false, .int .i64 0, .int .i64 0, .int .i64 0, .string ⟨#[]⟩, .int .i64 0, .int .i64 0, .int .i64 0, .int .i64 0, .int .i64 0, .string ⟨#[]⟩, .int .i64 0, .string ⟨#[]⟩, .int .i64 0, .string ⟨#[]⟩] 48 (0, 0)) ∧ Below w.heap.size w W3) := ⟨by rw [← hW3]; exact setRow_heap _ _ _ _ _ _ hb2.1, by rw [← hW3]; exact below_setRow (chainB hb.2 hb2.2) hb.2.size _⟩
  have n1 := hkeep hb.1 hb2.2
  have x0 := cell_of n1 0
  simp at x0
  clear hb hb2 n1 hW3
  have b1 : (kind == 1) = false := by simpa using k1
  have b2 : (kind == 2) = false := by simpa using k2
  have b3 : (kind == 3) = false := by simpa using k3
  have b4 : (kind == 4) = false := by simpa using k4
  have b5 : (kind == 5) = false := by simpa using k5
  go_enter Try.func85, Try.ntmps85
  go_upto_region 1 with fail
  clear hW hW2
  go_wp2
  refine bodyPost_ret (results_cell_row rfl _ _ W.heap.size _ _ _ _ rfl HF.out.1 Try.underlying48 rfl Try.sizeNote) rfl ?_
  exact ⟨rfl, HF.out.2⟩
theorem only_d (n : Nt) (w : World) : Calls Try.prog 85 #[.agg n.arr] w fun x w' => x = .returned (.agg (onlyF n).arr) ∧ Below w.heap.size w w' := by
  obtain ⟨kind, epoch, vers, next, client, e, life, seq, err, op⟩ := n
  by_cases k1 : kind = 1
  · subst k1; exact only_1 epoch vers next client e life seq err op w
  by_cases k2 : kind = 2
  · subst k2; exact only_2 epoch vers next client e life seq err op w
  by_cases k3 : kind = 3
  · subst k3; exact only_3 epoch vers next client e life seq err op w
  by_cases k4 : kind = 4
  · subst k4; exact only_4 epoch vers next client e life seq err op w
  by_cases k5 : kind = 5
  · subst k5; exact only_5 epoch vers next client e life seq err op w
  have ho : onlyF ⟨kind, epoch, vers, next, client, e, life, seq, err, op⟩ = zeroNt := if_neg (by rintro (h | h | h | h | h) <;> contradiction)
  rw [ho]
  exact only_0 kind epoch vers next client e life seq err op w k1 k2 k3 k4 k5
end
end Go.Proofs.Ytekonakanieeaaa
