/- Notes compared. -/
import Derived.Test.YtihjhaafmdobmabWvB
namespace Go.Proofs.Ytihjhaafmdobmab
open Go.RowKit Go.Lib

theorem Try.stoodNt : Try.prog.stoodInHeld 35 = false := by kernel_rfl
theorem Try.guardNt : Try.prog.eqGuardType Try.prog.depth 35 = false := by kernel_rfl
theorem Try.undNt : Try.prog.underlying 35 = some (.struct (Try.prog.fieldsOf 35)) := by kernel_rfl
theorem Try.stoodSn : Try.prog.stoodInHeld 31 = false := by kernel_rfl
theorem Try.undSn : Try.prog.underlying 31 = some (.struct (Try.prog.fieldsOf 31)) := by kernel_rfl
theorem guardNt (w : World) (op : BinOp) (p q : Operand) (xs ys : Array Value) : (eqGuard op 35 p q (.agg xs) (.agg ys)).run Try.prog w = .ok () w := run_eqGuard_agg w op _ p q xs ys Try.guardNt
/-- are two the same (shut) -/
def eqSn (a b c a' b' c' : Int) : Bool := decide (a = a' ∧ b = b' ∧ c = c')
def eqNt (n m : Nt) : Bool := decide (n.kind = m.kind) && (decide (n.epoch = m.epoch) && (decide (n.vers = m.vers) && (decide (n.next = m.next) && (decide (n.client = m.client) && (eqEn n.e m.e && (eqSn n.life n.seq n.err m.life m.seq m.err && eqOp n.op m.op))))))
theorem eqNt_iff (n m : Nt) : eqNt n m = true ↔ n = m := by
  obtain ⟨kind, epoch, vers, next, client, e, life, seq, err, op⟩ := n
  obtain ⟨kind', epoch', vers', next', client', e', life', seq', err', op'⟩ := m
  unfold eqNt eqSn
  simp [eqEn_iff, eqOp_iff, and_assoc]
theorem eqInE9 (w : World) (e f : En) : (Op.equalIn 9999 28 (.agg #[.int .i64 e.d, .string e.nm, .bool e.neg, .int .i64 e.id, .int .i64 e.kind, .int .i64 e.mode, .string e.tg]) (.agg #[.int .i64 f.d, .string f.nm, .bool f.neg, .int .i64 f.id, .int .i64 f.kind, .int .i64 f.mode, .string f.tg])).run Try.prog w = .ok (eqEn e f) w := by
  rw [run_equalIn_agg _ 9998 _ _ _ Try.undE Try.stoodE]
  simp [Program.fieldsOf, Try.underlying28, Op.eqFields, go_sem]
  simp only [bytes_eq]
  unfold eqEn
  obtain ⟨a, b, c, d, g, h, i⟩ := e
  obtain ⟨a', b', c', d', g', h', i'⟩ := f
  by_cases h1 : a = a' <;> by_cases h2 : b = b' <;> by_cases h3 : c = c' <;> by_cases h4 : d = d' <;> by_cases h5 : g = g' <;> by_cases h6 : h = h' <;> by_cases h7 : i = i' <;> simp [h1, h2, h3, h4, h5, h6, h7]
theorem eqInS9 (w : World) (a b c a' b' c' : Int) : (Op.equalIn 9999 31 (.agg #[.int .i64 a, .int .i64 b, .int .i64 c]) (.agg #[.int .i64 a', .int .i64 b', .int .i64 c'])).run Try.prog w = .ok (eqSn a b c a' b' c') w := by
  rw [run_equalIn_agg _ 9998 _ _ _ Try.undSn Try.stoodSn]
  simp [Program.fieldsOf, Try.underlying31, Op.eqFields, go_sem]
  unfold eqSn
  by_cases h1 : a = a' <;> by_cases h2 : b = b' <;> by_cases h3 : c = c' <;> simp [h1, h2, h3]
theorem eqInO9 (w : World) (e f : Opn) : (Op.equalIn 9999 33 (.agg #[.int .i64 e.kind, .int .i64 e.dir, .string e.nm, .int .i64 e.dst, .string e.new, .int .i64 e.mode, .string e.tg]) (.agg #[.int .i64 f.kind, .int .i64 f.dir, .string f.nm, .int .i64 f.dst, .string f.new, .int .i64 f.mode, .string f.tg])).run Try.prog w = .ok (eqOp e f) w := eqInO 9997 w e f
attribute [local go_sem high] eqInE9 eqInS9 eqInO9
set_option maxRecDepth 20000 in
set_option maxHeartbeats 4000000 in
theorem eqInNt (w : World) (n m : Nt) : (Op.equalIn 10000 35 (.agg n.arr) (.agg m.arr)).run Try.prog w = .ok (eqNt n m) w := by
  obtain ⟨kind, epoch, vers, next, client, e, life, seq, err, op⟩ := n
  obtain ⟨kind', epoch', vers', next', client', e', life', seq', err', op'⟩ := m
  unfold Nt.arr
  simp only []
  rw [run_equalIn_agg _ 9999 _ _ _ Try.undNt Try.stoodNt]
  simp [Program.fieldsOf, Try.underlying35, Op.eqFields, go_sem]
  unfold eqNt
  simp only []
  by_cases h1 : kind = kind'
  · by_cases h2 : epoch = epoch'
    · by_cases h3 : vers = vers'
      · by_cases h4 : next = next'
        · by_cases h5 : client = client'
          · subst h1 h2 h3 h4 h5
            cases eqEn e e' <;> cases eqSn life seq err life' seq' err' <;> cases eqOp op op' <;> simp
          · simp [h5]
        · simp [h4]
      · simp [h3]
    · simp [h2]
  · simp [h1]
theorem neqNt (w : World) (n m : Nt) : (binOp .neq 35 (.agg n.arr) (.agg m.arr)).run Try.prog w = .ok (.bool (!eqNt n m)) w := by
  rw [run_neq_struct, eqInNt]; rfl
theorem eqNtB (w : World) (n m : Nt) : (binOp .eql 35 (.agg n.arr) (.agg m.arr)).run Try.prog w = .ok (.bool (eqNt n m)) w := by
  rw [run_eql_struct, eqInNt]; rfl
end Go.Proofs.Ytihjhaafmdobmab
