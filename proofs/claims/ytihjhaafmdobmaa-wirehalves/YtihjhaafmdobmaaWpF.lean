/- Ops compared; what is plain: messages. -/
import Derived.Test.YtihjhaafmdobmaaWpE
namespace Go.Proofs.Ytihjhaafmdobmaa
open Go.RowKit Go.Lib

theorem Try.stoodO : Try.prog.stoodInHeld 38 = false := by kernel_rfl
theorem Try.guardO : Try.prog.eqGuardType Try.prog.depth 38 = false := by kernel_rfl
theorem Try.undO : Try.prog.underlying 38 = some (.struct (Try.prog.fieldsOf 38)) := by kernel_rfl
theorem guardO (w : World) (op : BinOp) (p q : Operand) (xs ys : Array Value) : (eqGuard op 38 p q (.agg xs) (.agg ys)).run Try.prog w = .ok () w := run_eqGuard_agg w op _ p q xs ys Try.guardO
/-- are two ops the same (shut) -/
def eqOp (e f : Opn) : Bool := decide (e.kind = f.kind) && (decide (e.dir = f.dir) && (decide (e.nm = f.nm) && (decide (e.dst = f.dst) && (decide (e.new = f.new) && (decide (e.mode = f.mode) && decide (e.tg = f.tg))))))
theorem eqOp_iff (e f : Opn) : eqOp e f = true ↔ e = f := by
  obtain ⟨a, b, c, d, g, h, i⟩ := e
  obtain ⟨a', b', c', d', g', h', i'⟩ := f
  unfold eqOp
  simp
theorem eqInO (n : Nat) (w : World) (e f : Opn) : (Op.equalIn (n + 1 + 1) 38 (.agg #[.int .i64 e.kind, .int .i64 e.dir, .string e.nm, .int .i64 e.dst, .string e.new, .int .i64 e.mode, .string e.tg]) (.agg #[.int .i64 f.kind, .int .i64 f.dir, .string f.nm, .int .i64 f.dst, .string f.new, .int .i64 f.mode, .string f.tg])).run Try.prog w = .ok (eqOp e f) w := by
  rw [run_equalIn_agg _ _ _ _ _ Try.undO Try.stoodO]
  simp [Program.fieldsOf, Try.underlying38, Op.eqFields, go_sem]
  simp only [bytes_eq]
  unfold eqOp
  obtain ⟨a, b, c, d, g, h, i⟩ := e
  obtain ⟨a', b', c', d', g', h', i'⟩ := f
  by_cases h1 : a = a' <;> by_cases h2 : b = b' <;> by_cases h3 : c = c' <;> by_cases h4 : d = d' <;> by_cases h5 : g = g' <;> by_cases h6 : h = h' <;> by_cases h7 : i = i' <;> simp [h1, h2, h3, h4, h5, h6, h7]
theorem eqO (w : World) (a b d m a' b' d' m' : Int) (x y z x' y' z' : ByteArray) : (binOp .eql 38 (.agg #[.int .i64 a, .int .i64 b, .string x, .int .i64 d, .string y, .int .i64 m, .string z]) (.agg #[.int .i64 a', .int .i64 b', .string x', .int .i64 d', .string y', .int .i64 m', .string z'])).run Try.prog w = .ok (.bool (eqOp ⟨a, b, x, d, y, m, z⟩ ⟨a', b', x', d', y', m', z'⟩)) w := by
  rw [run_eql_struct]
  have := eqInO 9998 w ⟨a, b, x, d, y, m, z⟩ ⟨a', b', x', d', y', m', z'⟩
  rw [this]; rfl
theorem neqO (w : World) (a b d m a' b' d' m' : Int) (x y z x' y' z' : ByteArray) : (binOp .neq 38 (.agg #[.int .i64 a, .int .i64 b, .string x, .int .i64 d, .string y, .int .i64 m, .string z]) (.agg #[.int .i64 a', .int .i64 b', .string x', .int .i64 d', .string y', .int .i64 m', .string z'])).run Try.prog w = .ok (.bool (!eqOp ⟨a, b, x, d, y, m, z⟩ ⟨a', b', x', d', y', m', z'⟩)) w := by
  rw [run_neq_struct]
  have := eqInO 9998 w ⟨a, b, x, d, y, m, z⟩ ⟨a', b', x', d', y', m', z'⟩
  rw [this]; rfl
/-- is it plain, but for the mark and the numbers? -/
def kindOkB (m : Mg) : Bool :=
  if m.kind = 1 then decide (opOk m.op) && (decide (m.es.length = 0) && decide (m.ks.length = 0))
  else if m.kind = 2 then eqOp m.op zeroOp && (listOkB entOk m.es && decide (m.ks.length = 0))
  else if m.kind = 3 then eqOp m.op zeroOp && (decide (m.es.length = 0) && (decide (0 < m.ks.length) && listOkB keyOk m.ks))
  else if m.kind = 4 then eqOp m.op zeroOp && (decide (m.es.length = 0) && decide (m.ks.length = 0))
  else false
theorem kindOkB_iff (m : Mg) : kindOkB m = true ↔ bodyOk m := by
  unfold kindOkB bodyOk
  by_cases h1 : m.kind = 1
  · simp [h1]
  · by_cases h2 : m.kind = 2
    · simp [h2, eqOp_iff, listOkB_iff, and_assoc]
    · by_cases h3 : m.kind = 3
      · simp [h3, eqOp_iff, listOkB_iff]
      · by_cases h4 : m.kind = 4
        · simp [h4, eqOp_iff]
        · simp [h1, h2, h3, h4]
end Go.Proofs.Ytihjhaafmdobmaa
