/- Entries in memory: cells, comparison, lists. -/
import Derived.Test.YtpmcecenhgppbaaJTEpt01
import Derived.Laws.ResultCell
import Derived.Test.YtpmcecenhgppbaaJTEpt03
import Derived.Deep.MidRow
namespace Go.Proofs.Ytpmcecenhgppbaa
section
open Go.RowKit

theorem Try.infoE : (Try.prog.info? 57).map (fun i => (i.zero, i.size, i.bytes)) = some (some (.agg #[.int .i64 0, .string ⟨#[]⟩, .bool false, .int .i64 0, .int .i64 0, .int .i64 0, .string ⟨#[]⟩]), 7, 72) := by kernel_rfl
theorem Try.sizeE : (Try.prog.info? 57).map (·.size) = some 7 := by kernel_rfl
/-- an entry of a list in memory: its seven cells -/
structure Cells7 (w : World) (g o : Nat) (e : En) : Prop where
  c0 : w.cell? ⟨g, o, none⟩ = some (.int .i64 e.d)
  c1 : w.cell? ⟨g, o + 1, none⟩ = some (.string e.nm)
  c2 : w.cell? ⟨g, o + 2, none⟩ = some (.bool e.neg)
  c3 : w.cell? ⟨g, o + 3, none⟩ = some (.int .i64 e.id)
  c4 : w.cell? ⟨g, o + 4, none⟩ = some (.int .i64 e.kind)
  c5 : w.cell? ⟨g, o + 5, none⟩ = some (.int .i64 e.mode)
  c6 : w.cell? ⟨g, o + 6, none⟩ = some (.string e.tg)
theorem owns_entry {w : World} {base n cap i : Nat} {a : Option Addr} {es : List En} {e : En} (h : w.ownsRow base 57 7 (.slice a n cap) es.length (ec es)) (hi : es[i]? = some e) : ∃ g, a = some ⟨g, 0, none⟩ ∧ n = es.length ∧ base ≤ g ∧ g < w.heap.size ∧ Cells7 w g (i * 7) e ∧ (∀ j, w.frozen? ⟨g, j, none⟩ = false) := by
  have hlt : i < es.length := (List.getElem?_eq_some_iff.1 hi).1
  obtain ⟨N, hN⟩ : ∃ N, es.length = N + 1 := ⟨es.length - 1, by omega⟩
  rw [hN] at h
  obtain ⟨g, cap', e'⟩ := owns_form h
  cases e'
  obtain ⟨hc, hf, _, _, hb, hg⟩ := owns_cells h
  exact ⟨g, rfl, hN.symm, hb, hg, ⟨hc _ _ (ec_get es i 0 e hi (by omega)), hc _ _ (ec_get es i 1 e hi (by omega)), hc _ _ (ec_get es i 2 e hi (by omega)), hc _ _ (ec_get es i 3 e hi (by omega)), hc _ _ (ec_get es i 4 e hi (by omega)), hc _ _ (ec_get es i 5 e hi (by omega)), hc _ _ (ec_get es i 6 e hi (by omega))⟩, hf⟩

theorem Try.stoodK : Try.prog.stoodInHeld 53 = false := by kernel_rfl
theorem Try.guardK : Try.prog.eqGuardType Try.prog.depth 53 = false := by kernel_rfl
theorem Try.stoodE : Try.prog.stoodInHeld 57 = false := by kernel_rfl
theorem Try.guardE : Try.prog.eqGuardType Try.prog.depth 57 = false := by kernel_rfl
theorem Try.stoodN : Try.prog.stoodInHeld 55 = false := by kernel_rfl
theorem Try.guardN : Try.prog.eqGuardType Try.prog.depth 55 = false := by kernel_rfl
theorem Try.undK : Try.prog.underlying 53 = some (.struct (Try.prog.fieldsOf 53)) := by kernel_rfl
theorem Try.undE : Try.prog.underlying 57 = some (.struct (Try.prog.fieldsOf 57)) := by kernel_rfl
theorem Try.undN : Try.prog.underlying 55 = some (.struct (Try.prog.fieldsOf 55)) := by kernel_rfl
theorem eqInK (n : Nat) (w : World) (a b : Int) (x y : ByteArray) : (Op.equalIn (n + 1 + 1) 53 (.agg #[.int .i64 a, .string x]) (.agg #[.int .i64 b, .string y])).run Try.prog w = .ok (decide (a = b ∧ x = y)) w := by
  rw [run_equalIn_agg _ _ _ _ _ Try.undK Try.stoodK]
  simp [Program.fieldsOf, Try.underlying53, Op.eqFields, go_sem, bytes_eq]
  by_cases h1 : a = b <;> by_cases h2 : x = y <;> simp [h1, h2]
theorem eqInN (n : Nat) (w : World) (i k m i' k' m' : Int) (x y : ByteArray) : (Op.equalIn (n + 1 + 1) 55 (.agg #[.int .i64 i, .int .i64 k, .int .i64 m, .string x]) (.agg #[.int .i64 i', .int .i64 k', .int .i64 m', .string y])).run Try.prog w = .ok (decide (i = i' ∧ k = k' ∧ m = m' ∧ x = y)) w := by
  rw [run_equalIn_agg _ _ _ _ _ Try.undN Try.stoodN]
  simp [Program.fieldsOf, Try.underlying55, Op.eqFields, go_sem, bytes_eq]
  by_cases h1 : i = i' <;> by_cases h2 : k = k' <;> by_cases h3 : m = m' <;> by_cases h4 : x = y <;> simp [h1, h2, h3, h4]
theorem eqK (w : World) (a b : Int) (x y : ByteArray) : (binOp .eql 53 (.agg #[.int .i64 a, .string x]) (.agg #[.int .i64 b, .string y])).run Try.prog w = .ok (.bool (decide (a = b ∧ x = y))) w := by
  rw [run_eql_struct, eqInK 9998]; rfl
theorem neqK (w : World) (a b : Int) (x y : ByteArray) : (binOp .neq 53 (.agg #[.int .i64 a, .string x]) (.agg #[.int .i64 b, .string y])).run Try.prog w = .ok (.bool (!decide (a = b ∧ x = y))) w := by
  rw [run_neq_struct, eqInK 9998]; rfl
theorem guardK (w : World) (op : BinOp) (p q : Operand) (xs ys : Array Value) : (eqGuard op 53 p q (.agg xs) (.agg ys)).run Try.prog w = .ok () w := run_eqGuard_agg w op _ p q xs ys Try.guardK
theorem guardE (w : World) (op : BinOp) (p q : Operand) (xs ys : Array Value) : (eqGuard op 57 p q (.agg xs) (.agg ys)).run Try.prog w = .ok () w := run_eqGuard_agg w op _ p q xs ys Try.guardE
theorem guardN (w : World) (op : BinOp) (p q : Operand) (xs ys : Array Value) : (eqGuard op 55 p q (.agg xs) (.agg ys)).run Try.prog w = .ok () w := run_eqGuard_agg w op _ p q xs ys Try.guardN
/-- are two entries the same (shut, so that the walk leaves it standing) -/
def eqEn (e f : En) : Bool := decide (e.d = f.d) && (decide (e.nm = f.nm) && (decide (e.neg = f.neg) && (decide (e.id = f.id) && (decide (e.kind = f.kind) && (decide (e.mode = f.mode) && decide (e.tg = f.tg))))))
theorem eqEn_iff (e f : En) : eqEn e f = true ↔ e = f := by
  obtain ⟨a, b, c, d, g, h, i⟩ := e
  obtain ⟨a', b', c', d', g', h', i'⟩ := f
  unfold eqEn
  simp
theorem eqEn_no {e f : En} (h : e ≠ f) : eqEn e f = false := by
  cases k : eqEn e f with
  | false => rfl
  | true => exact absurd ((eqEn_iff e f).1 k) h
theorem eqInE (w : World) (e f : En) : (Op.equalIn 10000 57 e.agg f.agg).run Try.prog w = .ok (eqEn e f) w := by
  unfold En.agg
  rw [run_equalIn_agg _ 9999 _ _ _ Try.undE Try.stoodE]
  simp [Program.fieldsOf, Try.underlying57, Op.eqFields, Go.part, go_sem]
  simp only [bytes_eq]
  unfold eqEn
  obtain ⟨a, b, c, d, g, h, i⟩ := e
  obtain ⟨a', b', c', d', g', h', i'⟩ := f
  by_cases h1 : a = a' <;> by_cases h2 : b = b' <;> by_cases h3 : c = c' <;> by_cases h4 : d = d' <;> by_cases h5 : g = g' <;> by_cases h6 : h = h' <;> by_cases h7 : i = i' <;> simp [h1, h2, h3, h4, h5, h6, h7]
theorem eqE (w : World) (a b c a' b' c' d d' : Int) (x y x' y' : ByteArray) (n n' : Bool) : (binOp .eql 57 (.agg #[.int .i64 d, .string x, .bool n, .int .i64 a, .int .i64 b, .int .i64 c, .string y]) (.agg #[.int .i64 d', .string x', .bool n', .int .i64 a', .int .i64 b', .int .i64 c', .string y'])).run Try.prog w = .ok (.bool (eqEn ⟨d, x, n, a, b, c, y⟩ ⟨d', x', n', a', b', c', y'⟩)) w := by
  rw [run_eql_struct]
  have := eqInE w ⟨d, x, n, a, b, c, y⟩ ⟨d', x', n', a', b', c', y'⟩
  unfold En.agg at this
  rw [this]; rfl
theorem neqE (w : World) (a b c a' b' c' d d' : Int) (x y x' y' : ByteArray) (n n' : Bool) : (binOp .neq 57 (.agg #[.int .i64 d, .string x, .bool n, .int .i64 a, .int .i64 b, .int .i64 c, .string y]) (.agg #[.int .i64 d', .string x', .bool n', .int .i64 a', .int .i64 b', .int .i64 c', .string y'])).run Try.prog w = .ok (.bool (!eqEn ⟨d, x, n, a, b, c, y⟩ ⟨d', x', n', a', b', c', y'⟩)) w := by
  rw [run_neq_struct]
  have := eqInE w ⟨d, x, n, a, b, c, y⟩ ⟨d', x', n', a', b', c', y'⟩
  unfold En.agg at this
  rw [this]; rfl
theorem eqN (w : World) (i k m i' k' m' : Int) (x y : ByteArray) : (binOp .eql 55 (.agg #[.int .i64 i, .int .i64 k, .int .i64 m, .string x]) (.agg #[.int .i64 i', .int .i64 k', .int .i64 m', .string y])).run Try.prog w = .ok (.bool (decide (i = i' ∧ k = k' ∧ m = m' ∧ x = y))) w := by
  rw [run_eql_struct, eqInN 9998]; rfl
theorem neqN (w : World) (i k m i' k' m' : Int) (x y : ByteArray) : (binOp .neq 55 (.agg #[.int .i64 i, .int .i64 k, .int .i64 m, .string x]) (.agg #[.int .i64 i', .int .i64 k', .int .i64 m', .string y])).run Try.prog w = .ok (.bool (!decide (i = i' ∧ k = k' ∧ m = m' ∧ x = y))) w := by
  rw [run_neq_struct, eqInN 9998]; rfl
/-- an entry laid over seven cells -/
def put7 (w : World) (g : Nat) (e : En) : World :=
  ((((((w.setCell ⟨g, 0, none⟩ (.int .i64 e.d)).setCell ⟨g, 1, none⟩ (.string e.nm)).setCell ⟨g, 2, none⟩ (.bool e.neg)).setCell ⟨g, 3, none⟩ (.int .i64 e.id)).setCell ⟨g, 4, none⟩ (.int .i64 e.kind)).setCell ⟨g, 5, none⟩ (.int .i64 e.mode)).setCell ⟨g, 6, none⟩ (.string e.tg)
theorem put7_heap {w : World} {g : Nat} {t : TypeId} {f : En} (e : En) (h : w.heap[g]? = some (.cells f.vals.toArray t (0, 0))) : (put7 w g e).heap[g]? = some (.cells e.vals.toArray t (0, 0)) := by
  have k := heap_set (heap_set (heap_set (heap_set (heap_set (heap_set (heap_set h 0 (.int .i64 e.d)) 1 (.string e.nm)) 2 (.bool e.neg)) 3 (.int .i64 e.id)) 4 (.int .i64 e.kind)) 5 (.int .i64 e.mode)) 6 (.string e.tg)
  simp only [En.vals, List.setIfInBounds_toArray, List.set_cons_zero, List.set_cons_succ] at k
  exact k
theorem put7_only (w : World) (g : Nat) (e : En) : Only (· = g) w (put7 w g e) :=
  ((((((only1 _ g _ _).trans (only1 _ g _ _)).trans (only1 _ g _ _)).trans (only1 _ g _ _)).trans (only1 _ g _ _)).trans (only1 _ g _ _)).trans (only1 _ g _ _)
theorem cells7_of {w : World} {g : Nat} {t : TypeId} {e : En} (h : w.heap[g]? = some (.cells e.vals.toArray t (0, 0))) : Cells7 w g 0 e :=
  ⟨by rw [cell_of h]; rfl, by rw [cell_of h]; rfl, by rw [cell_of h]; rfl, by rw [cell_of h]; rfl, by rw [cell_of h]; rfl, by rw [cell_of h]; rfl, by rw [cell_of h]; rfl⟩
theorem ret_entry {fn : Func} {p : Tmp} (h : fn.results = #[.cell p 57]) (tmps : Array Value) (w : World) (g : Nat) {t : TypeId} {e : En} {fr : Nat × Nat} (hp : tmps.getD p undef = .pointer (some ⟨g, 0, none⟩)) (hg : w.heap[g]? = some (.cells e.vals.toArray t fr)) :
    (results fn tmps).run Try.prog w = .ok e.agg w :=
  results_cell_row h tmps w g t _ fr _ hp hg Try.underlying57 rfl Try.sizeE
theorem ret_entry2 {fn : Func} {p u : Tmp} (h : fn.results = #[.cell p 57, .tmp u]) (tmps : Array Value) (w : World) (g : Nat) {t : TypeId} {e : En} {fr : Nat × Nat} (hp : tmps.getD p undef = .pointer (some ⟨g, 0, none⟩)) (hg : w.heap[g]? = some (.cells e.vals.toArray t fr)) :
    (results fn tmps).run Try.prog w = .ok (.tuple #[e.agg, tmps.getD u undef]) w := by
  rw [results_cell_tmp h, hp]
  simp [asAddr, run_loadVar_row w g t 57 _ fr _ hg Try.underlying57 rfl Try.sizeE, Result.andThen]
  rfl

theorem Cells7.below {w w' : World} {g o : Nat} {e : En} (h : Cells7 w g o e) (hb : Below w.heap.size w w') : Cells7 w' g o e :=
  ⟨(hb.cell (cellLt h.c0)).trans h.c0, (hb.cell (cellLt h.c1)).trans h.c1, (hb.cell (cellLt h.c2)).trans h.c2, (hb.cell (cellLt h.c3)).trans h.c3, (hb.cell (cellLt h.c4)).trans h.c4, (hb.cell (cellLt h.c5)).trans h.c5, (hb.cell (cellLt h.c6)).trans h.c6⟩

theorem boxes2 {w W : World} {c1 c2 : Array Value} {t1 t2 : TypeId} (h : (w.alloc (.cells c1 t1)).alloc (.cells c2 t2) = W) :
    W.heap[w.heap.size]? = some (.cells c1 t1 (0, 0)) ∧ W.heap[w.heap.size + 1]? = some (.cells c2 t2 (0, 0)) ∧ Below w.heap.size w W ∧ W.heap.size = w.heap.size + 1 + 1 := by
  subst h
  have h0 : (w.alloc (.cells c1 t1)).heap.size = w.heap.size + 1 := by simp
  refine ⟨?_, ?_, ((Below.refl _ w).alloc (Nat.le_refl _) _).alloc (by simp) _, by simp⟩
  · rw [Below.heap_alloc _ _ _ (by rw [h0]; omega)]
    exact heap_new _ _
  · rw [← h0]; exact heap_new _ _
theorem vals_at (w : World) (e : En) (t : TypeId) : ∀ j u, e.vals[j]? = some u → (w.alloc (.cells e.vals.toArray t)).cell? ((⟨w.heap.size, 0, none⟩ : Addr).add j) = some u := by
  intro j u hu
  rw [add_plain', Nat.zero_add, cell_of (heap_new _ _), List.getElem?_toArray]; exact hu
theorem hold3 {w W W' : World} {r : Nat} {a b c : Value} (hr : r < w.heap.size) (h : W.cell? ⟨r, 0, none⟩ = some a ∧ W.cell? ⟨r, 1, none⟩ = some b ∧ W.cell? ⟨r, 2, none⟩ = some c ∧ Below w.heap.size w W) (hb : Below W.heap.size W W') :
    W'.cell? ⟨r, 0, none⟩ = some a ∧ W'.cell? ⟨r, 1, none⟩ = some b ∧ W'.cell? ⟨r, 2, none⟩ = some c ∧ Below w.heap.size w W' := by
  have := h.2.2.2.size
  exact ⟨(hb.cell (p := ⟨r, 0, none⟩) (Nat.lt_of_lt_of_le hr this)).trans h.1, (hb.cell (p := ⟨r, 1, none⟩) (Nat.lt_of_lt_of_le hr this)).trans h.2.1, (hb.cell (p := ⟨r, 2, none⟩) (Nat.lt_of_lt_of_le hr this)).trans h.2.2.1, chainB h.2.2.2 hb⟩
theorem hkeep {W W' : World} {k : Nat} {o : Obj} (h : W.heap[k]? = some o) (hb : Below W.heap.size W W') : W'.heap[k]? = some o := (hb.block _ (Array.getElem?_eq_some_iff.1 h).1).trans h
theorem cell_ne' {w : World} {b k i j : Nat} {v : Value} (h : k ≠ b) : (w.setCell ⟨b, i, none⟩ v).cell? ⟨k, j, none⟩ = w.cell? ⟨k, j, none⟩ := World.cell?_of_block (heap_set_ne h)
/-- a list of entries in memory -/
def Row7 (w : World) (base : Nat) (v : Value) (es : List En) : Prop := w.ownsRow base 57 7 v es.length (ec es)
theorem Row7.below {w w' : World} {base : Nat} {v : Value} {es : List En} (h : Row7 w base v es) (hb : Below w.heap.size w w') : Row7 w' base v es := owns_below h hb
def RowK (w : World) (base : Nat) (v : Value) (ks : List Ky) : Prop := w.ownsRow base 53 2 v ks.length (kc ks)
theorem RowK.below {w w' : World} {base : Nat} {v : Value} {ks : List Ky} (h : RowK w base v ks) (hb : Below w.heap.size w w') : RowK w' base v ks := owns_below h hb
theorem RowK.key {w : World} {base n cap i : Nat} {a : Option Addr} {ks : List Ky} {p : Ky} (h : RowK w base (.slice a n cap) ks) (hi : ks[i]? = some p) : ∃ g, a = some ⟨g, 0, none⟩ ∧ base ≤ g ∧ g < w.heap.size ∧ w.cell? ⟨g, i * 2, none⟩ = some (.int .i64 p.d) ∧ w.cell? ⟨g, i * 2 + 1, none⟩ = some (.string p.nm) ∧ ∀ j, w.frozen? ⟨g, j, none⟩ = false := by
  have hlt : i < ks.length := (List.getElem?_eq_some_iff.1 hi).1
  obtain ⟨N, hN⟩ : ∃ N, ks.length = N + 1 := ⟨ks.length - 1, by omega⟩
  unfold RowK at h
  rw [hN] at h
  obtain ⟨g, cap', e'⟩ := owns_form h
  cases e'
  obtain ⟨hc, hf, _, _, hb, hg⟩ := owns_cells h
  obtain ⟨l0, l1⟩ := kc_get ks i p hi
  exact ⟨g, rfl, hb, hg, hc _ _ l0, hc _ _ l1, hf⟩
/-- an entry laid over seven cells of a row -/
def put7o (w : World) (g o : Nat) (e : En) : World :=
  ((((((w.setCell ⟨g, o, none⟩ (.int .i64 e.d)).setCell ⟨g, o + 1, none⟩ (.string e.nm)).setCell ⟨g, o + 2, none⟩ (.bool e.neg)).setCell ⟨g, o + 3, none⟩ (.int .i64 e.id)).setCell ⟨g, o + 4, none⟩ (.int .i64 e.kind)).setCell ⟨g, o + 5, none⟩ (.int .i64 e.mode)).setCell ⟨g, o + 6, none⟩ (.string e.tg)
theorem put7o_row {w : World} {base g i n cap : Nat} {es : List En} {e f : En} (h : w.ownsRow base 57 7 (.slice (some ⟨g, 0, none⟩) n cap) n (ec es)) (hf : es[i]? = some f) : (put7o w g (i * 7) e).ownsRow base 57 7 (.slice (some ⟨g, 0, none⟩) n cap) n (ec (es.set i e)) := by
  rw [← ec_set7 es i e f hf]
  exact ((((((((h.stored (i * 7) (.int .i64 e.d)).1).stored (i * 7 + 1) (.string e.nm)).1.stored (i * 7 + 2) (.bool e.neg)).1.stored (i * 7 + 3) (.int .i64 e.id)).1.stored (i * 7 + 4) (.int .i64 e.kind)).1.stored (i * 7 + 5) (.int .i64 e.mode)).1.stored (i * 7 + 6) (.string e.tg)).1
theorem put7o_only (w : World) (g o : Nat) (e : En) : Only (· = g) w (put7o w g o e) :=
  ((((((only1 _ g _ _).trans (only1 _ g _ _)).trans (only1 _ g _ _)).trans (only1 _ g _ _)).trans (only1 _ g _ _)).trans (only1 _ g _ _)).trans (only1 _ g _ _)
end
section
open Go.RowKit

theorem Try.infoMg : (Try.prog.info? 45).map (fun i => (i.zero, i.size, i.bytes)) = some (some (.agg #[.int .i64 0, .int .i64 0, .int .i64 0, .int .i64 0, .complex .f64 0 0, .int .i64 0, .int .i64 0, .int .i64 0, .int .i64 0, .string ⟨#[]⟩, .int .i64 0, .string ⟨#[]⟩, .int .i64 0, .string ⟨#[]⟩, .slice none 0 0, .slice none 0 0]), 16, 192) := by kernel_rfl
theorem Try.sizeMg : (Try.prog.info? 45).map (·.size) = some 16 := by kernel_rfl
theorem Try.infoKy : (Try.prog.info? 53).map (fun i => (i.zero, i.size, i.bytes)) = some (some (.agg #[.int .i64 0, .string ⟨#[]⟩]), 2, 24) := by kernel_rfl
theorem Try.sizeKy : (Try.prog.info? 53).map (·.size) = some 2 := by kernel_rfl
theorem run_store_complex (P : Program) (w : World) (a : Addr) (m : Mode) (k : FloatKind) (x y : Nat) : (store a (.complex k x y) m).run P w = stored P w a (.complex k x y) m := run_store P w a _ m rfl
theorem boxB {w W : World} {cs : Array Value} {ty : TypeId} (hW : w.alloc (.cells cs ty) = W) : W.heap[w.heap.size]? = some (.cells cs ty (0, 0)) ∧ Below w.heap.size w W := by
  subst hW; exact ⟨heap_new _ _, below_alloc _ _⟩
def LB : Nat := 140737488351232
/-- a row's front -/
theorem owns_front {w : World} {base : Nat} {e : TypeId} {size g n m cap : Nat} {xs ys : List Value} (h : w.ownsRow base e size (.slice (some ⟨g, 0, none⟩) n cap) n xs) (hm : m ≤ n) (hy : xs.take (m * size) = ys) (hl : ys.length = m * size) : w.ownsRow base e size (.slice (some ⟨g, 0, none⟩) m cap) m ys := by
  refine ⟨hl, .inr ?_⟩
  rcases h.2 with ⟨e, _⟩ | ⟨g', cap', cur, e, hg, hh, r1, r2, r3, r4⟩
  · cases e
  · cases e
    refine ⟨g, cap, cur, rfl, hg, hh, by omega, r2, r3, ?_⟩
    rw [← hy, ← r4, List.take_take, Nat.min_eq_left (Nat.mul_le_mul_right _ hm)]
/-- a row with what lies behind it -/
theorem owns_longer {w : World} {base : Nat} {e : TypeId} {size g n m cap : Nat} {xs : List Value} (h : w.ownsRow base e size (.slice (some ⟨g, 0, none⟩) n cap) n xs) (hm : n ≤ m) (hc : m ≤ cap) : ∃ ys, w.ownsRow base e size (.slice (some ⟨g, 0, none⟩) m cap) m ys ∧ ys.take (n * size) = xs := by
  have hmul := Nat.mul_le_mul_right size hm
  have hmul2 := Nat.mul_le_mul_right size hc
  rcases h.2 with ⟨e, _⟩ | ⟨g', cap', cur, e, hg, hh, r1, r2, r3, r4⟩
  · cases e
  · cases e
    refine ⟨cur.toList.take (m * size), ⟨by rw [List.length_take, Array.length_toList, r3, Nat.min_eq_left hmul2], .inr ⟨g, cap, cur, rfl, hg, hh, hc, r2, r3, rfl⟩⟩, ?_⟩
    rw [List.take_take, Nat.min_eq_left hmul]; exact r4
/-- a whole message loaded, shut -/
def msgLd (v : Value) : Sem Value := Instr.loadAt 45 v
theorem loadMsg (v : Value) : Instr.loadAt 45 v = msgLd v := rfl
theorem msgLd_at {w : World} {g o : Nat} {cs : Array Value} (h : ∀ j v, cs[j]? = some v → w.cell? ⟨g, o + j, none⟩ = some v) (hs : cs.size = 16) : (msgLd (.pointer (some ⟨g, o, none⟩))).run Try.prog w = .ok (.agg cs) w := by
  have := run_loadAt_mid (P := Try.prog) w g o 45 cs.toList _ (fun j v hv => h j v (by rw [← Array.getElem?_toList]; exact hv)) Try.underlying45 rfl (by rw [Array.length_toList, hs]; exact Try.sizeMg)
  unfold msgLd
  rw [this, Array.toArray_toList]
theorem msgLd_of {w : World} {g : Nat} {cs : Array Value} {t : TypeId} {fr : Nat × Nat} (h : w.heap[g]? = some (.cells cs t fr)) (hs : cs.size = 16) : (msgLd (.pointer (some ⟨g, 0, none⟩))).run Try.prog w = .ok (.agg cs) w := by
  unfold msgLd Instr.loadAt Instr.sureAddr
  simp [run_loadVar_row w g t 45 cs fr _ h Try.underlying45 rfl (by rw [hs]; exact Try.sizeMg)]
attribute [irreducible] msgLd
/-- a whole message stored, shut -/
def msgSt (a v : Value) : Sem Unit := Instr.storeAt 45 a v
theorem storeMsg (a v : Value) : Instr.storeAt 45 a v = msgSt a v := rfl
theorem msgSt_of {w W : World} {g : Nat} {old cs : Array Value} {t : TypeId} (h : w.heap[g]? = some (.cells old t (0, 0))) (ho : old.size = 16) (hs : cs.size = 16) (h1 : cs.all (·.oneCell') = true) (hW : w.setRow g cs = W) : (msgSt (.pointer (some ⟨g, 0, none⟩)) (.agg cs)).run Try.prog w = .ok () W := by
  subst hW
  unfold msgSt Instr.storeAt Instr.sureAddr
  simp [run_storeVar_row w g t 45 old cs h (by rw [hs]; exact Try.sizeMg) (by rw [ho, hs]) h1]
theorem msgSt_at {w W : World} {g o : Nat} {cur cs : Array Value} {t : TypeId} (h : w.heap[g]? = some (.cells cur t (0, 0))) (hs : cs.size = 16) (hf : o + 16 ≤ cur.size) (h1 : ∀ v ∈ cs.toList, v.oneCell' = true) (hW : w.setRow g (cur.toList.take o ++ cs.toList ++ cur.toList.drop (o + 16)).toArray = W) : (msgSt (.pointer (some ⟨g, o, none⟩)) (.agg cs)).run Try.prog w = .ok () W := by
  subst hW
  have hl : cs.toList.length = 16 := by rw [Array.length_toList, hs]
  have hst := run_storeCells_at Try.prog g o t cs.toList 0 cur w h (by rw [hl]; omega) h1
  simp only [Nat.add_zero, hl] at hst
  have hz : (sizeOf 45).run Try.prog w = .ok 16 w := by
    have := Try.sizeMg
    cases hq : Try.prog.info? 45 with
    | none => rw [hq] at this; cases this
    | some i =>
      rw [hq] at this
      have e : i.size = 16 := by simpa using this
      simp [sizeOf, typeInfo, hq, e]
  unfold msgSt Instr.storeAt Instr.sureAddr storeVar
  simp [hz, Value.cells, hs, hst]
attribute [irreducible] msgSt

/-- a message in memory: what it says, where its entries and keys lie -/
structure Hm where
  m : Pm
  ae : Option Addr
  ce : Nat
  ak : Option Addr
  ck : Nat
def Hm.ve (h : Hm) : Value := .slice h.ae h.m.es.length h.ce
def Hm.vk (h : Hm) : Value := .slice h.ak h.m.ks.length h.ck
def Hm.arr (h : Hm) : Array Value := h.m.arr h.ve h.vk
def Hm.vals (h : Hm) : List Value := h.arr.toList
theorem Hm.size (h : Hm) : h.arr.size = 16 := rfl
theorem Hm.len (h : Hm) : h.vals.length = 16 := rfl
theorem Hm.one (h : Hm) : h.arr.all (·.oneCell') = true := by simp [Hm.arr, Pm.arr, Hm.ve, Hm.vk, Value.oneCell']
theorem Hm.one' (h : Hm) : ∀ u ∈ h.vals, u.oneCell' = true := by
  have := h.one
  rw [Array.all_eq_true'] at this
  intro u hu
  exact this u (by simpa [Hm.vals] using hu)
def mc (l : List Hm) : List Value := l.flatMap Hm.vals
theorem mc_len (l : List Hm) : (mc l).length = l.length * 16 := by
  unfold mc
  induction l with
  | nil => rfl
  | cons a l ih => rw [List.flatMap_cons, List.length_append, ih, List.length_cons, Hm.len]; omega
theorem mc_app (a b : List Hm) : mc (a ++ b) = mc a ++ mc b := by unfold mc; rw [List.flatMap_append]
theorem mc_cons (a : Hm) (b : List Hm) : mc (a :: b) = a.vals ++ mc b := rfl
theorem mc_get (l : List Hm) (i j : Nat) (h : Hm) (hi : l[i]? = some h) (hj : j < 16) : (mc l)[i * 16 + j]? = h.vals[j]? := by
  induction l generalizing i with
  | nil => simp at hi
  | cons a l ih =>
    rw [mc_cons]
    cases i with
    | zero =>
      simp at hi
      subst hi
      rw [Nat.zero_mul, Nat.zero_add, List.getElem?_append_left (by rw [Hm.len]; exact hj)]
    | succ i =>
      rw [List.getElem?_append_right (by rw [Hm.len]; omega), Hm.len, show (i + 1) * 16 + j - 16 = i * 16 + j by omega]
      exact ih i (by simpa using hi)
theorem mc_take (l : List Hm) (i : Nat) : (mc l).take (i * 16) = mc (l.take i) := by
  induction l generalizing i with
  | nil => simp [mc]
  | cons a l ih =>
    cases i with
    | zero => simp [mc]
    | succ i =>
      rw [mc_cons, List.take_succ_cons, mc_cons, List.take_append, Hm.len, List.take_of_length_le (by rw [Hm.len]; omega), show (i + 1) * 16 - 16 = i * 16 by omega, ih]
theorem mc_drop (l : List Hm) (i : Nat) : (mc l).drop (i * 16) = mc (l.drop i) := by
  induction l generalizing i with
  | nil => simp [mc]
  | cons a l ih =>
    cases i with
    | zero => simp
    | succ i =>
      rw [mc_cons, List.drop_succ_cons, List.drop_append, Hm.len, List.drop_of_length_le (by rw [Hm.len]; omega), show (i + 1) * 16 - 16 = i * 16 by omega, ih]
      rfl
theorem mc_set (l : List Hm) (i : Nat) (x : Hm) (h : i < l.length) : (mc l).take (i * 16) ++ x.vals ++ (mc l).drop (i * 16 + 16) = mc (l.set i x) := by
  rw [mc_take, show i * 16 + 16 = (i + 1) * 16 by omega, mc_drop, List.set_eq_take_append_cons_drop, if_pos h, mc_app, mc_cons, List.append_assoc]
theorem mc_one (l : List Hm) : ∀ u ∈ mc l, u.oneCell' = true := by
  intro u hu
  unfold mc at hu
  obtain ⟨p, _, hp⟩ := List.mem_flatMap.1 hu
  exact p.one' u hp
def RowM (w : World) (base : Nat) (v : Value) (l : List Hm) : Prop := w.ownsRow base 45 16 v l.length (mc l)
theorem RowM.below {w w' : World} {base : Nat} {v : Value} {l : List Hm} (h : RowM w base v l) (hb : Below w.heap.size w w') : RowM w' base v l := owns_below h hb
theorem RowM.moved {w w' : World} {base : Nat} {v : Value} {l : List Hm} (h : RowM w base v l) (hk : ∀ k, v.ownBlock = some k → w'.heap[k]? = w.heap[k]?) : RowM w' base v l := owns_moved h hk
theorem RowM.lt {w : World} {base : Nat} {v : Value} {l : List Hm} (h : RowM w base v l) {k : Nat} (hk : v.ownBlock = some k) : base ≤ k ∧ k < w.heap.size := World.ownsRow.lt h k hk
theorem RowM.tag {w : World} {base : Nat} {v : Value} {l : List Hm} (h : RowM w base v l) {k : Nat} (hk : v.ownBlock = some k) : Tag w k 45 := Tag.own h hk
/-- one of a row's messages -/
theorem owns_msg {w : World} {base n cap i : Nat} {a : Option Addr} {l : List Hm} {h : Hm} (hr : RowM w base (.slice a n cap) l) (hi : l[i]? = some h) : ∃ g, a = some ⟨g, 0, none⟩ ∧ n = l.length ∧ base ≤ g ∧ g < w.heap.size ∧ (∀ j v, h.arr[j]? = some v → w.cell? ⟨g, i * 16 + j, none⟩ = some v) := by
  have hlt : i < l.length := (List.getElem?_eq_some_iff.1 hi).1
  obtain ⟨N, hN⟩ : ∃ N, l.length = N + 1 := ⟨l.length - 1, by omega⟩
  unfold RowM at hr
  rw [hN] at hr
  obtain ⟨g, cap', e'⟩ := owns_form hr
  cases e'
  obtain ⟨hc, hf, _, _, hb, hg⟩ := owns_cells hr
  refine ⟨g, rfl, hN.symm, hb, hg, fun j v hv => ?_⟩
  have hj : j < 16 := (Array.getElem?_eq_some_iff.1 hv).1
  apply hc
  rw [mc_get l i j h hi hj]
  rw [Hm.vals, Array.getElem?_toList]; exact hv
theorem kc_one (ks : List Ky) : ∀ u ∈ kc ks, u.oneCell' = true := by
  intro u hu
  unfold kc at hu
  obtain ⟨p, _, hp⟩ := List.mem_flatMap.1 hu
  simp at hp
  rcases hp with rfl | rfl <;> rfl
/-- what a message's lists are -/
structure Lists (w : World) (B : Nat) (h : Hm) : Prop where
  es : Row7 w B h.ve h.m.es
  ks : RowK w B h.vk h.m.ks
  le : h.m.es.length * 72 ≤ LB
  lk : h.m.ks.length * 24 ≤ LB
theorem Lists.below {w w' : World} {B : Nat} {h : Hm} (k : Lists w B h) (hb : Below w.heap.size w w') : Lists w' B h := ⟨k.es.below hb, k.ks.below hb, k.le, k.lk⟩
theorem Lists.moved {w w' : World} {B : Nat} {h : Hm} (k : Lists w B h) (hk : ∀ q, h.ve.ownBlock = some q ∨ h.vk.ownBlock = some q → w'.heap[q]? = w.heap[q]?) : Lists w' B h := ⟨owns_moved k.es fun q e => hk q (.inl e), owns_moved k.ks fun q e => hk q (.inr e), k.le, k.lk⟩
theorem Lists.down {w : World} {B B' : Nat} {h : Hm} (k : Lists w B h) (hb : B' ≤ B) : Lists w B' h := ⟨owns_le k.es hb, owns_le k.ks hb, k.le, k.lk⟩
/-- what turns none of the lists' blocks leaves them -/
theorem Lists.only {S : Nat → Prop} {w w' : World} {B : Nat} {h : Hm} (k : Lists w B h) (ho : Only S w w') (hS : ∀ q, S q → ¬ Tag w q 57 ∧ ¬ Tag w q 53) : Lists w' B h :=
  k.moved fun q e => ho.block q (by
    rcases e with e | e
    · exact (Tag.own k.es e).lt
    · exact (Tag.own k.ks e).lt) fun s => by
    rcases e with e | e
    · exact (hS q s).1 (Tag.own k.es e)
    · exact (hS q s).2 (Tag.own k.ks e)
theorem Tag.two {w : World} {k : Nat} {t t' : TypeId} (h : Tag w k t) (ht : t ≠ t') : ¬ Tag w k t' := fun h' => h.ne h' ht rfl
end
end Go.Proofs.Ytpmcecenhgppbaa
