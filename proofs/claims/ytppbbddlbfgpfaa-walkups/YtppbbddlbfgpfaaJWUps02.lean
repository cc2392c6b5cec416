/- Entries in memory: cells, comparison, lists. -/
import Derived.Test.YtppbbddlbfgpfaaJWUps01
import Derived.Laws.ResultCell
namespace Go.Proofs.Ytppbbddlbfgpfaa
section
open Go.RowKit

theorem Try.infoE : (Try.prog.info? 42).map (fun i => (i.zero, i.size, i.bytes)) = some (some (.agg #[.int .i64 0, .string ⟨#[]⟩, .bool false, .int .i64 0, .int .i64 0, .int .i64 0, .string ⟨#[]⟩]), 7, 72) := by kernel_rfl
theorem Try.sizeE : (Try.prog.info? 42).map (·.size) = some 7 := by kernel_rfl
/-- an entry of a list in memory: its seven cells -/
structure Cells7 (w : World) (g o : Nat) (e : En) : Prop where
  c0 : w.cell? ⟨g, o, none⟩ = some (.int .i64 e.d)
  c1 : w.cell? ⟨g, o + 1, none⟩ = some (.string e.nm)
  c2 : w.cell? ⟨g, o + 2, none⟩ = some (.bool e.neg)
  c3 : w.cell? ⟨g, o + 3, none⟩ = some (.int .i64 e.id)
  c4 : w.cell? ⟨g, o + 4, none⟩ = some (.int .i64 e.kind)
  c5 : w.cell? ⟨g, o + 5, none⟩ = some (.int .i64 e.mode)
  c6 : w.cell? ⟨g, o + 6, none⟩ = some (.string e.tg)
theorem owns_entry {w : World} {base n cap i : Nat} {a : Option Addr} {es : List En} {e : En} (h : w.ownsRow base 42 7 (.slice a n cap) es.length (ec es)) (hi : es[i]? = some e) : ∃ g, a = some ⟨g, 0, none⟩ ∧ n = es.length ∧ base ≤ g ∧ g < w.heap.size ∧ Cells7 w g (i * 7) e ∧ (∀ j, w.frozen? ⟨g, j, none⟩ = false) := by
  have hlt : i < es.length := (List.getElem?_eq_some_iff.1 hi).1
  obtain ⟨N, hN⟩ : ∃ N, es.length = N + 1 := ⟨es.length - 1, by omega⟩
  rw [hN] at h
  obtain ⟨g, cap', e'⟩ := owns_form h
  cases e'
  obtain ⟨hc, hf, _, _, hb, hg⟩ := owns_cells h
  exact ⟨g, rfl, hN.symm, hb, hg, ⟨hc _ _ (ec_get es i 0 e hi (by omega)), hc _ _ (ec_get es i 1 e hi (by omega)), hc _ _ (ec_get es i 2 e hi (by omega)), hc _ _ (ec_get es i 3 e hi (by omega)), hc _ _ (ec_get es i 4 e hi (by omega)), hc _ _ (ec_get es i 5 e hi (by omega)), hc _ _ (ec_get es i 6 e hi (by omega))⟩, hf⟩

theorem Try.stoodK : Try.prog.stoodInHeld 28 = false := by kernel_rfl
theorem Try.guardK : Try.prog.eqGuardType Try.prog.depth 28 = false := by kernel_rfl
theorem Try.stoodE : Try.prog.stoodInHeld 42 = false := by kernel_rfl
theorem Try.guardE : Try.prog.eqGuardType Try.prog.depth 42 = false := by kernel_rfl
theorem Try.stoodN : Try.prog.stoodInHeld 31 = false := by kernel_rfl
theorem Try.guardN : Try.prog.eqGuardType Try.prog.depth 31 = false := by kernel_rfl
theorem Try.undK : Try.prog.underlying 28 = some (.struct (Try.prog.fieldsOf 28)) := by kernel_rfl
theorem Try.undE : Try.prog.underlying 42 = some (.struct (Try.prog.fieldsOf 42)) := by kernel_rfl
theorem Try.undN : Try.prog.underlying 31 = some (.struct (Try.prog.fieldsOf 31)) := by kernel_rfl
theorem eqInK (n : Nat) (w : World) (a b : Int) (x y : ByteArray) : (Op.equalIn (n + 1 + 1) 28 (.agg #[.int .i64 a, .string x]) (.agg #[.int .i64 b, .string y])).run Try.prog w = .ok (decide (a = b ∧ x = y)) w := by
  rw [run_equalIn_agg _ _ _ _ _ Try.undK Try.stoodK]
  simp [Program.fieldsOf, Try.underlying28, Op.eqFields, go_sem, bytes_eq]
  by_cases h1 : a = b <;> by_cases h2 : x = y <;> simp [h1, h2]
theorem eqInN (n : Nat) (w : World) (i k m i' k' m' : Int) (x y : ByteArray) : (Op.equalIn (n + 1 + 1) 31 (.agg #[.int .i64 i, .int .i64 k, .int .i64 m, .string x]) (.agg #[.int .i64 i', .int .i64 k', .int .i64 m', .string y])).run Try.prog w = .ok (decide (i = i' ∧ k = k' ∧ m = m' ∧ x = y)) w := by
  rw [run_equalIn_agg _ _ _ _ _ Try.undN Try.stoodN]
  simp [Program.fieldsOf, Try.underlying31, Op.eqFields, go_sem, bytes_eq]
  by_cases h1 : i = i' <;> by_cases h2 : k = k' <;> by_cases h3 : m = m' <;> by_cases h4 : x = y <;> simp [h1, h2, h3, h4]
theorem eqK (w : World) (a b : Int) (x y : ByteArray) : (binOp .eql 28 (.agg #[.int .i64 a, .string x]) (.agg #[.int .i64 b, .string y])).run Try.prog w = .ok (.bool (decide (a = b ∧ x = y))) w := by
  rw [run_eql_struct, eqInK 9998]; rfl
theorem neqK (w : World) (a b : Int) (x y : ByteArray) : (binOp .neq 28 (.agg #[.int .i64 a, .string x]) (.agg #[.int .i64 b, .string y])).run Try.prog w = .ok (.bool (!decide (a = b ∧ x = y))) w := by
  rw [run_neq_struct, eqInK 9998]; rfl
theorem guardK (w : World) (op : BinOp) (p q : Operand) (xs ys : Array Value) : (eqGuard op 28 p q (.agg xs) (.agg ys)).run Try.prog w = .ok () w := run_eqGuard_agg w op _ p q xs ys Try.guardK
theorem guardE (w : World) (op : BinOp) (p q : Operand) (xs ys : Array Value) : (eqGuard op 42 p q (.agg xs) (.agg ys)).run Try.prog w = .ok () w := run_eqGuard_agg w op _ p q xs ys Try.guardE
theorem guardN (w : World) (op : BinOp) (p q : Operand) (xs ys : Array Value) : (eqGuard op 31 p q (.agg xs) (.agg ys)).run Try.prog w = .ok () w := run_eqGuard_agg w op _ p q xs ys Try.guardN
/-- are two entries the same (shut, so that the walk leaves it standing) -/
def eqEn (e f : En) : Bool := decide (e.d = f.d) && (decide (e.nm = f.nm) && (decide (e.neg = f.neg) && (decide (e.id = f.id) && (decide (e.kind = f.kind) && (decide (e.mode = f.mode) && decide (e.tg = f.tg))))))
theorem eqEn_iff (e f : En) : eqEn e f = true ↔ e = f := by
  obtain ⟨a, b, c, d, g, h, i⟩ := e
  obtain ⟨a', b', c', d', g', h', i'⟩ := f
  unfold eqEn
  simp
theorem eqEn_no {e f : En} (h : e ≠ f) : eqEn e f = false := by
  cases k : eqEn e f with
  | false => rfl
  | true => exact absurd ((eqEn_iff e f).1 k) h
theorem eqInE (w : World) (e f : En) : (Op.equalIn 10000 42 e.agg f.agg).run Try.prog w = .ok (eqEn e f) w := by
  unfold En.agg
  rw [run_equalIn_agg _ 9999 _ _ _ Try.undE Try.stoodE]
  simp [Program.fieldsOf, Try.underlying42, Op.eqFields, part, go_sem]
  simp only [bytes_eq]
  unfold eqEn
  obtain ⟨a, b, c, d, g, h, i⟩ := e
  obtain ⟨a', b', c', d', g', h', i'⟩ := f
  by_cases h1 : a = a' <;> by_cases h2 : b = b' <;> by_cases h3 : c = c' <;> by_cases h4 : d = d' <;> by_cases h5 : g = g' <;> by_cases h6 : h = h' <;> by_cases h7 : i = i' <;> simp [h1, h2, h3, h4, h5, h6, h7]
theorem eqE (w : World) (a b c a' b' c' d d' : Int) (x y x' y' : ByteArray) (n n' : Bool) : (binOp .eql 42 (.agg #[.int .i64 d, .string x, .bool n, .int .i64 a, .int .i64 b, .int .i64 c, .string y]) (.agg #[.int .i64 d', .string x', .bool n', .int .i64 a', .int .i64 b', .int .i64 c', .string y'])).run Try.prog w = .ok (.bool (eqEn ⟨d, x, n, a, b, c, y⟩ ⟨d', x', n', a', b', c', y'⟩)) w := by
  rw [run_eql_struct]
  have := eqInE w ⟨d, x, n, a, b, c, y⟩ ⟨d', x', n', a', b', c', y'⟩
  unfold En.agg at this
  rw [this]; rfl
theorem neqE (w : World) (a b c a' b' c' d d' : Int) (x y x' y' : ByteArray) (n n' : Bool) : (binOp .neq 42 (.agg #[.int .i64 d, .string x, .bool n, .int .i64 a, .int .i64 b, .int .i64 c, .string y]) (.agg #[.int .i64 d', .string x', .bool n', .int .i64 a', .int .i64 b', .int .i64 c', .string y'])).run Try.prog w = .ok (.bool (!eqEn ⟨d, x, n, a, b, c, y⟩ ⟨d', x', n', a', b', c', y'⟩)) w := by
  rw [run_neq_struct]
  have := eqInE w ⟨d, x, n, a, b, c, y⟩ ⟨d', x', n', a', b', c', y'⟩
  unfold En.agg at this
  rw [this]; rfl
theorem eqN (w : World) (i k m i' k' m' : Int) (x y : ByteArray) : (binOp .eql 31 (.agg #[.int .i64 i, .int .i64 k, .int .i64 m, .string x]) (.agg #[.int .i64 i', .int .i64 k', .int .i64 m', .string y])).run Try.prog w = .ok (.bool (decide (i = i' ∧ k = k' ∧ m = m' ∧ x = y))) w := by
  rw [run_eql_struct, eqInN 9998]; rfl
theorem neqN (w : World) (i k m i' k' m' : Int) (x y : ByteArray) : (binOp .neq 31 (.agg #[.int .i64 i, .int .i64 k, .int .i64 m, .string x]) (.agg #[.int .i64 i', .int .i64 k', .int .i64 m', .string y])).run Try.prog w = .ok (.bool (!decide (i = i' ∧ k = k' ∧ m = m' ∧ x = y))) w := by
  rw [run_neq_struct, eqInN 9998]; rfl
/-- an entry laid over seven cells -/
def put7 (w : World) (g : Nat) (e : En) : World :=
  ((((((w.setCell ⟨g, 0, none⟩ (.int .i64 e.d)).setCell ⟨g, 1, none⟩ (.string e.nm)).setCell ⟨g, 2, none⟩ (.bool e.neg)).setCell ⟨g, 3, none⟩ (.int .i64 e.id)).setCell ⟨g, 4, none⟩ (.int .i64 e.kind)).setCell ⟨g, 5, none⟩ (.int .i64 e.mode)).setCell ⟨g, 6, none⟩ (.string e.tg)
theorem put7_heap {w : World} {g : Nat} {t : TypeId} {f : En} (e : En) (h : w.heap[g]? = some (.cells f.vals.toArray t (0, 0))) : (put7 w g e).heap[g]? = some (.cells e.vals.toArray t (0, 0)) := by
  have k := heap_set (heap_set (heap_set (heap_set (heap_set (heap_set (heap_set h 0 (.int .i64 e.d)) 1 (.string e.nm)) 2 (.bool e.neg)) 3 (.int .i64 e.id)) 4 (.int .i64 e.kind)) 5 (.int .i64 e.mode)) 6 (.string e.tg)
  simp only [En.vals, List.setIfInBounds_toArray, List.set_cons_zero, List.set_cons_succ] at k
  exact k
theorem put7_only (w : World) (g : Nat) (e : En) : Only (· = g) w (put7 w g e) :=
  ((((((only1 _ g _ _).trans (only1 _ g _ _)).trans (only1 _ g _ _)).trans (only1 _ g _ _)).trans (only1 _ g _ _)).trans (only1 _ g _ _)).trans (only1 _ g _ _)
theorem cells7_of {w : World} {g : Nat} {t : TypeId} {e : En} (h : w.heap[g]? = some (.cells e.vals.toArray t (0, 0))) : Cells7 w g 0 e :=
  ⟨by rw [cell_of h]; rfl, by rw [cell_of h]; rfl, by rw [cell_of h]; rfl, by rw [cell_of h]; rfl, by rw [cell_of h]; rfl, by rw [cell_of h]; rfl, by rw [cell_of h]; rfl⟩
theorem ret_entry {fn : Func} {p : Tmp} (h : fn.results = #[.cell p 42]) (tmps : Array Value) (w : World) (g : Nat) {t : TypeId} {e : En} {fr : Nat × Nat} (hp : tmps.getD p undef = .pointer (some ⟨g, 0, none⟩)) (hg : w.heap[g]? = some (.cells e.vals.toArray t fr)) :
    (results fn tmps).run Try.prog w = .ok e.agg w :=
  results_cell_row h tmps w g t _ fr _ hp hg Try.underlying42 rfl Try.sizeE
theorem ret_entry2 {fn : Func} {p u : Tmp} (h : fn.results = #[.cell p 42, .tmp u]) (tmps : Array Value) (w : World) (g : Nat) {t : TypeId} {e : En} {fr : Nat × Nat} (hp : tmps.getD p undef = .pointer (some ⟨g, 0, none⟩)) (hg : w.heap[g]? = some (.cells e.vals.toArray t fr)) :
    (results fn tmps).run Try.prog w = .ok (.tuple #[e.agg, tmps.getD u undef]) w := by
  rw [results_cell_tmp h, hp]
  simp [asAddr, run_loadVar_row w g t 42 _ fr _ hg Try.underlying42 rfl Try.sizeE, Result.andThen]
  rfl

theorem Cells7.below {w w' : World} {g o : Nat} {e : En} (h : Cells7 w g o e) (hb : Below w.heap.size w w') : Cells7 w' g o e :=
  ⟨(hb.cell (cellLt h.c0)).trans h.c0, (hb.cell (cellLt h.c1)).trans h.c1, (hb.cell (cellLt h.c2)).trans h.c2, (hb.cell (cellLt h.c3)).trans h.c3, (hb.cell (cellLt h.c4)).trans h.c4, (hb.cell (cellLt h.c5)).trans h.c5, (hb.cell (cellLt h.c6)).trans h.c6⟩

theorem boxes2 {w W : World} {c1 c2 : Array Value} {t1 t2 : TypeId} (h : (w.alloc (.cells c1 t1)).alloc (.cells c2 t2) = W) :
    W.heap[w.heap.size]? = some (.cells c1 t1 (0, 0)) ∧ W.heap[w.heap.size + 1]? = some (.cells c2 t2 (0, 0)) ∧ Below w.heap.size w W ∧ W.heap.size = w.heap.size + 1 + 1 := by
  subst h
  have h0 : (w.alloc (.cells c1 t1)).heap.size = w.heap.size + 1 := by simp
  refine ⟨?_, ?_, ((Below.refl _ w).alloc (Nat.le_refl _) _).alloc (by simp) _, by simp⟩
  · rw [Below.heap_alloc _ _ _ (by rw [h0]; omega)]
    exact heap_new _ _
  · rw [← h0]; exact heap_new _ _
theorem vals_at (w : World) (e : En) (t : TypeId) : ∀ j u, e.vals[j]? = some u → (w.alloc (.cells e.vals.toArray t)).cell? ((⟨w.heap.size, 0, none⟩ : Addr).add j) = some u := by
  intro j u hu
  rw [add_plain', Nat.zero_add, cell_of (heap_new _ _), List.getElem?_toArray]; exact hu
theorem hold3 {w W W' : World} {r : Nat} {a b c : Value} (hr : r < w.heap.size) (h : W.cell? ⟨r, 0, none⟩ = some a ∧ W.cell? ⟨r, 1, none⟩ = some b ∧ W.cell? ⟨r, 2, none⟩ = some c ∧ Below w.heap.size w W) (hb : Below W.heap.size W W') :
    W'.cell? ⟨r, 0, none⟩ = some a ∧ W'.cell? ⟨r, 1, none⟩ = some b ∧ W'.cell? ⟨r, 2, none⟩ = some c ∧ Below w.heap.size w W' := by
  have := h.2.2.2.size
  exact ⟨(hb.cell (p := ⟨r, 0, none⟩) (Nat.lt_of_lt_of_le hr this)).trans h.1, (hb.cell (p := ⟨r, 1, none⟩) (Nat.lt_of_lt_of_le hr this)).trans h.2.1, (hb.cell (p := ⟨r, 2, none⟩) (Nat.lt_of_lt_of_le hr this)).trans h.2.2.1, chainB h.2.2.2 hb⟩
theorem hkeep {W W' : World} {k : Nat} {o : Obj} (h : W.heap[k]? = some o) (hb : Below W.heap.size W W') : W'.heap[k]? = some o := (hb.block _ (Array.getElem?_eq_some_iff.1 h).1).trans h
theorem cell_ne' {w : World} {b k i j : Nat} {v : Value} (h : k ≠ b) : (w.setCell ⟨b, i, none⟩ v).cell? ⟨k, j, none⟩ = w.cell? ⟨k, j, none⟩ := World.cell?_of_block (heap_set_ne h)
/-- a list of entries in memory -/
def Row7 (w : World) (base : Nat) (v : Value) (es : List En) : Prop := w.ownsRow base 42 7 v es.length (ec es)
theorem Row7.below {w w' : World} {base : Nat} {v : Value} {es : List En} (h : Row7 w base v es) (hb : Below w.heap.size w w') : Row7 w' base v es := owns_below h hb
def RowK (w : World) (base : Nat) (v : Value) (ks : List Ky) : Prop := w.ownsRow base 28 2 v ks.length (kc ks)
theorem RowK.below {w w' : World} {base : Nat} {v : Value} {ks : List Ky} (h : RowK w base v ks) (hb : Below w.heap.size w w') : RowK w' base v ks := owns_below h hb
theorem RowK.key {w : World} {base n cap i : Nat} {a : Option Addr} {ks : List Ky} {p : Ky} (h : RowK w base (.slice a n cap) ks) (hi : ks[i]? = some p) : ∃ g, a = some ⟨g, 0, none⟩ ∧ base ≤ g ∧ g < w.heap.size ∧ w.cell? ⟨g, i * 2, none⟩ = some (.int .i64 p.d) ∧ w.cell? ⟨g, i * 2 + 1, none⟩ = some (.string p.nm) ∧ ∀ j, w.frozen? ⟨g, j, none⟩ = false := by
  have hlt : i < ks.length := (List.getElem?_eq_some_iff.1 hi).1
  obtain ⟨N, hN⟩ : ∃ N, ks.length = N + 1 := ⟨ks.length - 1, by omega⟩
  unfold RowK at h
  rw [hN] at h
  obtain ⟨g, cap', e'⟩ := owns_form h
  cases e'
  obtain ⟨hc, hf, _, _, hb, hg⟩ := owns_cells h
  obtain ⟨l0, l1⟩ := kc_get ks i p hi
  exact ⟨g, rfl, hb, hg, hc _ _ l0, hc _ _ l1, hf⟩
/-- an entry laid over seven cells of a row -/
def put7o (w : World) (g o : Nat) (e : En) : World :=
  ((((((w.setCell ⟨g, o, none⟩ (.int .i64 e.d)).setCell ⟨g, o + 1, none⟩ (.string e.nm)).setCell ⟨g, o + 2, none⟩ (.bool e.neg)).setCell ⟨g, o + 3, none⟩ (.int .i64 e.id)).setCell ⟨g, o + 4, none⟩ (.int .i64 e.kind)).setCell ⟨g, o + 5, none⟩ (.int .i64 e.mode)).setCell ⟨g, o + 6, none⟩ (.string e.tg)
theorem put7o_row {w : World} {base g i n cap : Nat} {es : List En} {e f : En} (h : w.ownsRow base 42 7 (.slice (some ⟨g, 0, none⟩) n cap) n (ec es)) (hf : es[i]? = some f) : (put7o w g (i * 7) e).ownsRow base 42 7 (.slice (some ⟨g, 0, none⟩) n cap) n (ec (es.set i e)) := by
  rw [← ec_set7 es i e f hf]
  exact ((((((((h.stored (i * 7) (.int .i64 e.d)).1).stored (i * 7 + 1) (.string e.nm)).1.stored (i * 7 + 2) (.bool e.neg)).1.stored (i * 7 + 3) (.int .i64 e.id)).1.stored (i * 7 + 4) (.int .i64 e.kind)).1.stored (i * 7 + 5) (.int .i64 e.mode)).1.stored (i * 7 + 6) (.string e.tg)).1
theorem put7o_only (w : World) (g o : Nat) (e : En) : Only (· = g) w (put7o w g o e) :=
  ((((((only1 _ g _ _).trans (only1 _ g _ _)).trans (only1 _ g _ _)).trans (only1 _ g _ _)).trans (only1 _ g _ _)).trans (only1 _ g _ _)).trans (only1 _ g _ _)
end
section
open Go.RowKit
attribute [local go_sem high] eqK neqK eqE neqE eqN neqN guardK guardE guardN

/-- are two lists the same -/
def sameEs : List En → List En → Bool
  | [], [] => true
  | a :: l, b :: m => eqEn a b && sameEs l m
  | _, _ => false
theorem sameEs_iff : ∀ (l m : List En), sameEs l m = true ↔ l = m
  | [], [] => by simp [sameEs]
  | [], b :: m => by simp [sameEs]
  | a :: l, [] => by simp [sameEs]
  | a :: l, b :: m => by
    rw [sameEs, Bool.and_eq_true, sameEs_iff l m]
    rw [eqEn_iff, List.cons.injEq]
theorem sameEs_no {l m : List En} (h : ¬ l = m) : sameEs l m = false := by
  cases k : sameEs l m with
  | false => rfl
  | true => exact absurd ((sameEs_iff l m).1 k) h
end
end Go.Proofs.Ytppbbddlbfgpfaa
