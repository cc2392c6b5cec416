/- Entries in memory: cells, comparison, lists. -/
import Derived.Test.YtekonakanieeaaaJWDes01
import Derived.Laws.ResultCell
import Derived.Laws.BytesArg
namespace Go.Proofs.Ytekonakanieeaaa
section
open Go.RowKit

theorem Try.infoE : (Try.prog.info? 44).map (fun i => (i.zero, i.size, i.bytes)) = some (some (.agg #[.int .i64 0, .string ⟨#[]⟩, .bool false, .int .i64 0, .int .i64 0, .int .i64 0, .string ⟨#[]⟩]), 7, 72) := by kernel_rfl
theorem Try.sizeE : (Try.prog.info? 44).map (·.size) = some 7 := by kernel_rfl
/-- an entry of a list in memory: its seven cells -/
structure Cells7 (w : World) (g o : Nat) (e : En) : Prop where
  c0 : w.cell? ⟨g, o, none⟩ = some (.int .i64 e.d)
  c1 : w.cell? ⟨g, o + 1, none⟩ = some (.string e.nm)
  c2 : w.cell? ⟨g, o + 2, none⟩ = some (.bool e.neg)
  c3 : w.cell? ⟨g, o + 3, none⟩ = some (.int .i64 e.id)
  c4 : w.cell? ⟨g, o + 4, none⟩ = some (.int .i64 e.kind)
  c5 : w.cell? ⟨g, o + 5, none⟩ = some (.int .i64 e.mode)
  c6 : w.cell? ⟨g, o + 6, none⟩ = some (.string e.tg)
theorem owns_entry {w : World} {base n cap i : Nat} {a : Option Addr} {es : List En} {e : En} (h : w.ownsRow base 44 7 (.slice a n cap) es.length (ec es)) (hi : es[i]? = some e) : ∃ g, a = some ⟨g, 0, none⟩ ∧ n = es.length ∧ base ≤ g ∧ g < w.heap.size ∧ Cells7 w g (i * 7) e ∧ (∀ j, w.frozen? ⟨g, j, none⟩ = false) := by
  have hlt : i < es.length := (List.getElem?_eq_some_iff.1 hi).1
  obtain ⟨N, hN⟩ : ∃ N, es.length = N + 1 := ⟨es.length - 1, by omega⟩
  rw [hN] at h
  obtain ⟨g, cap', e'⟩ := owns_form h
  cases e'
  obtain ⟨hc, hf, _, _, hb, hg⟩ := owns_cells h
  exact ⟨g, rfl, hN.symm, hb, hg, ⟨hc _ _ (ec_get es i 0 e hi (by omega)), hc _ _ (ec_get es i 1 e hi (by omega)), hc _ _ (ec_get es i 2 e hi (by omega)), hc _ _ (ec_get es i 3 e hi (by omega)), hc _ _ (ec_get es i 4 e hi (by omega)), hc _ _ (ec_get es i 5 e hi (by omega)), hc _ _ (ec_get es i 6 e hi (by omega))⟩, hf⟩

theorem Try.stoodK : Try.prog.stoodInHeld 40 = false := by kernel_rfl
theorem Try.guardK : Try.prog.eqGuardType Try.prog.depth 40 = false := by kernel_rfl
theorem Try.stoodE : Try.prog.stoodInHeld 44 = false := by kernel_rfl
theorem Try.guardE : Try.prog.eqGuardType Try.prog.depth 44 = false := by kernel_rfl
theorem Try.stoodN : Try.prog.stoodInHeld 42 = false := by kernel_rfl
theorem Try.guardN : Try.prog.eqGuardType Try.prog.depth 42 = false := by kernel_rfl
theorem Try.undK : Try.prog.underlying 40 = some (.struct (Try.prog.fieldsOf 40)) := by kernel_rfl
theorem Try.undE : Try.prog.underlying 44 = some (.struct (Try.prog.fieldsOf 44)) := by kernel_rfl
theorem Try.undN : Try.prog.underlying 42 = some (.struct (Try.prog.fieldsOf 42)) := by kernel_rfl
theorem eqInK (n : Nat) (w : World) (a b : Int) (x y : ByteArray) : (Op.equalIn (n + 1 + 1) 40 (.agg #[.int .i64 a, .string x]) (.agg #[.int .i64 b, .string y])).run Try.prog w = .ok (decide (a = b ∧ x = y)) w := by
  rw [run_equalIn_agg _ _ _ _ _ Try.undK Try.stoodK]
  simp [Program.fieldsOf, Try.underlying40, Op.eqFields, go_sem, bytes_eq]
  by_cases h1 : a = b <;> by_cases h2 : x = y <;> simp [h1, h2]
theorem eqInN (n : Nat) (w : World) (i k m i' k' m' : Int) (x y : ByteArray) : (Op.equalIn (n + 1 + 1) 42 (.agg #[.int .i64 i, .int .i64 k, .int .i64 m, .string x]) (.agg #[.int .i64 i', .int .i64 k', .int .i64 m', .string y])).run Try.prog w = .ok (decide (i = i' ∧ k = k' ∧ m = m' ∧ x = y)) w := by
  rw [run_equalIn_agg _ _ _ _ _ Try.undN Try.stoodN]
  simp [Program.fieldsOf, Try.underlying42, Op.eqFields, go_sem, bytes_eq]
  by_cases h1 : i = i' <;> by_cases h2 : k = k' <;> by_cases h3 : m = m' <;> by_cases h4 : x = y <;> simp [h1, h2, h3, h4]
theorem eqK (w : World) (a b : Int) (x y : ByteArray) : (binOp .eql 40 (.agg #[.int .i64 a, .string x]) (.agg #[.int .i64 b, .string y])).run Try.prog w = .ok (.bool (decide (a = b ∧ x = y))) w := by
  rw [run_eql_struct, eqInK 9998]; rfl
theorem neqK (w : World) (a b : Int) (x y : ByteArray) : (binOp .neq 40 (.agg #[.int .i64 a, .string x]) (.agg #[.int .i64 b, .string y])).run Try.prog w = .ok (.bool (!decide (a = b ∧ x = y))) w := by
  rw [run_neq_struct, eqInK 9998]; rfl
theorem guardK (w : World) (op : BinOp) (p q : Operand) (xs ys : Array Value) : (eqGuard op 40 p q (.agg xs) (.agg ys)).run Try.prog w = .ok () w := run_eqGuard_agg w op _ p q xs ys Try.guardK
theorem guardE (w : World) (op : BinOp) (p q : Operand) (xs ys : Array Value) : (eqGuard op 44 p q (.agg xs) (.agg ys)).run Try.prog w = .ok () w := run_eqGuard_agg w op _ p q xs ys Try.guardE
theorem guardN (w : World) (op : BinOp) (p q : Operand) (xs ys : Array Value) : (eqGuard op 42 p q (.agg xs) (.agg ys)).run Try.prog w = .ok () w := run_eqGuard_agg w op _ p q xs ys Try.guardN
/-- are two entries the same (shut, so that the walk leaves it standing) -/
def eqEn (e f : En) : Bool := decide (e.d = f.d) && (decide (e.nm = f.nm) && (decide (e.neg = f.neg) && (decide (e.id = f.id) && (decide (e.kind = f.kind) && (decide (e.mode = f.mode) && decide (e.tg = f.tg))))))
theorem eqEn_iff (e f : En) : eqEn e f = true ↔ e = f := by
  obtain ⟨a, b, c, d, g, h, i⟩ := e
  obtain ⟨a', b', c', d', g', h', i'⟩ := f
  unfold eqEn
  simp
theorem eqEn_no {e f : En} (h : e ≠ f) : eqEn e f = false := by
  cases k : eqEn e f with
  | false => rfl
  | true => exact absurd ((eqEn_iff e f).1 k) h
theorem eqInE (w : World) (e f : En) : (Op.equalIn 10000 44 e.agg f.agg).run Try.prog w = .ok (eqEn e f) w := by
  unfold En.agg
  rw [run_equalIn_agg _ 9999 _ _ _ Try.undE Try.stoodE]
  simp [Program.fieldsOf, Try.underlying44, Op.eqFields, part, go_sem]
  simp only [bytes_eq]
  unfold eqEn
  obtain ⟨a, b, c, d, g, h, i⟩ := e
  obtain ⟨a', b', c', d', g', h', i'⟩ := f
  by_cases h1 : a = a' <;> by_cases h2 : b = b' <;> by_cases h3 : c = c' <;> by_cases h4 : d = d' <;> by_cases h5 : g = g' <;> by_cases h6 : h = h' <;> by_cases h7 : i = i' <;> simp [h1, h2, h3, h4, h5, h6, h7]
theorem eqE (w : World) (a b c a' b' c' d d' : Int) (x y x' y' : ByteArray) (n n' : Bool) : (binOp .eql 44 (.agg #[.int .i64 d, .string x, .bool n, .int .i64 a, .int .i64 b, .int .i64 c, .string y]) (.agg #[.int .i64 d', .string x', .bool n', .int .i64 a', .int .i64 b', .int .i64 c', .string y'])).run Try.prog w = .ok (.bool (eqEn ⟨d, x, n, a, b, c, y⟩ ⟨d', x', n', a', b', c', y'⟩)) w := by
  rw [run_eql_struct]
  have := eqInE w ⟨d, x, n, a, b, c, y⟩ ⟨d', x', n', a', b', c', y'⟩
  unfold En.agg at this
  rw [this]; rfl
theorem neqE (w : World) (a b c a' b' c' d d' : Int) (x y x' y' : ByteArray) (n n' : Bool) : (binOp .neq 44 (.agg #[.int .i64 d, .string x, .bool n, .int .i64 a, .int .i64 b, .int .i64 c, .string y]) (.agg #[.int .i64 d', .string x', .bool n', .int .i64 a', .int .i64 b', .int .i64 c', .string y'])).run Try.prog w = .ok (.bool (!eqEn ⟨d, x, n, a, b, c, y⟩ ⟨d', x', n', a', b', c', y'⟩)) w := by
  rw [run_neq_struct]
  have := eqInE w ⟨d, x, n, a, b, c, y⟩ ⟨d', x', n', a', b', c', y'⟩
  unfold En.agg at this
  rw [this]; rfl
theorem eqN (w : World) (i k m i' k' m' : Int) (x y : ByteArray) : (binOp .eql 42 (.agg #[.int .i64 i, .int .i64 k, .int .i64 m, .string x]) (.agg #[.int .i64 i', .int .i64 k', .int .i64 m', .string y])).run Try.prog w = .ok (.bool (decide (i = i' ∧ k = k' ∧ m = m' ∧ x = y))) w := by
  rw [run_eql_struct, eqInN 9998]; rfl
theorem neqN (w : World) (i k m i' k' m' : Int) (x y : ByteArray) : (binOp .neq 42 (.agg #[.int .i64 i, .int .i64 k, .int .i64 m, .string x]) (.agg #[.int .i64 i', .int .i64 k', .int .i64 m', .string y])).run Try.prog w = .ok (.bool (!decide (i = i' ∧ k = k' ∧ m = m' ∧ x = y))) w := by
  rw [run_neq_struct, eqInN 9998]; rfl
/-- an entry laid over seven cells -/
def put7 (w : World) (g : Nat) (e : En) : World :=
  ((((((w.setCell ⟨g, 0, none⟩ (.int .i64 e.d)).setCell ⟨g, 1, none⟩ (.string e.nm)).setCell ⟨g, 2, none⟩ (.bool e.neg)).setCell ⟨g, 3, none⟩ (.int .i64 e.id)).setCell ⟨g, 4, none⟩ (.int .i64 e.kind)).setCell ⟨g, 5, none⟩ (.int .i64 e.mode)).setCell ⟨g, 6, none⟩ (.string e.tg)
theorem put7_heap {w : World} {g : Nat} {t : TypeId} {f : En} (e : En) (h : w.heap[g]? = some (.cells f.vals.toArray t (0, 0))) : (put7 w g e).heap[g]? = some (.cells e.vals.toArray t (0, 0)) := by
  have k := heap_set (heap_set (heap_set (heap_set (heap_set (heap_set (heap_set h 0 (.int .i64 e.d)) 1 (.string e.nm)) 2 (.bool e.neg)) 3 (.int .i64 e.id)) 4 (.int .i64 e.kind)) 5 (.int .i64 e.mode)) 6 (.string e.tg)
  simp only [En.vals, List.setIfInBounds_toArray, List.set_cons_zero, List.set_cons_succ] at k
  exact k
theorem put7_only (w : World) (g : Nat) (e : En) : Only (· = g) w (put7 w g e) :=
  ((((((only1 _ g _ _).trans (only1 _ g _ _)).trans (only1 _ g _ _)).trans (only1 _ g _ _)).trans (only1 _ g _ _)).trans (only1 _ g _ _)).trans (only1 _ g _ _)
theorem cells7_of {w : World} {g : Nat} {t : TypeId} {e : En} (h : w.heap[g]? = some (.cells e.vals.toArray t (0, 0))) : Cells7 w g 0 e :=
  ⟨by rw [cell_of h]; rfl, by rw [cell_of h]; rfl, by rw [cell_of h]; rfl, by rw [cell_of h]; rfl, by rw [cell_of h]; rfl, by rw [cell_of h]; rfl, by rw [cell_of h]; rfl⟩
theorem ret_entry {fn : Func} {p : Tmp} (h : fn.results = #[.cell p 44]) (tmps : Array Value) (w : World) (g : Nat) {t : TypeId} {e : En} {fr : Nat × Nat} (hp : tmps.getD p undef = .pointer (some ⟨g, 0, none⟩)) (hg : w.heap[g]? = some (.cells e.vals.toArray t fr)) :
    (results fn tmps).run Try.prog w = .ok e.agg w :=
  results_cell_row h tmps w g t _ fr _ hp hg Try.underlying44 rfl Try.sizeE
theorem ret_entry2 {fn : Func} {p u : Tmp} (h : fn.results = #[.cell p 44, .tmp u]) (tmps : Array Value) (w : World) (g : Nat) {t : TypeId} {e : En} {fr : Nat × Nat} (hp : tmps.getD p undef = .pointer (some ⟨g, 0, none⟩)) (hg : w.heap[g]? = some (.cells e.vals.toArray t fr)) :
    (results fn tmps).run Try.prog w = .ok (.tuple #[e.agg, tmps.getD u undef]) w := by
  rw [results_cell_tmp h, hp]
  simp [asAddr, run_loadVar_row w g t 44 _ fr _ hg Try.underlying44 rfl Try.sizeE, Result.andThen]
  rfl

theorem Cells7.below {w w' : World} {g o : Nat} {e : En} (h : Cells7 w g o e) (hb : Below w.heap.size w w') : Cells7 w' g o e :=
  ⟨(hb.cell (cellLt h.c0)).trans h.c0, (hb.cell (cellLt h.c1)).trans h.c1, (hb.cell (cellLt h.c2)).trans h.c2, (hb.cell (cellLt h.c3)).trans h.c3, (hb.cell (cellLt h.c4)).trans h.c4, (hb.cell (cellLt h.c5)).trans h.c5, (hb.cell (cellLt h.c6)).trans h.c6⟩

theorem boxes2 {w W : World} {c1 c2 : Array Value} {t1 t2 : TypeId} (h : (w.alloc (.cells c1 t1)).alloc (.cells c2 t2) = W) :
    W.heap[w.heap.size]? = some (.cells c1 t1 (0, 0)) ∧ W.heap[w.heap.size + 1]? = some (.cells c2 t2 (0, 0)) ∧ Below w.heap.size w W ∧ W.heap.size = w.heap.size + 1 + 1 := by
  subst h
  have h0 : (w.alloc (.cells c1 t1)).heap.size = w.heap.size + 1 := by simp
  refine ⟨?_, ?_, ((Below.refl _ w).alloc (Nat.le_refl _) _).alloc (by simp) _, by simp⟩
  · rw [Below.heap_alloc _ _ _ (by rw [h0]; omega)]
    exact heap_new _ _
  · rw [← h0]; exact heap_new _ _
theorem vals_at (w : World) (e : En) (t : TypeId) : ∀ j u, e.vals[j]? = some u → (w.alloc (.cells e.vals.toArray t)).cell? ((⟨w.heap.size, 0, none⟩ : Addr).add j) = some u := by
  intro j u hu
  rw [add_plain', Nat.zero_add, cell_of (heap_new _ _), List.getElem?_toArray]; exact hu
theorem hold3 {w W W' : World} {r : Nat} {a b c : Value} (hr : r < w.heap.size) (h : W.cell? ⟨r, 0, none⟩ = some a ∧ W.cell? ⟨r, 1, none⟩ = some b ∧ W.cell? ⟨r, 2, none⟩ = some c ∧ Below w.heap.size w W) (hb : Below W.heap.size W W') :
    W'.cell? ⟨r, 0, none⟩ = some a ∧ W'.cell? ⟨r, 1, none⟩ = some b ∧ W'.cell? ⟨r, 2, none⟩ = some c ∧ Below w.heap.size w W' := by
  have := h.2.2.2.size
  exact ⟨(hb.cell (p := ⟨r, 0, none⟩) (Nat.lt_of_lt_of_le hr this)).trans h.1, (hb.cell (p := ⟨r, 1, none⟩) (Nat.lt_of_lt_of_le hr this)).trans h.2.1, (hb.cell (p := ⟨r, 2, none⟩) (Nat.lt_of_lt_of_le hr this)).trans h.2.2.1, chainB h.2.2.2 hb⟩
theorem hkeep {W W' : World} {k : Nat} {o : Obj} (h : W.heap[k]? = some o) (hb : Below W.heap.size W W') : W'.heap[k]? = some o := (hb.block _ (Array.getElem?_eq_some_iff.1 h).1).trans h
theorem cell_ne' {w : World} {b k i j : Nat} {v : Value} (h : k ≠ b) : (w.setCell ⟨b, i, none⟩ v).cell? ⟨k, j, none⟩ = w.cell? ⟨k, j, none⟩ := World.cell?_of_block (heap_set_ne h)
/-- a list of entries in memory -/
def Row7 (w : World) (base : Nat) (v : Value) (es : List En) : Prop := w.ownsRow base 44 7 v es.length (ec es)
theorem Row7.below {w w' : World} {base : Nat} {v : Value} {es : List En} (h : Row7 w base v es) (hb : Below w.heap.size w w') : Row7 w' base v es := owns_below h hb
def RowK (w : World) (base : Nat) (v : Value) (ks : List Ky) : Prop := w.ownsRow base 40 2 v ks.length (kc ks)
theorem RowK.below {w w' : World} {base : Nat} {v : Value} {ks : List Ky} (h : RowK w base v ks) (hb : Below w.heap.size w w') : RowK w' base v ks := owns_below h hb
theorem RowK.key {w : World} {base n cap i : Nat} {a : Option Addr} {ks : List Ky} {p : Ky} (h : RowK w base (.slice a n cap) ks) (hi : ks[i]? = some p) : ∃ g, a = some ⟨g, 0, none⟩ ∧ base ≤ g ∧ g < w.heap.size ∧ w.cell? ⟨g, i * 2, none⟩ = some (.int .i64 p.d) ∧ w.cell? ⟨g, i * 2 + 1, none⟩ = some (.string p.nm) ∧ ∀ j, w.frozen? ⟨g, j, none⟩ = false := by
  have hlt : i < ks.length := (List.getElem?_eq_some_iff.1 hi).1
  obtain ⟨N, hN⟩ : ∃ N, ks.length = N + 1 := ⟨ks.length - 1, by omega⟩
  unfold RowK at h
  rw [hN] at h
  obtain ⟨g, cap', e'⟩ := owns_form h
  cases e'
  obtain ⟨hc, hf, _, _, hb, hg⟩ := owns_cells h
  obtain ⟨l0, l1⟩ := kc_get ks i p hi
  exact ⟨g, rfl, hb, hg, hc _ _ l0, hc _ _ l1, hf⟩
/-- an entry laid over seven cells of a row -/
def put7o (w : World) (g o : Nat) (e : En) : World :=
  ((((((w.setCell ⟨g, o, none⟩ (.int .i64 e.d)).setCell ⟨g, o + 1, none⟩ (.string e.nm)).setCell ⟨g, o + 2, none⟩ (.bool e.neg)).setCell ⟨g, o + 3, none⟩ (.int .i64 e.id)).setCell ⟨g, o + 4, none⟩ (.int .i64 e.kind)).setCell ⟨g, o + 5, none⟩ (.int .i64 e.mode)).setCell ⟨g, o + 6, none⟩ (.string e.tg)
theorem put7o_row {w : World} {base g i n cap : Nat} {es : List En} {e f : En} (h : w.ownsRow base 44 7 (.slice (some ⟨g, 0, none⟩) n cap) n (ec es)) (hf : es[i]? = some f) : (put7o w g (i * 7) e).ownsRow base 44 7 (.slice (some ⟨g, 0, none⟩) n cap) n (ec (es.set i e)) := by
  rw [← ec_set7 es i e f hf]
  exact ((((((((h.stored (i * 7) (.int .i64 e.d)).1).stored (i * 7 + 1) (.string e.nm)).1.stored (i * 7 + 2) (.bool e.neg)).1.stored (i * 7 + 3) (.int .i64 e.id)).1.stored (i * 7 + 4) (.int .i64 e.kind)).1.stored (i * 7 + 5) (.int .i64 e.mode)).1.stored (i * 7 + 6) (.string e.tg)).1
theorem put7o_only (w : World) (g o : Nat) (e : En) : Only (· = g) w (put7o w g o e) :=
  ((((((only1 _ g _ _).trans (only1 _ g _ _)).trans (only1 _ g _ _)).trans (only1 _ g _ _)).trans (only1 _ g _ _)).trans (only1 _ g _ _)).trans (only1 _ g _ _)
end
section
open Go.RowKit

/-- a number's groups -/
def numB (n : Nat) : List Int := if n < 128 then [(n : Int)] else ((n % 128 + 128 : Nat) : Int) :: numB (n / 128)
termination_by n
decreasing_by omega
theorem numB_lt {n : Nat} (h : n < 128) : numB n = [(n : Int)] := by unfold numB; rw [if_pos h]
theorem numB_ge {n : Nat} (h : ¬ n < 128) : numB n = ((n % 128 + 128 : Nat) : Int) :: numB (n / 128) := by rw [numB, if_neg h]
/-- bytes -/
def Byt (l : List Int) : Prop := ∀ x ∈ l, 0 ≤ x ∧ x < 256
theorem Byt.nil : Byt [] := fun _ h => by cases h
theorem Byt.cons {x : Int} {l : List Int} (h : Byt (x :: l)) : (0 ≤ x ∧ x < 256) ∧ Byt l := ⟨h x (List.mem_cons_self ..), fun y hy => h y (List.mem_cons_of_mem _ hy)⟩
theorem Byt.app {l m : List Int} (h : Byt l) (k : Byt m) : Byt (l ++ m) := fun x hx => (List.mem_append.1 hx).elim (h x) (k x)
theorem Byt.tail {l m : List Int} (h : Byt (l ++ m)) : Byt m := fun x hx => h x (List.mem_append_right _ hx)
theorem Byt.front {l m : List Int} (h : Byt (l ++ m)) : Byt l := fun x hx => h x (List.mem_append_left _ hx)
theorem Byt.one {x : Int} (h : 0 ≤ x ∧ x < 256) : Byt [x] := fun y hy => by rw [List.mem_singleton.1 hy]; exact h
theorem numB_byt (n : Nat) : Byt (numB n) := by
  induction n using Nat.strongRecOn with
  | ind n ih =>
    by_cases h : n < 128
    · rw [numB_lt h]; intro x hx; rw [List.mem_singleton.1 hx]; omega
    · rw [numB_ge h]; intro x hx
      rcases List.mem_cons.1 hx with rfl | hx
      · omega
      · exact ih (n / 128) (by omega) x hx
theorem numB_len (k : Nat) : ∀ n, n < 128 ^ (k + 1) → (numB n).length ≤ k + 1 := by
  induction k with
  | zero => intro n h; rw [numB_lt (by simpa using h)]; simp
  | succ k ih =>
    intro n h
    by_cases h1 : n < 128
    · rw [numB_lt h1]; simp
    · rw [numB_ge h1, List.length_cons]
      have : n / 128 < 128 ^ (k + 1) := by rw [Nat.div_lt_iff_lt_mul (by decide), ← Nat.pow_succ]; exact h
      have := ih _ this
      omega
theorem numB_pos (n : Nat) : 0 < (numB n).length := by
  by_cases h : n < 128
  · rw [numB_lt h]; simp
  · rw [numB_ge h]; simp

/-- what is left to be read; none: it went wrong -/
abbrev St := Option (List Int)
def octP : St → Int × St
  | none => (0, none)
  | some [] => (0, none)
  | some (x :: r) => (x, some r)
/-- the groups that are left, the unit they count, what has been read -/
def numG : Nat → Nat → Int → St → Int × St
  | 0, _, _, _ => (0, none)
  | k + 1, u, n, s =>
    if 128 ≤ (octP s).1 then numG k (u * 128) (n + (octP s).1 % 128 * u) (octP s).2
    else if 1099511627776 < n + (octP s).1 % 128 * u ∨ ((octP s).1 = 0 ∧ 1 < u) then (0, none) else (n + (octP s).1 % 128 * u, (octP s).2)
/-- a number, read -/
def numP (s : St) : Int × St := numG 6 1 0 s
theorem numG_cons (k u : Nat) (n x : Int) (r : List Int) : numG (k + 1) u n (some (x :: r)) = if 128 ≤ x then numG k (u * 128) (n + x % 128 * u) (some r) else if 1099511627776 < n + x % 128 * u ∨ (x = 0 ∧ 1 < u) then (0, none) else (n + x % 128 * u, some r) := rfl
theorem numG_stop (k u : Nat) (n : Int) (s : St) (h : octP s = (0, none)) : (numG (k + 1) u n s).2 = none := by
  unfold numG
  rw [h]
  show (if (128 : Int) ≤ 0 then _ else _ : Int × St).2 = none
  rw [if_neg (by decide)]
  split <;> rfl
theorem numG_none (k u : Nat) (n : Int) : (numG (k + 1) u n none).2 = none := by
  exact numG_stop k u n none rfl
theorem numP_none : numP none = (0, none) := by
  unfold numP numG
  simp [octP]
theorem numG_back : ∀ (k u : Nat) (n : Int) (v : Nat) (r : List Int), v < 128 ^ (k + 1) → n + v * u ≤ 1099511627776 → (1 < u → v ≠ 0) → numG (k + 1) u n (some (numB v ++ r)) = (n + v * u, some r) := by
  intro k
  induction k with
  | zero =>
    intro u n v r hv hm hz
    have h : v < 128 := by simpa using hv
    rw [numB_lt h]
    show numG 1 u n (some ((v : Int) :: r)) = _
    have e : (v : Int) % 128 = v := by omega
    rw [numG_cons, if_neg (by omega), e, if_neg]
    intro hq
    rcases hq with hq | ⟨h1, h2⟩
    · omega
    · exact hz h2 (by omega)
  | succ k ih =>
    intro u n v r hv hm hz
    by_cases h : v < 128
    · rw [numB_lt h]
      show numG (k + 2) u n (some ((v : Int) :: r)) = _
      have e : (v : Int) % 128 = v := by omega
      rw [numG_cons, if_neg (by omega), e, if_neg]
      intro hq
      rcases hq with hq | ⟨h1, h2⟩
      · omega
      · exact hz h2 (by omega)
    · rw [numB_ge h]
      show numG (k + 2) u n (some (((v % 128 + 128 : Nat) : Int) :: (numB (v / 128) ++ r))) = _
      have h2 : v / 128 < 128 ^ (k + 1) := by rw [Nat.div_lt_iff_lt_mul (by decide), ← Nat.pow_succ]; exact hv
      have e : (((v % 128 + 128 : Nat) : Int)) % 128 = ((v % 128 : Nat) : Int) := by omega
      have e2 : n + ((v % 128 : Nat) : Int) * u + ((v / 128 : Nat) : Int) * ((u * 128 : Nat) : Int) = n + v * u := by
        have hdm : (v : Int) = ((v % 128 : Nat) : Int) + ((v / 128 : Nat) : Int) * 128 := by omega
        rw [Int.natCast_mul, show (v : Int) * u = (((v % 128 : Nat) : Int) + ((v / 128 : Nat) : Int) * 128) * u by rw [← hdm], Int.add_mul, Int.add_assoc, Int.mul_assoc, Int.mul_comm (u : Int)]
        rfl
      have := ih (u * 128) (n + ((v % 128 : Nat) : Int) * u) (v / 128) r h2 (by rw [e2]; exact hm) (by intro; omega)
      rw [numG_cons, if_pos (by omega), e, this, e2]
theorem numP_back {v : Nat} (r : List Int) (h : v ≤ 1099511627776) : numP (some (numB v ++ r)) = ((v : Int), some r) := by
  unfold numP
  rw [numG_back 5 1 0 v r (by omega) (by omega) (by omega)]
  simp
theorem numG_forth : ∀ (k u : Nat) (n m : Int) (l r : List Int), Byt l → numG k u n (some l) = (m, some r) → 1 ≤ u → ∃ v : Nat, l = numB v ++ r ∧ m = n + v * u ∧ m ≤ 1099511627776 ∧ (1 < u → v ≠ 0) := by
  intro k
  induction k with
  | zero => intro u n m l r _ h; simp [numG] at h
  | succ k ih =>
    intro u n m l r hl h hu
    cases l with
    | nil =>
      have := numG_stop k u n (some []) rfl
      rw [h] at this
      cases this
    | cons x l =>
      obtain ⟨hx, hl'⟩ := hl.cons
      rw [numG_cons] at h
      split at h
      · rename_i h1
        obtain ⟨v, e1, e2, e3, e4⟩ := ih _ _ _ _ _ hl' h (by omega)
        have hv0 := e4 (by omega)
        refine ⟨(x - 128).toNat + 128 * v, ?_, ?_, e3, by omega⟩
        · rw [numB_ge (by omega), show ((x - 128).toNat + 128 * v) / 128 = v by omega, show (((((x - 128).toNat + 128 * v) % 128 + 128 : Nat) : Int)) = x by omega, e1]; rfl
        · have hxm : x % 128 = x - 128 := by omega
          rw [e2, hxm]
          have : (((x - 128).toNat + 128 * v : Nat) : Int) = (x - 128) + v * 128 := by omega
          rw [this, Int.natCast_mul, Int.add_mul, Int.mul_assoc, Int.add_assoc, Int.mul_comm (u : Int)]
          rfl
      · rename_i h1
        split at h
        · simp at h
        · rename_i h2
          simp only [Prod.mk.injEq, Option.some.injEq] at h
          obtain ⟨rfl, rfl⟩ := h
          have hxm : x % 128 = x := by omega
          rw [hxm] at h2 ⊢
          refine ⟨x.toNat, ?_, ?_, by omega, ?_⟩
          · rw [numB_lt (by omega), show ((x.toNat : Nat) : Int) = x by omega]; rfl
          · rw [show ((x.toNat : Nat) : Int) = x by omega]
          · intro hu1 h0
            exact h2 (.inr ⟨by omega, hu1⟩)
theorem numP_forth {l r : List Int} {m : Int} (hl : Byt l) (h : numP (some l) = (m, some r)) : 0 ≤ m ∧ m ≤ 1099511627776 ∧ l = numB m.toNat ++ r := by
  obtain ⟨v, e1, e2, e3, _⟩ := numG_forth 6 1 0 m l r hl h (by omega)
  have : m = v := by omega
  subst this
  exact ⟨by omega, e3, by rw [e1]; simp⟩
/-- what is read is a number in its limits -/
theorem numG_in : ∀ (k u : Nat) (n : Int) (s : St), 0 ≤ n → (∀ l, s = some l → Byt l) → 0 ≤ (numG k u n s).1 ∧ (numG k u n s).1 ≤ 1099511627776 := by
  intro k
  induction k with
  | zero => intro u n s _ _; exact ⟨Int.le_refl _, by show (0 : Int) ≤ _; decide⟩
  | succ k ih =>
    intro u n s hn hs
    have ho : 0 ≤ (octP s).1 ∧ ∀ l, (octP s).2 = some l → Byt l := by
      match s, hs with
      | none, _ => exact ⟨Int.le_refl _, fun l h => by cases h⟩
      | some [], _ => exact ⟨Int.le_refl _, fun l h => by cases h⟩
      | some (x :: r), hs => exact ⟨((hs _ rfl).cons).1.1, fun l h => by cases h; exact ((hs _ rfl).cons).2⟩
    have hp : 0 ≤ (octP s).1 % 128 * (u : Int) := Int.mul_nonneg (by omega) (by omega)
    unfold numG
    split
    · exact ih _ _ _ (by omega) ho.2
    · split
      · exact ⟨Int.le_refl _, by show (0 : Int) ≤ _; decide⟩
      · rename_i h; show 0 ≤ n + (octP s).1 % 128 * (u : Int) ∧ n + (octP s).1 % 128 * (u : Int) ≤ _; omega
theorem numP_in {s : St} (hs : ∀ l, s = some l → Byt l) : 0 ≤ (numP s).1 ∧ (numP s).1 ≤ 1099511627776 := numG_in 6 1 0 s (by omega) hs

/-- a text's bytes -/
def bs (s : ByteArray) : List Int := s.data.toList.map fun b => (b.toNat : Int)
theorem bs_len (s : ByteArray) : (bs s).length = s.size := by unfold bs; rw [List.length_map]; rfl
theorem bs_byt (s : ByteArray) : Byt (bs s) := by
  intro x hx
  obtain ⟨b, _, rfl⟩ := List.mem_map.1 hx
  have := b.toNat_lt
  omega
theorem bs_str {l : List Int} (h : Byt l) : bs (strOfNums l) = l := by
  unfold bs strOfNums
  simp only [List.map_map]
  conv => rhs; rw [← List.map_id l]
  refine List.map_congr_left fun x hx => ?_
  have := h x hx
  simp only [Function.comp, id]
  rw [UInt8.toNat_ofNat']
  omega
theorem str_bs (s : ByteArray) : strOfNums (bs s) = s := by
  obtain ⟨⟨l⟩⟩ := s
  unfold bs strOfNums
  congr 1
  simp only [List.map_map]
  congr 1
  conv => rhs; rw [← List.map_id l]
  refine List.map_congr_left fun x _ => ?_
  simp
theorem bs_inj {s t : ByteArray} (h : bs s = bs t) : s = t := by rw [← str_bs s, ← str_bs t, h]
def textB (s : ByteArray) : List Int := numB s.size ++ bs s
theorem textB_byt (s : ByteArray) : Byt (textB s) := (numB_byt _).app (bs_byt _)
/-- a text, read -/
def textP (s : St) : ByteArray × St := match numP s with
  | (_, none) => (⟨#[]⟩, none)
  | (n, some r) => if 96 < n ∨ (r.length : Int) < n then (⟨#[]⟩, none) else (strOfNums (r.take n.toNat), some (r.drop n.toNat))
theorem textP_none : textP none = (⟨#[]⟩, none) := by unfold textP; rw [numP_none]
theorem textP_back {s : ByteArray} (r : List Int) (h : s.size ≤ 96) : textP (some (textB s ++ r)) = (s, some r) := by
  unfold textP textB
  rw [List.append_assoc, numP_back _ (by omega)]
  simp only []
  have hl := bs_len s
  rw [if_neg (by simp [hl]; omega)]
  simp only [Int.toNat_natCast]
  rw [← hl, List.take_left, List.drop_left, str_bs]
theorem textP_forth {l r : List Int} {s : ByteArray} (hl : Byt l) (h : textP (some l) = (s, some r)) : s.size ≤ 96 ∧ l = textB s ++ r := by
  unfold textP at h
  split at h
  · simp at h
  · rename_i n r' hn
    obtain ⟨h0, h1, h2⟩ := numP_forth hl hn
    split at h
    · simp at h
    · rename_i hq
      simp only [Prod.mk.injEq, Option.some.injEq] at h
      obtain ⟨rfl, rfl⟩ := h
      have hr' : Byt r' := by rw [h2] at hl; exact hl.tail
      have hlen : (r'.take n.toNat).length = n.toNat := by rw [List.length_take]; omega
      have hsz : (strOfNums (r'.take n.toNat)).size = n.toNat := by rw [strOfNums_size, hlen]
      refine ⟨by rw [hsz]; omega, ?_⟩
      unfold textB
      rw [hsz, bs_str (fun x hx => hr' x (List.mem_of_mem_take hx)), List.append_assoc, List.take_append_drop]
      exact h2
/-- what is left is bytes -/
def Lft (s : St) : Prop := ∀ l, s = some l → Byt l
theorem Lft.none : Lft none := fun _ h => by cases h
theorem Lft.of {l : List Int} (h : Byt l) : Lft (some l) := fun _ e => by cases e; exact h
theorem octP_lft {s : St} (h : Lft s) : Lft (octP s).2 := by
  match s, h with
  | none, _ => exact Lft.none
  | some [], _ => exact Lft.none
  | some (x :: r), h => exact Lft.of ((h _ rfl).cons).2
theorem octP_in {s : St} (h : Lft s) : 0 ≤ (octP s).1 ∧ (octP s).1 < 256 := by
  match s, h with
  | none, _ => exact ⟨by decide, by decide⟩
  | some [], _ => exact ⟨by decide, by decide⟩
  | some (x :: r), h => exact ((h _ rfl).cons).1
theorem octP_forth {l r : List Int} {x : Int} (h : octP (some l) = (x, some r)) : l = [x] ++ r := by
  cases l with
  | nil => simp [octP] at h
  | cons y l => simp [octP] at h; rw [h.1, h.2]; rfl
theorem octP_back (x : Int) (r : List Int) : octP (some ([x] ++ r)) = (x, some r) := rfl
theorem numP_lft {s : St} (h : Lft s) : Lft (numP s).2 := by
  cases s with
  | none => rw [numP_none]; exact Lft.none
  | some l =>
    intro r hr
    have := (numP_forth (h _ rfl) (show numP (some l) = ((numP (some l)).1, some r) by rw [← hr])).2.2
    have hl := h _ rfl
    rw [this] at hl
    exact hl.tail
theorem textP_lft {s : St} (h : Lft s) : Lft (textP s).2 := by
  cases s with
  | none => rw [textP_none]; exact Lft.none
  | some l =>
    intro r hr
    have := (textP_forth (h _ rfl) (show textP (some l) = ((textP (some l)).1, some r) by rw [← hr])).2
    have hl := h _ rfl
    rw [this] at hl
    exact hl.tail
end
end Go.Proofs.Ytekonakanieeaaa
