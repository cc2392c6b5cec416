/- Keys and breaks in memory; a table in memory; clear and rows that are cut. -/
import Derived.Test.YtaofhjckliobpaaVoA
import Derived.Laws.ResultCell
import Derived.Test.YtaofhjckliobpaaMkV
namespace Go.Proofs.Ytaofhjckliobpaa
open Go.RowKit

theorem Try.infoKy : (Try.prog.info? 36).map (fun i => (i.zero, i.size, i.bytes)) = some (some (.agg #[.int .i64 0, .string ⟨#[]⟩]), 2, 24) := by kernel_rfl
theorem Try.infoBr : (Try.prog.info? 57).map (fun i => (i.zero, i.size, i.bytes)) = some (some (.agg #[.complex .f64 0 0, .int .i64 0, .bool false, .slice none 0 0]), 4, 56) := by kernel_rfl
theorem Try.sizeKy : (Try.prog.info? 36).map (·.size) = some 2 := by kernel_rfl
theorem Try.sizeBr : (Try.prog.info? 57).map (·.size) = some 4 := by kernel_rfl
theorem Try.stoodK : Try.prog.stoodInHeld 36 = false := by kernel_rfl
theorem Try.guardK : Try.prog.eqGuardType Try.prog.depth 36 = false := by kernel_rfl
theorem Try.undK : Try.prog.underlying 36 = some (.struct (Try.prog.fieldsOf 36)) := by kernel_rfl
theorem eqInK (n : Nat) (w : World) (a b : Int) (x y : ByteArray) : (Op.equalIn (n + 1 + 1) 36 (.agg #[.int .i64 a, .string x]) (.agg #[.int .i64 b, .string y])).run Try.prog w = .ok (eqKy ⟨a, x⟩ ⟨b, y⟩) w := by
  rw [run_equalIn_agg _ _ _ _ _ Try.undK Try.stoodK]
  unfold eqKy
  simp [Program.fieldsOf, Try.underlying36, Op.eqFields, go_sem, bytes_eq]
  by_cases h1 : a = b <;> by_cases h2 : x = y <;> simp [h1, h2]
theorem eqK (w : World) (a b : Int) (x y : ByteArray) : (binOp .eql 36 (.agg #[.int .i64 a, .string x]) (.agg #[.int .i64 b, .string y])).run Try.prog w = .ok (.bool (eqKy ⟨a, x⟩ ⟨b, y⟩)) w := by
  rw [run_eql_struct, eqInK 9998]; rfl
theorem neqK (w : World) (a b : Int) (x y : ByteArray) : (binOp .neq 36 (.agg #[.int .i64 a, .string x]) (.agg #[.int .i64 b, .string y])).run Try.prog w = .ok (.bool (!eqKy ⟨a, x⟩ ⟨b, y⟩)) w := by
  rw [run_neq_struct, eqInK 9998]; rfl
theorem guardK (w : World) (op : BinOp) (p q : Operand) (xs ys : Array Value) : (eqGuard op 36 p q (.agg xs) (.agg ys)).run Try.prog w = .ok () w := run_eqGuard_agg w op _ p q xs ys Try.guardK

theorem run_store_complex (P : Program) (w : World) (a : Addr) (m : Mode) (k : FloatKind) (x y : Nat) : (store a (.complex k x y) m).run P w = stored P w a (.complex k x y) m := run_store P w a _ m rfl
/-- a row's front -/
theorem owns_front {w : World} {base : Nat} {e : TypeId} {size g n m cap : Nat} {xs ys : List Value} (h : w.ownsRow base e size (.slice (some ⟨g, 0, none⟩) n cap) n xs) (hm : m ≤ n) (hy : xs.take (m * size) = ys) (hl : ys.length = m * size) : w.ownsRow base e size (.slice (some ⟨g, 0, none⟩) m cap) m ys := by
  refine ⟨hl, .inr ?_⟩
  rcases h.2 with ⟨e, _⟩ | ⟨g', cap', cur, e, hg, hh, r1, r2, r3, r4⟩
  · cases e
  · cases e
    refine ⟨g, cap, cur, rfl, hg, hh, by omega, r2, r3, ?_⟩
    rw [← hy, ← r4, List.take_take, Nat.min_eq_left (Nat.mul_le_mul_right _ hm)]
/-- a row whose front has stayed -/
theorem owns_kept {w w' : World} {base : Nat} {e : TypeId} {size g n cap : Nat} {xs : List Value} (h : w.ownsRow base e size (.slice (some ⟨g, 0, none⟩) n cap) n xs) (hw : ∀ cur f, w.heap[g]? = some (.cells cur e f) → f = (0, 0) → ∃ cur' : Array Value, w'.heap[g]? = some (.cells cur' e (0, 0)) ∧ cur'.size = cur.size ∧ cur'.toList.take (n * size) = cur.toList.take (n * size)) : w'.ownsRow base e size (.slice (some ⟨g, 0, none⟩) n cap) n xs := by
  refine ⟨h.1, .inr ?_⟩
  rcases h.2 with ⟨e, _⟩ | ⟨g', cap', cur, e, hg, hh, r1, r2, r3, r4⟩
  · cases e
  · cases e
    obtain ⟨cur', k1, k2, k3⟩ := hw cur _ hh rfl
    exact ⟨g, cap, cur', rfl, hg, k1, r1, r2, by rw [k2, r3], by rw [k3, r4]⟩
/-- clear of what lies behind a place of a row -/
theorem run_clear_own {P : Program} (w : World) (t e ty : TypeId) (z : Value) (k : Nat) (ht : P.underlying t = some (.slice e)) (hv : ∀ w, (zeroValue e).run P w = .ok z w) (hz : z.cells.size = k) (h1 : ∀ v ∈ z.cells.toList, v.oneCell' = true) (hk : 0 < k)
    (g n i c cap base : Nat) (xs : List Value) (hw : w.ownsRow base e k (.slice (some ⟨g, 0, none⟩) n cap) n xs) (hi : i ≤ n) :
    ∃ w', (Builtin.clear_ #[t] ty #[.slice (some ⟨g, i * k, none⟩) (n - i) c]).run P w = .ok (.tuple #[]) w' ∧ w'.ownsRow base e k (.slice (some ⟨g, 0, none⟩) i cap) i (xs.take (i * k)) ∧ Only (· = g) w w' := by
  have hfr : w.ownsRow base e k (.slice (some ⟨g, 0, none⟩) i cap) i (xs.take (i * k)) := owns_front hw hi rfl (by rw [List.length_take, hw.1, Nat.min_eq_left (Nat.mul_le_mul_right _ hi)])
  by_cases h0 : n - i = 0
  · refine ⟨w, ?_, hfr, Only.refl _ _⟩
    rw [h0]
    simp [Builtin.clear_, run_underlying ht]
  · obtain ⟨m, hm⟩ : ∃ m, n - i = m + 1 := ⟨n - i - 1, by omega⟩
    obtain ⟨zs, hzs⟩ : ∃ zs, (Builtin.zeroCells z.cells (n - i)).toList = zs := ⟨_, rfl⟩
    have hlen : zs.length = (n - i) * k := by rw [← hzs]; simp [Builtin.zeroCells, hz]
    have hone : ∀ v ∈ zs, v.oneCell' = true := by
      intro v hv
      rw [← hzs] at hv
      unfold Builtin.zeroCells at hv
      simp only [Array.toList_map, List.mem_map] at hv
      obtain ⟨j, _, rfl⟩ := hv
      have hj : j % z.cells.size < z.cells.size := Nat.mod_lt _ (by omega)
      rw [getElem!_pos z.cells _ hj]
      exact h1 _ (by simp)
    rcases hw.2 with ⟨e', _⟩ | ⟨g', cap', cur, e', hg, hh, r1, r2, r3, r4⟩
    · cases e'
    · cases e'
      have hmul : i * k + (n - i) * k = n * k := by rw [← Nat.add_mul]; congr 1; omega
      have hcap : n * k ≤ cap * k := Nat.mul_le_mul_right _ r1
      have hfit : i * k + zs.length ≤ cur.size := by rw [hlen, r3]; omega
      have hst := run_storeCells_at P g (i * k) e zs 0 cur w hh (by simpa using hfit) hone
      refine ⟨w.setRow g (cur.toList.take (i * k) ++ zs ++ cur.toList.drop (i * k + zs.length)).toArray, ?_, ?_, onlyR _ _ _⟩
      · rw [hm] at hzs ⊢
        have hst' : Sem.run P (storeCells ⟨g, i * k, none⟩ zs) w = .ok () (w.setRow g (cur.toList.take (i * k) ++ (zs ++ cur.toList.drop (i * k + zs.length))).toArray) := by simpa using hst
        simp [Builtin.clear_, run_underlying ht, hv, hzs]
        rw [hst']; rfl
      · refine owns_kept hfr fun cur0 f hc hf => ?_
        rw [hh] at hc
        cases hc
        refine ⟨_, setRow_heap w g _ _ e _ hh, ?_, ?_⟩
        · simp only [List.size_toArray, List.length_append, List.length_take, List.length_drop, Array.length_toList]
          omega
        · rw [List.append_assoc, List.take_append_of_le_length (by rw [List.length_take, Array.length_toList]; omega), List.take_take, Nat.min_self]

def RowK (w : World) (base : Nat) (v : Value) (ks : List Ky) : Prop := w.ownsRow base 36 2 v ks.length (kc ks)
theorem RowK.below {w w' : World} {base : Nat} {v : Value} {ks : List Ky} (h : RowK w base v ks) (hb : Below w.heap.size w w') : RowK w' base v ks := owns_below h hb
theorem RowK.moved {w w' : World} {base : Nat} {v : Value} {ks : List Ky} (h : RowK w base v ks) (hk : ∀ k, v.ownBlock = some k → w'.heap[k]? = w.heap[k]?) : RowK w' base v ks := owns_moved h hk
theorem RowK.lt {w : World} {base : Nat} {v : Value} {ks : List Ky} (h : RowK w base v ks) {k : Nat} (hk : v.ownBlock = some k) : base ≤ k ∧ k < w.heap.size := World.ownsRow.lt h k hk
theorem RowK.key {w : World} {base n cap i : Nat} {a : Option Addr} {ks : List Ky} {p : Ky} (h : RowK w base (.slice a n cap) ks) (hi : ks[i]? = some p) : ∃ g, a = some ⟨g, 0, none⟩ ∧ base ≤ g ∧ g < w.heap.size ∧ w.cell? ⟨g, i * 2, none⟩ = some (.int .i64 p.d) ∧ w.cell? ⟨g, i * 2 + 1, none⟩ = some (.string p.nm) ∧ ∀ j, w.frozen? ⟨g, j, none⟩ = false := by
  have hlt : i < ks.length := (List.getElem?_eq_some_iff.1 hi).1
  obtain ⟨N, hN⟩ : ∃ N, ks.length = N + 1 := ⟨ks.length - 1, by omega⟩
  unfold RowK at h
  rw [hN] at h
  obtain ⟨g, cap', e'⟩ := owns_form h
  cases e'
  obtain ⟨hc, hf, _, _, hb, hg⟩ := owns_cells h
  obtain ⟨l0, l1⟩ := kc_get ks i p hi
  exact ⟨g, rfl, hb, hg, hc _ _ l0, hc _ _ l1, hf⟩

/-- a slice that reads as these keys, wherever it lies -/
def RdK (w : World) (v : Value) (ks : List Ky) : Prop :=
  ∃ a cap, v = .slice a ks.length cap ∧ ((a = none ∧ ks = []) ∨ ∃ g off, a = some ⟨g, off, none⟩ ∧ g < w.heap.size ∧ ∀ j u, (kc ks)[j]? = some u → w.cell? ⟨g, off + j, none⟩ = some u)
/-- the block that it reads -/
def rdB : Value → Option Nat
  | .slice (some a) _ _ => some a.block
  | _ => none
theorem RdK.nil (w : World) : RdK w (.slice none 0 0) [] := ⟨none, 0, rfl, .inl ⟨rfl, rfl⟩⟩
theorem RowK.rd {w : World} {base : Nat} {v : Value} {ks : List Ky} (h : RowK w base v ks) : RdK w v ks := by
  rcases h.2 with ⟨rfl, h2⟩ | ⟨g, cap, cur, rfl, hg, hh, r⟩
  · obtain rfl := List.length_eq_zero_iff.1 h2
    exact RdK.nil w
  · refine ⟨_, _, rfl, .inr ⟨g, 0, rfl, (Array.getElem?_eq_some_iff.1 hh).1, fun j u hu => ?_⟩⟩
    obtain ⟨hc, _⟩ := owns_cells h
    rw [Nat.zero_add]; exact hc j u hu
theorem RdK.moved {w w' : World} {v : Value} {ks : List Ky} (h : RdK w v ks) (hs : w.heap.size ≤ w'.heap.size) (hk : ∀ k, rdB v = some k → w'.heap[k]? = w.heap[k]?) : RdK w' v ks := by
  obtain ⟨a, cap, rfl, h⟩ := h
  refine ⟨a, cap, rfl, ?_⟩
  rcases h with h | ⟨g, off, rfl, hg, hc⟩
  · exact .inl h
  · exact .inr ⟨g, off, rfl, Nat.lt_of_lt_of_le hg hs, fun j u hu => by rw [World.cell?_of_block (hk g rfl)]; exact hc j u hu⟩
theorem RdK.lt {w : World} {v : Value} {ks : List Ky} (h : RdK w v ks) {k : Nat} (hk : rdB v = some k) : k < w.heap.size := by
  obtain ⟨a, cap, rfl, h⟩ := h
  rcases h with ⟨rfl, _⟩ | ⟨g, off, rfl, hg, hc⟩
  · cases hk
  · cases hk; exact hg
theorem RdK.below {w w' : World} {v : Value} {ks : List Ky} (h : RdK w v ks) (hb : Below w.heap.size w w') : RdK w' v ks := h.moved hb.size fun k hk => hb.block k (h.lt hk)
theorem RdK.form {w : World} {v : Value} {ks : List Ky} (h : RdK w v ks) : ∃ a cap, v = .slice a ks.length cap := by
  obtain ⟨a, cap, e, _⟩ := h
  exact ⟨a, cap, e⟩
theorem RdK.key {w : World} {n cap i : Nat} {a : Option Addr} {ks : List Ky} {p : Ky} (h : RdK w (.slice a n cap) ks) (hi : ks[i]? = some p) : ∃ g off, a = some ⟨g, off, none⟩ ∧ g < w.heap.size ∧ w.cell? ⟨g, off + i * 2, none⟩ = some (.int .i64 p.d) ∧ w.cell? ⟨g, off + i * 2 + 1, none⟩ = some (.string p.nm) := by
  obtain ⟨a', cap', e, h⟩ := h
  cases e
  rcases h with ⟨_, rfl⟩ | ⟨g, off, rfl, hg, hc⟩
  · simp at hi
  · obtain ⟨l0, l1⟩ := kc_get ks i p hi
    exact ⟨g, off, rfl, hg, hc _ _ l0, by rw [Nat.add_assoc]; exact hc _ _ l1⟩

/-- a break in memory: its mark's bits, version, whether it is all, where its keys lie, its keys -/
structure Br where
  a : Nat
  b : Nat
  ver : Int
  all : Bool
  va : Option Addr
  vn : Nat
  vc : Nat
  ks : List Ky
def Br.v (x : Br) : Value := .slice x.va x.vn x.vc
def Br.vals (x : Br) : List Value := [.complex .f64 x.a x.b, .int .i64 x.ver, .bool x.all, x.v]
def Br.agg (x : Br) : Value := .agg #[.complex .f64 x.a x.b, .int .i64 x.ver, .bool x.all, x.v]
def bc (bs : List Br) : List Value := bs.flatMap Br.vals
theorem bc_cons (a : Br) (b : List Br) : bc (a :: b) = .complex .f64 a.a a.b :: .int .i64 a.ver :: .bool a.all :: a.v :: bc b := rfl
theorem bc_app (a b : List Br) : bc (a ++ b) = bc a ++ bc b := by unfold bc; rw [List.flatMap_append]
theorem bc_len (bs : List Br) : (bc bs).length = bs.length * 4 := by
  induction bs with
  | nil => rfl
  | cons a bs ih => rw [bc_cons, List.length_cons, List.length_cons, List.length_cons, List.length_cons, ih, List.length_cons]; omega
theorem bc_get (bs : List Br) (i : Nat) (p : Br) (h : bs[i]? = some p) : (bc bs)[i * 4]? = some (.complex .f64 p.a p.b) ∧ (bc bs)[i * 4 + 1]? = some (.int .i64 p.ver) ∧ (bc bs)[i * 4 + 2]? = some (.bool p.all) ∧ (bc bs)[i * 4 + 3]? = some p.v := by
  induction bs generalizing i with
  | nil => simp at h
  | cons a bs ih =>
    cases i with
    | zero =>
      simp at h
      subst h
      exact ⟨rfl, rfl, rfl, rfl⟩
    | succ i =>
      have := ih i (by simpa using h)
      rw [bc_cons, show (i + 1) * 4 = i * 4 + 1 + 1 + 1 + 1 by omega, show i * 4 + 1 + 1 + 1 + 1 + 1 = (i * 4 + 1) + 1 + 1 + 1 + 1 by omega, show i * 4 + 1 + 1 + 1 + 1 + 2 = (i * 4 + 2) + 1 + 1 + 1 + 1 by omega, show i * 4 + 1 + 1 + 1 + 1 + 3 = (i * 4 + 3) + 1 + 1 + 1 + 1 by omega]
      simp only [List.getElem?_cons_succ]
      exact this
theorem bc_take (ks : List Br) (i : Nat) : (bc ks).take (i * 4) = bc (ks.take i) := by
  induction ks generalizing i with
  | nil => simp [bc]
  | cons a ks ih =>
    cases i with
    | zero => simp [bc]
    | succ i => rw [bc_cons, List.take_succ_cons, bc_cons, show (i + 1) * 4 = i * 4 + 1 + 1 + 1 + 1 by omega, List.take_succ_cons, List.take_succ_cons, List.take_succ_cons, List.take_succ_cons, ih]
theorem bc_set (ks : List Br) (i : Nat) (k f : Br) (h : ks[i]? = some f) : ((((bc ks).set (i * 4) (.complex .f64 k.a k.b)).set (i * 4 + 1) (.int .i64 k.ver)).set (i * 4 + 2) (.bool k.all)).set (i * 4 + 3) k.v = bc (ks.set i k) := by
  induction ks generalizing i with
  | nil => simp at h
  | cons a ks ih =>
    cases i with
    | zero => rfl
    | succ i =>
      rw [bc_cons, List.set_cons_succ, bc_cons, ← ih i (by simpa using h), show (i + 1) * 4 = i * 4 + 1 + 1 + 1 + 1 by omega, show i * 4 + 1 + 1 + 1 + 1 + 1 = (i * 4 + 1) + 1 + 1 + 1 + 1 by omega, show i * 4 + 1 + 1 + 1 + 1 + 2 = (i * 4 + 2) + 1 + 1 + 1 + 1 by omega, show i * 4 + 1 + 1 + 1 + 1 + 3 = (i * 4 + 3) + 1 + 1 + 1 + 1 by omega]
      rfl
theorem set_same {l : List Value} {i : Nat} {v : Value} (h : l[i]? = some v) : l.set i v = l := by
  apply List.ext_getElem?
  intro j
  rw [List.getElem?_set]
  by_cases e : i = j
  · subst e; rw [if_pos rfl, if_pos (List.getElem?_eq_some_iff.1 h).1, h]
  · rw [if_neg e]
theorem bc_put (ks : List Br) (i : Nat) (va : Option Addr) (vn vc : Nat) (f : Br) (h : ks[i]? = some f) : (bc ks).set (i * 4 + 3) (.slice va vn vc) = bc (ks.set i { f with va := va, vn := vn, vc := vc }) := by
  rw [← bc_set ks i _ f h]
  obtain ⟨h0, h1, h2, h3⟩ := bc_get ks i f h
  congr 1
  show _ = (((bc ks).set (i * 4) (.complex .f64 f.a f.b)).set (i * 4 + 1) (.int .i64 f.ver)).set (i * 4 + 2) (.bool f.all)
  rw [set_same h0, set_same h1, set_same h2]
theorem br_one (k : Br) : ∀ u ∈ k.vals, u.oneCell' = true := by
  intro u hu
  simp [Br.vals, Br.v] at hu
  rcases hu with rfl | rfl | rfl | rfl <;> rfl
theorem bc_one (ks : List Br) : ∀ u ∈ bc ks, u.oneCell' = true := by
  intro u hu
  unfold bc at hu
  obtain ⟨p, _, hp⟩ := List.mem_flatMap.1 hu
  exact br_one p u hp
end Go.Proofs.Ytaofhjckliobpaa
