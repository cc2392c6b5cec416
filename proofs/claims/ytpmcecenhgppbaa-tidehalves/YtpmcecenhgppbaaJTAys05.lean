/- Messages in memory: rows of messages, whole loads and stores, shut. -/
import Derived.Test.YtpmcecenhgppbaaJTAys04
import Derived.Deep.MidRow
import Derived.MapKept
import Derived.Shelf.SlicesE.Clone
import Derived.Shelf.SlicesQ.IndexFunc
import Derived.Test.YtpmcecenhgppbaaProg
namespace Go.Proofs.Ytpmcecenhgppbaa
section
open Go.RowKit

theorem Try.infoMg : (Try.prog.info? 45).map (fun i => (i.zero, i.size, i.bytes)) = some (some (.agg #[.int .i64 0, .int .i64 0, .int .i64 0, .int .i64 0, .complex .f64 0 0, .int .i64 0, .int .i64 0, .int .i64 0, .int .i64 0, .string ⟨#[]⟩, .int .i64 0, .string ⟨#[]⟩, .int .i64 0, .string ⟨#[]⟩, .slice none 0 0, .slice none 0 0]), 16, 192) := by kernel_rfl
theorem Try.sizeMg : (Try.prog.info? 45).map (·.size) = some 16 := by kernel_rfl
theorem Try.infoKy : (Try.prog.info? 53).map (fun i => (i.zero, i.size, i.bytes)) = some (some (.agg #[.int .i64 0, .string ⟨#[]⟩]), 2, 24) := by kernel_rfl
theorem Try.sizeKy : (Try.prog.info? 53).map (·.size) = some 2 := by kernel_rfl
theorem run_store_complex (P : Program) (w : World) (a : Addr) (m : Mode) (k : FloatKind) (x y : Nat) : (store a (.complex k x y) m).run P w = stored P w a (.complex k x y) m := run_store P w a _ m rfl
theorem boxB {w W : World} {cs : Array Value} {ty : TypeId} (hW : w.alloc (.cells cs ty) = W) : W.heap[w.heap.size]? = some (.cells cs ty (0, 0)) ∧ Below w.heap.size w W := by
  subst hW; exact ⟨heap_new _ _, below_alloc _ _⟩
def LB : Nat := 140737488351232
/-- a row's front -/
theorem owns_front {w : World} {base : Nat} {e : TypeId} {size g n m cap : Nat} {xs ys : List Value} (h : w.ownsRow base e size (.slice (some ⟨g, 0, none⟩) n cap) n xs) (hm : m ≤ n) (hy : xs.take (m * size) = ys) (hl : ys.length = m * size) : w.ownsRow base e size (.slice (some ⟨g, 0, none⟩) m cap) m ys := by
  refine ⟨hl, .inr ?_⟩
  rcases h.2 with ⟨e, _⟩ | ⟨g', cap', cur, e, hg, hh, r1, r2, r3, r4⟩
  · cases e
  · cases e
    refine ⟨g, cap, cur, rfl, hg, hh, by omega, r2, r3, ?_⟩
    rw [← hy, ← r4, List.take_take, Nat.min_eq_left (Nat.mul_le_mul_right _ hm)]
/-- a row with what lies behind it -/
theorem owns_longer {w : World} {base : Nat} {e : TypeId} {size g n m cap : Nat} {xs : List Value} (h : w.ownsRow base e size (.slice (some ⟨g, 0, none⟩) n cap) n xs) (hm : n ≤ m) (hc : m ≤ cap) : ∃ ys, w.ownsRow base e size (.slice (some ⟨g, 0, none⟩) m cap) m ys ∧ ys.take (n * size) = xs := by
  have hmul := Nat.mul_le_mul_right size hm
  have hmul2 := Nat.mul_le_mul_right size hc
  rcases h.2 with ⟨e, _⟩ | ⟨g', cap', cur, e, hg, hh, r1, r2, r3, r4⟩
  · cases e
  · cases e
    refine ⟨cur.toList.take (m * size), ⟨by rw [List.length_take, Array.length_toList, r3, Nat.min_eq_left hmul2], .inr ⟨g, cap, cur, rfl, hg, hh, hc, r2, r3, rfl⟩⟩, ?_⟩
    rw [List.take_take, Nat.min_eq_left hmul]; exact r4
/-- a whole message loaded, shut -/
def msgLd (v : Value) : Sem Value := Instr.loadAt 45 v
theorem loadMsg (v : Value) : Instr.loadAt 45 v = msgLd v := rfl
theorem msgLd_at {w : World} {g o : Nat} {cs : Array Value} (h : ∀ j v, cs[j]? = some v → w.cell? ⟨g, o + j, none⟩ = some v) (hs : cs.size = 16) : (msgLd (.pointer (some ⟨g, o, none⟩))).run Try.prog w = .ok (.agg cs) w := by
  have := run_loadAt_mid (P := Try.prog) w g o 45 cs.toList _ (fun j v hv => h j v (by rw [← Array.getElem?_toList]; exact hv)) Try.underlying45 rfl (by rw [Array.length_toList, hs]; exact Try.sizeMg)
  unfold msgLd
  rw [this, Array.toArray_toList]
theorem msgLd_of {w : World} {g : Nat} {cs : Array Value} {t : TypeId} {fr : Nat × Nat} (h : w.heap[g]? = some (.cells cs t fr)) (hs : cs.size = 16) : (msgLd (.pointer (some ⟨g, 0, none⟩))).run Try.prog w = .ok (.agg cs) w := by
  unfold msgLd Instr.loadAt Instr.sureAddr
  simp [run_loadVar_row w g t 45 cs fr _ h Try.underlying45 rfl (by rw [hs]; exact Try.sizeMg)]
attribute [irreducible] msgLd
/-- a whole message stored, shut -/
def msgSt (a v : Value) : Sem Unit := Instr.storeAt 45 a v
theorem storeMsg (a v : Value) : Instr.storeAt 45 a v = msgSt a v := rfl
theorem msgSt_of {w W : World} {g : Nat} {old cs : Array Value} {t : TypeId} (h : w.heap[g]? = some (.cells old t (0, 0))) (ho : old.size = 16) (hs : cs.size = 16) (h1 : cs.all (·.oneCell') = true) (hW : w.setRow g cs = W) : (msgSt (.pointer (some ⟨g, 0, none⟩)) (.agg cs)).run Try.prog w = .ok () W := by
  subst hW
  unfold msgSt Instr.storeAt Instr.sureAddr
  simp [run_storeVar_row w g t 45 old cs h (by rw [hs]; exact Try.sizeMg) (by rw [ho, hs]) h1]
theorem msgSt_at {w W : World} {g o : Nat} {cur cs : Array Value} {t : TypeId} (h : w.heap[g]? = some (.cells cur t (0, 0))) (hs : cs.size = 16) (hf : o + 16 ≤ cur.size) (h1 : ∀ v ∈ cs.toList, v.oneCell' = true) (hW : w.setRow g (cur.toList.take o ++ cs.toList ++ cur.toList.drop (o + 16)).toArray = W) : (msgSt (.pointer (some ⟨g, o, none⟩)) (.agg cs)).run Try.prog w = .ok () W := by
  subst hW
  have hl : cs.toList.length = 16 := by rw [Array.length_toList, hs]
  have hst := run_storeCells_at Try.prog g o t cs.toList 0 cur w h (by rw [hl]; omega) h1
  simp only [Nat.add_zero, hl] at hst
  have hz : (sizeOf 45).run Try.prog w = .ok 16 w := by
    have := Try.sizeMg
    cases hq : Try.prog.info? 45 with
    | none => rw [hq] at this; cases this
    | some i =>
      rw [hq] at this
      have e : i.size = 16 := by simpa using this
      simp [sizeOf, typeInfo, hq, e]
  unfold msgSt Instr.storeAt Instr.sureAddr storeVar
  simp [hz, Value.cells, hs, hst]
attribute [irreducible] msgSt

/-- a message in memory: what it says, where its entries and keys lie -/
structure Hm where
  m : Pm
  ae : Option Addr
  ce : Nat
  ak : Option Addr
  ck : Nat
def Hm.ve (h : Hm) : Value := .slice h.ae h.m.es.length h.ce
def Hm.vk (h : Hm) : Value := .slice h.ak h.m.ks.length h.ck
def Hm.arr (h : Hm) : Array Value := h.m.arr h.ve h.vk
def Hm.vals (h : Hm) : List Value := h.arr.toList
theorem Hm.size (h : Hm) : h.arr.size = 16 := rfl
theorem Hm.len (h : Hm) : h.vals.length = 16 := rfl
theorem Hm.one (h : Hm) : h.arr.all (·.oneCell') = true := by simp [Hm.arr, Pm.arr, Hm.ve, Hm.vk, Value.oneCell']
theorem Hm.one' (h : Hm) : ∀ u ∈ h.vals, u.oneCell' = true := by
  have := h.one
  rw [Array.all_eq_true'] at this
  intro u hu
  exact this u (by simpa [Hm.vals] using hu)
def mc (l : List Hm) : List Value := l.flatMap Hm.vals
theorem mc_len (l : List Hm) : (mc l).length = l.length * 16 := by
  unfold mc
  induction l with
  | nil => rfl
  | cons a l ih => rw [List.flatMap_cons, List.length_append, ih, List.length_cons, Hm.len]; omega
theorem mc_app (a b : List Hm) : mc (a ++ b) = mc a ++ mc b := by unfold mc; rw [List.flatMap_append]
theorem mc_cons (a : Hm) (b : List Hm) : mc (a :: b) = a.vals ++ mc b := rfl
theorem mc_get (l : List Hm) (i j : Nat) (h : Hm) (hi : l[i]? = some h) (hj : j < 16) : (mc l)[i * 16 + j]? = h.vals[j]? := by
  induction l generalizing i with
  | nil => simp at hi
  | cons a l ih =>
    rw [mc_cons]
    cases i with
    | zero =>
      simp at hi
      subst hi
      rw [Nat.zero_mul, Nat.zero_add, List.getElem?_append_left (by rw [Hm.len]; exact hj)]
    | succ i =>
      rw [List.getElem?_append_right (by rw [Hm.len]; omega), Hm.len, show (i + 1) * 16 + j - 16 = i * 16 + j by omega]
      exact ih i (by simpa using hi)
theorem mc_take (l : List Hm) (i : Nat) : (mc l).take (i * 16) = mc (l.take i) := by
  induction l generalizing i with
  | nil => simp [mc]
  | cons a l ih =>
    cases i with
    | zero => simp [mc]
    | succ i =>
      rw [mc_cons, List.take_succ_cons, mc_cons, List.take_append, Hm.len, List.take_of_length_le (by rw [Hm.len]; omega), show (i + 1) * 16 - 16 = i * 16 by omega, ih]
theorem mc_drop (l : List Hm) (i : Nat) : (mc l).drop (i * 16) = mc (l.drop i) := by
  induction l generalizing i with
  | nil => simp [mc]
  | cons a l ih =>
    cases i with
    | zero => simp
    | succ i =>
      rw [mc_cons, List.drop_succ_cons, List.drop_append, Hm.len, List.drop_of_length_le (by rw [Hm.len]; omega), show (i + 1) * 16 - 16 = i * 16 by omega, ih]
      rfl
theorem mc_set (l : List Hm) (i : Nat) (x : Hm) (h : i < l.length) : (mc l).take (i * 16) ++ x.vals ++ (mc l).drop (i * 16 + 16) = mc (l.set i x) := by
  rw [mc_take, show i * 16 + 16 = (i + 1) * 16 by omega, mc_drop, List.set_eq_take_append_cons_drop, if_pos h, mc_app, mc_cons, List.append_assoc]
theorem mc_one (l : List Hm) : ∀ u ∈ mc l, u.oneCell' = true := by
  intro u hu
  unfold mc at hu
  obtain ⟨p, _, hp⟩ := List.mem_flatMap.1 hu
  exact p.one' u hp
def RowM (w : World) (base : Nat) (v : Value) (l : List Hm) : Prop := w.ownsRow base 45 16 v l.length (mc l)
theorem RowM.below {w w' : World} {base : Nat} {v : Value} {l : List Hm} (h : RowM w base v l) (hb : Below w.heap.size w w') : RowM w' base v l := owns_below h hb
theorem RowM.moved {w w' : World} {base : Nat} {v : Value} {l : List Hm} (h : RowM w base v l) (hk : ∀ k, v.ownBlock = some k → w'.heap[k]? = w.heap[k]?) : RowM w' base v l := owns_moved h hk
theorem RowM.lt {w : World} {base : Nat} {v : Value} {l : List Hm} (h : RowM w base v l) {k : Nat} (hk : v.ownBlock = some k) : base ≤ k ∧ k < w.heap.size := World.ownsRow.lt h k hk
theorem RowM.tag {w : World} {base : Nat} {v : Value} {l : List Hm} (h : RowM w base v l) {k : Nat} (hk : v.ownBlock = some k) : Tag w k 45 := Tag.own h hk
/-- one of a row's messages -/
theorem owns_msg {w : World} {base n cap i : Nat} {a : Option Addr} {l : List Hm} {h : Hm} (hr : RowM w base (.slice a n cap) l) (hi : l[i]? = some h) : ∃ g, a = some ⟨g, 0, none⟩ ∧ n = l.length ∧ base ≤ g ∧ g < w.heap.size ∧ (∀ j v, h.arr[j]? = some v → w.cell? ⟨g, i * 16 + j, none⟩ = some v) := by
  have hlt : i < l.length := (List.getElem?_eq_some_iff.1 hi).1
  obtain ⟨N, hN⟩ : ∃ N, l.length = N + 1 := ⟨l.length - 1, by omega⟩
  unfold RowM at hr
  rw [hN] at hr
  obtain ⟨g, cap', e'⟩ := owns_form hr
  cases e'
  obtain ⟨hc, hf, _, _, hb, hg⟩ := owns_cells hr
  refine ⟨g, rfl, hN.symm, hb, hg, fun j v hv => ?_⟩
  have hj : j < 16 := (Array.getElem?_eq_some_iff.1 hv).1
  apply hc
  rw [mc_get l i j h hi hj]
  rw [Hm.vals, Array.getElem?_toList]; exact hv
theorem kc_one (ks : List Ky) : ∀ u ∈ kc ks, u.oneCell' = true := by
  intro u hu
  unfold kc at hu
  obtain ⟨p, _, hp⟩ := List.mem_flatMap.1 hu
  simp at hp
  rcases hp with rfl | rfl <;> rfl
/-- what a message's lists are -/
structure Lists (w : World) (B : Nat) (h : Hm) : Prop where
  es : Row7 w B h.ve h.m.es
  ks : RowK w B h.vk h.m.ks
  le : h.m.es.length * 72 ≤ LB
  lk : h.m.ks.length * 24 ≤ LB
theorem Lists.below {w w' : World} {B : Nat} {h : Hm} (k : Lists w B h) (hb : Below w.heap.size w w') : Lists w' B h := ⟨k.es.below hb, k.ks.below hb, k.le, k.lk⟩
theorem Lists.moved {w w' : World} {B : Nat} {h : Hm} (k : Lists w B h) (hk : ∀ q, h.ve.ownBlock = some q ∨ h.vk.ownBlock = some q → w'.heap[q]? = w.heap[q]?) : Lists w' B h := ⟨owns_moved k.es fun q e => hk q (.inl e), owns_moved k.ks fun q e => hk q (.inr e), k.le, k.lk⟩
theorem Lists.down {w : World} {B B' : Nat} {h : Hm} (k : Lists w B h) (hb : B' ≤ B) : Lists w B' h := ⟨owns_le k.es hb, owns_le k.ks hb, k.le, k.lk⟩
/-- what turns none of the lists' blocks leaves them -/
theorem Lists.only {S : Nat → Prop} {w w' : World} {B : Nat} {h : Hm} (k : Lists w B h) (ho : Only S w w') (hS : ∀ q, S q → ¬ Tag w q 57 ∧ ¬ Tag w q 53) : Lists w' B h :=
  k.moved fun q e => ho.block q (by
    rcases e with e | e
    · exact (Tag.own k.es e).lt
    · exact (Tag.own k.ks e).lt) fun s => by
    rcases e with e | e
    · exact (hS q s).1 (Tag.own k.es e)
    · exact (hS q s).2 (Tag.own k.ks e)
theorem Tag.two {w : World} {k : Nat} {t t' : TypeId} (h : Tag w k t) (ht : t ≠ t') : ¬ Tag w k t' := fun h' => h.ne h' ht rfl
end
section
open Go.RowKit

abbrev Ml := List (Ky × Nat × Nat)
def mkv (x : Ky × Nat × Nat) : Value × Value := (x.1.agg, .complex .f64 x.2.1 x.2.2)
/-- the map's block -/
def MapAt (w : World) (g : Nat) (ml : Ml) : Prop := ∃ es clock, w.heap[g]? = some (.map es clock) ∧ es.toList.map (fun e => (e.key, e.val)) = ml.map mkv
def mlook (ml : Ml) (k : Ky) : Nat × Nat := ((ml.find? fun x => eqKy k x.1).map (·.2)).getD (0, 0)
def mput (ml : Ml) (k : Ky) (a b : Nat) : Ml := match ml with
  | [] => [(k, a, b)]
  | x :: l => if eqKy k x.1 then (k, a, b) :: l else x :: mput l k a b
theorem ml_cases (ml : Ml) (k : Ky) : (∀ x ∈ ml, eqKy k x.1 = false) ∨ ∃ A x B, ml = A ++ x :: B ∧ (∀ y ∈ A, eqKy k y.1 = false) ∧ eqKy k x.1 = true := by
  induction ml with
  | nil => exact .inl fun x hx => by cases hx
  | cons a l ih =>
    cases h : eqKy k a.1 with
    | true => exact .inr ⟨[], a, l, rfl, (fun y hy => by cases hy), h⟩
    | false =>
      rcases ih with h1 | ⟨A, x, B, rfl, h2, h3⟩
      · refine .inl fun x hx => ?_
        rcases List.mem_cons.1 hx with rfl | hx
        · exact h
        · exact h1 x hx
      · refine .inr ⟨a :: A, x, B, rfl, fun y hy => ?_, h3⟩
        rcases List.mem_cons.1 hy with rfl | hy
        · exact h
        · exact h2 y hy
theorem mlook_none {ml : Ml} {k : Ky} (h : ∀ x ∈ ml, eqKy k x.1 = false) : mlook ml k = (0, 0) := by
  unfold mlook
  rw [List.find?_eq_none.2 (fun x hx => by rw [h x hx]; simp)]; rfl
theorem mlook_some {A B : Ml} {x : Ky × Nat × Nat} {k : Ky} (h : ∀ y ∈ A, eqKy k y.1 = false) (hx : eqKy k x.1 = true) : mlook (A ++ x :: B) k = x.2 := by
  unfold mlook
  rw [List.find?_append, List.find?_eq_none.2 (fun y hy => by rw [h y hy]; simp), Option.none_or, List.find?_cons]; simp only [hx]; rfl
theorem mput_none {ml : Ml} {k : Ky} {a b : Nat} (h : ∀ x ∈ ml, eqKy k x.1 = false) : mput ml k a b = ml ++ [(k, a, b)] := by
  induction ml with
  | nil => rfl
  | cons x l ih =>
    unfold mput
    rw [h x (List.mem_cons_self ..)]
    simp only [Bool.false_eq_true, if_false, List.cons_append]
    rw [ih fun y hy => h y (List.mem_cons_of_mem _ hy)]
theorem mput_some {A B : Ml} {x : Ky × Nat × Nat} {k : Ky} {a b : Nat} (h : ∀ y ∈ A, eqKy k y.1 = false) (hx : eqKy k x.1 = true) : mput (A ++ x :: B) k a b = A ++ (k, a, b) :: B := by
  induction A with
  | nil => unfold mput; simp [hx]
  | cons y l ih =>
    rw [List.cons_append]
    unfold mput
    rw [h y (List.mem_cons_self ..)]
    simp only [Bool.false_eq_true, if_false, List.cons_append]
    rw [ih fun y hy => h y (List.mem_cons_of_mem _ hy)]
theorem mlook_put (ml : Ml) (k : Ky) (a b : Nat) (x : Ky) : mlook (mput ml k a b) x = if eqKy k x then (a, b) else mlook ml x := by
  induction ml with
  | nil =>
    unfold mput mlook
    rw [eqKy_comm k x]
    cases h : eqKy x k <;> simp [h]
  | cons y l ih =>
    unfold mput
    cases hy : eqKy k y.1 with
    | true =>
      rw [if_pos rfl]
      have : k = y.1 := (eqKy_iff _ _).1 hy
      unfold mlook
      rw [List.find?_cons, List.find?_cons]
      simp only []
      rw [← this, eqKy_comm x k]
      cases h : eqKy k x <;> simp
    | false =>
      simp only [Bool.false_eq_true, if_false]
      unfold mlook at ih ⊢
      rw [List.find?_cons, List.find?_cons]
      cases h : eqKy x y.1 with
      | true =>
        have e : x = y.1 := (eqKy_iff _ _).1 h
        rw [e, hy]; simp
      | false => exact ih
theorem checkK (w : World) (em : Bool) (k : Ky) : (Instr.checkKey em 10000 53 k.agg).run Try.prog w = .ok () w := by
  unfold Instr.checkKey Ky.agg
  simp [run_underlying Try.underlying53, go_sem]
  unfold Instr.checkKey
  simp [go_sem]
theorem equalK (w : World) (a b : Ky) : (Op.equal 53 a.agg b.agg).run Try.prog w = .ok (eqKy a b) w := by
  unfold Op.equal
  exact eqInK 9998 w a.d b.d a.nm b.nm
theorem findA_none (k : Ky) (w : World) : ∀ (es : List MapEntry) (ml : Ml) (i : Nat), es.map (fun e => (e.key, e.val)) = ml.map mkv → (∀ x ∈ ml, eqKy k x.1 = false) → (Instr.findAsking 53 k.agg es i).run Try.prog w = .ok none w
  | [], _, _, _, _ => rfl
  | e :: es, [], _, h, _ => by simp at h
  | e :: es, x :: ml, i, h, hn => by
    simp only [List.map_cons, List.cons.injEq] at h
    obtain ⟨h1, h2⟩ := h
    have hk : e.key = x.1.agg := congrArg Prod.fst h1
    have := equalK w k x.1
    rw [hn x (List.mem_cons_self ..)] at this
    unfold Instr.findAsking
    rw [hk]
    simp [this, findA_none k w es ml (i + 1) h2 fun y hy => hn y (List.mem_cons_of_mem _ hy)]
theorem findA_some (k : Ky) (w : World) (x : Ky × Nat × Nat) (B : Ml) (hx : eqKy k x.1 = true) : ∀ (es : List MapEntry) (A : Ml) (i : Nat), es.map (fun e => (e.key, e.val)) = (A ++ x :: B).map mkv → (∀ x ∈ A, eqKy k x.1 = false) → (Instr.findAsking 53 k.agg es i).run Try.prog w = .ok (some (i + A.length, .complex .f64 x.2.1 x.2.2)) w
  | [], A, _, h, _ => by simp at h
  | e :: es, [], i, h, _ => by
    simp only [List.nil_append, List.map_cons, List.cons.injEq] at h
    obtain ⟨h1, h2⟩ := h
    have hk : e.key = x.1.agg := congrArg Prod.fst h1
    have hv : e.val = .complex .f64 x.2.1 x.2.2 := congrArg Prod.snd h1
    have := equalK w k x.1
    rw [hx] at this
    unfold Instr.findAsking
    rw [hk, hv]
    simp [this]
  | e :: es, y :: A, i, h, hn => by
    simp only [List.cons_append, List.map_cons, List.cons.injEq] at h
    obtain ⟨h1, h2⟩ := h
    have hk : e.key = y.1.agg := congrArg Prod.fst h1
    have := equalK w k y.1
    rw [hn y (List.mem_cons_self ..)] at this
    unfold Instr.findAsking
    rw [hk]
    simp [this, findA_some k w x B hx es A (i + 1) h2 fun y hy => hn y (List.mem_cons_of_mem _ hy)]
    omega
theorem findNowK (k : Value) (fs : Array Field) (e : MapEntry) (es : List MapEntry) (i : Nat) : Instr.findNow (.struct fs) k (e :: es) i = none := by
  unfold Instr.findNow Instr.sameNow
  simp
theorem findK (k : Ky) (w : World) (es : List MapEntry) (r : Option (Nat × Value)) (h : (Instr.findAsking 53 k.agg es).run Try.prog w = .ok r w) : (Instr.findKey 53 k.agg es).run Try.prog w = .ok r w := by
  unfold Instr.findKey
  cases es with
  | nil =>
    simp [Instr.findAsking] at h
    subst h
    simp [run_underlying Try.undK, Instr.findNow]
  | cons e es => simp [run_underlying Try.undK, findNowK, h]
/-- a look-up -/
theorem lookM (k : Ky) (w : World) (mv : Option Nat) (ml : Ml) (h : match mv with | none => ml = [] | some g => MapAt w g ml) : (Instr.lookup 64 (.map mv) k.agg false).run Try.prog w = .ok (.complex .f64 (mlook ml k).1 (mlook ml k).2) w := by
  cases mv with
  | none =>
    simp only [] at h
    subst h
    have hf := findK k w [] none rfl
    unfold Instr.lookup
    simp [run_underlying Try.underlying64, checkK, hf, mlook]
  | some g =>
    obtain ⟨es, clock, hh, he⟩ := h
    have ho : (getObj g).run Try.prog w = .ok (.map es clock) w := MapKept.run_getObj_map hh
    unfold Instr.lookup
    rcases ml_cases ml k with hn | ⟨A, x, B, rfl, hA, hx⟩
    · have hf := findK k w es.toList none (findA_none k w es.toList ml 0 he hn)
      simp [run_underlying Try.underlying64, checkK, hf, mlook_none hn, ho]
    · have hf := findK k w es.toList _ (findA_some k w x B hx es.toList A 0 he hA)
      simp [run_underlying Try.underlying64, checkK, hf, mlook_some hA hx, ho]
theorem sameBitsK (k : Ky) (n : Nat) : Instr.sameBits (n + 1) k.agg k.agg = true := by
  unfold Instr.sameBits Ky.agg
  simp [Instr.sameBits]
  exact (MapKept.bytes_beq _ _).2 rfl
theorem only_block (w : World) (g : Nat) (o : Obj) : Only (· = g) w { w with heap := w.heap.setIfInBounds g o } :=
  ⟨rfl, rfl, rfl, by simp, fun k _ hk => Array.getElem?_setIfInBounds_ne (fun e => hk e.symm)⟩
/-- a store -/
theorem storeM (k : Ky) (a b : Nat) (w : World) (g : Nat) (ml : Ml) (h : MapAt w g ml) : ∃ w', (Instr.mapUpdate 64 (.map (some g)) k.agg (.complex .f64 a b)).run Try.prog w = .ok () w' ∧ MapAt w' g (mput ml k a b) ∧ Only (· = g) w w' := by
  obtain ⟨es, clock, hh, he⟩ := h
  have ho : (getObj g).run Try.prog w = .ok (.map es clock) w := MapKept.run_getObj_map hh
  have hg := (Array.getElem?_eq_some_iff.1 hh).1
  unfold Instr.mapUpdate
  rcases ml_cases ml k with hn | ⟨A, x, B, rfl, hA, hx⟩
  · have hf := findK k w es.toList none (findA_none k w es.toList ml 0 he hn)
    refine ⟨{ w with heap := w.heap.setIfInBounds g (.map (es.push { key := k.agg, val := .complex .f64 a b, born := clock }) (clock + 1)) }, ?_, ?_, only_block w g _⟩
    · simp [run_underlying Try.underlying64, checkK, hf, ho, MapKept.run_setObj_map _ hh]
    · refine ⟨_, _, by simp [hg]; exact ⟨rfl, rfl⟩, ?_⟩
      rw [mput_none hn]
      simp [he, mkv]
  · have hf := findK k w es.toList _ (findA_some k w x B hx es.toList A 0 he hA)
    have hlt : A.length < es.size := by
      have := congrArg List.length he
      simp at this
      omega
    have hkey : (es[A.length]?.map (·.key)).getD k.agg = k.agg := by
      have h1 := congrArg (fun l => l[A.length]?) he
      simp only [List.getElem?_map, List.getElem?_append_right (Nat.le_refl A.length), Nat.sub_self, List.getElem?_cons_zero, Option.map_some, Array.getElem?_toList] at h1
      rw [Array.getElem?_eq_getElem hlt, Option.map_some] at h1
      rw [Array.getElem?_eq_getElem hlt, Option.map_some, Option.getD_some]
      have h2 := congrArg Prod.fst (Option.some.inj h1)
      rw [show es[A.length].key = x.1.agg from h2, ← (eqKy_iff _ _).1 hx]
    refine ⟨{ w with heap := w.heap.setIfInBounds g (.map (es.modify A.length fun e => { e with key := k.agg, val := .complex .f64 a b }) clock) }, ?_, ?_, only_block w g _⟩
    · simp [run_underlying Try.underlying64, checkK, hf, ho, MapKept.run_setObj_map _ hh, hkey, Instr.keyThatStays, sameBitsK k 9999]
    · refine ⟨_, _, by simp [hg]; exact ⟨rfl, rfl⟩, ?_⟩
      rw [mput_some hA hx]
      apply List.ext_getElem?
      intro j
      have h1 := congrArg (fun l => l[j]?) he
      simp only [List.getElem?_map, Array.getElem?_toList, Array.getElem?_modify] at h1 ⊢
      by_cases e : A.length = j
      · subst e
        rw [if_pos rfl, Array.getElem?_eq_getElem hlt, List.getElem?_append_right (Nat.le_refl A.length), Nat.sub_self]
        rfl
      · rw [if_neg e]
        rw [h1]
        rcases Nat.lt_or_ge j A.length with h | h
        · rw [List.getElem?_append_left h, List.getElem?_append_left h]
        · rw [List.getElem?_append_right h, List.getElem?_append_right h, List.getElem?_cons, List.getElem?_cons, if_neg (by omega), if_neg (by omega)]
end
section
open Go.Shelf
def Try.cloneK_ren : Go.Shelf.Ren := ⟨fun | 41 => 58 | n => n, fun | 22 => 34 | 23 => 53 | 4 => 4 | n => n, fun | n => n⟩
theorem Try.cloneK : Go.Proofs.SlLaysE0.n41 Try.prog Try.cloneK_ren := {
  mixed := by kernel_rfl
  f41 := ⟨Try.f58.name, by decide, Try.func58.trans (congrArg some (by kernel_rfl))⟩
  t4 := Try.underlying4
  a4 := Try.isAgg4
  z4 := Try.sizeOf4
  v4 := Try.zeroValue4
  t22 := Try.underlying34
  a22 := Try.isAgg34
  z22 := Try.sizeOf34
  v22 := Try.zeroValue34 }
def Try.cloneE_ren : Go.Shelf.Ren := ⟨fun | 41 => 57 | n => n, fun | 22 => 33 | 23 => 57 | 4 => 4 | n => n, fun | n => n⟩
theorem Try.cloneE : Go.Proofs.SlLaysE0.n41 Try.prog Try.cloneE_ren := {
  mixed := by kernel_rfl
  f41 := ⟨Try.f57.name, by decide, Try.func57.trans (congrArg some (by kernel_rfl))⟩
  t4 := Try.underlying4
  a4 := Try.isAgg4
  z4 := Try.sizeOf4
  v4 := Try.zeroValue4
  t22 := Try.underlying33
  a22 := Try.isAgg33
  z22 := Try.sizeOf33
  v22 := Try.zeroValue33 }
def Try.indexM_ren : Go.Shelf.Ren := ⟨fun | 6 => 43 | n => n, fun | 22 => 60 | 23 => 45 | 25 => 75 | 3 => 3 | 0 => 0 | 4 => 4 | n => n, fun | n => n⟩
theorem Try.indexM : Go.Proofs.SlLaysH0.n6 Try.prog Try.indexM_ren := {
  mixed := by kernel_rfl
  f6 := ⟨Try.f43.name, by decide, Try.func43.trans (congrArg some (by kernel_rfl))⟩
  t0 := Try.underlying0
  a0 := Try.isAgg0
  z0 := Try.sizeOf0
  v0 := Try.zeroValue0
  t3 := Try.underlying3
  a3 := Try.isAgg3
  z3 := Try.sizeOf3
  v3 := Try.zeroValue3
  t4 := Try.underlying4
  a4 := Try.isAgg4
  z4 := Try.sizeOf4
  v4 := Try.zeroValue4
  t22 := Try.underlying60
  a22 := Try.isAgg60
  z22 := Try.sizeOf60
  v22 := Try.zeroValue60
  t25 := Try.underlying75
  a25 := Try.isAgg75
  z25 := Try.sizeOf75
  v25 := Try.zeroValue75 }
end
end Go.Proofs.Ytpmcecenhgppbaa
