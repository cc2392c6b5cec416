/- Maps in memory, whatever their keys and elements: look-up, store, delete, clear, len, range. -/
import Derived.Test.YtppbbddlbfgpfaaJWUps00
import Derived.MapKept
import Derived.Maps.RangeWalk
namespace Go.Proofs.Ytppbbddlbfgpfaa
section
open Go.RowKit
open Go.ChangeMaps (setBlock)

section
variable {κ β : Type} [DecidableEq κ]

/-- a key's type: its values are compared at once -/
structure Kind (kt : TypeId) (mk : κ → Value) : Prop where
  desc : ∃ d, Try.prog.underlying kt = some d ∧ ∀ a b, Instr.sameNow d (mk a) (mk b) = some (decide (a = b))
  check : ∀ w em a, (Instr.checkKey em 10000 kt (mk a)).run Try.prog w = .ok () w
  stays : ∀ a, Instr.sameBits 10000 (mk a) (mk a) = true

def mget : List (κ × β) → κ → Option β
  | [], _ => none
  | x :: l, k => if k = x.1 then some x.2 else mget l k
def mput : List (κ × β) → κ → β → List (κ × β)
  | [], k, v => [(k, v)]
  | x :: l, k, v => if k = x.1 then (k, v) :: l else x :: mput l k v
def mdel : List (κ × β) → κ → List (κ × β)
  | [], _ => []
  | x :: l, k => if k = x.1 then l else x :: mdel l k

theorem ml_cases (ml : List (κ × β)) (k : κ) : (∀ x ∈ ml, k ≠ x.1) ∨ ∃ A v B, ml = A ++ (k, v) :: B ∧ (∀ y ∈ A, k ≠ y.1) := by
  induction ml with
  | nil => exact .inl fun x hx => by cases hx
  | cons a l ih =>
    by_cases h : k = a.1
    · exact .inr ⟨[], a.2, l, by rw [h]; rfl, fun y hy => by cases hy⟩
    · rcases ih with h1 | ⟨A, v, B, rfl, h2⟩
      · refine .inl fun x hx => ?_
        rcases List.mem_cons.1 hx with rfl | hx
        · exact h
        · exact h1 x hx
      · refine .inr ⟨a :: A, v, B, rfl, fun y hy => ?_⟩
        rcases List.mem_cons.1 hy with rfl | hy
        · exact h
        · exact h2 y hy
theorem mget_none {ml : List (κ × β)} {k : κ} (h : ∀ x ∈ ml, k ≠ x.1) : mget ml k = none := by
  induction ml with
  | nil => rfl
  | cons a l ih =>
    unfold mget
    rw [if_neg (h a (List.mem_cons_self ..)), ih fun x hx => h x (List.mem_cons_of_mem _ hx)]
theorem mget_some {A B : List (κ × β)} {v : β} {k : κ} (h : ∀ y ∈ A, k ≠ y.1) : mget (A ++ (k, v) :: B) k = some v := by
  induction A with
  | nil => unfold mget; simp
  | cons a l ih =>
    rw [List.cons_append]
    unfold mget
    rw [if_neg (h a (List.mem_cons_self ..)), ih fun x hx => h x (List.mem_cons_of_mem _ hx)]
theorem mput_none {ml : List (κ × β)} {k : κ} {v : β} (h : ∀ x ∈ ml, k ≠ x.1) : mput ml k v = ml ++ [(k, v)] := by
  induction ml with
  | nil => rfl
  | cons a l ih =>
    unfold mput
    rw [if_neg (h a (List.mem_cons_self ..)), ih fun x hx => h x (List.mem_cons_of_mem _ hx)]; rfl
theorem mput_some {A B : List (κ × β)} {u v : β} {k : κ} (h : ∀ y ∈ A, k ≠ y.1) : mput (A ++ (k, u) :: B) k v = A ++ (k, v) :: B := by
  induction A with
  | nil => unfold mput; simp
  | cons a l ih =>
    rw [List.cons_append]
    unfold mput
    rw [if_neg (h a (List.mem_cons_self ..)), ih fun x hx => h x (List.mem_cons_of_mem _ hx)]; rfl
theorem mdel_none {ml : List (κ × β)} {k : κ} (h : ∀ x ∈ ml, k ≠ x.1) : mdel ml k = ml := by
  induction ml with
  | nil => rfl
  | cons a l ih =>
    unfold mdel
    rw [if_neg (h a (List.mem_cons_self ..)), ih fun x hx => h x (List.mem_cons_of_mem _ hx)]
theorem mdel_some {A B : List (κ × β)} {u : β} {k : κ} (h : ∀ y ∈ A, k ≠ y.1) : mdel (A ++ (k, u) :: B) k = A ++ B := by
  induction A with
  | nil => unfold mdel; simp
  | cons a l ih =>
    rw [List.cons_append]
    unfold mdel
    rw [if_neg (h a (List.mem_cons_self ..)), ih fun x hx => h x (List.mem_cons_of_mem _ hx)]; rfl
/-- by membership, where no key stands twice -/
theorem mget_iff {ml : List (κ × β)} (hn : (ml.map (·.1)).Nodup) {k : κ} {v : β} : mget ml k = some v ↔ (k, v) ∈ ml := by
  rcases ml_cases ml k with h | ⟨A, u, B, rfl, h⟩
  · rw [mget_none h]
    exact ⟨fun e => (by cases e), fun hm => absurd rfl (h _ hm)⟩
  · rw [mget_some h]
    constructor
    · intro e; cases e; simp
    · intro hm
      rcases List.mem_append.1 hm with hm | hm
      · exact absurd rfl (h _ hm)
      · rcases List.mem_cons.1 hm with hm | hm
        · cases hm; rfl
        · rw [List.map_append, List.nodup_append, List.map_cons, List.nodup_cons] at hn
          exact absurd (List.mem_map.2 ⟨_, hm, rfl⟩) hn.2.1.1
theorem mget_not {ml : List (κ × β)} {k : κ} : mget ml k = none ↔ ∀ x ∈ ml, k ≠ x.1 := by
  rcases ml_cases ml k with h | ⟨A, u, B, rfl, h⟩
  · exact ⟨fun _ => h, fun _ => mget_none h⟩
  · rw [mget_some h]
    exact ⟨fun e => (by cases e), fun e => absurd rfl (e (k, u) (by simp))⟩
theorem filter_ne {A : List (κ × β)} {k : κ} (h : ∀ y ∈ A, k ≠ y.1) : A.filter (fun x => decide (k ≠ x.1)) = A := List.filter_eq_self.2 fun x hx => by simpa using h x hx
theorem mdel_eq {ml : List (κ × β)} (hn : (ml.map (·.1)).Nodup) (k : κ) : mdel ml k = ml.filter (fun x => decide (k ≠ x.1)) := by
  rcases ml_cases ml k with h | ⟨A, u, B, rfl, h⟩
  · rw [mdel_none h, filter_ne h]
  · rw [mdel_some h, List.filter_append, filter_ne h, List.filter_cons]
    rw [List.map_append, List.nodup_append, List.map_cons, List.nodup_cons] at hn
    have hB : ∀ y ∈ B, k ≠ y.1 := fun y hy e => hn.2.1.1 (List.mem_map.2 ⟨y, hy, e.symm⟩)
    rw [filter_ne hB]
    simp
theorem mput_perm {ml : List (κ × β)} (hn : (ml.map (·.1)).Nodup) (k : κ) (v : β) : (mput ml k v).Perm (ml.filter (fun x => decide (k ≠ x.1)) ++ [(k, v)]) := by
  rcases ml_cases ml k with h | ⟨A, u, B, rfl, h⟩
  · rw [mput_none h, filter_ne h]
  · rw [mput_some h, List.filter_append, filter_ne h, List.filter_cons]
    rw [List.map_append, List.nodup_append, List.map_cons, List.nodup_cons] at hn
    have hB : ∀ y ∈ B, k ≠ y.1 := fun y hy e => hn.2.1.1 (List.mem_map.2 ⟨y, hy, e.symm⟩)
    rw [filter_ne hB]
    simp only [ne_eq, not_true_eq_false, decide_false, Bool.false_eq_true, if_false, List.append_assoc]
    exact (List.perm_append_comm (l₁ := [(k, v)]) (l₂ := B)).append_left A
theorem mput_keys {ml : List (κ × β)} (hn : (ml.map (·.1)).Nodup) (k : κ) (v : β) : ((mput ml k v).map (·.1)).Nodup := by
  rw [((mput_perm hn k v).map _).nodup_iff, List.map_append, List.nodup_append]
  refine ⟨(List.filter_sublist.map _).nodup hn, by simp, ?_⟩
  intro a ha b hb
  simp at hb
  subst hb
  obtain ⟨x, hx, rfl⟩ := List.mem_map.1 ha
  simp at hx
  exact fun e => hx.2 e.symm
theorem mdel_keys {ml : List (κ × β)} (hn : (ml.map (·.1)).Nodup) (k : κ) : ((mdel ml k).map (·.1)).Nodup := by
  rw [mdel_eq hn]
  exact (List.filter_sublist.map _).nodup hn

/-- the map's block -/
def MapAt (mk : κ → Value) (mv : β → Value) (w : World) (g : Nat) (ml : List (κ × β)) : Prop :=
  ∃ es clock, w.heap[g]? = some (.map es clock) ∧ (∀ x ∈ es.toList, x.born < clock) ∧ (es.toList.map (·.born)).Nodup ∧ es.toList.map (fun e => (e.key, e.val)) = ml.map fun x => (mk x.1, mv x.2)

variable {mk : κ → Value} {mv : β → Value} {kt et mt : TypeId}
omit [DecidableEq κ] in
theorem MapAt.lt {w : World} {g : Nat} {ml : List (κ × β)} (h : MapAt mk mv w g ml) : g < w.heap.size := by
  obtain ⟨es, clock, hh, _⟩ := h
  exact (Array.getElem?_eq_some_iff.1 hh).1
omit [DecidableEq κ] in
theorem MapAt.moved {w w' : World} {g : Nat} {ml : List (κ × β)} (h : MapAt mk mv w g ml) (e : w'.heap[g]? = w.heap[g]?) : MapAt mk mv w' g ml := by
  obtain ⟨es, clock, hh, r⟩ := h
  exact ⟨es, clock, e.trans hh, r⟩
omit [DecidableEq κ] in
theorem MapAt.notCells {w : World} {g : Nat} {ml : List (κ × β)} (h : MapAt mk mv w g ml) {cs : Array Value} {t : TypeId} {f : Nat × Nat} : w.heap[g]? ≠ some (.cells cs t f) := by
  obtain ⟨es, clock, hh, r⟩ := h
  rw [hh]; simp
omit [DecidableEq κ] in
theorem MapAt.neTag {w : World} {g k : Nat} {ml : List (κ × β)} (h : MapAt mk mv w g ml) {t : TypeId} (ht : Tag w k t) : g ≠ k := by
  rintro rfl
  obtain ⟨cs, f, e⟩ := ht
  exact h.notCells e
omit [DecidableEq κ] in
theorem MapAt.neCell {w : World} {g : Nat} {ml : List (κ × β)} (h : MapAt mk mv w g ml) {p : Addr} {v : Value} (ht : w.cell? p = some v) : g ≠ p.block := by
  rintro rfl
  obtain ⟨es, clock, hh, r⟩ := h
  simp [World.cell?, hh] at ht

theorem findNow_none {d : TypeDesc} (hs : ∀ a b, Instr.sameNow d (mk a) (mk b) = some (decide (a = b))) (k : κ) : ∀ (es : List MapEntry) (ml : List (κ × β)) (i : Nat), es.map (fun e => (e.key, e.val)) = (ml.map fun x => (mk x.1, mv x.2)) → (∀ x ∈ ml, k ≠ x.1) → Instr.findNow d (mk k) es i = some none
  | [], _, _, _, _ => rfl
  | e :: es, [], _, h, _ => by simp at h
  | e :: es, x :: ml, i, h, hn => by
    simp only [List.map_cons, List.cons.injEq] at h
    obtain ⟨h1, h2⟩ := h
    have hk : e.key = mk x.1 := congrArg Prod.fst h1
    have h3 := hs k x.1
    rw [decide_eq_false (hn x (List.mem_cons_self ..))] at h3
    unfold Instr.findNow
    rw [hk, h3]
    exact findNow_none hs k es ml (i + 1) h2 fun y hy => hn y (List.mem_cons_of_mem _ hy)
theorem findNow_some {d : TypeDesc} (hs : ∀ a b, Instr.sameNow d (mk a) (mk b) = some (decide (a = b))) (k : κ) (v : β) (B : List (κ × β)) : ∀ (es : List MapEntry) (A : List (κ × β)) (i : Nat), es.map (fun e => (e.key, e.val)) = ((A ++ (k, v) :: B).map fun x => (mk x.1, mv x.2)) → (∀ x ∈ A, k ≠ x.1) → Instr.findNow d (mk k) es i = some (some (i + A.length, mv v))
  | [], A, _, h, _ => by simp at h
  | e :: es, [], i, h, _ => by
    simp only [List.nil_append, List.map_cons, List.cons.injEq] at h
    obtain ⟨h1, h2⟩ := h
    have hk : e.key = mk k := congrArg Prod.fst h1
    have hv : e.val = mv v := congrArg Prod.snd h1
    have h3 := hs k k
    rw [decide_eq_true rfl] at h3
    unfold Instr.findNow
    rw [hk, hv, h3]
    rfl
  | e :: es, y :: A, i, h, hn => by
    simp only [List.cons_append, List.map_cons, List.cons.injEq] at h
    obtain ⟨h1, h2⟩ := h
    have hk : e.key = mk y.1 := congrArg Prod.fst h1
    have h3 := hs k y.1
    rw [decide_eq_false (hn y (List.mem_cons_self ..))] at h3
    unfold Instr.findNow
    rw [hk, h3]
    show Instr.findNow d (mk k) es (i + 1) = _
    rw [findNow_some hs k v B es A (i + 1) h2 fun y hy => hn y (List.mem_cons_of_mem _ hy), List.length_cons]
    congr 3
    omega
theorem find_none (K : Kind kt mk) (w : World) (k : κ) {es : List MapEntry} {ml : List (κ × β)} (h : es.map (fun e => (e.key, e.val)) = (ml.map fun x => (mk x.1, mv x.2))) (hn : ∀ x ∈ ml, k ≠ x.1) : (Instr.findKey kt (mk k) es).run Try.prog w = .ok none w := by
  obtain ⟨d, hd, hs⟩ := K.desc
  unfold Instr.findKey
  simp [run_underlying hd, findNow_none hs k es ml 0 h hn]
theorem find_some (K : Kind kt mk) (w : World) (k : κ) {es : List MapEntry} {A B : List (κ × β)} {v : β} (h : es.map (fun e => (e.key, e.val)) = ((A ++ (k, v) :: B).map fun x => (mk x.1, mv x.2))) (hn : ∀ x ∈ A, k ≠ x.1) : (Instr.findKey kt (mk k) es).run Try.prog w = .ok (some (A.length, mv v)) w := by
  obtain ⟨d, hd, hs⟩ := K.desc
  unfold Instr.findKey
  simp [run_underlying hd, findNow_some hs k v B es A 0 h hn]

/-- a map's value: nil, or a block -/
def MapV (mk : κ → Value) (mv : β → Value) (w : World) (mo : Option Nat) (ml : List (κ × β)) : Prop := match mo with | none => ml = [] | some g => MapAt mk mv w g ml
def mgetV (mv : β → Value) (z : Value) (ml : List (κ × β)) (k : κ) : Value := match mget ml k with | some v => mv v | none => z

theorem lookM (K : Kind kt mk) (ht : Try.prog.underlying mt = some (.map kt et)) {z : Value} (w : World) (hz : (zeroValue et).run Try.prog w = .ok z w) (k : κ) (mo : Option Nat) (ml : List (κ × β)) (h : MapV mk mv w mo ml) :
    (Instr.lookup mt (.map mo) (mk k) false).run Try.prog w = .ok (mgetV mv z ml k) w := by
  unfold mgetV
  cases mo with
  | none =>
    obtain rfl : ml = [] := h
    have hf := find_none (ml := ([] : List (κ × β))) (mv := mv) K w k (es := []) rfl (fun x hx => by cases hx)
    unfold Instr.lookup
    simp [run_underlying ht, K.check, hf, mget, hz]
  | some g =>
    obtain ⟨es, clock, hh, _, _, he⟩ := h
    have ho : (getObj g).run Try.prog w = .ok (.map es clock) w := MapKept.run_getObj_map hh
    unfold Instr.lookup
    rcases ml_cases ml k with hn | ⟨A, v, B, rfl, hA⟩
    · simp [run_underlying ht, K.check, find_none K w k he hn, mget_none hn, hz, ho]
    · simp [run_underlying ht, K.check, find_some K w k he hA, mget_some hA, ho]
theorem lookOk (K : Kind kt mk) (ht : Try.prog.underlying mt = some (.map kt et)) {z : Value} (w : World) (hz : (zeroValue et).run Try.prog w = .ok z w) (k : κ) (mo : Option Nat) (ml : List (κ × β)) (h : MapV mk mv w mo ml) :
    (Instr.lookup mt (.map mo) (mk k) true).run Try.prog w = .ok (.tuple #[mgetV mv z ml k, .bool (mget ml k).isSome]) w := by
  unfold mgetV
  cases mo with
  | none =>
    obtain rfl : ml = [] := h
    have hf := find_none (ml := ([] : List (κ × β))) (mv := mv) K w k (es := []) rfl (fun x hx => by cases hx)
    unfold Instr.lookup
    simp [run_underlying ht, K.check, hf, mget, hz]
  | some g =>
    obtain ⟨es, clock, hh, _, _, he⟩ := h
    have ho : (getObj g).run Try.prog w = .ok (.map es clock) w := MapKept.run_getObj_map hh
    unfold Instr.lookup
    rcases ml_cases ml k with hn | ⟨A, v, B, rfl, hA⟩
    · simp [run_underlying ht, K.check, find_none K w k he hn, mget_none hn, hz, ho]
    · simp [run_underlying ht, K.check, find_some K w k he hA, mget_some hA, ho]

theorem only_block (w : World) (g : Nat) (o : Obj) : Only (· = g) w { w with heap := w.heap.setIfInBounds g o } :=
  ⟨rfl, rfl, rfl, by simp, fun k _ hk => Array.getElem?_setIfInBounds_ne (fun e => hk e.symm)⟩
/-- a store -/
theorem storeM (K : Kind kt mk) (ht : Try.prog.underlying mt = some (.map kt et)) (w : World) (g : Nat) (ml : List (κ × β)) (h : MapAt mk mv w g ml) (k : κ) (v : β) :
    ∃ w', (Instr.mapUpdate mt (.map (some g)) (mk k) (mv v)).run Try.prog w = .ok () w' ∧ MapAt mk mv w' g (mput ml k v) ∧ Only (· = g) w w' ∧ w'.heap.size = w.heap.size := by
  obtain ⟨es, clock, hh, hb, hn, he⟩ := h
  have ho : (getObj g).run Try.prog w = .ok (.map es clock) w := MapKept.run_getObj_map hh
  have hg := (Array.getElem?_eq_some_iff.1 hh).1
  unfold Instr.mapUpdate
  rcases ml_cases ml k with hno | ⟨A, u, B, rfl, hA⟩
  · refine ⟨{ w with heap := w.heap.setIfInBounds g (.map (es.push { key := mk k, val := mv v, born := clock }) (clock + 1)) }, ?_, ?_, only_block w g _, by simp⟩
    · simp [run_underlying ht, K.check, find_none K w k he hno, ho, MapKept.run_setObj_map _ hh]
    · refine ⟨_, _, by simp [hg]; exact ⟨rfl, rfl⟩, ?_, ?_, ?_⟩
      · intro x hx
        simp at hx
        rcases hx with hx | rfl
        · have := hb x (by simpa using hx); omega
        · simp
      · simp only [Array.toList_push, List.map_append, List.map_cons, List.map_nil]
        rw [List.nodup_append]
        refine ⟨hn, by simp, ?_⟩
        intro a ha b hb'
        simp at hb'
        subst hb'
        obtain ⟨x, hx, rfl⟩ := List.mem_map.1 ha
        have := hb x hx
        omega
      · rw [mput_none hno]
        simp [he]
  · have hlt : A.length < es.size := by
      have := congrArg List.length he
      simp at this
      omega
    have hkey : (es[A.length]?.map (·.key)).getD (mk k) = mk k := by
      have h1 := congrArg (fun l => l[A.length]?) he
      simp only [List.getElem?_map, List.getElem?_append_right (Nat.le_refl A.length), Nat.sub_self, List.getElem?_cons_zero, Option.map_some, Array.getElem?_toList] at h1
      rw [Array.getElem?_eq_getElem hlt, Option.map_some] at h1
      rw [Array.getElem?_eq_getElem hlt, Option.map_some, Option.getD_some]
      exact congrArg Prod.fst (Option.some.inj h1)
    have hmod : (es.modify A.length fun e => { e with key := mk k, val := mv v }).toList = es.toList.set A.length { es[A.length] with key := mk k, val := mv v } := by
      apply List.ext_getElem?
      intro j
      rw [Array.getElem?_toList, Array.getElem?_modify, List.getElem?_set, Array.getElem?_toList]
      by_cases e : A.length = j
      · subst e
        simp [hlt]
      · rw [if_neg e, if_neg e]
    refine ⟨{ w with heap := w.heap.setIfInBounds g (.map (es.modify A.length fun e => { e with key := mk k, val := mv v }) clock) }, ?_, ?_, only_block w g _, by simp⟩
    · simp [run_underlying ht, K.check, find_some K w k he hA, ho, MapKept.run_setObj_map _ hh, hkey, Instr.keyThatStays, K.stays]
    · have hborn : (es.modify A.length fun e => { e with key := mk k, val := mv v }).toList.map (·.born) = es.toList.map (·.born) := by
        rw [hmod, List.map_set]
        apply List.ext_getElem?
        intro j
        rw [List.getElem?_set]
        by_cases e : A.length = j
        · subst e
          simp [hlt]
        · rw [if_neg e]
      refine ⟨_, _, by simp [hg]; exact ⟨rfl, rfl⟩, ?_, by rw [hborn]; exact hn, ?_⟩
      · intro x hx
        have : x.born ∈ es.toList.map (·.born) := by rw [← hborn]; exact List.mem_map.2 ⟨x, hx, rfl⟩
        obtain ⟨y, hy, e⟩ := List.mem_map.1 this
        rw [← e]; exact hb y hy
      · rw [mput_some hA, hmod, List.map_set, he]
        simp
/-- delete -/
theorem delM (K : Kind kt mk) (ht : Try.prog.underlying mt = some (.map kt et)) (ty : TypeId) (w : World) (mo : Option Nat) (ml : List (κ × β)) (h : MapV mk mv w mo ml) (k : κ) :
    ∃ w', (Builtin.delete_ #[mt, kt] ty #[.map mo, mk k]).run Try.prog w = .ok (.tuple #[]) w' ∧ MapV mk mv w' mo (mdel ml k) ∧ Only (fun b => mo = some b) w w' ∧ w'.heap.size = w.heap.size := by
  cases mo with
  | none =>
    obtain rfl : ml = [] := h
    refine ⟨w, ?_, rfl, Only.refl _ _, rfl⟩
    simp [Builtin.delete_, run_underlying ht, K.check]
  | some g =>
    obtain ⟨es, clock, hh, hb, hn, he⟩ := h
    have ho : (getObj g).run Try.prog w = .ok (.map es clock) w := MapKept.run_getObj_map hh
    have hg := (Array.getElem?_eq_some_iff.1 hh).1
    have hon : ∀ o, Only (fun b => some g = some b) w { w with heap := w.heap.setIfInBounds g o } := fun o => (only_block w g o).mono fun b e => by rw [e]
    rcases ml_cases ml k with hno | ⟨A, u, B, rfl, hA⟩
    · refine ⟨{ w with heap := w.heap.setIfInBounds g (.map es clock) }, ?_, ?_, hon _, by simp⟩
      · simp [Builtin.delete_, run_underlying ht, K.check, ho, find_none K w k he hno, MapKept.run_setObj_map _ hh]
      · refine ⟨es, clock, by simp [hg], hb, hn, ?_⟩
        rw [mdel_none hno]; exact he
    · have hlt : A.length < es.size := by
        have := congrArg List.length he
        simp at this
        omega
      have hsub : (es.eraseIdxIfInBounds A.length).toList = es.toList.eraseIdx A.length := by
        unfold Array.eraseIdxIfInBounds
        rw [dif_pos hlt]
        simp
      refine ⟨{ w with heap := w.heap.setIfInBounds g (.map (es.eraseIdxIfInBounds A.length) clock) }, ?_, ?_, hon _, by simp⟩
      · simp [Builtin.delete_, run_underlying ht, K.check, ho, find_some K w k he hA, MapKept.run_setObj_map _ hh]
      · refine ⟨es.eraseIdxIfInBounds A.length, clock, by simp [hg], ?_, ?_, ?_⟩
        · intro x hx
          rw [hsub] at hx
          exact hb x ((List.eraseIdx_sublist _ _).subset hx)
        · rw [hsub]
          exact ((List.eraseIdx_sublist _ _).map _).nodup hn
        · rw [hsub, mdel_some hA, ChangeMaps.map_eraseIdx, he, List.map_append, List.map_cons, List.eraseIdx_append_of_length_le (by simp)]
          simp
omit [DecidableEq κ] in
/-- clear -/
theorem clearM (ht : Try.prog.underlying mt = some (.map kt et)) (ty : TypeId) (w : World) (g : Nat) (ml : List (κ × β)) (h : MapAt mk mv w g ml) :
    ∃ w', (Builtin.clear_ #[mt] ty #[.map (some g)]).run Try.prog w = .ok (.tuple #[]) w' ∧ MapAt mk mv w' g [] ∧ Only (· = g) w w' ∧ w'.heap.size = w.heap.size := by
  obtain ⟨es, clock, hh, hb, hn, he⟩ := h
  have ho : (getObj g).run Try.prog w = .ok (.map es clock) w := MapKept.run_getObj_map hh
  have hg := (Array.getElem?_eq_some_iff.1 hh).1
  refine ⟨{ w with heap := w.heap.setIfInBounds g (.map #[] clock) }, ?_, ⟨#[], clock, by simp [hg], by simp, by simp, by simp⟩, only_block w g _, by simp⟩
  simp [Builtin.clear_, run_underlying ht, ho, MapKept.run_setObj_map _ hh]
omit [DecidableEq κ] in
theorem lenM (ht : Try.prog.underlying mt = some (.map kt et)) (ty : TypeId) (w : World) (mo : Option Nat) (ml : List (κ × β)) (h : MapV mk mv w mo ml) :
    (Builtin.len_ #[mt] ty #[.map mo]).run Try.prog w = .ok (.int .i64 ml.length) w := by
  cases mo with
  | none =>
    obtain rfl : ml = [] := h
    simp [Maps.len_nil ht]
  | some g =>
    obtain ⟨es, clock, hh, hb, hn, he⟩ := h
    have ho : (getObj g).run Try.prog w = .ok (.map es clock) w := MapKept.run_getObj_map hh
    have := congrArg List.length he
    simp at this
    simp [Builtin.len_, run_underlying ht, ho, ← this]
    rfl
omit [DecidableEq κ] in
theorem madeM (w : World) (mk : κ → Value) (mv : β → Value) : MapAt mk mv (w.alloc (.map #[] 0)) w.heap.size [] := ⟨#[], 0, heap_new w _, by simp, by simp, by simp⟩

/-- a range under way: what is still to come -/
def Rng (mk : κ → Value) (mv : β → Value) (w : World) (mo : Option Nat) (r : Nat) (rest : List (κ × β)) : Prop := match mo with
  | none => rest = [] ∧ w.heap[r]? = some (.mapIter none 0 #[] 0)
  | some g => ∃ es clock since seen c0, w.heap[g]? = some (.map es clock) ∧ (es.toList.map (·.born)).Nodup ∧ w.heap[r]? = some (.mapIter (some g) since seen c0) ∧ (∀ x ∈ es.toList, x.born < since) ∧ since ≤ c0 ∧ since ≤ clock ∧ (leftOf es seen).toList.map (fun e => (e.key, e.val)) = rest.map fun x => (mk x.1, mv x.2)
def rngLeft (w : World) (r : Nat) : Nat := match w.heap[r]? with
  | some (.mapIter (some g) _ seen _) => (match w.heap[g]? with | some (.map es _) => (leftOf es seen).size | _ => 0)
  | _ => 0
omit [DecidableEq κ] in
theorem Rng.left {w : World} {mo : Option Nat} {r : Nat} {rest : List (κ × β)} (h : Rng mk mv w mo r rest) : rngLeft w r = rest.length := by
  cases mo with
  | none =>
    obtain ⟨rfl, hr⟩ := h
    unfold rngLeft
    rw [hr]; rfl
  | some g =>
    obtain ⟨es, clock, since, seen, c0, hg, _, hr, _, _, _, he⟩ := h
    unfold rngLeft
    simp only [hr, hg]
    have := congrArg List.length he
    simpa using this
omit [DecidableEq κ] in
theorem Rng.lt {w : World} {mo : Option Nat} {r : Nat} {rest : List (κ × β)} (h : Rng mk mv w mo r rest) : r < w.heap.size := by
  cases mo with
  | none => exact (Array.getElem?_eq_some_iff.1 h.2).1
  | some g =>
    obtain ⟨es, clock, since, seen, c0, hg, _, hr, _⟩ := h
    exact (Array.getElem?_eq_some_iff.1 hr).1
omit [DecidableEq κ] in
theorem Rng.moved {w w' : World} {mo : Option Nat} {r : Nat} {rest : List (κ × β)} (h : Rng mk mv w mo r rest) (hr : w'.heap[r]? = w.heap[r]?) (hg : ∀ g, mo = some g → w'.heap[g]? = w.heap[g]?) : Rng mk mv w' mo r rest := by
  cases mo with
  | none => exact ⟨h.1, hr.trans h.2⟩
  | some g =>
    obtain ⟨es, clock, since, seen, c0, h1, h2, h3, h4⟩ := h
    exact ⟨es, clock, since, seen, c0, (hg g rfl).trans h1, h2, hr.trans h3, h4⟩
omit [DecidableEq κ] in
/-- range -/
theorem rangeM (ht : Try.prog.underlying mt = some (.map kt et)) (w : World) (mo : Option Nat) (ml : List (κ × β)) (h : MapV mk mv w mo ml) :
    ∃ w', (Instr.range mt (.map mo)).run Try.prog w = .ok (.pointer (some ⟨w.heap.size, 0, none⟩)) w' ∧ Rng mk mv w' mo w.heap.size ml ∧ Below w.heap.size w w' ∧ w'.heap.size = w.heap.size + 1 := by
  cases mo with
  | none =>
    obtain rfl : ml = [] := h
    refine ⟨_, run_range_nilMap w mt kt et ht, ⟨rfl, heap_new w _⟩, below_alloc w _, by simp⟩
  | some g =>
    obtain ⟨es, clock, hh, hb, hn, he⟩ := h
    have hlt := (Array.getElem?_eq_some_iff.1 hh).1
    refine ⟨_, run_range_map w mt kt et g es clock ht hh, ⟨es, clock, clock, #[], clock, ((MapKept.heap_alloc w _).2 g hlt).trans hh, hn, heap_new w _, hb, Nat.le_refl _, Nat.le_refl _, ?_⟩, below_alloc w _, by simp⟩
    have : leftOf es #[] = es := by unfold leftOf; simp
    rw [this, he]
omit [DecidableEq κ] in
/-- the step -/
theorem nextM (w : World) (ty : TypeId) (mo : Option Nat) (r : Nat) (rest : List (κ × β)) (h : Rng mk mv w mo r rest) :
    (rest = [] ∧ (Instr.next (.pointer (some ⟨r, 0, none⟩)) false ty).run Try.prog w = .ok (.tuple #[.bool false]) w) ∨
    ∃ A x B w', rest = A ++ x :: B ∧ (Instr.next (.pointer (some ⟨r, 0, none⟩)) false ty).run Try.prog w = .ok (.tuple #[.bool true, mk x.1, mv x.2]) w' ∧ Rng mk mv w' mo r (A ++ B) ∧ Only (· = r) w w' ∧ w'.heap.size = w.heap.size ∧ (Instr.entry (.pointer (some ⟨r, 0, none⟩))).run Try.prog w' = .ok (.tuple #[mk x.1, mv x.2]) w' := by
  cases mo with
  | none =>
    obtain ⟨rfl, hr⟩ := h
    refine .inl ⟨rfl, ?_⟩
    simp [Instr.next, getObj, Sem.run_bind, Sem.run, hr, Result.andThen]
  | some g =>
    obtain ⟨es, clock, since, seen, c0, hg, hn, hr, hold, hsc, hsk, he⟩ := h
    have hne : g ≠ r := by rintro rfl; rw [hg] at hr; cases hr
    rcases run_next_at (P := Try.prog) w ty r g since c0 seen es clock hr hg hold hsc with ⟨h0, hrun⟩ | ⟨e, hem, w1, hal, hrun⟩
    · refine .inl ⟨?_, hrun⟩
      have := congrArg List.length he
      simp [h0] at this
      exact List.eq_nil_of_length_eq_zero this.symm
    · right
      obtain ⟨A', B', hAB⟩ := List.append_of_mem hem
      rw [hAB, List.map_append, List.map_cons] at he
      obtain ⟨A, R, rfl, hA, hR⟩ := List.map_eq_append_iff.1 he.symm
      obtain ⟨x, B, rfl, hx, hB⟩ := List.map_eq_cons_iff.1 hR
      have hxk : e.key = mk x.1 := congrArg Prod.fst hx.symm
      have hxv : e.val = mv x.2 := congrArg Prod.snd hx.symm
      have hem' : e ∈ es.toList := by
        unfold leftOf at hem
        simp at hem ⊢
        exact hem.1
      have hr1 : w1.heap[r]? = some (.mapIter (some g) since seen c0) := by rcases hal with rfl | rfl <;> exact hr
      have hg1 : w1.heap[g]? = some (.map es clock) := by rcases hal with rfl | rfl <;> exact hg
      have hset := MapKept.heap_set (o' := .mapIter (some g) since (seen.push e.born) clock) hr1
      have hg' : (setBlock w1 r (.mapIter (some g) since (seen.push e.born) clock)).heap[g]? = some (.map es clock) := (hset.2 g hne).trans hg1
      have hleft : (leftOf es (seen.push e.born)).toList = A' ++ B' := by
        have e1 : (leftOf es (seen.push e.born)).toList = (leftOf es seen).toList.filter fun y => !(y.born == e.born) := by
          unfold leftOf
          rw [Array.toList_filter, Array.toList_filter, List.filter_filter]
          refine List.filter_congr fun y _ => ?_
          rw [contains_push]
          cases seen.contains y.born <;> cases (y.born == e.born) <;> rfl
        have hnd : ((leftOf es seen).toList.map (·.born)).Nodup := by
          unfold leftOf
          rw [Array.toList_filter]
          exact (List.filter_sublist.map _).nodup hn
        rw [hAB] at hnd
        rw [e1, hAB, List.filter_append, List.filter_cons]
        rw [List.map_append, List.nodup_append, List.map_cons, List.nodup_cons] at hnd
        have fA : A'.filter (fun y => !(y.born == e.born)) = A' := List.filter_eq_self.2 fun y hy => by
          have := hnd.2.2 y.born (List.mem_map.2 ⟨y, hy, rfl⟩) e.born (by simp)
          simpa using this
        have fB : B'.filter (fun y => !(y.born == e.born)) = B' := List.filter_eq_self.2 fun y hy => by
          have : y.born ≠ e.born := fun e2 => hnd.2.1.1 (List.mem_map.2 ⟨y, hy, e2⟩)
          simpa using this
        rw [fA, fB]
        simp
      refine ⟨A, x, B, setBlock w1 r (.mapIter (some g) since (seen.push e.born) clock), rfl, by rw [hrun, hxk, hxv], ⟨es, clock, since, seen.push e.born, clock, hg', hn, hset.1, hold, hsk, hsk, ?_⟩, ?_, ?_, ?_⟩
      · rw [hleft, List.map_append, List.map_append, ← hA, ← hB]
      · rcases hal with rfl | rfl <;> exact ⟨rfl, rfl, rfl, by simp [setBlock], fun i _ hi => hset.2 i hi⟩
      · rcases hal with rfl | rfl <;> simp [setBlock]
      · rw [run_entry_at _ r g since seen es clock e hset.1 hg' hem' hn, hxk, hxv]
end

section
variable {κ β : Type} {mk : κ → Value} {mv : β → Value} (w : World) {ops : Array Oper} {rest : List Oper} {o : Oper} {a : Act} {Q : Exit → Act → World → Prop}
/-- 'range m' in a walk -/
theorem wpList_rangeM (hg : o.guard = none) (m : Operand) (t : TypeId) (hop : o.op = Op.range t m) (k e : TypeId) (ht : Try.prog.underlying t = some (.map k e)) (mo : Option Nat) (ml : List (κ × β))
    (hm : a.eval m = .map mo) (h : MapV mk mv w mo ml)
    (hK : ∀ w', Rng mk mv w' mo w.heap.size ml → Below w.heap.size w w' → w'.heap.size = w.heap.size + 1 → wpList Try.prog ops Q rest (a.put o.dst (.pointer (some ⟨w.heap.size, 0, none⟩))) w') :
    wpList Try.prog ops Q (o :: rest) a w := by
  refine wpList_plain hg fun K' hK' => ?_
  obtain ⟨w', hrun, r1, r2, r3⟩ := rangeM (mk := mk) (mv := mv) ht w mo ml h
  unfold Oper.wp
  simp [execOp, hop, hm, hrun, Result.andThen]
  exact hK' _ _ (hK w' r1 r2 r3)
/-- its step -/
theorem wpList_nextM (hg : o.guard = none) (it : Operand) (hop : o.op = Op.next it false) (mo : Option Nat) (r : Nat) (l : List (κ × β))
    (hit : a.eval it = .pointer (some ⟨r, 0, none⟩)) (h : Rng mk mv w mo r l)
    (hDone : l = [] → wpList Try.prog ops Q rest (a.put o.dst (.tuple #[.bool false])) w)
    (hMore : ∀ A x B w', l = A ++ x :: B → Rng mk mv w' mo r (A ++ B) → Only (· = r) w w' → w'.heap.size = w.heap.size → (Instr.entry (.pointer (some ⟨r, 0, none⟩))).run Try.prog w' = .ok (.tuple #[mk x.1, mv x.2]) w' → wpList Try.prog ops Q rest (a.put o.dst (.tuple #[.bool true, mk x.1, mv x.2])) w') :
    wpList Try.prog ops Q (o :: rest) a w := by
  refine wpList_plain hg fun K' hK' => ?_
  unfold Oper.wp
  rcases nextM w o.type mo r l h with ⟨h0, hrun⟩ | ⟨A, x, B, w', e, hrun, h1, h2, h3, h4⟩
  · simp [execOp, hop, hit, hrun, Result.andThen]
    exact hK' _ _ (hDone h0)
  · simp [execOp, hop, hit, hrun, Result.andThen]
    exact hK' _ _ (hMore A x B w' e h1 h2 h3 h4)
end
end
end Go.Proofs.Ytppbbddlbfgpfaa
