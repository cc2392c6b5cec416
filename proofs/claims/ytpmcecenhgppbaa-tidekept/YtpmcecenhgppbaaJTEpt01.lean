/- Entries, plainly: what the document says of a list of entries. -/
import Derived.Test.YtpmcecenhgppbaaJTEpt00
namespace Go.Proofs.Ytpmcecenhgppbaa
section
open Go.RowKit

/-- an entry: directory, name, whether it is none, id, kind, mode, target -/
structure En where
  d : Int
  nm : ByteArray
  neg : Bool
  id : Int
  kind : Int
  mode : Int
  tg : ByteArray
def En.vals (e : En) : List Value := [.int .i64 e.d, .string e.nm, .bool e.neg, .int .i64 e.id, .int .i64 e.kind, .int .i64 e.mode, .string e.tg]
def En.agg (e : En) : Value := .agg #[.int .i64 e.d, .string e.nm, .bool e.neg, .int .i64 e.id, .int .i64 e.kind, .int .i64 e.mode, .string e.tg]
def ec (es : List En) : List Value := es.flatMap En.vals
theorem ec_len (es : List En) : (ec es).length = es.length * 7 := by
  unfold ec
  induction es with
  | nil => rfl
  | cons a es ih => rw [List.flatMap_cons, List.length_append, ih, List.length_cons]; simp [En.vals]; omega
theorem ec_app (a b : List En) : ec (a ++ b) = ec a ++ ec b := by unfold ec; rw [List.flatMap_append]
theorem ec_get (es : List En) (i j : Nat) (e : En) (h : es[i]? = some e) (hj : j < 7) : (ec es)[i * 7 + j]? = e.vals[j]? := by
  induction es generalizing i with
  | nil => simp at h
  | cons a es ih =>
    have e1 : ec (a :: es) = a.vals ++ ec es := rfl
    have hv : ∀ x : En, x.vals.length = 7 := fun _ => rfl
    cases i with
    | zero =>
      simp at h
      subst h
      rw [e1, List.getElem?_append_left (by rw [hv]; omega), Nat.zero_mul, Nat.zero_add]
    | succ i =>
      rw [e1, List.getElem?_append_right (by rw [hv]; omega), hv, show (i + 1) * 7 + j - 7 = i * 7 + j by omega]
      exact ih i (by simpa using h)

structure Tr where
  v : Value
  es : List En
  vers : Int
  next : Int
theorem bytes_eq {x y : ByteArray} : x.toList = y.toList ↔ x = y := by
  constructor
  · intro h
    rw [ByteArray.toList_eq, ByteArray.toList_eq] at h
    obtain ⟨⟨a⟩⟩ := x
    obtain ⟨⟨b⟩⟩ := y
    simp at h
    subst h
    rfl
  · rintro rfl; rfl
/-- the place of a key -/
def atI (es : List En) (d : Int) (nm : ByteArray) : Option Nat := es.findIdx? fun e => decide (e.d = d ∧ e.nm = nm)
def atV (es : List En) (d : Int) (nm : ByteArray) : Int := match atI es d nm with | some i => (i : Int) | none => -1

theorem atI_hit (es : List En) (d : Int) (nm : ByteArray) (k : Nat) (e : En) (he : es[k]? = some e) (hq : e.d = d ∧ e.nm = nm) (hno : ∀ (j : Nat) (e : En), j < k → es[j]? = some e → ¬ (e.d = d ∧ e.nm = nm)) : atI es d nm = some k := by
  unfold atI
  rw [List.findIdx?_eq_some_iff_getElem]
  have hk := (List.getElem?_eq_some_iff.1 he).1
  refine ⟨hk, ?_, fun j hj => ?_⟩
  · have := (List.getElem?_eq_some_iff.1 he).2
    rw [this]; simpa using hq
  · have := hno j _ hj (List.getElem?_eq_getElem (by omega))
    simpa using this
theorem atI_miss (es : List En) (d : Int) (nm : ByteArray) (hno : ∀ (j : Nat) (e : En), es[j]? = some e → ¬ (e.d = d ∧ e.nm = nm)) : atI es d nm = none := by
  unfold atI
  rw [List.findIdx?_eq_none_iff]
  intro x hx
  obtain ⟨j, hj⟩ := List.getElem?_of_mem hx
  exact decide_eq_false (hno j x hj)
theorem atV_hit (es : List En) (d : Int) (nm : ByteArray) (k : Nat) (e : En) (he : es[k]? = some e) (hq : e.d = d ∧ e.nm = nm) (hno : ∀ (j : Nat) (e : En), j < k → es[j]? = some e → ¬ (e.d = d ∧ e.nm = nm)) : atV es d nm = (k : Int) := by
  unfold atV; rw [atI_hit es d nm k e he hq hno]
theorem atV_miss (es : List En) (d : Int) (nm : ByteArray) (hno : ∀ (j : Nat) (e : En), es[j]? = some e → ¬ (e.d = d ∧ e.nm = nm)) : atV es d nm = -1 := by
  unfold atV; rw [atI_miss es d nm hno]

def zeroEn : En := ⟨0, ⟨#[]⟩, false, 0, 0, 0, ⟨#[]⟩⟩
def rootEn : En := ⟨0, ⟨#[]⟩, false, 1, 1, 0, ⟨#[]⟩⟩
def nodeE (es : List En) (id : Int) : Option En := if id = 1 then some rootEn else es.find? fun e => decide (e.id = id)
theorem nodeE_hit (es : List En) (id : Int) (k : Nat) (e : En) (h1 : id ≠ 1) (he : es[k]? = some e) (hq : e.id = id) (hno : ∀ (j : Nat) (e : En), j < k → es[j]? = some e → ¬ e.id = id) : nodeE es id = some e := by
  unfold nodeE
  rw [if_neg h1, List.find?_eq_some_iff_getElem]
  have hk := (List.getElem?_eq_some_iff.1 he).1
  refine ⟨by simpa using hq, k, hk, (List.getElem?_eq_some_iff.1 he).2, fun j hj => ?_⟩
  have := hno j _ hj (List.getElem?_eq_getElem (by omega))
  simpa using this
theorem nodeE_miss (es : List En) (id : Int) (h1 : id ≠ 1) (hno : ∀ (j : Nat) (e : En), es[j]? = some e → ¬ e.id = id) : nodeE es id = none := by
  unfold nodeE
  rw [if_neg h1, List.find?_eq_none]
  intro x hx
  obtain ⟨j, hj⟩ := List.getElem?_of_mem hx
  simpa using hno j x hj
def nodeV (es : List En) (id : Int) : Value := .tuple #[((nodeE es id).getD zeroEn).agg, .bool (nodeE es id).isSome]

def dirE (es : List En) (id : Int) : Int := match nodeE es id with | none => 46 | some e => if e.kind = 1 then 0 else 42
def namesN (es : List En) (dir : Int) : Nat := (es.filter fun e => decide (e.d = dir)).length
theorem namesN_le (es : List En) (dir : Int) : namesN es dir ≤ es.length := List.length_filter_le _ _
theorem namesN_take (es : List En) (dir : Int) (k : Nat) (e : En) (h : es[k]? = some e) : namesN (es.take (k + 1)) dir = namesN (es.take k) dir + if e.d = dir then 1 else 0 := by
  unfold namesN
  rw [List.take_add_one, h, List.filter_append, List.length_append]
  congr 1
  by_cases hq : e.d = dir <;> simp [hq]

/-- what a key is -/
def nowE (es : List En) (d : Int) (nm : ByteArray) : En := match (atI es d nm).bind (es[·]?) with | some e => e | none => ⟨d, nm, true, 0, 0, 0, ⟨#[]⟩⟩
theorem atI_lt {es : List En} {d : Int} {nm : ByteArray} {i : Nat} (h : atI es d nm = some i) : ∃ e, es[i]? = some e ∧ e.d = d ∧ e.nm = nm := by
  unfold atI at h
  rw [List.findIdx?_eq_some_iff_getElem] at h
  obtain ⟨hi, hq, _⟩ := h
  exact ⟨es[i], List.getElem?_eq_getElem hi, by simpa using hq⟩
/-- does a directory lie in another one -/
def withinF (es : List En) : Nat → Int → Int → Bool
  | 0, _, _ => false
  | n + 1, dir, above => if dir = above then true else match nodeE es dir with | none => false | some e => if dir = 1 then false else withinF es n e.d above
theorem withinF_hit (es : List En) (n : Nat) (d : Int) : withinF es (n + 1) d d = true := by unfold withinF; rw [if_pos rfl]
theorem withinF_none (es : List En) (n : Nat) (d above : Int) (h : d ≠ above) (hn : nodeE es d = none) : withinF es (n + 1) d above = false := by unfold withinF; rw [if_neg h, hn]
theorem withinF_root (es : List En) (n : Nat) (above : Int) (h : 1 ≠ above) : withinF es (n + 1) 1 above = false := by
  unfold withinF; rw [if_neg h]; rfl
theorem withinF_up (es : List En) (n : Nat) (d above : Int) (e : En) (h : d ≠ above) (hn : nodeE es d = some e) (h1 : d ≠ 1) : withinF es (n + 1) d above = withinF es n e.d above := by
  rw [withinF, if_neg h, hn]; simp only [if_neg h1]

theorem vals_one (e : En) : ∀ u ∈ e.vals, u.oneCell' = true := by
  intro u hu
  simp [En.vals] at hu
  rcases hu with rfl | rfl | rfl | rfl | rfl | rfl | rfl <;> rfl
def goneL (es : List En) (d : Int) (nm : ByteArray) : List En := es.filter fun e => !decide (e.d = d ∧ e.nm = nm)
theorem goneL_take (es : List En) (d : Int) (nm : ByteArray) (k : Nat) (e : En) (h : es[k]? = some e) : goneL (es.take (k + 1)) d nm = goneL (es.take k) d nm ++ (if e.d = d ∧ e.nm = nm then [] else [e]) := by
  unfold goneL
  rw [List.take_add_one, h, List.filter_append]
  congr 1
  by_cases hq : e.d = d ∧ e.nm = nm
  · rw [if_pos hq]; simp [hq]
  · rw [if_neg hq]
    simp only [Option.toList_some, List.filter_cons, decide_eq_false hq]
    rfl
theorem goneL_le (es : List En) (d : Int) (nm : ByteArray) : (goneL es d nm).length ≤ es.length := List.length_filter_le _ _

def atE (es : List En) (d : Int) (nm : ByteArray) : Option En := (atI es d nm).bind (es[·]?)
theorem atE_some {es : List En} {d : Int} {nm : ByteArray} {i : Nat} {e : En} (h : atI es d nm = some i) (he : es[i]? = some e) : atE es d nm = some e := by unfold atE; rw [h]; exact he
theorem atE_none {es : List En} {d : Int} {nm : ByteArray} (h : atI es d nm = none) : atE es d nm = none := by unfold atE; rw [h]; rfl
def removedE (es : List En) (d : Int) (nm : ByteArray) (dir : Bool) : Int :=
  match atE es d nm with
  | none => 40
  | some e => if e.kind = 1 ∧ dir = false then 43 else if ¬ e.kind = 1 ∧ dir = true then 42 else if dir = true ∧ 0 < namesN es e.id then 44 else 0
def madeE (es : List En) (d : Int) (nm : ByteArray) : Int := if (atE es d nm).isSome then 41 else if 47 ≤ es.length then 47 else 0
theorem ec_one (es : List En) : ∀ u ∈ ec es, u.oneCell' = true := by
  intro u hu
  obtain ⟨p, hp, hu⟩ := List.mem_flatMap.1 hu
  exact vals_one p u hu
/-- the other key's entry, where it is another node's -/
def otherE (es : List En) (i : Nat) (d : Int) (nm : ByteArray) : Option En := match atI es d nm with | some j => if j = i then none else es[j]? | none => none
def renErr (es : List En) (e : En) (o : Option En) : Int :=
  match o with
  | none => 0
  | some f => if e.kind = 1 ∧ ¬ f.kind = 1 then 42 else if ¬ e.kind = 1 ∧ f.kind = 1 then 43 else if f.kind = 1 ∧ 0 < namesN es f.id then 44 else 0
def renamedE (es : List En) (d : Int) (nm : ByteArray) (d2 : Int) (nm2 : ByteArray) : Int :=
  match atI es d nm with
  | none => 40
  | some i => match es[i]? with
    | none => 40
    | some e => if e.kind = 1 ∧ withinF es (es.length + 1) d2 e.id = true then 45 else renErr es e (otherE es i d2 nm2)
def renamedL (es : List En) (d : Int) (nm : ByteArray) (d2 : Int) (nm2 : ByteArray) : List En :=
  match atI es d nm with
  | none => es
  | some i => match es[i]? with
    | none => es
    | some e => goneL (if (otherE es i d2 nm2).isSome then goneL es d2 nm2 else es) d nm ++ [{ e with d := d2, nm := nm2, neg := false }]

/-- what layer 2's own answer says of names and targets -/
structure Nms where
  chk : ByteArray → Int
  tgt : ByteArray → Int
def namedE (M : Nms) (es : List En) (d : Int) (nm : ByteArray) : Int := if dirE es d = 0 then M.chk nm else dirE es d

structure Opn where
  kind : Int
  dir : Int
  nm : ByteArray
  dst : Int
  new : ByteArray
  mode : Int
  tg : ByteArray
def Opn.arr (o : Opn) : Array Value := #[.int .i64 o.kind, .int .i64 o.dir, .string o.nm, .int .i64 o.dst, .string o.new, .int .i64 o.mode, .string o.tg]
def badM (m : Int) : Bool := decide (m < 0) || decide (511 < m)
def setM (es : List En) (d : Int) (nm : ByteArray) (m : Int) : List En := match atI es d nm with | none => es | some i => match es[i]? with | none => es | some e => es.set i { e with mode := m }
def doesE (M : Nms) (s : Tr) (o : Opn) : Int :=
  if o.kind < 5 ∨ 11 < o.kind then 1
  else if namedE M s.es o.dir o.nm ≠ 0 then namedE M s.es o.dir o.nm
  else if o.kind = 5 ∨ o.kind = 6 then (if badM o.mode then 1 else madeE s.es o.dir o.nm)
  else if o.kind = 7 then (if M.tgt o.tg ≠ 0 then M.tgt o.tg else madeE s.es o.dir o.nm)
  else if o.kind = 8 then removedE s.es o.dir o.nm false
  else if o.kind = 9 then removedE s.es o.dir o.nm true
  else if o.kind = 10 then (if namedE M s.es o.dst o.new ≠ 0 then namedE M s.es o.dst o.new else renamedE s.es o.dir o.nm o.dst o.new)
  else (if badM o.mode then 1 else if (atE s.es o.dir o.nm).isSome then 0 else 40)
def doesL (s : Tr) (o : Opn) : List En :=
  if o.kind = 5 then s.es ++ [⟨o.dir, o.nm, false, s.next, 2, o.mode, ⟨#[]⟩⟩]
  else if o.kind = 6 then s.es ++ [⟨o.dir, o.nm, false, s.next, 1, o.mode, ⟨#[]⟩⟩]
  else if o.kind = 7 then s.es ++ [⟨o.dir, o.nm, false, s.next, 3, 0, o.tg⟩]
  else if o.kind = 8 ∨ o.kind = 9 then goneL s.es o.dir o.nm
  else if o.kind = 10 then renamedL s.es o.dir o.nm o.dst o.new
  else setM s.es o.dir o.nm o.mode
def doesN (s : Tr) (o : Opn) : Int := if o.kind = 5 ∨ o.kind = 6 ∨ o.kind = 7 then s.next + 1 else s.next

theorem ec_set5 (es : List En) (i : Nat) (e : En) (m : Int) (h : es[i]? = some e) : (ec es).set (i * 7 + 5) (.int .i64 m) = ec (es.set i { e with mode := m }) := by
  induction es generalizing i with
  | nil => simp at h
  | cons a es ih =>
    have e1 : ec (a :: es) = a.vals ++ ec es := rfl
    have hv : ∀ x : En, x.vals.length = 7 := fun _ => rfl
    cases i with
    | zero =>
      simp at h
      subst h
      rfl
    | succ i =>
      rw [e1, List.set_append_right _ _ (by rw [hv]; omega), hv, show (i + 1) * 7 + 5 - 7 = i * 7 + 5 by omega, ih i (by simpa using h)]; rfl
/-- there is always room for a rename: the entry that moves is gone first -/
theorem ren_room (es : List En) (hl : es.length ≤ 47) (d : Int) (nm : ByteArray) (d2 : Int) (nm2 : ByteArray) : ∀ i e, atI es d nm = some i → es[i]? = some e → (goneL (if (otherE es i d2 nm2).isSome then goneL es d2 nm2 else es) d nm).length + 1 ≤ 47 := by
  intro i e hi he
  obtain ⟨e', he', hd, hn⟩ := atI_lt hi
  rw [he] at he'
  cases he'
  have key : (goneL es d nm).length < es.length := by
    unfold goneL
    refine List.length_filter_lt_length_iff_exists.2 ⟨e, List.mem_of_getElem? he, by simp [hd, hn]⟩
  split
  · have : goneL (goneL es d2 nm2) d nm = goneL (goneL es d nm) d2 nm2 := by
      unfold goneL
      rw [List.filter_filter, List.filter_filter]
      congr 1
      funext x
      rw [Bool.and_comm]
    rw [this]
    have := goneL_le (goneL es d nm) d2 nm2
    omega
  · omega
def lookV (M : Nms) (es : List En) (d : Int) (nm : ByteArray) : Value := if namedE M es d nm = 0 then .tuple #[(nowE es d nm).agg, .int .i64 0] else .tuple #[zeroEn.agg, .int .i64 (namedE M es d nm)]
theorem take_eqE {l l' : List En} {k : Nat} (h : l.take k = l'.take k) (hk : k = l.length) (hk' : k = l'.length) : l = l' := by
  rw [List.take_of_length_le (by omega), List.take_of_length_le (by omega)] at h; exact h
theorem take_snocE {l l' : List En} {k : Nat} {x : En} (h : l.take k = l'.take k) (h1 : l[k]? = some x) (h2 : l'[k]? = some x) : l.take (k + 1) = l'.take (k + 1) := by
  rw [List.take_add_one, List.take_add_one, h, h1, h2]

def lessK (d : Int) (nm : ByteArray) (d2 : Int) (nm2 : ByteArray) : Bool := decide (d < d2) || (decide (d = d2) && Op.bytesLess nm.toList nm2.toList)
def findV (es : List En) (id : Int) : Value := if id = 1 then .tuple #[zeroEn.agg, .int .i64 1] else match nodeE es id with | none => .tuple #[zeroEn.agg, .int .i64 46] | some e => .tuple #[e.agg, .int .i64 0]

theorem bytesLess_lt : ∀ (x y : List UInt8), Op.bytesLess x y = decide (x < y)
  | [], [] => by simp [Op.bytesLess]
  | [], b :: y => by simp [Op.bytesLess]
  | a :: x, [] => by simp [Op.bytesLess]
  | a :: x, b :: y => by
    rw [Op.bytesLess]
    have ih := bytesLess_lt x y
    by_cases h : a < b
    · simp [h, List.cons_lt_cons_iff]
    · by_cases e : a = b
      · subst e; simp [ih]
      · simp [h, e, List.cons_lt_cons_iff]
/-- the order of entries, by their keys -/
def lessE (e f : En) : Prop := lessK e.d e.nm f.d f.nm = true
theorem lessE_iff (e f : En) : lessE e f ↔ e.d < f.d ∨ (e.d = f.d ∧ e.nm.toList < f.nm.toList) := by
  unfold lessE lessK
  rw [bytesLess_lt]
  simp
theorem lessE_irrefl (e : En) : ¬ lessE e e := by
  rw [lessE_iff]
  rintro (h | ⟨_, h⟩)
  · omega
  · exact List.lt_irrefl _ h
theorem lessE_trans {e f g : En} (h : lessE e f) (k : lessE f g) : lessE e g := by
  rw [lessE_iff] at *
  rcases h with h | ⟨h1, h2⟩ <;> rcases k with k | ⟨k1, k2⟩
  · left; omega
  · left; omega
  · left; omega
  · right; exact ⟨by omega, List.lt_trans h2 k2⟩
theorem lessE_total (e f : En) : lessE e f ∨ (e.d = f.d ∧ e.nm = f.nm) ∨ lessE f e := by
  rw [lessE_iff, lessE_iff]
  rcases Int.lt_trichotomy e.d f.d with h | h | h
  · exact .inl (.inl h)
  · by_cases h2 : e.nm.toList < f.nm.toList
    · exact .inl (.inr ⟨h, h2⟩)
    · by_cases h3 : f.nm.toList < e.nm.toList
      · exact .inr (.inr (.inr ⟨h.symm, h3⟩))
      · exact .inr (.inl ⟨h, bytes_eq.1 (List.le_antisymm (List.not_lt.1 h3) (List.not_lt.1 h2))⟩)
  · exact .inr (.inr (.inl h))
/-- rising -/
def Rises (l : List En) : Prop := l.Pairwise lessE
/-- lists that rise and have the same members are the same -/
theorem Rises.same : ∀ {l m : List En}, Rises l → Rises m → (∀ x, x ∈ l ↔ x ∈ m) → l = m
  | [], [], _, _, _ => rfl
  | [], b :: m, _, _, h => absurd ((h b).2 (List.mem_cons_self ..)) (by simp)
  | a :: l, [], _, _, h => absurd ((h a).1 (List.mem_cons_self ..)) (by simp)
  | a :: l, b :: m, h1, h2, h => by
    have p1 := List.pairwise_cons.1 h1
    have p2 := List.pairwise_cons.1 h2
    have hab : a = b := by
      rcases List.mem_cons.1 ((h a).1 (List.mem_cons_self ..)) with e | e
      · exact e
      · rcases List.mem_cons.1 ((h b).2 (List.mem_cons_self ..)) with e' | e'
        · exact e'.symm
        · exact absurd (lessE_trans (p1.1 b e') (p2.1 a e)) (lessE_irrefl a)
    subst hab
    congr 1
    refine Rises.same p1.2 p2.2 fun x => ⟨fun hx => ?_, fun hx => ?_⟩
    · rcases List.mem_cons.1 ((h x).1 (List.mem_cons_of_mem _ hx)) with e | e
      · subst e; exact absurd (p1.1 x hx) (lessE_irrefl x)
      · exact e
    · rcases List.mem_cons.1 ((h x).2 (List.mem_cons_of_mem _ hx)) with e | e
      · subst e; exact absurd (p2.1 x hx) (lessE_irrefl x)
      · exact e
structure Ky where
  d : Int
  nm : ByteArray
def kc (ks : List Ky) : List Value := ks.flatMap fun p => [.int .i64 p.d, .string p.nm]
theorem kc_len (ks : List Ky) : (kc ks).length = ks.length * 2 := by
  unfold kc
  induction ks with
  | nil => rfl
  | cons a ks ih => rw [List.flatMap_cons, List.length_append, ih, List.length_cons]; simp; omega
theorem kc_get (ks : List Ky) (i : Nat) (p : Ky) (h : ks[i]? = some p) : (kc ks)[i * 2]? = some (.int .i64 p.d) ∧ (kc ks)[i * 2 + 1]? = some (.string p.nm) := by
  induction ks generalizing i with
  | nil => simp at h
  | cons a ks ih =>
    cases i with
    | zero =>
      simp at h
      subst h
      exact ⟨rfl, rfl⟩
    | succ i =>
      have := ih i (by simpa using h)
      have e : (kc (a :: ks)) = [.int .i64 a.d, .string a.nm] ++ kc ks := rfl
      rw [e, List.getElem?_append_right (by simp; omega), List.getElem?_append_right (by simp; omega)]
      simp only [List.length_cons, List.length_nil]
      rw [show (i + 1) * 2 - (0 + 1 + 1) = i * 2 by omega, show (i + 1) * 2 + 1 - (0 + 1 + 1) = i * 2 + 1 by omega]
      exact this
theorem take_eqK {l l' : List Ky} {k : Nat} (h : l.take k = l'.take k) (hk : k = l.length) (hk' : k = l'.length) : l = l' := by
  rw [List.take_of_length_le (by omega), List.take_of_length_le (by omega)] at h; exact h
theorem take_snocK {l l' : List Ky} {k : Nat} {x : Ky} (h : l.take k = l'.take k) (h1 : l[k]? = some x) (h2 : l'[k]? = some x) : l.take (k + 1) = l'.take (k + 1) := by
  rw [List.take_add_one, List.take_add_one, h, h1, h2]

theorem ec_set7 (es : List En) (i : Nat) (e f : En) (h : es[i]? = some f) : (((((((ec es).set (i * 7) (.int .i64 e.d)).set (i * 7 + 1) (.string e.nm)).set (i * 7 + 2) (.bool e.neg)).set (i * 7 + 3) (.int .i64 e.id)).set (i * 7 + 4) (.int .i64 e.kind)).set (i * 7 + 5) (.int .i64 e.mode)).set (i * 7 + 6) (.string e.tg) = ec (es.set i e) := by
  induction es generalizing i with
  | nil => simp at h
  | cons a es ih =>
    have e1 : ec (a :: es) = a.vals ++ ec es := rfl
    have hv : ∀ x : En, x.vals.length = 7 := fun _ => rfl
    cases i with
    | zero => rfl
    | succ i =>
      have ih' := ih i (by simpa using h)
      rw [e1]
      repeat rw [List.set_append_right _ _ (by rw [hv]; omega)]
      simp only [hv]
      rw [show (i + 1) * 7 - 7 = i * 7 by omega, show (i + 1) * 7 + 1 - 7 = i * 7 + 1 by omega, show (i + 1) * 7 + 2 - 7 = i * 7 + 2 by omega, show (i + 1) * 7 + 3 - 7 = i * 7 + 3 by omega, show (i + 1) * 7 + 4 - 7 = i * 7 + 4 by omega, show (i + 1) * 7 + 5 - 7 = i * 7 + 5 by omega, show (i + 1) * 7 + 6 - 7 = i * 7 + 6 by omega, ih']
      rfl
def Apart (l : List En) : Prop := l.Pairwise fun a b => ¬ (a.d = b.d ∧ a.nm = b.nm)
/-- what is sorted: the same members, rising where no key is there twice -/
def Sorts (l m : List En) : Prop := m.Perm l ∧ (Apart l → Rises m)
theorem get_mid (A B : List En) (x : En) : (A ++ x :: B)[A.length]? = some x := by
  rw [List.getElem?_append_right (Nat.le_refl _), Nat.sub_self]; rfl
theorem get_prev (A B : List En) (a x : En) : ((A ++ [a]) ++ x :: B)[A.length]? = some a := by
  rw [List.append_assoc, List.getElem?_append_right (Nat.le_refl _), Nat.sub_self]; rfl
theorem swap_mid (A B : List En) (a x : En) : ((((A ++ [a]) ++ x :: B).set (A.length + 1) a).set A.length x) = A ++ x :: a :: B := by
  rw [List.append_assoc, List.set_append_right _ _ (by omega), show A.length + 1 - A.length = 1 by omega, List.set_append_right _ _ (Nat.le_refl _), Nat.sub_self]
  rfl
theorem sorts_step {l m A B : List En} {x : En} (hs : Sorts l m) (hm : A ++ B = m) (hB : Apart (l ++ [x]) → ∀ b ∈ B, lessE x b) (hA : ∀ A' a, A = A' ++ [a] → ¬ lessE x a) : Sorts (l ++ [x]) (A ++ x :: B) := by
  subst hm
  refine ⟨?_, fun hd => ?_⟩
  · refine List.perm_middle.trans ?_
    exact (List.Perm.cons x hs.1).trans (List.perm_append_comm (l₁ := [x]) (l₂ := l))
  · have hd1 : Apart l := (List.pairwise_append.1 hd).1
    have hr := hs.2 hd1
    have hx : ∀ y ∈ l, ¬ (y.d = x.d ∧ y.nm = x.nm) := fun y hy => (List.pairwise_append.1 hd).2.2 y hy x (by simp)
    have hr' := List.pairwise_append.1 hr
    have hAx : ∀ a ∈ A, lessE a x := by
      rcases List.eq_nil_or_concat A with rfl | ⟨A', a0, rfl⟩
      · intro a ha; cases ha
      · rw [List.concat_eq_append] at *
        have h0 : lessE a0 x := by
          rcases lessE_total a0 x with h | h | h
          · exact h
          · exact absurd h (hx a0 ((hs.1.mem_iff).1 (by simp)))
          · exact absurd h (hA A' a0 rfl)
        intro a ha
        rcases List.mem_append.1 ha with ha | ha
        · exact lessE_trans ((List.pairwise_append.1 hr'.1).2.2 a ha a0 (by simp)) h0
        · rw [List.mem_singleton.1 ha]; exact h0
    refine List.pairwise_append.2 ⟨hr'.1, List.pairwise_cons.2 ⟨hB hd, hr'.2.1⟩, fun a ha b hb => ?_⟩
    rcases List.mem_cons.1 hb with rfl | hb
    · exact hAx a ha
    · exact lessE_trans (hAx a ha) (hB hd b hb)

theorem last_cases (A : List En) : A = [] ∨ ∃ A' a, A = A' ++ [a] := by
  rcases List.eq_nil_or_concat A with h | ⟨A', a, h⟩
  · exact .inl h
  · exact .inr ⟨A', a, by rw [h, List.concat_eq_append]⟩
end
end Go.Proofs.Ytpmcecenhgppbaa
