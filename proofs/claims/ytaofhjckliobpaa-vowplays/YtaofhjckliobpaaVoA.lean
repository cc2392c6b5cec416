/- Keys, breaks and tables, plainly: what the chapter says of a table. -/
import Derived.Test.YtaofhjckliobpaaBgP
namespace Go.Proofs.Ytaofhjckliobpaa
open Go.RowKit

theorem bytes_eq {x y : ByteArray} : x.toList = y.toList ↔ x = y := by
  constructor
  · intro h
    rw [ByteArray.toList_eq, ByteArray.toList_eq] at h
    obtain ⟨⟨a⟩⟩ := x
    obtain ⟨⟨b⟩⟩ := y
    simp at h
    subst h
    rfl
  · rintro rfl; rfl
/-- a key -/
structure Ky where
  d : Int
  nm : ByteArray
def Ky.vals (k : Ky) : List Value := [.int .i64 k.d, .string k.nm]
def Ky.agg (k : Ky) : Value := .agg #[.int .i64 k.d, .string k.nm]
def kc (ks : List Ky) : List Value := ks.flatMap Ky.vals
theorem kc_len (ks : List Ky) : (kc ks).length = ks.length * 2 := by
  unfold kc
  induction ks with
  | nil => rfl
  | cons a ks ih => rw [List.flatMap_cons, List.length_append, ih, List.length_cons]; simp [Ky.vals]; omega
theorem kc_app (a b : List Ky) : kc (a ++ b) = kc a ++ kc b := by unfold kc; rw [List.flatMap_append]
theorem kc_cons (a : Ky) (b : List Ky) : kc (a :: b) = .int .i64 a.d :: .string a.nm :: kc b := rfl
theorem kc_get (ks : List Ky) (i : Nat) (p : Ky) (h : ks[i]? = some p) : (kc ks)[i * 2]? = some (.int .i64 p.d) ∧ (kc ks)[i * 2 + 1]? = some (.string p.nm) := by
  induction ks generalizing i with
  | nil => simp at h
  | cons a ks ih =>
    cases i with
    | zero =>
      simp at h
      subst h
      exact ⟨rfl, rfl⟩
    | succ i =>
      have := ih i (by simpa using h)
      rw [kc_cons, show (i + 1) * 2 = i * 2 + 1 + 1 by omega, show i * 2 + 1 + 1 + 1 = (i * 2 + 1) + 1 + 1 by omega, List.getElem?_cons_succ, List.getElem?_cons_succ, List.getElem?_cons_succ, List.getElem?_cons_succ]
      exact this
theorem kc_take (ks : List Ky) (i : Nat) : (kc ks).take (i * 2) = kc (ks.take i) := by
  induction ks generalizing i with
  | nil => simp [kc]
  | cons a ks ih =>
    cases i with
    | zero => simp [kc]
    | succ i => rw [kc_cons, List.take_succ_cons, kc_cons, show (i + 1) * 2 = i * 2 + 1 + 1 by omega, List.take_succ_cons, List.take_succ_cons, ih]
theorem kc_set (ks : List Ky) (i : Nat) (k f : Ky) (h : ks[i]? = some f) : ((kc ks).set (i * 2) (.int .i64 k.d)).set (i * 2 + 1) (.string k.nm) = kc (ks.set i k) := by
  induction ks generalizing i with
  | nil => simp at h
  | cons a ks ih =>
    cases i with
    | zero => rfl
    | succ i =>
      rw [kc_cons, List.set_cons_succ, kc_cons, ← ih i (by simpa using h), show (i + 1) * 2 = i * 2 + 1 + 1 by omega, show i * 2 + 1 + 1 + 1 = (i * 2 + 1) + 1 + 1 by omega]
      rfl
theorem ky_one (k : Ky) : ∀ u ∈ k.vals, u.oneCell' = true := by
  intro u hu
  simp [Ky.vals] at hu
  rcases hu with rfl | rfl <;> rfl
theorem kc_one (ks : List Ky) : ∀ u ∈ kc ks, u.oneCell' = true := by
  intro u hu
  unfold kc at hu
  obtain ⟨p, _, hp⟩ := List.mem_flatMap.1 hu
  exact ky_one p u hp

/-- are two keys the same (shut, so that a walk leaves it standing) -/
def eqKy (a b : Ky) : Bool := decide (a.d = b.d ∧ a.nm = b.nm)
theorem eqKy_iff (a b : Ky) : eqKy a b = true ↔ a = b := by
  obtain ⟨a1, a2⟩ := a
  obtain ⟨b1, b2⟩ := b
  simp [eqKy]
theorem eqKy_self (a : Ky) : eqKy a a = true := (eqKy_iff a a).2 rfl
theorem eqKy_no {a b : Ky} (h : a ≠ b) : eqKy a b = false := by
  cases k : eqKy a b with
  | false => rfl
  | true => exact absurd ((eqKy_iff a b).1 k) h
theorem eqKy_comm (a b : Ky) : eqKy a b = eqKy b a := by
  by_cases h : a = b
  · subst h; rfl
  · rw [eqKy_no h, eqKy_no (Ne.symm h)]
/-- is a key one of a list -/
def inK (l : List Ky) (k : Ky) : Bool := l.any fun x => eqKy x k
theorem inK_iff (l : List Ky) (k : Ky) : inK l k = true ↔ k ∈ l := by
  unfold inK
  rw [List.any_eq_true]
  constructor
  · rintro ⟨x, hx, e⟩
    rw [← (eqKy_iff x k).1 e]; exact hx
  · exact fun h => ⟨k, h, eqKy_self k⟩
theorem inK_no {l : List Ky} {k : Ky} (h : k ∉ l) : inK l k = false := by
  cases e : inK l k with
  | false => rfl
  | true => exact absurd ((inK_iff l k).1 e) h
/-- a list without a key -/
def dropK (l : List Ky) (k : Ky) : List Ky := l.filter fun x => !eqKy x k
theorem dropK_le (l : List Ky) (k : Ky) : (dropK l k).length ≤ l.length := List.length_filter_le _ _
theorem dropK_mem (l : List Ky) (k x : Ky) : x ∈ dropK l k ↔ x ∈ l ∧ x ≠ k := by
  unfold dropK
  rw [List.mem_filter]
  constructor
  · rintro ⟨h, e⟩
    refine ⟨h, ?_⟩
    rintro rfl
    rw [eqKy_self] at e; cases e
  · rintro ⟨h, e⟩
    exact ⟨h, by rw [eqKy_no e]; rfl⟩
theorem dropK_same {l : List Ky} {k : Ky} (h : k ∉ l) : dropK l k = l := by
  unfold dropK
  rw [List.filter_eq_self]
  intro x hx
  rw [eqKy_no (by rintro rfl; exact h hx)]; rfl
theorem dropK_lt {l : List Ky} {k : Ky} (h : k ∈ l) : (dropK l k).length < l.length := by
  unfold dropK
  exact List.length_filter_lt_length_iff_exists.2 ⟨k, h, by simp [eqKy_self]⟩
/-- a list without those of another -/
def minusK (l m : List Ky) : List Ky := l.filter fun x => !inK m x
theorem minusK_mem (l m : List Ky) (x : Ky) : x ∈ minusK l m ↔ x ∈ l ∧ x ∉ m := by
  unfold minusK
  rw [List.mem_filter]
  constructor
  · rintro ⟨h, e⟩
    refine ⟨h, fun k => ?_⟩
    rw [(inK_iff m x).2 k] at e; cases e
  · rintro ⟨h, e⟩
    exact ⟨h, by rw [inK_no e]; rfl⟩
theorem minusK_le (l m : List Ky) : (minusK l m).length ≤ l.length := List.length_filter_le _ _
theorem minusK_nil (l : List Ky) : minusK l [] = l := by
  unfold minusK
  rw [List.filter_eq_self]
  intro x _; rfl
theorem minusK_snoc (l m : List Ky) (k : Ky) : minusK l (m ++ [k]) = dropK (minusK l m) k := by
  unfold minusK dropK
  rw [List.filter_filter]
  congr 1
  funext x
  have : inK (m ++ [k]) x = (inK m x || eqKy k x) := by unfold inK; simp
  rw [this, eqKy_comm x k]
  cases inK m x <;> cases eqKy k x <;> rfl

/-- the order of keys -/
def ltK (a b : Ky) : Bool := decide (a.d < b.d) || (decide (a.d = b.d) && Op.bytesLess a.nm.toList b.nm.toList)
theorem bytesLess_lt : ∀ (x y : List UInt8), Op.bytesLess x y = decide (x < y)
  | [], [] => by simp [Op.bytesLess]
  | [], b :: y => by simp [Op.bytesLess]
  | a :: x, [] => by simp [Op.bytesLess]
  | a :: x, b :: y => by
    rw [Op.bytesLess]
    have ih := bytesLess_lt x y
    by_cases h : a < b
    · simp [h, List.cons_lt_cons_iff]
    · by_cases e : a = b
      · subst e; simp [ih]
      · simp [h, e, List.cons_lt_cons_iff]
theorem ltK_iff (e f : Ky) : ltK e f = true ↔ e.d < f.d ∨ (e.d = f.d ∧ e.nm.toList < f.nm.toList) := by
  unfold ltK
  rw [bytesLess_lt]
  simp
theorem ltK_irrefl (e : Ky) : ltK e e = false := by
  cases h : ltK e e with
  | false => rfl
  | true =>
    rw [ltK_iff] at h
    rcases h with h | ⟨_, h⟩
    · omega
    · exact absurd h (List.lt_irrefl _)
theorem ltK_trans {e f g : Ky} (h : ltK e f = true) (k : ltK f g = true) : ltK e g = true := by
  rw [ltK_iff] at *
  rcases h with h | ⟨h1, h2⟩ <;> rcases k with k | ⟨k1, k2⟩
  · left; omega
  · left; omega
  · left; omega
  · right; exact ⟨by omega, List.lt_trans h2 k2⟩
theorem ltK_total (e f : Ky) : ltK e f = true ∨ e = f ∨ ltK f e = true := by
  rw [ltK_iff, ltK_iff]
  rcases Int.lt_trichotomy e.d f.d with h | h | h
  · exact .inl (.inl h)
  · by_cases h2 : e.nm.toList < f.nm.toList
    · exact .inl (.inr ⟨h, h2⟩)
    · by_cases h3 : f.nm.toList < e.nm.toList
      · exact .inr (.inr (.inr ⟨h.symm, h3⟩))
      · refine .inr (.inl ?_)
        have hb := bytes_eq.1 (List.le_antisymm (List.not_lt.1 h3) (List.not_lt.1 h2))
        obtain ⟨e1, e2⟩ := e
        obtain ⟨f1, f2⟩ := f
        simp only at h hb
        rw [h, hb]
  · exact .inr (.inr (.inl h))
def Rises (l : List Ky) : Prop := l.Pairwise fun a b => ltK a b = true
theorem Rises.same : ∀ {l m : List Ky}, Rises l → Rises m → (∀ x, x ∈ l ↔ x ∈ m) → l = m
  | [], [], _, _, _ => rfl
  | [], b :: m, _, _, h => absurd ((h b).2 (List.mem_cons_self ..)) (by simp)
  | a :: l, [], _, _, h => absurd ((h a).1 (List.mem_cons_self ..)) (by simp)
  | a :: l, b :: m, h1, h2, h => by
    have p1 := List.pairwise_cons.1 h1
    have p2 := List.pairwise_cons.1 h2
    have hab : a = b := by
      rcases List.mem_cons.1 ((h a).1 (List.mem_cons_self ..)) with e | e
      · exact e
      · rcases List.mem_cons.1 ((h b).2 (List.mem_cons_self ..)) with e' | e'
        · exact e'.symm
        · have := ltK_trans (p1.1 b e') (p2.1 a e)
          rw [ltK_irrefl] at this; cases this
    subst hab
    congr 1
    refine Rises.same p1.2 p2.2 fun x => ⟨fun hx => ?_, fun hx => ?_⟩
    · rcases List.mem_cons.1 ((h x).1 (List.mem_cons_of_mem _ hx)) with e | e
      · subst e; have := p1.1 x hx; rw [ltK_irrefl] at this; cases this
      · exact e
    · rcases List.mem_cons.1 ((h x).2 (List.mem_cons_of_mem _ hx)) with e | e
      · subst e; have := p2.1 x hx; rw [ltK_irrefl] at this; cases this
      · exact e
/-- a key laid into a list that rises -/
def insK (k : Ky) : List Ky → List Ky
  | [] => [k]
  | a :: l => if ltK k a then k :: a :: l else if eqKy k a then a :: l else a :: insK k l
theorem insK_mem (k : Ky) : ∀ (l : List Ky) (x : Ky), x ∈ insK k l ↔ x = k ∨ x ∈ l
  | [], x => by simp [insK]
  | a :: l, x => by
    unfold insK
    by_cases h : ltK k a = true
    · rw [if_pos h]; simp
    · rw [if_neg h]
      by_cases h2 : eqKy k a = true
      · rw [if_pos h2]
        have := (eqKy_iff k a).1 h2
        subst this
        simp
      · rw [if_neg h2, List.mem_cons, insK_mem k l x, List.mem_cons]
        constructor
        · rintro (h | h | h)
          · exact .inr (.inl h)
          · exact .inl h
          · exact .inr (.inr h)
        · rintro (h | h | h)
          · exact .inr (.inl h)
          · exact .inl h
          · exact .inr (.inr h)
theorem insK_rises (k : Ky) : ∀ (l : List Ky), Rises l → Rises (insK k l)
  | [], _ => List.pairwise_singleton _ _
  | a :: l, h => by
    have p := List.pairwise_cons.1 h
    unfold insK
    by_cases h1 : ltK k a = true
    · rw [if_pos h1]
      refine List.pairwise_cons.2 ⟨fun x hx => ?_, h⟩
      rcases List.mem_cons.1 hx with rfl | hx
      · exact h1
      · exact ltK_trans h1 (p.1 x hx)
    · rw [if_neg h1]
      by_cases h2 : eqKy k a = true
      · rw [if_pos h2]; exact h
      · rw [if_neg h2]
        refine List.pairwise_cons.2 ⟨fun x hx => ?_, insK_rises k l p.2⟩
        rcases (insK_mem k l x).1 hx with rfl | hx
        · rcases ltK_total a x with q | q | q
          · exact q
          · subst q; exact absurd (eqKy_self a) h2
          · exact absurd q h1
        · exact p.1 x hx
/-- keys, rising, each once -/
def srtK : List Ky → List Ky
  | [] => []
  | a :: l => insK a (srtK l)
theorem srtK_mem : ∀ (l : List Ky) (x : Ky), x ∈ srtK l ↔ x ∈ l
  | [], x => by simp [srtK]
  | a :: l, x => by rw [srtK, insK_mem, srtK_mem l x, List.mem_cons]
theorem srtK_rises : ∀ (l : List Ky), Rises (srtK l)
  | [] => List.Pairwise.nil
  | a :: l => insK_rises a _ (srtK_rises l)
theorem srtK_of {l m : List Ky} (h : Rises m) (hm : ∀ x, x ∈ m ↔ x ∈ l) : m = srtK l := h.same (srtK_rises l) fun x => (hm x).trans (srtK_mem l x).symm
theorem insK_len (k : Ky) : ∀ (l : List Ky), (insK k l).length ≤ l.length + 1
  | [] => Nat.le_refl _
  | a :: l => by
    unfold insK
    split
    · exact Nat.le_refl _
    · split
      · exact Nat.le_succ _
      · have := insK_len k l
        simp only [List.length_cons]; omega
theorem srtK_len : ∀ (l : List Ky), (srtK l).length ≤ l.length
  | [] => Nat.le_refl _
  | a :: l => by
    have h1 := insK_len a (srtK l)
    have h2 := srtK_len l
    rw [srtK, List.length_cons]; omega
theorem srtK_nil {l : List Ky} (h : srtK l = []) : l = [] := by
  cases l with
  | nil => rfl
  | cons a l =>
    have := (srtK_mem (a :: l) a).2 (List.mem_cons_self ..)
    rw [h] at this; cases this
theorem srtK_one (k : Ky) : srtK [k] = [k] := rfl

/-- what a break says -/
structure Bs where
  n : Int
  ver : Int
  all : Bool
  ks : List Ky
/-- what a table says -/
structure Vs where
  e : Int
  n : Int
  ks : List Ky
  q : List Bs
  mp : Nat
  mq : Nat
def MX : Int := 1099511627776
def Vs.holds (s : Vs) (k : Ky) : Bool := inK s.ks k
/-- the empty name -/
def bare (k : Ky) : Ky := ⟨k.d, ⟨#[]⟩⟩
def Vs.tell (s : Vs) (ks : List Ky) (ver : Int) : Vs × List Bs :=
  if s.n < MX then
    if s.q.length = s.mq then ({ s with n := s.n + 1, ks := [], q := [⟨s.n + 1, ver, true, []⟩] }, [⟨s.n + 1, ver, true, []⟩])
    else ({ s with n := s.n + 1, q := s.q ++ [⟨s.n + 1, ver, false, ks⟩] }, [⟨s.n + 1, ver, false, ks⟩])
  else ({ s with ks := [] }, [])
def Vs.grant (s : Vs) (k : Ky) (ver : Int) : Vs × List Bs :=
  if (dropK s.ks k ++ [k]).length ≤ s.mp then ({ s with ks := dropK s.ks k ++ [k] }, [])
  else match dropK s.ks k ++ [k] with
    | [] => (s, [])
    | o :: l => Vs.tell { s with ks := dropK (o :: l) o } [o] ver
def Vs.told (s : Vs) (keys : List Ky) : List Ky := keys.filter fun k => s.holds k || s.holds (bare k)
def Vs.touch (s : Vs) (keys : List Ky) (ver : Int) : Vs × List Bs :=
  if (srtK (s.told keys)).length = 0 then (s, []) else Vs.tell { s with ks := minusK s.ks (srtK (s.told keys)) } (srtK (s.told keys)) ver
def Vs.ack (s : Vs) (n : Int) : Vs := { s with q := s.q.filter fun b => decide (n < b.n) }
def Vs.new (e : Int) (mp mq : Nat) : Vs := ⟨e, 0, [], [], mp, mq⟩
end Go.Proofs.Ytaofhjckliobpaa
