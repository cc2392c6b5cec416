/- A bag in memory, the program's and the document's; the contracts of New, Len, has, full. -/
import Derived.Test.YtminjmlneikllaaBgR
namespace Go.Proofs.Ytminjmlneikllaa
open Go.RowKit

/-- a letter: its number, where its bytes lie, its bytes -/
structure Lt where
  n : Int
  v : Value
  l : List Int
def lc (ls : List Lt) : List Value := ls.flatMap fun p => [.int .i64 p.n, p.v]
theorem lc_len (ls : List Lt) : (lc ls).length = ls.length * 2 := by
  unfold lc
  induction ls with
  | nil => rfl
  | cons a ls ih => rw [List.flatMap_cons, List.length_append, ih, List.length_cons]; simp; omega
theorem lc_app (a b : List Lt) : lc (a ++ b) = lc a ++ lc b := by unfold lc; rw [List.flatMap_append]
theorem lc_get (ls : List Lt) (i : Nat) (p : Lt) (h : ls[i]? = some p) : (lc ls)[i * 2]? = some (.int .i64 p.n) ∧ (lc ls)[i * 2 + 1]? = some p.v := by
  induction ls generalizing i with
  | nil => simp at h
  | cons a ls ih =>
    cases i with
    | zero =>
      simp at h
      subst h
      exact ⟨rfl, rfl⟩
    | succ i =>
      have := ih i (by simpa using h)
      have e : (lc (a :: ls)) = [.int .i64 a.n, a.v] ++ lc ls := rfl
      rw [e, List.getElem?_append_right (by simp; omega), List.getElem?_append_right (by simp; omega)]
      simp only [List.length_cons, List.length_nil]
      rw [show (i + 1) * 2 - (0 + 1 + 1) = i * 2 by omega, show (i + 1) * 2 + 1 - (0 + 1 + 1) = i * 2 + 1 by omega]
      exact this
theorem lc_take (ls : List Lt) (i : Nat) : (lc ls).take (i * 2) = lc (ls.take i) := by
  induction ls generalizing i with
  | nil => simp [lc]
  | cons a ls ih =>
    cases i with
    | zero => simp [lc]
    | succ i =>
      have e : (lc (a :: ls)) = .int .i64 a.n :: a.v :: lc ls := rfl
      have e2 : lc ((a :: ls).take (i + 1)) = .int .i64 a.n :: a.v :: lc (ls.take i) := rfl
      rw [e, e2, show (i + 1) * 2 = i * 2 + 1 + 1 by omega, List.take_succ_cons, List.take_succ_cons, ih]
theorem lc_drop (ls : List Lt) (i : Nat) : (lc ls).drop (i * 2) = lc (ls.drop i) := by
  induction ls generalizing i with
  | nil => simp [lc]
  | cons a ls ih =>
    cases i with
    | zero => simp
    | succ i =>
      have e : (lc (a :: ls)) = .int .i64 a.n :: a.v :: lc ls := rfl
      rw [e, show (i + 1) * 2 = i * 2 + 1 + 1 by omega, List.drop_succ_cons, List.drop_succ_cons, ih]; rfl

/-- a bag: its limit, where its list lies, its letters -/
structure Bg where
  n : Nat
  v : Value
  ls : List Lt
structure IsB (T : TypeId) (w : World) (B b : Nat) (s : Bg) : Prop where
  head : w.heap[b]? = some (.cells #[.int .i64 s.n, s.v] T (0, 0))
  row : w.ownsRow 0 37 2 s.v s.ls.length (lc s.ls)
  each : ∀ p ∈ s.ls, OwnB w B p.v p.l ∧ p.l.length ≤ LB
  few : s.ls.length ≤ s.n
  lim : s.n ≤ 64
/-- what a bag says -/
def Bg.say (s : Bg) : List (Int × List Int) := s.ls.map fun p => (p.n, p.l)
theorem say_len (s : Bg) : s.say.length = s.ls.length := List.length_map ..
theorem IsB.tb {T : TypeId} {w : World} {B b : Nat} {s : Bg} (h : IsB T w B b s) : Tag w b T := ⟨_, _, h.head⟩
theorem IsB.tv {T : TypeId} {w : World} {B b : Nat} {s : Bg} (h : IsB T w B b s) {k : Nat} (hk : s.v.ownBlock = some k) : Tag w k 37 := Tag.own h.row hk
theorem IsB.moved {T : TypeId} {w w' : World} {B b : Nat} {s : Bg} (h : IsB T w B b s) (hb : w'.heap[b]? = w.heap[b]?) (hv : ∀ k, s.v.ownBlock = some k → w'.heap[k]? = w.heap[k]?) (hu : ∀ p ∈ s.ls, ∀ k, p.v.ownBlock = some k → w'.heap[k]? = w.heap[k]?) : IsB T w' B b s :=
  ⟨hb.trans h.head, owns_moved h.row hv, fun p hp => ⟨(h.each p hp).1.moved (hu p hp), (h.each p hp).2⟩, h.few, h.lim⟩
theorem IsB.below {T : TypeId} {w w' : World} {B b : Nat} {s : Bg} (h : IsB T w B b s) (hb : Below w.heap.size w w') : IsB T w' B b s :=
  h.moved (hb.block _ h.tb.lt) (fun _ hk => hb.block _ (h.tv hk).lt) (fun p hp k hk => hb.block _ ((h.each p hp).1.at k hk).2)
theorem IsB.only {T : TypeId} {S : Nat → Prop} {w w' : World} {B b : Nat} {s : Bg} (h : IsB T w B b s) (hO : Only S w w') (hb : ¬ S b) (hv : ∀ k, s.v.ownBlock = some k → ¬ S k) (hu : ∀ k, Tag w k 5 → B ≤ k → ¬ S k) : IsB T w' B b s :=
  h.moved (hO.block _ h.tb.lt hb) (fun k hk => hO.block _ (h.tv hk).lt (hv k hk)) (fun p hp k hk => hO.block _ ((h.each p hp).1.at k hk).2 (hu k ((h.each p hp).1.tag hk) ((h.each p hp).1.at k hk).1))
theorem IsB.cells {T : TypeId} {w : World} {B b : Nat} {s : Bg} (h : IsB T w B b s) : w.cell? ⟨b, 0, none⟩ = some (.int .i64 s.n) ∧ w.cell? ⟨b, 1, none⟩ = some s.v ∧ ∀ i, w.frozen? ⟨b, i, none⟩ = false :=
  ⟨by rw [cell_of h.head]; rfl, by rw [cell_of h.head]; rfl, free_of h.head⟩
theorem IsB.form {T : TypeId} {w : World} {B b : Nat} {s : Bg} (h : IsB T w B b s) : ∃ a cap, s.v = .slice a s.ls.length cap := owns_len h.row
theorem IsB.up {T : TypeId} {w : World} {B B' b : Nat} {s : Bg} (h : IsB T w B b s) (hs : ∀ p ∈ s.ls, ∀ k, p.v.ownBlock = some k → B' ≤ k) : IsB T w B' b s :=
  ⟨h.head, h.row, fun p hp => ⟨owns_up (h.each p hp).1 (hs p hp), (h.each p hp).2⟩, h.few, h.lim⟩
/-- the list turned -/
theorem IsB.put {T : TypeId} {w : World} {B b : Nat} {s : Bg} (h : IsB T w B b s) (hT : T ≠ 37 ∧ T ≠ 5) (s' : Bg) (hn : s'.n = s.n) (hrow : w.ownsRow 0 37 2 s'.v s'.ls.length (lc s'.ls)) (heach : ∀ p ∈ s'.ls, OwnB w B p.v p.l ∧ p.l.length ≤ LB) (hfew : s'.ls.length ≤ s.n) :
    IsB T (w.setCell ⟨b, 1, none⟩ s'.v) B b s' := by
  refine ⟨(heap_set h.head 1 _).trans (by rw [hn]; rfl), owns_moved hrow fun k hk => heap_set_ne ((Tag.own hrow hk).ne h.tb hT.1.symm), fun p hp => ⟨(heach p hp).1.moved fun k hk => heap_set_ne (((heach p hp).1.tag hk).ne h.tb hT.2.symm), (heach p hp).2⟩, by rw [hn]; exact hfew, by rw [hn]; exact h.lim⟩

/-- one call on a bag: what it says behind it -/
structure Step (T : TypeId) (w w' : World) (B b : Nat) (s s' : Bg) (L : List (Int × List Int)) : Prop where
  is : IsB T w' B b s'
  n : s'.n = s.n
  say : s'.say = L
  only : Only (fun x => x = b ∨ s.v.ownBlock = some x) w w'
  v : s'.v.ownBlock = s.v.ownBlock ∨ ∀ q, s'.v.ownBlock = some q → w.heap.size ≤ q
  kept : s'.ls.length ≤ s.ls.length → ∀ p ∈ s'.ls, p ∈ s.ls
theorem Step.stay {T : TypeId} {w w' : World} {B b : Nat} {s : Bg} (h : IsB T w B b s) (hb : Below w.heap.size w w') : Step T w w' B b s s s.say := ⟨h.below hb, rfl, rfl, Only.of hb, .inl rfl, fun _ _ hp => hp⟩
theorem Step.le {T : TypeId} {w0 w w' : World} {B b : Nat} {s s' : Bg} {L : List (Int × List Int)} (h : Step T w w' B b s s' L) (hb : Below w0.heap.size w0 w) : Step T w0 w' B b s s' L :=
  ⟨h.is, h.n, h.say, (Only.of hb).trans h.only, h.v.imp id fun k q hq => Nat.le_trans hb.size (k q hq), h.kept⟩
theorem Step.on {T : TypeId} {w w' w2 : World} {B b : Nat} {s s' : Bg} {L : List (Int × List Int)} (h : Step T w w' B b s s' L) (hb : Below w'.heap.size w' w2) : Step T w w2 B b s s' L :=
  ⟨h.is.below hb, h.n, h.say, h.only.trans (Only.of hb), h.v, h.kept⟩

abbrev TB : TypeId := 62
abbrev TR : TypeId := 50

theorem new_no (n : Int) (w : World) (h : n < 1 ∨ 64 < n) :
    Calls Try.prog 8 #[.int .i64 n] w fun e w' => e = .returned (.tuple #[.pointer none, .int .i64 1]) ∧ w' = w := by
  rcases h with h | h
  · have hd : decide (n < 1) = true := decide_eq_true h
    go_enter Try.func8, Try.ntmps8
    go_wp2
    go_ret2
    exact ⟨rfl, rfl⟩
  · have hd : decide (n < 1) = false := decide_eq_false (by omega)
    have hd2 : decide (64 < n) = true := decide_eq_true h
    go_enter Try.func8, Try.ntmps8
    go_wp2
    go_ret2
    exact ⟨rfl, rfl⟩
def Bg.new (n : Nat) : Bg := ⟨n, .slice none 0 0, []⟩
theorem isB_new {T : TypeId} {w : World} {b n : Nat} (B : Nat) (h : w.heap[b]? = some (.cells #[.int .i64 n, .slice none 0 0] T (0, 0))) (h2 : n ≤ 64) : IsB T w B b (Bg.new n) :=
  ⟨h, World.ownsRow_nil _ _ _ _, fun p hp => (by cases hp), Nat.zero_le _, h2⟩
theorem new_yes (n : Nat) (w : World) (h1 : 1 ≤ n) (h2 : n ≤ 64) :
    Calls Try.prog 8 #[.int .i64 n] w fun e w' => ∃ b, e = .returned (.tuple #[.pointer (some ⟨b, 0, none⟩), .int .i64 0]) ∧ w.heap.size ≤ b ∧ (∀ B, IsB TB w' B b (Bg.new n)) ∧ Below w.heap.size w w' := by
  have hd : decide ((n : Int) < 1) = false := decide_eq_false (by omega)
  have hd2 : decide (64 < (n : Int)) = false := decide_eq_false (by omega)
  go_enter Try.func8, Try.ntmps8
  go_wp2
  go_ret2
  exact ⟨w.heap.size, rfl, Nat.le_refl _, fun B => isB_new B (heap_new _ _) h2, (Below.refl _ _).alloc (Nat.le_refl _) _⟩
theorem rnew_no (n : Int) (w : World) (h : n < 1 ∨ 64 < n) :
    Calls Try.prog 9 #[.int .i64 n] w fun e w' => e = .returned (.tuple #[.pointer none, .int .i64 1]) ∧ w' = w := by
  rcases h with h | h
  · have hd : decide (n < 1) = true := decide_eq_true h
    go_enter Try.func9, Try.ntmps9
    go_wp2
    go_ret2
    exact ⟨rfl, rfl⟩
  · have hd : decide (n < 1) = false := decide_eq_false (by omega)
    have hd2 : decide (64 < n) = true := decide_eq_true h
    go_enter Try.func9, Try.ntmps9
    go_wp2
    go_ret2
    exact ⟨rfl, rfl⟩
theorem rnew_yes (n : Nat) (w : World) (h1 : 1 ≤ n) (h2 : n ≤ 64) :
    Calls Try.prog 9 #[.int .i64 n] w fun e w' => ∃ b, e = .returned (.tuple #[.pointer (some ⟨b, 0, none⟩), .int .i64 0]) ∧ w.heap.size ≤ b ∧ (∀ B, IsB TR w' B b (Bg.new n)) ∧ Below w.heap.size w w' := by
  have hd : decide ((n : Int) < 1) = false := decide_eq_false (by omega)
  have hd2 : decide (64 < (n : Int)) = false := decide_eq_false (by omega)
  go_enter Try.func9, Try.ntmps9
  go_wp2
  go_ret2
  exact ⟨w.heap.size, rfl, Nat.le_refl _, fun B => isB_new B (heap_new _ _) h2, (Below.refl _ _).alloc (Nat.le_refl _) _⟩

theorem len_any (B b : Nat) (s : Bg) (w : World) (h : IsB TB w B b s) :
    Calls Try.prog 22 #[.pointer (some ⟨b, 0, none⟩)] w fun e w' => e = .returned (.int .i64 s.ls.length) ∧ w' = w := by
  obtain ⟨_, c1, _⟩ := h.cells
  obtain ⟨a, cap, e⟩ := h.form
  rw [e] at c1
  clear h e
  go_enter Try.func22, Try.ntmps22
  go_wp2
  go_ret
  exact ⟨rfl, rfl⟩
def Bg.has (s : Bg) (i : Int) : Bool := decide (0 ≤ i) && decide (i < s.ls.length)
theorem has_any (B b : Nat) (s : Bg) (i : Int) (w : World) (h : IsB TB w B b s) :
    Calls Try.prog 31 #[.pointer (some ⟨b, 0, none⟩), .int .i64 i] w fun e w' => e = .returned (.bool (s.has i)) ∧ w' = w := by
  obtain ⟨_, c1, _⟩ := h.cells
  obtain ⟨a, cap, e⟩ := h.form
  rw [e] at c1
  unfold Bg.has
  clear h e
  by_cases h0 : 0 ≤ i
  · have hd : decide (0 ≤ i) = true := decide_eq_true h0
    go_enter Try.func31, Try.ntmps31
    go_wp2
    go_ret
    exact ⟨by simp [h0], rfl⟩
  · have hd : decide (0 ≤ i) = false := decide_eq_false h0
    go_enter Try.func31, Try.ntmps31
    go_wp2
    go_ret
    exact ⟨by simp, rfl⟩
theorem full_any (B b : Nat) (s : Bg) (w : World) (h : IsB TB w B b s) :
    Calls Try.prog 28 #[.pointer (some ⟨b, 0, none⟩)] w fun e w' => e = .returned (.bool (decide (s.n ≤ s.ls.length))) ∧ Below w.heap.size w w' := by
  obtain ⟨c0, c1, _⟩ := h.cells
  obtain ⟨a, cap, e⟩ := h.form
  rw [e] at c1
  clear h e
  go_enter Try.func28, Try.ntmps28
  go_wp2
  go_quiet (fail)
  go_wp2
  go_ret
  exact ⟨rfl, below_drewN (Below.refl _ _) _⟩
end Go.Proofs.Ytminjmlneikllaa
