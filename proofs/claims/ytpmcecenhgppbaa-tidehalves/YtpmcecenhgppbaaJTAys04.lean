/- Messages, acts and tides, plainly: what the chapter says of a tide. -/
import Derived.Test.YtpmcecenhgppbaaJTAys01
import Derived.Test.YtpmcecenhgppbaaJTAys03
import Derived.Laws.ResultCell
namespace Go.Proofs.Ytpmcecenhgppbaa
section
open Go.RowKit

def Ky.agg (k : Ky) : Value := .agg #[.int .i64 k.d, .string k.nm]
/-- are two keys the same (shut, so that a walk leaves it standing) -/
def eqKy (a b : Ky) : Bool := decide (a.d = b.d ∧ a.nm = b.nm)
theorem eqKy_iff (a b : Ky) : eqKy a b = true ↔ a = b := by
  obtain ⟨a1, a2⟩ := a
  obtain ⟨b1, b2⟩ := b
  simp [eqKy]
theorem eqKy_self (a : Ky) : eqKy a a = true := (eqKy_iff a a).2 rfl
theorem eqKy_no {a b : Ky} (h : a ≠ b) : eqKy a b = false := by
  cases k : eqKy a b with
  | false => rfl
  | true => exact absurd ((eqKy_iff a b).1 k) h
theorem eqKy_comm (a b : Ky) : eqKy a b = eqKy b a := by
  by_cases h : a = b
  · subst h; rfl
  · rw [eqKy_no h, eqKy_no (Ne.symm h)]
def inK (l : List Ky) (k : Ky) : Bool := l.any fun x => eqKy x k
theorem inK_iff (l : List Ky) (k : Ky) : inK l k = true ↔ k ∈ l := by
  unfold inK
  rw [List.any_eq_true]
  constructor
  · rintro ⟨x, hx, e⟩
    rw [← (eqKy_iff x k).1 e]; exact hx
  · exact fun h => ⟨k, h, eqKy_self k⟩
def bare (k : Ky) : Ky := ⟨k.d, ⟨#[]⟩⟩

/-- a message, plainly (its mark by its bits) -/
structure Pm where
  kind : Int
  client : Int
  life : Int
  seq : Int
  re : Nat
  im : Nat
  vers : Int
  err : Int
  op : Opn
  es : List En
  ks : List Ky
def Pm.arr (m : Pm) (ve vk : Value) : Array Value := #[.int .i64 m.kind, .int .i64 m.client, .int .i64 m.life, .int .i64 m.seq, .complex .f64 m.re m.im, .int .i64 m.vers, .int .i64 m.err, .int .i64 m.op.kind, .int .i64 m.op.dir, .string m.op.nm, .int .i64 m.op.dst, .string m.op.new, .int .i64 m.op.mode, .string m.op.tg, ve, vk]
def Pm.num (m : Pm) : Int := part m.im
def Pm.ep (m : Pm) : Int := part m.re
/-- an act -/
structure Ac where
  all : Bool
  again : Bool
  reply : Bool
  whole : Bool
  ks : List Ky
  err : Int
  es : List En
/-- a fresh break -/
structure Fb where
  n : Int
  all : Bool
  ks : List Ky
/-- a tide -/
structure Ts where
  client : Int
  life : Int
  e : Int
  n : Int
  ver : Int
  asked : Int
  fr : List Fb
  held : List Pm
  hold : Nat
def Ts.ahead (s : Ts) (m : Pm) : Int := if s.n ≤ m.num then m.num - s.n else 0
def Ts.counts (s : Ts) (m : Pm) : Bool := decide (2 ≤ m.kind ∧ m.kind ≤ 4) && (decide (m.client = s.client) && (decide (m.life = s.life) && (goodB m.re m.im && decide (s.e ≤ m.ep))))
def Ts.restart (s : Ts) (m : Pm) : Ts := { s with e := m.ep, n := 0, fr := [], held := [] }
def Ts.apply (s : Ts) (m : Pm) : Ts := { s with n := m.num, ver := max s.ver m.vers, fr := if 0 < s.asked then s.fr ++ [⟨m.num, decide (m.kind = 4), m.ks⟩] else s.fr }
def allA : Ac := ⟨true, false, false, false, [], 0, []⟩
def againA : Ac := ⟨false, true, false, false, [], 0, []⟩
def keysA (ks : List Ky) : Ac := ⟨false, false, false, false, ks, 0, []⟩
def actOf (m : Pm) : Ac := if m.kind = 4 then allA else keysA m.ks
def Fb.names (b : Fb) (k : Ky) : Bool := b.all || (inK b.ks k || inK b.ks (bare k))
def named (fr : List Fb) (n : Int) (k : Ky) : Bool := fr.any fun b => decide (n < b.n) && b.names k
def wholeF (fr : List Fb) (n : Int) : Bool := fr.all fun b => decide (b.n ≤ n)
def Ts.newer (s : Ts) (v : Int) : Ts := { s with ver := max s.ver v }
def Ts.used (s : Ts) (m : Pm) : Ts := if m.err = 70 then s.newer m.vers else { s.newer m.vers with asked := 0, fr := [] }
def left (fr : List Fb) (n : Int) (es : List En) : List En := es.filter fun e => !named fr n ⟨e.d, e.nm⟩
def Ts.usedA (s : Ts) (m : Pm) : Ac := if m.err = 70 then againA else ⟨false, false, true, wholeF s.fr m.num, [], m.err, left s.fr m.num m.es⟩
def likeM (o m : Pm) : Bool := decide (o.kind = m.kind ∧ o.ep = m.ep ∧ o.num = m.num)
def Ts.holds (s : Ts) (m : Pm) : Ts := if s.held.length < s.hold ∧ (s.held.any fun o => likeM o m) = false then { s with held := s.held ++ [m] } else s
def Ts.asks (s : Ts) (q : Int) : Bool := decide (0 < q ∧ q = s.asked)
def Ts.meet (s : Ts) (m : Pm) : Ts × List Ac :=
  if m.kind = 2 then
    if s.asks m.seq then if s.ahead m = 0 then (s.used m, [s.usedA m]) else (s.holds m, []) else (s, [])
  else if s.ahead m = 0 then (s, [])
  else if m.kind = 4 ∨ (m.kind = 3 ∧ s.ahead m = 1) then (s.apply m, [actOf m])
  else (s.holds m, [])
def Ts.due1 (s : Ts) (m : Pm) : Bool := decide (m.kind = 3) && decide (s.ahead m = 1)
def Ts.due2 (s : Ts) (m : Pm) : Bool := decide (m.kind = 2) && decide (s.ahead m = 0)
def Ts.due3 (s : Ts) (m : Pm) : Bool := decide (s.ahead m = 0)
def Ts.due (s : Ts) : Option Nat := (s.held.findIdx? s.due1).or ((s.held.findIdx? s.due2).or (s.held.findIdx? s.due3))
def Ts.without (s : Ts) (i : Nat) : Ts := { s with held := s.held.eraseIdx i }
/-- what is held is gone through, so many times at most -/
def Ts.settleF : Nat → Ts → Ts × List Ac
  | 0, s => (s, [])
  | n + 1, s => match s.due with
    | none => (s, [])
    | some i => match s.held[i]? with
      | none => (s, [])
      | some m => ((Ts.settleF n ((s.without i).meet m).1).1, ((s.without i).meet m).2 ++ (Ts.settleF n ((s.without i).meet m).1).2)
def Ts.settle (s : Ts) : Ts × List Ac := Ts.settleF s.held.length s
def Ts.begun (s : Ts) (m : Pm) : Ts := if s.e < m.ep then s.restart m else s
def Ts.begunA (s : Ts) (m : Pm) : List Ac := if s.e < m.ep then [allA] else []
def Ts.take (s : Ts) (m : Pm) : Ts × List Ac :=
  if s.counts m then (((s.begun m).meet m).1.settle.1, s.begunA m ++ (((s.begun m).meet m).2 ++ ((s.begun m).meet m).1.settle.2)) else (s, [])
def Ts.ask (s : Ts) (q : Int) : Ts := { s with asked := max q 0, fr := [], held := s.held.filter fun m => !(decide (m.kind = 2) && decide (m.seq ≠ max q 0)) }
def Ts.new (client life : Int) (hold : Nat) : Ts := ⟨client, life, 0, 0, 0, 0, [], [], hold⟩

theorem find_lt {α : Type} {l : List α} {p : α → Bool} {i : Nat} (h : l.findIdx? p = some i) : ∃ x, l[i]? = some x ∧ p x = true := by
  rw [List.findIdx?_eq_some_iff_getElem] at h
  obtain ⟨hi, hq, _⟩ := h
  exact ⟨l[i], List.getElem?_eq_getElem hi, hq⟩
/-- what is due: a message that is met, not held -/
theorem Ts.due_some {s : Ts} {i : Nat} (h : s.due = some i) : ∃ m, s.held[i]? = some m ∧ (s.due1 m = true ∨ s.due2 m = true ∨ s.due3 m = true) := by
  unfold Ts.due at h
  cases h1 : s.held.findIdx? s.due1 with
  | some j =>
    rw [h1, Option.some_or] at h
    cases h
    obtain ⟨m, e, p⟩ := find_lt h1
    exact ⟨m, e, .inl p⟩
  | none =>
    rw [h1, Option.none_or] at h
    cases h2 : s.held.findIdx? s.due2 with
    | some j =>
      rw [h2, Option.some_or] at h
      cases h
      obtain ⟨m, e, p⟩ := find_lt h2
      exact ⟨m, e, .inr (.inl p)⟩
    | none =>
      rw [h2, Option.none_or] at h
      obtain ⟨m, e, p⟩ := find_lt h
      exact ⟨m, e, .inr (.inr p)⟩
theorem used_held (s : Ts) (m : Pm) : (s.used m).held = s.held ∧ (s.used m).hold = s.hold := by
  unfold Ts.used Ts.newer
  by_cases h : m.err = 70
  · rw [if_pos h]; exact ⟨rfl, rfl⟩
  · rw [if_neg h]; exact ⟨rfl, rfl⟩
theorem Ts.ahead_without (s : Ts) (i : Nat) (m : Pm) : (s.without i).ahead m = s.ahead m := rfl
theorem meet_due {s : Ts} {i : Nat} {m : Pm} (hd : s.due1 m = true ∨ s.due2 m = true ∨ s.due3 m = true) : ((s.without i).meet m).1.held = s.held.eraseIdx i ∧ ((s.without i).meet m).1.hold = s.hold := by
  unfold Ts.meet
  rw [Ts.ahead_without]
  by_cases h2 : m.kind = 2
  · rw [if_pos h2]
    by_cases ha : (s.without i).asks m.seq = true
    · rw [if_pos ha]
      have h0 : s.ahead m = 0 := by
        rcases hd with h | h | h
        · unfold Ts.due1 at h; simp at h; omega
        · unfold Ts.due2 at h; simp at h; exact h.2
        · unfold Ts.due3 at h; simpa using h
      rw [if_pos h0]
      exact used_held (s.without i) m
    · rw [if_neg ha]; exact ⟨rfl, rfl⟩
  · rw [if_neg h2]
    by_cases h0 : s.ahead m = 0
    · rw [if_pos h0]; exact ⟨rfl, rfl⟩
    · rw [if_neg h0]
      have h3 : m.kind = 4 ∨ (m.kind = 3 ∧ s.ahead m = 1) := by
        rcases hd with h | h | h
        · unfold Ts.due1 at h; simp at h; exact .inr h
        · unfold Ts.due2 at h; simp at h; exact absurd h.1 h2
        · unfold Ts.due3 at h; exact absurd (by simpa using h) h0
      rw [if_pos h3]
      exact ⟨rfl, rfl⟩
theorem Ts.settle_none {s : Ts} (h : s.due = none) : s.settle = (s, []) := by
  unfold Ts.settle
  cases s.held.length with
  | zero => rfl
  | succ n => unfold Ts.settleF; rw [h]
theorem Ts.settle_some {s : Ts} {i : Nat} {m : Pm} (h : s.due = some i) (hm : s.held[i]? = some m) : s.settle = (((s.without i).meet m).1.settle.1, ((s.without i).meet m).2 ++ ((s.without i).meet m).1.settle.2) := by
  obtain ⟨m', e, hd⟩ := Ts.due_some h
  rw [hm] at e
  cases e
  have hi := (List.getElem?_eq_some_iff.1 hm).1
  have hl : ((s.without i).meet m).1.held.length = s.held.length - 1 := by rw [(meet_due hd).1, List.length_eraseIdx_of_lt hi]
  obtain ⟨n, hn⟩ : ∃ n, s.held.length = n + 1 := ⟨s.held.length - 1, by omega⟩
  unfold Ts.settle
  rw [hl, hn]
  show Ts.settleF (n + 1) s = _
  rw [Ts.settleF, h]
  simp only [hm]
  rfl
end
section
open Go.RowKit

theorem Try.infoE : (Try.prog.info? 57).map (fun i => (i.zero, i.size, i.bytes)) = some (some (.agg #[.int .i64 0, .string ⟨#[]⟩, .bool false, .int .i64 0, .int .i64 0, .int .i64 0, .string ⟨#[]⟩]), 7, 72) := by kernel_rfl
theorem Try.sizeE : (Try.prog.info? 57).map (·.size) = some 7 := by kernel_rfl
/-- an entry of a list in memory: its seven cells -/
structure Cells7 (w : World) (g o : Nat) (e : En) : Prop where
  c0 : w.cell? ⟨g, o, none⟩ = some (.int .i64 e.d)
  c1 : w.cell? ⟨g, o + 1, none⟩ = some (.string e.nm)
  c2 : w.cell? ⟨g, o + 2, none⟩ = some (.bool e.neg)
  c3 : w.cell? ⟨g, o + 3, none⟩ = some (.int .i64 e.id)
  c4 : w.cell? ⟨g, o + 4, none⟩ = some (.int .i64 e.kind)
  c5 : w.cell? ⟨g, o + 5, none⟩ = some (.int .i64 e.mode)
  c6 : w.cell? ⟨g, o + 6, none⟩ = some (.string e.tg)
theorem owns_entry {w : World} {base n cap i : Nat} {a : Option Addr} {es : List En} {e : En} (h : w.ownsRow base 57 7 (.slice a n cap) es.length (ec es)) (hi : es[i]? = some e) : ∃ g, a = some ⟨g, 0, none⟩ ∧ n = es.length ∧ base ≤ g ∧ g < w.heap.size ∧ Cells7 w g (i * 7) e ∧ (∀ j, w.frozen? ⟨g, j, none⟩ = false) := by
  have hlt : i < es.length := (List.getElem?_eq_some_iff.1 hi).1
  obtain ⟨N, hN⟩ : ∃ N, es.length = N + 1 := ⟨es.length - 1, by omega⟩
  rw [hN] at h
  obtain ⟨g, cap', e'⟩ := owns_form h
  cases e'
  obtain ⟨hc, hf, _, _, hb, hg⟩ := owns_cells h
  exact ⟨g, rfl, hN.symm, hb, hg, ⟨hc _ _ (ec_get es i 0 e hi (by omega)), hc _ _ (ec_get es i 1 e hi (by omega)), hc _ _ (ec_get es i 2 e hi (by omega)), hc _ _ (ec_get es i 3 e hi (by omega)), hc _ _ (ec_get es i 4 e hi (by omega)), hc _ _ (ec_get es i 5 e hi (by omega)), hc _ _ (ec_get es i 6 e hi (by omega))⟩, hf⟩

theorem Try.stoodK : Try.prog.stoodInHeld 53 = false := by kernel_rfl
theorem Try.guardK : Try.prog.eqGuardType Try.prog.depth 53 = false := by kernel_rfl
theorem Try.stoodE : Try.prog.stoodInHeld 57 = false := by kernel_rfl
theorem Try.guardE : Try.prog.eqGuardType Try.prog.depth 57 = false := by kernel_rfl
theorem Try.stoodN : Try.prog.stoodInHeld 55 = false := by kernel_rfl
theorem Try.guardN : Try.prog.eqGuardType Try.prog.depth 55 = false := by kernel_rfl
theorem Try.undK : Try.prog.underlying 53 = some (.struct (Try.prog.fieldsOf 53)) := by kernel_rfl
theorem Try.undE : Try.prog.underlying 57 = some (.struct (Try.prog.fieldsOf 57)) := by kernel_rfl
theorem Try.undN : Try.prog.underlying 55 = some (.struct (Try.prog.fieldsOf 55)) := by kernel_rfl
theorem eqInK (n : Nat) (w : World) (a b : Int) (x y : ByteArray) : (Op.equalIn (n + 1 + 1) 53 (.agg #[.int .i64 a, .string x]) (.agg #[.int .i64 b, .string y])).run Try.prog w = .ok (decide (a = b ∧ x = y)) w := by
  rw [run_equalIn_agg _ _ _ _ _ Try.undK Try.stoodK]
  simp [Program.fieldsOf, Try.underlying53, Op.eqFields, go_sem, bytes_eq]
  by_cases h1 : a = b <;> by_cases h2 : x = y <;> simp [h1, h2]
theorem eqInN (n : Nat) (w : World) (i k m i' k' m' : Int) (x y : ByteArray) : (Op.equalIn (n + 1 + 1) 55 (.agg #[.int .i64 i, .int .i64 k, .int .i64 m, .string x]) (.agg #[.int .i64 i', .int .i64 k', .int .i64 m', .string y])).run Try.prog w = .ok (decide (i = i' ∧ k = k' ∧ m = m' ∧ x = y)) w := by
  rw [run_equalIn_agg _ _ _ _ _ Try.undN Try.stoodN]
  simp [Program.fieldsOf, Try.underlying55, Op.eqFields, go_sem, bytes_eq]
  by_cases h1 : i = i' <;> by_cases h2 : k = k' <;> by_cases h3 : m = m' <;> by_cases h4 : x = y <;> simp [h1, h2, h3, h4]
theorem eqK (w : World) (a b : Int) (x y : ByteArray) : (binOp .eql 53 (.agg #[.int .i64 a, .string x]) (.agg #[.int .i64 b, .string y])).run Try.prog w = .ok (.bool (decide (a = b ∧ x = y))) w := by
  rw [run_eql_struct, eqInK 9998]; rfl
theorem neqK (w : World) (a b : Int) (x y : ByteArray) : (binOp .neq 53 (.agg #[.int .i64 a, .string x]) (.agg #[.int .i64 b, .string y])).run Try.prog w = .ok (.bool (!decide (a = b ∧ x = y))) w := by
  rw [run_neq_struct, eqInK 9998]; rfl
theorem guardK (w : World) (op : BinOp) (p q : Operand) (xs ys : Array Value) : (eqGuard op 53 p q (.agg xs) (.agg ys)).run Try.prog w = .ok () w := run_eqGuard_agg w op _ p q xs ys Try.guardK
theorem guardE (w : World) (op : BinOp) (p q : Operand) (xs ys : Array Value) : (eqGuard op 57 p q (.agg xs) (.agg ys)).run Try.prog w = .ok () w := run_eqGuard_agg w op _ p q xs ys Try.guardE
theorem guardN (w : World) (op : BinOp) (p q : Operand) (xs ys : Array Value) : (eqGuard op 55 p q (.agg xs) (.agg ys)).run Try.prog w = .ok () w := run_eqGuard_agg w op _ p q xs ys Try.guardN
/-- are two entries the same (shut, so that the walk leaves it standing) -/
def eqEn (e f : En) : Bool := decide (e.d = f.d) && (decide (e.nm = f.nm) && (decide (e.neg = f.neg) && (decide (e.id = f.id) && (decide (e.kind = f.kind) && (decide (e.mode = f.mode) && decide (e.tg = f.tg))))))
theorem eqEn_iff (e f : En) : eqEn e f = true ↔ e = f := by
  obtain ⟨a, b, c, d, g, h, i⟩ := e
  obtain ⟨a', b', c', d', g', h', i'⟩ := f
  unfold eqEn
  simp
theorem eqEn_no {e f : En} (h : e ≠ f) : eqEn e f = false := by
  cases k : eqEn e f with
  | false => rfl
  | true => exact absurd ((eqEn_iff e f).1 k) h
theorem eqInE (w : World) (e f : En) : (Op.equalIn 10000 57 e.agg f.agg).run Try.prog w = .ok (eqEn e f) w := by
  unfold En.agg
  rw [run_equalIn_agg _ 9999 _ _ _ Try.undE Try.stoodE]
  simp [Program.fieldsOf, Try.underlying57, Op.eqFields, Go.part, go_sem]
  simp only [bytes_eq]
  unfold eqEn
  obtain ⟨a, b, c, d, g, h, i⟩ := e
  obtain ⟨a', b', c', d', g', h', i'⟩ := f
  by_cases h1 : a = a' <;> by_cases h2 : b = b' <;> by_cases h3 : c = c' <;> by_cases h4 : d = d' <;> by_cases h5 : g = g' <;> by_cases h6 : h = h' <;> by_cases h7 : i = i' <;> simp [h1, h2, h3, h4, h5, h6, h7]
theorem eqE (w : World) (a b c a' b' c' d d' : Int) (x y x' y' : ByteArray) (n n' : Bool) : (binOp .eql 57 (.agg #[.int .i64 d, .string x, .bool n, .int .i64 a, .int .i64 b, .int .i64 c, .string y]) (.agg #[.int .i64 d', .string x', .bool n', .int .i64 a', .int .i64 b', .int .i64 c', .string y'])).run Try.prog w = .ok (.bool (eqEn ⟨d, x, n, a, b, c, y⟩ ⟨d', x', n', a', b', c', y'⟩)) w := by
  rw [run_eql_struct]
  have := eqInE w ⟨d, x, n, a, b, c, y⟩ ⟨d', x', n', a', b', c', y'⟩
  unfold En.agg at this
  rw [this]; rfl
theorem neqE (w : World) (a b c a' b' c' d d' : Int) (x y x' y' : ByteArray) (n n' : Bool) : (binOp .neq 57 (.agg #[.int .i64 d, .string x, .bool n, .int .i64 a, .int .i64 b, .int .i64 c, .string y]) (.agg #[.int .i64 d', .string x', .bool n', .int .i64 a', .int .i64 b', .int .i64 c', .string y'])).run Try.prog w = .ok (.bool (!eqEn ⟨d, x, n, a, b, c, y⟩ ⟨d', x', n', a', b', c', y'⟩)) w := by
  rw [run_neq_struct]
  have := eqInE w ⟨d, x, n, a, b, c, y⟩ ⟨d', x', n', a', b', c', y'⟩
  unfold En.agg at this
  rw [this]; rfl
theorem eqN (w : World) (i k m i' k' m' : Int) (x y : ByteArray) : (binOp .eql 55 (.agg #[.int .i64 i, .int .i64 k, .int .i64 m, .string x]) (.agg #[.int .i64 i', .int .i64 k', .int .i64 m', .string y])).run Try.prog w = .ok (.bool (decide (i = i' ∧ k = k' ∧ m = m' ∧ x = y))) w := by
  rw [run_eql_struct, eqInN 9998]; rfl
theorem neqN (w : World) (i k m i' k' m' : Int) (x y : ByteArray) : (binOp .neq 55 (.agg #[.int .i64 i, .int .i64 k, .int .i64 m, .string x]) (.agg #[.int .i64 i', .int .i64 k', .int .i64 m', .string y])).run Try.prog w = .ok (.bool (!decide (i = i' ∧ k = k' ∧ m = m' ∧ x = y))) w := by
  rw [run_neq_struct, eqInN 9998]; rfl
/-- an entry laid over seven cells -/
def put7 (w : World) (g : Nat) (e : En) : World :=
  ((((((w.setCell ⟨g, 0, none⟩ (.int .i64 e.d)).setCell ⟨g, 1, none⟩ (.string e.nm)).setCell ⟨g, 2, none⟩ (.bool e.neg)).setCell ⟨g, 3, none⟩ (.int .i64 e.id)).setCell ⟨g, 4, none⟩ (.int .i64 e.kind)).setCell ⟨g, 5, none⟩ (.int .i64 e.mode)).setCell ⟨g, 6, none⟩ (.string e.tg)
theorem put7_heap {w : World} {g : Nat} {t : TypeId} {f : En} (e : En) (h : w.heap[g]? = some (.cells f.vals.toArray t (0, 0))) : (put7 w g e).heap[g]? = some (.cells e.vals.toArray t (0, 0)) := by
  have k := heap_set (heap_set (heap_set (heap_set (heap_set (heap_set (heap_set h 0 (.int .i64 e.d)) 1 (.string e.nm)) 2 (.bool e.neg)) 3 (.int .i64 e.id)) 4 (.int .i64 e.kind)) 5 (.int .i64 e.mode)) 6 (.string e.tg)
  simp only [En.vals, List.setIfInBounds_toArray, List.set_cons_zero, List.set_cons_succ] at k
  exact k
theorem put7_only (w : World) (g : Nat) (e : En) : Only (· = g) w (put7 w g e) :=
  ((((((only1 _ g _ _).trans (only1 _ g _ _)).trans (only1 _ g _ _)).trans (only1 _ g _ _)).trans (only1 _ g _ _)).trans (only1 _ g _ _)).trans (only1 _ g _ _)
theorem cells7_of {w : World} {g : Nat} {t : TypeId} {e : En} (h : w.heap[g]? = some (.cells e.vals.toArray t (0, 0))) : Cells7 w g 0 e :=
  ⟨by rw [cell_of h]; rfl, by rw [cell_of h]; rfl, by rw [cell_of h]; rfl, by rw [cell_of h]; rfl, by rw [cell_of h]; rfl, by rw [cell_of h]; rfl, by rw [cell_of h]; rfl⟩
theorem ret_entry {fn : Func} {p : Tmp} (h : fn.results = #[.cell p 57]) (tmps : Array Value) (w : World) (g : Nat) {t : TypeId} {e : En} {fr : Nat × Nat} (hp : tmps.getD p undef = .pointer (some ⟨g, 0, none⟩)) (hg : w.heap[g]? = some (.cells e.vals.toArray t fr)) :
    (results fn tmps).run Try.prog w = .ok e.agg w :=
  results_cell_row h tmps w g t _ fr _ hp hg Try.underlying57 rfl Try.sizeE
theorem ret_entry2 {fn : Func} {p u : Tmp} (h : fn.results = #[.cell p 57, .tmp u]) (tmps : Array Value) (w : World) (g : Nat) {t : TypeId} {e : En} {fr : Nat × Nat} (hp : tmps.getD p undef = .pointer (some ⟨g, 0, none⟩)) (hg : w.heap[g]? = some (.cells e.vals.toArray t fr)) :
    (results fn tmps).run Try.prog w = .ok (.tuple #[e.agg, tmps.getD u undef]) w := by
  rw [results_cell_tmp h, hp]
  simp [asAddr, run_loadVar_row w g t 57 _ fr _ hg Try.underlying57 rfl Try.sizeE, Result.andThen]
  rfl

theorem Cells7.below {w w' : World} {g o : Nat} {e : En} (h : Cells7 w g o e) (hb : Below w.heap.size w w') : Cells7 w' g o e :=
  ⟨(hb.cell (cellLt h.c0)).trans h.c0, (hb.cell (cellLt h.c1)).trans h.c1, (hb.cell (cellLt h.c2)).trans h.c2, (hb.cell (cellLt h.c3)).trans h.c3, (hb.cell (cellLt h.c4)).trans h.c4, (hb.cell (cellLt h.c5)).trans h.c5, (hb.cell (cellLt h.c6)).trans h.c6⟩

theorem boxes2 {w W : World} {c1 c2 : Array Value} {t1 t2 : TypeId} (h : (w.alloc (.cells c1 t1)).alloc (.cells c2 t2) = W) :
    W.heap[w.heap.size]? = some (.cells c1 t1 (0, 0)) ∧ W.heap[w.heap.size + 1]? = some (.cells c2 t2 (0, 0)) ∧ Below w.heap.size w W ∧ W.heap.size = w.heap.size + 1 + 1 := by
  subst h
  have h0 : (w.alloc (.cells c1 t1)).heap.size = w.heap.size + 1 := by simp
  refine ⟨?_, ?_, ((Below.refl _ w).alloc (Nat.le_refl _) _).alloc (by simp) _, by simp⟩
  · rw [Below.heap_alloc _ _ _ (by rw [h0]; omega)]
    exact heap_new _ _
  · rw [← h0]; exact heap_new _ _
theorem vals_at (w : World) (e : En) (t : TypeId) : ∀ j u, e.vals[j]? = some u → (w.alloc (.cells e.vals.toArray t)).cell? ((⟨w.heap.size, 0, none⟩ : Addr).add j) = some u := by
  intro j u hu
  rw [add_plain', Nat.zero_add, cell_of (heap_new _ _), List.getElem?_toArray]; exact hu
theorem hold3 {w W W' : World} {r : Nat} {a b c : Value} (hr : r < w.heap.size) (h : W.cell? ⟨r, 0, none⟩ = some a ∧ W.cell? ⟨r, 1, none⟩ = some b ∧ W.cell? ⟨r, 2, none⟩ = some c ∧ Below w.heap.size w W) (hb : Below W.heap.size W W') :
    W'.cell? ⟨r, 0, none⟩ = some a ∧ W'.cell? ⟨r, 1, none⟩ = some b ∧ W'.cell? ⟨r, 2, none⟩ = some c ∧ Below w.heap.size w W' := by
  have := h.2.2.2.size
  exact ⟨(hb.cell (p := ⟨r, 0, none⟩) (Nat.lt_of_lt_of_le hr this)).trans h.1, (hb.cell (p := ⟨r, 1, none⟩) (Nat.lt_of_lt_of_le hr this)).trans h.2.1, (hb.cell (p := ⟨r, 2, none⟩) (Nat.lt_of_lt_of_le hr this)).trans h.2.2.1, chainB h.2.2.2 hb⟩
theorem hkeep {W W' : World} {k : Nat} {o : Obj} (h : W.heap[k]? = some o) (hb : Below W.heap.size W W') : W'.heap[k]? = some o := (hb.block _ (Array.getElem?_eq_some_iff.1 h).1).trans h
theorem cell_ne' {w : World} {b k i j : Nat} {v : Value} (h : k ≠ b) : (w.setCell ⟨b, i, none⟩ v).cell? ⟨k, j, none⟩ = w.cell? ⟨k, j, none⟩ := World.cell?_of_block (heap_set_ne h)
/-- a list of entries in memory -/
def Row7 (w : World) (base : Nat) (v : Value) (es : List En) : Prop := w.ownsRow base 57 7 v es.length (ec es)
theorem Row7.below {w w' : World} {base : Nat} {v : Value} {es : List En} (h : Row7 w base v es) (hb : Below w.heap.size w w') : Row7 w' base v es := owns_below h hb
def RowK (w : World) (base : Nat) (v : Value) (ks : List Ky) : Prop := w.ownsRow base 53 2 v ks.length (kc ks)
theorem RowK.below {w w' : World} {base : Nat} {v : Value} {ks : List Ky} (h : RowK w base v ks) (hb : Below w.heap.size w w') : RowK w' base v ks := owns_below h hb
theorem RowK.key {w : World} {base n cap i : Nat} {a : Option Addr} {ks : List Ky} {p : Ky} (h : RowK w base (.slice a n cap) ks) (hi : ks[i]? = some p) : ∃ g, a = some ⟨g, 0, none⟩ ∧ base ≤ g ∧ g < w.heap.size ∧ w.cell? ⟨g, i * 2, none⟩ = some (.int .i64 p.d) ∧ w.cell? ⟨g, i * 2 + 1, none⟩ = some (.string p.nm) ∧ ∀ j, w.frozen? ⟨g, j, none⟩ = false := by
  have hlt : i < ks.length := (List.getElem?_eq_some_iff.1 hi).1
  obtain ⟨N, hN⟩ : ∃ N, ks.length = N + 1 := ⟨ks.length - 1, by omega⟩
  unfold RowK at h
  rw [hN] at h
  obtain ⟨g, cap', e'⟩ := owns_form h
  cases e'
  obtain ⟨hc, hf, _, _, hb, hg⟩ := owns_cells h
  obtain ⟨l0, l1⟩ := kc_get ks i p hi
  exact ⟨g, rfl, hb, hg, hc _ _ l0, hc _ _ l1, hf⟩
/-- an entry laid over seven cells of a row -/
def put7o (w : World) (g o : Nat) (e : En) : World :=
  ((((((w.setCell ⟨g, o, none⟩ (.int .i64 e.d)).setCell ⟨g, o + 1, none⟩ (.string e.nm)).setCell ⟨g, o + 2, none⟩ (.bool e.neg)).setCell ⟨g, o + 3, none⟩ (.int .i64 e.id)).setCell ⟨g, o + 4, none⟩ (.int .i64 e.kind)).setCell ⟨g, o + 5, none⟩ (.int .i64 e.mode)).setCell ⟨g, o + 6, none⟩ (.string e.tg)
theorem put7o_row {w : World} {base g i n cap : Nat} {es : List En} {e f : En} (h : w.ownsRow base 57 7 (.slice (some ⟨g, 0, none⟩) n cap) n (ec es)) (hf : es[i]? = some f) : (put7o w g (i * 7) e).ownsRow base 57 7 (.slice (some ⟨g, 0, none⟩) n cap) n (ec (es.set i e)) := by
  rw [← ec_set7 es i e f hf]
  exact ((((((((h.stored (i * 7) (.int .i64 e.d)).1).stored (i * 7 + 1) (.string e.nm)).1.stored (i * 7 + 2) (.bool e.neg)).1.stored (i * 7 + 3) (.int .i64 e.id)).1.stored (i * 7 + 4) (.int .i64 e.kind)).1.stored (i * 7 + 5) (.int .i64 e.mode)).1.stored (i * 7 + 6) (.string e.tg)).1
theorem put7o_only (w : World) (g o : Nat) (e : En) : Only (· = g) w (put7o w g o e) :=
  ((((((only1 _ g _ _).trans (only1 _ g _ _)).trans (only1 _ g _ _)).trans (only1 _ g _ _)).trans (only1 _ g _ _)).trans (only1 _ g _ _)).trans (only1 _ g _ _)
end
end Go.Proofs.Ytpmcecenhgppbaa
