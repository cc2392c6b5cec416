/- Messages, acts and tides, plainly: what the chapter says of a tide. -/
import Derived.Test.YtnklhdoiggomkaaJTIes01
import Derived.Test.YtnklhdoiggomkaaJTIes03
namespace Go.Proofs.Ytnklhdoiggomkaa
section
open Go.RowKit

def Ky.agg (k : Ky) : Value := .agg #[.int .i64 k.d, .string k.nm]
/-- are two keys the same (shut, so that a walk leaves it standing) -/
def eqKy (a b : Ky) : Bool := decide (a.d = b.d ∧ a.nm = b.nm)
theorem eqKy_iff (a b : Ky) : eqKy a b = true ↔ a = b := by
  obtain ⟨a1, a2⟩ := a
  obtain ⟨b1, b2⟩ := b
  simp [eqKy]
theorem eqKy_self (a : Ky) : eqKy a a = true := (eqKy_iff a a).2 rfl
theorem eqKy_no {a b : Ky} (h : a ≠ b) : eqKy a b = false := by
  cases k : eqKy a b with
  | false => rfl
  | true => exact absurd ((eqKy_iff a b).1 k) h
theorem eqKy_comm (a b : Ky) : eqKy a b = eqKy b a := by
  by_cases h : a = b
  · subst h; rfl
  · rw [eqKy_no h, eqKy_no (Ne.symm h)]
def inK (l : List Ky) (k : Ky) : Bool := l.any fun x => eqKy x k
theorem inK_iff (l : List Ky) (k : Ky) : inK l k = true ↔ k ∈ l := by
  unfold inK
  rw [List.any_eq_true]
  constructor
  · rintro ⟨x, hx, e⟩
    rw [← (eqKy_iff x k).1 e]; exact hx
  · exact fun h => ⟨k, h, eqKy_self k⟩
def bare (k : Ky) : Ky := ⟨k.d, ⟨#[]⟩⟩

/-- a message, plainly (its mark by its bits) -/
structure Pm where
  kind : Int
  client : Int
  life : Int
  seq : Int
  re : Nat
  im : Nat
  vers : Int
  err : Int
  op : Opn
  es : List En
  ks : List Ky
def Pm.arr (m : Pm) (ve vk : Value) : Array Value := #[.int .i64 m.kind, .int .i64 m.client, .int .i64 m.life, .int .i64 m.seq, .complex .f64 m.re m.im, .int .i64 m.vers, .int .i64 m.err, .int .i64 m.op.kind, .int .i64 m.op.dir, .string m.op.nm, .int .i64 m.op.dst, .string m.op.new, .int .i64 m.op.mode, .string m.op.tg, ve, vk]
def Pm.num (m : Pm) : Int := part m.im
def Pm.ep (m : Pm) : Int := part m.re
/-- an act -/
structure Ac where
  all : Bool
  again : Bool
  reply : Bool
  whole : Bool
  ks : List Ky
  err : Int
  es : List En
/-- a fresh break -/
structure Fb where
  n : Int
  all : Bool
  ks : List Ky
/-- a tide -/
structure Ts where
  client : Int
  life : Int
  e : Int
  n : Int
  ver : Int
  asked : Int
  fr : List Fb
  held : List Pm
  hold : Nat
def Ts.ahead (s : Ts) (m : Pm) : Int := if s.n ≤ m.num then m.num - s.n else 0
def Ts.counts (s : Ts) (m : Pm) : Bool := decide (2 ≤ m.kind ∧ m.kind ≤ 4) && (decide (m.client = s.client) && (decide (m.life = s.life) && (goodB m.re m.im && decide (s.e ≤ m.ep))))
def Ts.restart (s : Ts) (m : Pm) : Ts := { s with e := m.ep, n := 0, fr := [], held := [] }
def Ts.apply (s : Ts) (m : Pm) : Ts := { s with n := m.num, ver := max s.ver m.vers, fr := if 0 < s.asked then s.fr ++ [⟨m.num, decide (m.kind = 4), m.ks⟩] else s.fr }
def allA : Ac := ⟨true, false, false, false, [], 0, []⟩
def againA : Ac := ⟨false, true, false, false, [], 0, []⟩
def keysA (ks : List Ky) : Ac := ⟨false, false, false, false, ks, 0, []⟩
def actOf (m : Pm) : Ac := if m.kind = 4 then allA else keysA m.ks
def Fb.names (b : Fb) (k : Ky) : Bool := b.all || (inK b.ks k || inK b.ks (bare k))
def named (fr : List Fb) (n : Int) (k : Ky) : Bool := fr.any fun b => decide (n < b.n) && b.names k
def wholeF (fr : List Fb) (n : Int) : Bool := fr.all fun b => decide (b.n ≤ n)
def Ts.newer (s : Ts) (v : Int) : Ts := { s with ver := max s.ver v }
def Ts.used (s : Ts) (m : Pm) : Ts := if m.err = 70 then s.newer m.vers else { s.newer m.vers with asked := 0, fr := [] }
def left (fr : List Fb) (n : Int) (es : List En) : List En := es.filter fun e => !named fr n ⟨e.d, e.nm⟩
def Ts.usedA (s : Ts) (m : Pm) : Ac := if m.err = 70 then againA else ⟨false, false, true, wholeF s.fr m.num, [], m.err, left s.fr m.num m.es⟩
def likeM (o m : Pm) : Bool := decide (o.kind = m.kind ∧ o.ep = m.ep ∧ o.num = m.num)
def Ts.holds (s : Ts) (m : Pm) : Ts := if s.held.length < s.hold ∧ (s.held.any fun o => likeM o m) = false then { s with held := s.held ++ [m] } else s
def Ts.asks (s : Ts) (q : Int) : Bool := decide (0 < q ∧ q = s.asked)
def Ts.meet (s : Ts) (m : Pm) : Ts × List Ac :=
  if m.kind = 2 then
    if s.asks m.seq then if s.ahead m = 0 then (s.used m, [s.usedA m]) else (s.holds m, []) else (s, [])
  else if s.ahead m = 0 then (s, [])
  else if m.kind = 4 ∨ (m.kind = 3 ∧ s.ahead m = 1) then (s.apply m, [actOf m])
  else (s.holds m, [])
def Ts.due1 (s : Ts) (m : Pm) : Bool := decide (m.kind = 3) && decide (s.ahead m = 1)
def Ts.due2 (s : Ts) (m : Pm) : Bool := decide (m.kind = 2) && decide (s.ahead m = 0)
def Ts.due3 (s : Ts) (m : Pm) : Bool := decide (s.ahead m = 0)
def Ts.due (s : Ts) : Option Nat := (s.held.findIdx? s.due1).or ((s.held.findIdx? s.due2).or (s.held.findIdx? s.due3))
def Ts.without (s : Ts) (i : Nat) : Ts := { s with held := s.held.eraseIdx i }
/-- what is held is gone through, so many times at most -/
def Ts.settleF : Nat → Ts → Ts × List Ac
  | 0, s => (s, [])
  | n + 1, s => match s.due with
    | none => (s, [])
    | some i => match s.held[i]? with
      | none => (s, [])
      | some m => ((Ts.settleF n ((s.without i).meet m).1).1, ((s.without i).meet m).2 ++ (Ts.settleF n ((s.without i).meet m).1).2)
def Ts.settle (s : Ts) : Ts × List Ac := Ts.settleF s.held.length s
def Ts.begun (s : Ts) (m : Pm) : Ts := if s.e < m.ep then s.restart m else s
def Ts.begunA (s : Ts) (m : Pm) : List Ac := if s.e < m.ep then [allA] else []
def Ts.take (s : Ts) (m : Pm) : Ts × List Ac :=
  if s.counts m then (((s.begun m).meet m).1.settle.1, s.begunA m ++ (((s.begun m).meet m).2 ++ ((s.begun m).meet m).1.settle.2)) else (s, [])
def Ts.ask (s : Ts) (q : Int) : Ts := { s with asked := max q 0, fr := [], held := s.held.filter fun m => !(decide (m.kind = 2) && decide (m.seq ≠ max q 0)) }
def Ts.new (client life : Int) (hold : Nat) : Ts := ⟨client, life, 0, 0, 0, 0, [], [], hold⟩

theorem find_lt {α : Type} {l : List α} {p : α → Bool} {i : Nat} (h : l.findIdx? p = some i) : ∃ x, l[i]? = some x ∧ p x = true := by
  rw [List.findIdx?_eq_some_iff_getElem] at h
  obtain ⟨hi, hq, _⟩ := h
  exact ⟨l[i], List.getElem?_eq_getElem hi, hq⟩
/-- what is due: a message that is met, not held -/
theorem Ts.due_some {s : Ts} {i : Nat} (h : s.due = some i) : ∃ m, s.held[i]? = some m ∧ (s.due1 m = true ∨ s.due2 m = true ∨ s.due3 m = true) := by
  unfold Ts.due at h
  cases h1 : s.held.findIdx? s.due1 with
  | some j =>
    rw [h1, Option.some_or] at h
    cases h
    obtain ⟨m, e, p⟩ := find_lt h1
    exact ⟨m, e, .inl p⟩
  | none =>
    rw [h1, Option.none_or] at h
    cases h2 : s.held.findIdx? s.due2 with
    | some j =>
      rw [h2, Option.some_or] at h
      cases h
      obtain ⟨m, e, p⟩ := find_lt h2
      exact ⟨m, e, .inr (.inl p)⟩
    | none =>
      rw [h2, Option.none_or] at h
      obtain ⟨m, e, p⟩ := find_lt h
      exact ⟨m, e, .inr (.inr p)⟩
theorem used_held (s : Ts) (m : Pm) : (s.used m).held = s.held ∧ (s.used m).hold = s.hold := by
  unfold Ts.used Ts.newer
  by_cases h : m.err = 70
  · rw [if_pos h]; exact ⟨rfl, rfl⟩
  · rw [if_neg h]; exact ⟨rfl, rfl⟩
theorem Ts.ahead_without (s : Ts) (i : Nat) (m : Pm) : (s.without i).ahead m = s.ahead m := rfl
theorem meet_due {s : Ts} {i : Nat} {m : Pm} (hd : s.due1 m = true ∨ s.due2 m = true ∨ s.due3 m = true) : ((s.without i).meet m).1.held = s.held.eraseIdx i ∧ ((s.without i).meet m).1.hold = s.hold := by
  unfold Ts.meet
  rw [Ts.ahead_without]
  by_cases h2 : m.kind = 2
  · rw [if_pos h2]
    by_cases ha : (s.without i).asks m.seq = true
    · rw [if_pos ha]
      have h0 : s.ahead m = 0 := by
        rcases hd with h | h | h
        · unfold Ts.due1 at h; simp at h; omega
        · unfold Ts.due2 at h; simp at h; exact h.2
        · unfold Ts.due3 at h; simpa using h
      rw [if_pos h0]
      exact used_held (s.without i) m
    · rw [if_neg ha]; exact ⟨rfl, rfl⟩
  · rw [if_neg h2]
    by_cases h0 : s.ahead m = 0
    · rw [if_pos h0]; exact ⟨rfl, rfl⟩
    · rw [if_neg h0]
      have h3 : m.kind = 4 ∨ (m.kind = 3 ∧ s.ahead m = 1) := by
        rcases hd with h | h | h
        · unfold Ts.due1 at h; simp at h; exact .inr h
        · unfold Ts.due2 at h; simp at h; exact absurd h.1 h2
        · unfold Ts.due3 at h; exact absurd (by simpa using h) h0
      rw [if_pos h3]
      exact ⟨rfl, rfl⟩
theorem Ts.settle_none {s : Ts} (h : s.due = none) : s.settle = (s, []) := by
  unfold Ts.settle
  cases s.held.length with
  | zero => rfl
  | succ n => unfold Ts.settleF; rw [h]
theorem Ts.settle_some {s : Ts} {i : Nat} {m : Pm} (h : s.due = some i) (hm : s.held[i]? = some m) : s.settle = (((s.without i).meet m).1.settle.1, ((s.without i).meet m).2 ++ ((s.without i).meet m).1.settle.2) := by
  obtain ⟨m', e, hd⟩ := Ts.due_some h
  rw [hm] at e
  cases e
  have hi := (List.getElem?_eq_some_iff.1 hm).1
  have hl : ((s.without i).meet m).1.held.length = s.held.length - 1 := by rw [(meet_due hd).1, List.length_eraseIdx_of_lt hi]
  obtain ⟨n, hn⟩ : ∃ n, s.held.length = n + 1 := ⟨s.held.length - 1, by omega⟩
  unfold Ts.settle
  rw [hl, hn]
  show Ts.settleF (n + 1) s = _
  rw [Ts.settleF, h]
  simp only [hm]
  rfl
end
end Go.Proofs.Ytnklhdoiggomkaa
