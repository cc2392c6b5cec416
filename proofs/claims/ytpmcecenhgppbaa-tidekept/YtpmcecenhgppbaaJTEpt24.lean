/- Keys behind keys; what has come, as the law TideOrder keeps it. -/
import Derived.Test.YtpmcecenhgppbaaJTEpt23
import Derived.Test.YtpmcecenhgppbaaJTEpt21
namespace Go.Proofs.Ytpmcecenhgppbaa
section
open Go.RowKit Go.Shelf

theorem kc_append (a b : List Ky) : kc (a ++ b) = kc a ++ kc b := by unfold kc; rw [List.flatMap_append]
/-- keys behind keys -/
theorem keys_append {w : World} {B B2 : Nat} {v v2 : Value} {l l2 : List Ky} (h : RowK w B v l) (h2 : RowK w B2 v2 l2) (hB : B ≤ w.heap.size) (hl : l.length + l2.length ≤ 1000000) :
    ∃ v3 W, (∀ ty, (Builtin.append_ #[34, 34] ty #[v, v2]).run Try.prog w = .ok v3 W) ∧ RowK W B v3 (l ++ l2) ∧ Only (fun k => v.ownBlock = some k) w W := by
  obtain ⟨i1, hi1, hw0, hw1, hw2⟩ := info_parts Try.infoKy
  have hr2 := h2
  rcases h2.2 with ⟨rfl, e2⟩ | ⟨g, cap, cur, rfl, _⟩
  · obtain rfl := List.length_eq_zero_iff.1 e2
    refine ⟨v, w, fun ty => run_append_owned_none (P := Try.prog) (w := w) B 34 ty 53 i1 2 Try.underlying34 hi1 v l.length (kc l) h, by rw [List.append_nil]; exact h, Only.refl _ _⟩
  · obtain ⟨hc, _⟩ := owns_cells hr2
    have key : ∀ ty, ∃ v' w', (Builtin.append_ #[34, 34] ty #[v, .slice (some ⟨g, 0, none⟩) l2.length cap]).run Try.prog w = .ok v' w' ∧ w'.ownsRow B 53 2 v' (l.length + l2.length) (kc l ++ kc l2) ∧ w.grownBy w' v.ownBlock := fun ty => by
      obtain ⟨v', w', a1, a2, a3, _, _⟩ := run_append_own_at (P := Try.prog) w B 34 ty 53 i1 _ 2 24 Try.underlying34 hi1 hw0 hw1 hw2 rfl (by decide) v l.length (kc l) h ⟨g, 0, none⟩ l2.length cap (kc l2) (kc_len l2) (fun j u hu => by rw [add_plain', Nat.zero_add]; exact hc j u hu) (kc_one l2) (by unfold maxLen; omega) (by omega) hB
      exact ⟨v', w', a1, a2, a3⟩
    obtain ⟨v', W, a1, a2, a3⟩ := key 0
    refine ⟨v', W, fun ty => ?_, ?_, only_grown a3⟩
    · have : (Builtin.append_ #[34, 34] ty #[v, .slice (some ⟨g, 0, none⟩) l2.length cap]).run Try.prog w = (Builtin.append_ #[34, 34] 0 #[v, .slice (some ⟨g, 0, none⟩) l2.length cap]).run Try.prog w := rfl
      rw [this]; exact a1
    · show World.ownsRow _ _ _ _ _ _ _
      rw [List.length_append, kc_append]; exact a2
theorem row_below {B : Nat} {v : Value} {w W w0 : World} {l : List Ky} (h : RowK w B v l) (hb : Below B w0 w) (hB : B ≤ w.heap.size) (ho : Only (fun k => v.ownBlock = some k) w W) : Below B w0 W := ho.below hb hB fun k hk => (World.ownsRow.lt h k hk).1
/-- the law's own list: which have come -/
def cmA (C : Nat → Bool) : Array Value := ((List.range 10).map fun j => Value.bool (C j)).toArray
theorem cmA_get (C : Nat → Bool) (j : Nat) (h : j < 10) : (cmA C)[j]? = some (.bool (C j)) := by
  unfold cmA
  rw [List.getElem?_toArray, List.getElem?_map, List.getElem?_range h]; rfl
theorem cmA_set (C : Nat → Bool) (k : Nat) : (cmA C).setIfInBounds k (.bool true) = cmA fun j => C j || decide (j = k) := by
  apply Array.ext'
  rw [Array.toList_setIfInBounds]
  apply List.ext_getElem?
  intro j
  unfold cmA
  rw [List.getElem?_set]
  simp only [List.length_map, List.length_range]
  by_cases hj : j < 10
  · rw [List.getElem?_map, List.getElem?_map, List.getElem?_range hj]
    by_cases e : k = j
    · subst e; simp [hj]
    · have e' : ¬ j = k := fun h => e h.symm
      simp [e, e']
  · rw [List.getElem?_eq_none (by simp; omega), List.getElem?_eq_none (by simp; omega)]
    by_cases e : k = j
    · subst e; simp [hj]
    · simp [e]
theorem cmA_zero : (Array.replicate 10 (.bool false) : Array Value) = cmA fun _ => false := by rfl
structure Oc (w W : World) (t : Nat) (a : Option Addr) (N c : Nat) (S : Ts) (F : Nat → Prop) (ms : List Hm) (g : Nat) (C : Nat → Bool) : Prop where
  om : Om w W t a N c S F ms
  fg : F g
  low : w.heap.size ≤ g
  hp : W.heap[g]? = some (.cells (cmA C) 4 (0, 0))
theorem Oc.below {w W V : World} {t : Nat} {a : Option Addr} {N c : Nat} {S : Ts} {F : Nat → Prop} {ms : List Hm} {g : Nat} {C : Nat → Bool} (h : Oc w W t a N c S F ms g C) (hb : Below W.heap.size W V) : Oc w V t a N c S F ms g C := ⟨h.om.below hb, h.fg, h.low, hkeep h.hp hb⟩
theorem Oc.on {w W V : World} {t : Nat} {a : Option Addr} {N c : Nat} {S S' : Ts} {F : Nat → Prop} {ms : List Hm} {g : Nat} {C : Nat → Bool} (h : Oc w W t a N c S F ms g C) (ho : Om w V t a N c S' F ms) (hk : Kt F W V) : Oc w V t a N c S' F ms g C := ⟨ho, h.fg, h.low, (hk.mine g h.fg (Array.getElem?_eq_some_iff.1 h.hp).1).trans h.hp⟩
theorem Oc.set {w W V : World} {t : Nat} {a : Option Addr} {N c : Nat} {S : Ts} {F : Nat → Prop} {ms : List Hm} {g : Nat} {C : Nat → Bool} (h : Oc w W t a N c S F ms g C) (k : Nat) (hV : W.setCell ⟨g, k, none⟩ (.bool true) = V) : Oc w V t a N c S F ms g (fun j => C j || decide (j = k)) ∧ Only (· = g) W V := by
  subst hV
  have ho := only1 W g k (.bool true)
  have ht : Tag W g 4 := ⟨_, _, h.hp⟩
  refine ⟨⟨⟨h.om.lt.mine ho (fun q hq => by rw [hq]; exact ⟨h.fg, h.low⟩), owns_moved h.om.row fun q e => ho.block q (Tag.own h.om.row e).lt fun hq => (ht.ne (Tag.own h.om.row e) (by decide)) hq.symm, h.om.own, fun z hz => (h.om.each z hz).only ho fun q hq => ⟨by rw [hq]; exact ht.two (by decide), by rw [hq]; exact ht.two (by decide)⟩, h.om.say⟩, h.fg, h.low, ?_⟩, ho⟩
  have := heap_set h.hp k (.bool true)
  rw [cmA_set] at this; exact this
/-- what the law holds between two messages -/
def oS (i n : Nat) (L : List Nat) : Ts := if i = 0 then Ts.new 1 1 8 else bS 8 n L
def oA (i n n' : Nat) : List Ac := if i = 0 then allA :: actsN n n' else actsN n n'
structure Ok8 (N i n : Nat) (L : List Nat) (C : Nat → Bool) : Prop where
  rest : bRest n L
  top : ∀ j ∈ L, j ≤ N
  le : n ≤ N
  came : ∀ j, C j = true ↔ Came n L j
  zero : i = 0 → n = 0 ∧ L = []
theorem Ok8.start (N : Nat) : Ok8 N 0 0 [] (fun _ => false) := ⟨⟨(fun j hj => by cases hj), (fun j hj => by cases hj), List.Pairwise.nil⟩, (fun j hj => by cases hj), Nat.zero_le _, (fun j => by
  constructor
  · intro h; cases h
  · rintro (h | h)
    · omega
    · cases h), fun _ => ⟨rfl, rfl⟩⟩
theorem Ok8.step {N i n : Nat} {L : List Nat} {C : Nat → Bool} (h : Ok8 N i n L C) (hN : N ≤ 8) (k : Nat) (hk : k < N) :
    ∃ n' L', (oS i n L).take (brkN (k + 1)) = (bS 8 n' L', oA i n n') ∧ Ok8 N (i + 1) n' L' (fun j => C j || decide (j = k + 1)) ∧ n ≤ n' ∧ (∀ j, n < j → j ≤ n' → (C j || decide (j = k + 1)) = true) ∧ (C (n' + 1) || decide (n' + 1 = k + 1)) = false := by
  have hs := step_b 8 n L (k + 1) (by omega) (by omega) h.rest
  have hle := step_le 8 n L (k + 1)
  have hcs := came_step h.rest (fun j hj => Nat.le_trans (h.top j hj) hN) (show 1 ≤ k + 1 by omega) (show k + 1 ≤ 8 by omega)
  obtain ⟨p, hp⟩ : ∃ p, stepN 8 n L (k + 1) = p := ⟨_, rfl⟩
  rw [hp] at hs hle hcs
  have hC : ∀ j, (C j || decide (j = k + 1)) = true ↔ Came p.1 p.2 j := fun j => by
    rw [← hcs j, Bool.or_eq_true, h.came j, decide_eq_true_iff]
  have hin : ∀ j, Came p.1 p.2 j → j ≤ N := fun j hj => by
    rcases (hcs j).2 hj with hj | hj
    · rcases hj with hj | hj
      · have := h.le; omega
      · exact h.top j hj
    · omega
  refine ⟨p.1, p.2, ?_, ⟨hs.2, fun j hj => hin j (.inr hj), ?_, hC, fun e => by omega⟩, hle, fun j h1 h2 => (hC j).2 (.inl ⟨by omega, h2⟩), ?_⟩
  · unfold oS oA
    by_cases hi : i = 0
    · obtain ⟨rfl, rfl⟩ := h.zero hi
      rw [if_pos hi, if_pos hi, order_first k (by omega), hp]
    · rw [if_neg hi, if_neg hi, order_next h.rest k (by omega), hp]
  · rcases Nat.eq_zero_or_pos p.1 with e | e
    · omega
    · exact hin p.1 (.inl ⟨e, Nat.le_refl _⟩)
  · cases hq : (C (p.1 + 1) || decide (p.1 + 1 = k + 1)) with
    | false => rfl
    | true => exact absurd ((hC _).1 hq) (came_not hs.2)
theorem oA_keys (i n n' : Nat) : (oA i n n').flatMap Ac.ks = keysN n n' := by
  unfold oA
  split
  · rw [List.flatMap_cons, acts_keys]; rfl
  · exact acts_keys n n'
theorem oA_get (i n n' j : Nat) (c : Ac) (h : (oA i n n')[j]? = some c) : c.all = decide (i = 0 ∧ j = 0) ∧ c.again = false ∧ c.reply = false := by
  unfold oA at h
  by_cases hi : i = 0
  · rw [if_pos hi] at h
    cases j with
    | zero => simp at h; subst h; simp [allA, hi]
    | succ j =>
      simp at h
      obtain ⟨a, b, d⟩ := acts_plain n n' c (List.mem_of_getElem? h)
      exact ⟨by rw [a]; simp, b, d⟩
  · rw [if_neg hi] at h
    obtain ⟨a, b, d⟩ := acts_plain n n' c (List.mem_of_getElem? h)
    exact ⟨by rw [a]; simp [hi], b, d⟩
end
end Go.Proofs.Ytpmcecenhgppbaa
