/- The contracts of CopyBytes, Lend and Back, over the scroll's texts. -/
import Derived.Test.YtpifjfhlelekjaaSbG
import Derived.Test.YtpifjfhlelekjaaSbO
import Derived.Laws.ResultCell
import Derived.Deep.Light
namespace Go.Proofs.Ytpifjfhlelekjaa
open Go.RowKit

/-- how long bytes may be -/
def LB : Nat := 140737488351232

theorem copyB_any (v : Value) (l : List Int) (w : World) (h : RB w v l) (hl : l.length ≤ LB) :
    Calls Try.prog 40 #[v] w fun e w' => ∃ v', e = .returned v' ∧ OwnB w' w.heap.size v' l ∧ Below w.heap.size w w' := by
  obtain ⟨i0, hi, hz0, hz1, hz2⟩ := info_parts Try.infoU
  have hL : l.length ≤ 140737488351232 := hl
  obtain ⟨a, cap, rfl, _⟩ := id h
  rcases h.src with ⟨rfl, rfl⟩ | ⟨ad, rfl, hc⟩
  · clear h hl
    go_enter Try.func40, Try.ntmps40
    go_wp2
    go_ret
    exact ⟨_, rfl, OwnB.nil _ _, Below.refl _ _⟩
  · have HC : Hid (∀ j u, (ub l)[j]? = some u → w.cell? (ad.add j) = some u) := hc
    clear hc h hl
    go_enter Try.func40, Try.ntmps40
    go_wp2_with (at_builtin; refine wpList_append_own _ rfl _ _ 22 rfl w.heap.size 5 i0 (.int .u8 0) 1 1 Try.underlying22 hi hz0 hz1 hz2 rfl (by decide) _ _ _ rfl (World.ownsRow_nil _ _ _ _) ad l.length cap (ub l) rfl (by rw [ub_len, Nat.mul_one]) HC.out (ub_one l) (by unfold maxLen; omega) (by omega) (Nat.le_refl _) ?_; intro v' w1 hown hgrow _)
    go_ret
    refine ⟨_, rfl, ?_, below_grown hgrow⟩
    rw [Nat.zero_add, List.nil_append] at hown
    exact hown

def mk (i : Nat) : Int := 101 + (i : Int)
def marks (k : Nat) : List Int := (List.range k).map mk
theorem marks_len (k : Nat) : (marks k).length = k := by unfold marks; simp
theorem marks_succ (k : Nat) : marks (k + 1) = marks k ++ [mk k] := by unfold marks; rw [List.range_succ, List.map_append]; rfl
theorem marks_get (k i : Nat) (h : i < k) : (marks k)[i]? = some (mk i) := by unfold marks; rw [List.getElem?_map, List.getElem?_range h]; rfl

set_option maxHeartbeats 2000000 in
theorem lend_any (v : Value) (l : List Int) (w : World) (h : RB w v l) (hl : l.length ≤ LB) :
    Calls Try.prog 35 #[v] w fun e w' => ∃ g cap, e = .returned (.tuple #[.slice (some ⟨g, 0, none⟩) l.length cap, .slice (some ⟨g, 0, none⟩) (l.length + 70) cap]) ∧ OwnB w' w.heap.size (.slice (some ⟨g, 0, none⟩) (l.length + 70) cap) (l ++ marks 70) ∧ Below w.heap.size w w' := by
  obtain ⟨i0, hi, hz0, hz1, hz2⟩ := info_parts Try.infoU
  have hL : l.length ≤ 140737488351232 := hl
  obtain ⟨a, cap, rfl, _⟩ := id h
  have H : Hid (RB w (.slice a l.length cap) l ∧ l.length ≤ LB) := ⟨h, hl⟩
  clear h hl
  go_enter Try.func35, Try.ntmps35
  go_wp2_with (go_at_call 40; refine (copyB_any _ l _ H.out.1 H.out.2).mono ?_; rintro e w1 ⟨v1, rfl, ho1, hb1⟩)
  go_loopw [4, 5] (fun v i wr => ∃ k : Nat, k ≤ 70 ∧ i = .int .i64 k ∧ OwnB wr w.heap.size v (l ++ marks k) ∧ Below w.heap.size w wr) (fun _ i _ => 70 - (intOf i).toNat)
  case atStart => exact ⟨0, Nat.zero_le _, rfl, by simpa [marks] using ho1, hb1⟩
  case round =>
    clear ho1 hb1
    obtain ⟨k, hk, rfl, ho, hb⟩ := hrel
    by_cases hlt : k < 70
    · have hki : (k : Int) < 70 := by omega
      have ho' : wr.ownsRow w.heap.size 5 1 u4 (l.length + k) (ub (l ++ marks k)) := by
        have := ho; unfold OwnB at this; rw [List.length_append, marks_len] at this; exact this
      clear ho
      go_wp2_with (at_builtin; refine wpList_append_own _ rfl _ _ 22 rfl w.heap.size 5 i0 (.int .u8 0) 1 1 Try.underlying22 hi hz0 hz1 hz2 rfl (by decide) _ _ _ rfl (World.ownsRow.alloc ho' _) ⟨wr.heap.size, 0, none⟩ 1 1 [.int .u8 (mk k)] rfl rfl (one_at _ _ _) (one_cell _ rfl) (by unfold maxLen; omega) (by omega) (by have := hb.size; simp; omega) ?_; intro v' w1 hown hgrow _)
      have hb1 : Below w.heap.size w w1 := Below.grown (hb.alloc hb.size _) hgrow (by have := hb.size; simp; omega) (fun q hq => (ho'.lt q hq).1)
      have ho1 : OwnB w1 w.heap.size v' (l ++ marks (k + 1)) := by
        unfold OwnB
        rw [marks_succ, ← List.append_assoc, List.length_append, List.length_append, marks_len]
        unfold ub at hown ⊢
        rw [List.map_append (l₁ := l ++ marks k)]
        exact hown
      clear hown hgrow ho' hb
      go_wp2
      go_roundw
      case rel => exact ⟨k + 1, by omega, by go_num, ho1, hb1⟩
      case measure => simp [intOf]; omega
    · obtain rfl : k = 70 := by omega
      rcases ho.form with ⟨_, e⟩ | ⟨g, cap', e, _, hg, hcap, hc, hf⟩
      · have := congrArg List.length e; rw [List.length_append, marks_len] at this; simp at this
      rw [List.length_append, marks_len] at e hcap
      subst e
      clear hc hf
      go_wp2
      go_ret2
      exact ⟨g, cap', rfl, ho, hb⟩

set_option maxHeartbeats 4000000 in
theorem back_any (v v2 : Value) (l : List Int) (base2 : Nat) (w : World) (h : RB w v l) (h2 : OwnB w base2 v2 (l ++ marks 70)) (hl : l.length ≤ LB) :
    Calls Try.prog 36 #[v, v2] w fun e w' => e = .returned (.bool true) ∧ Below w.heap.size w w' := by
  have hL : l.length ≤ 140737488351232 := hl
  obtain ⟨a, cap, rfl, hR⟩ := h
  rcases h2.form with ⟨_, e⟩ | ⟨g', cap', e, _, hg', _, hc', _⟩
  · have := congrArg List.length e; rw [List.length_append, marks_len] at this; simp at this
  rw [List.length_append, marks_len] at e
  subst e
  have HC : Hid ((∀ k x, l[k]? = some x → ∃ g off, a = some ⟨g, off, none⟩ ∧ g < w.heap.size ∧ w.cell? ⟨g, off + k, none⟩ = some (.int .u8 x)) ∧ ∀ i x, (l ++ marks 70)[i]? = some x → w.cell? ⟨g', i, none⟩ = some (.int .u8 x)) := ⟨fun k x hx => by
    rcases hR with rfl | ⟨g, off, e, hg, hc⟩
    · simp at hx
    · exact ⟨g, off, e, hg, hc k x hx⟩, hc'⟩
  clear hc' h2 hR hl
  go_enter Try.func36, Try.ntmps36
  go_wp2
  go_loopw [5] (fun i wr => ∃ k : Nat, k ≤ l.length + 70 ∧ i = .int .i64 k ∧ Below w.heap.size w wr) (fun i _ => l.length + 70 - (intOf i).toNat)
  case atStart => exact ⟨0, Nat.zero_le _, rfl, Below.refl _ _⟩
  case round =>
    obtain ⟨k, hk, rfl, hb⟩ := hrel
    by_cases hlt : k < l.length + 70
    · have hki : (k : Int) < (l.length : Int) + 70 := by omega
      by_cases hkl : k < l.length
      · obtain ⟨x, hx⟩ : ∃ x, l[k]? = some x := ⟨_, List.getElem?_eq_getElem hkl⟩
        obtain ⟨g, off, rfl, hg, c1⟩ := HC.out.1 k x hx
        have d1 := (hb.cell (p := ⟨g, off + k, none⟩) hg).trans c1
        have d2 := (hb.cell (p := ⟨g', k, none⟩) hg').trans (HC.out.2 k x (by rw [List.getElem?_append_left hkl]; exact hx))
        have b1 : decide ((k : Int) < (l.length : Int)) = true := decide_eq_true (by omega)
        have b2 : decide (l.length ≤ k) = false := decide_eq_false (by omega)
        clear hx c1
        go_wp2
        go_quiet (fail)
        go_wp2
        go_roundw
        case rel => exact ⟨k + 1, by omega, by go_num, below_drewN hb _⟩
        case measure => simp [intOf]; omega
      · have d2 := (hb.cell (p := ⟨g', k, none⟩) hg').trans (HC.out.2 k (101 + (k : Int) - (l.length : Int)) (by rw [List.getElem?_append_right (by omega), marks_get _ _ (by omega)]; unfold mk; congr 1; omega))
        have b1 : decide ((k : Int) < (l.length : Int)) = false := decide_eq_false (by omega)
        have b2 : decide (l.length ≤ k) = true := decide_eq_true (by omega)
        have hkl' : (l.length : Int) ≤ (k : Int) := by omega
        go_wp2
        go_quiet (fail)
        go_wp2
        go_roundw
        case rel => exact ⟨k + 1, by omega, by go_num, below_drewN hb _⟩
        case measure => simp [intOf]; omega
    · have hkl : k = l.length + 70 := by omega
      subst hkl
      go_wp2
      go_ret
      exact ⟨rfl, hb⟩
end Go.Proofs.Ytpifjfhlelekjaa
