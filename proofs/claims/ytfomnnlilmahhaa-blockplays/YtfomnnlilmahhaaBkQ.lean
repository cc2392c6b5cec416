/- The contracts of package block: Fuse, Write, Read, New. -/
import Derived.Test.YtfomnnlilmahhaaBkP
namespace Go.Proofs.Ytfomnnlilmahhaa
open Go.RowKit

def Dsk.fuseE (s : Dsk) (n : Int) : Int := if n < 0 then 1 else if s.on then 0 else 21
def Dsk.fuse (s : Dsk) (n : Int) : Dsk := if n < 0 then s else if s.on then { s with burns := true, left := n } else s
theorem fuse_any (b g : Nat) (s : Dsk) (n : Int) (w : World) (h : IsD w b g s) :
    Calls Try.prog 19 #[.pointer (some ⟨b, 0, none⟩), .int .i64 n] w fun e w' => e = .returned (.int .i64 (s.fuseE n)) ∧ IsD w' b g (s.fuse n) ∧ Only (· = b) w w' := by
  obtain ⟨_, c1, c2, c3, _, hf⟩ := h.cells
  unfold Dsk.fuseE Dsk.fuse
  have H : Hid (IsD w b g s) := h
  clear h
  by_cases hn : n < 0
  · rw [if_pos hn, if_pos hn]
    go_enter Try.func19, Try.ntmps19
    go_wp2
    go_ret
    exact ⟨rfl, H.out, Only.refl _ _⟩
  · rw [if_neg hn, if_neg hn]
    by_cases ho : s.on = true
    · rw [if_pos ho, if_pos ho]
      rw [ho] at c1
      clear ho
      go_enter Try.func19, Try.ntmps19
      go_wp2
      go_ret
      exact ⟨rfl, ((H.out.burns true).left n), (only1 _ b 2 _).trans (only1 _ b 3 _)⟩
    · rw [if_neg ho, if_neg ho]
      rw [Bool.eq_false_iff.2 ho] at c1
      clear ho
      go_enter Try.func19, Try.ntmps19
      go_wp2
      go_ret
      exact ⟨rfl, H.out, Only.refl _ _⟩

def Dsk.spend (s : Dsk) : Dsk := if s.burns then (if s.left = 0 then s.cut else { s with left := s.left - 1 }) else s
theorem spend_any (b g : Nat) (s : Dsk) (w : World) (h : IsD w b g s) (hl : s.burns = true → 0 ≤ s.left ∧ s.left ≤ 9223372036854775807) :
    Calls Try.prog 34 #[.pointer (some ⟨b, 0, none⟩)] w fun e w' => e = .returned (.bool s.spend.on) ∧ IsD w' b g s.spend ∧ Only (· = b) w w' := by
  obtain ⟨_, c1, c2, c3, _, hf⟩ := h.cells
  have H : Hid (IsD w b g s) := h
  clear h
  cases hb : s.burns
  · have e : s.spend = s := by unfold Dsk.spend; rw [hb]; rfl
    rw [e]
    rw [hb] at c2
    clear hl e
    go_enter Try.func34, Try.ntmps34
    go_wp2
    go_ret
    exact ⟨rfl, H.out, Only.refl _ _⟩
  · have hl' := hl hb
    clear hl
    rw [hb] at c2
    by_cases h0 : s.left = 0
    · have e : s.spend = s.cut := by unfold Dsk.spend; rw [hb, if_pos rfl, if_pos h0]
      rw [e]
      rw [h0] at c3
      clear e
      go_enter Try.func34, Try.ntmps34
      go_wp2_with (go_at_call 21; refine (cut_any b g s _ H.out).mono ?_; rintro e w1 ⟨rfl, hD, hO⟩; obtain ⟨_, d1, d2, d3, _, hf1⟩ := hD.cells; unfold Dsk.cut at d1 d2 d3; simp only at d1 d2 d3)
      go_ret
      exact ⟨rfl, hD, hO⟩
    · have e : s.spend = { s with left := s.left - 1 } := by unfold Dsk.spend; rw [hb, if_pos rfl, if_neg h0]
      rw [e]
      have hz : (s.left == 0) = false := by simpa using h0
      obtain ⟨L, hL⟩ : ∃ L, s.left = L := ⟨_, rfl⟩
      rw [hL] at c3 hl' hz h0
      have HL : Hid (s.left = L) := hL
      clear e hL
      go_enter Try.func34, Try.ntmps34
      go_wp2
      go_ret
      exact ⟨rfl, HL.out ▸ (H.out.left (s.left - 1)), only1 _ b 3 _⟩
end Go.Proofs.Ytfomnnlilmahhaa
