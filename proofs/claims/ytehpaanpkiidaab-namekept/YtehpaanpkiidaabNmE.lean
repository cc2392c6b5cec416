/- The law's own helpers: its example is answered as the document says; two lists of the same texts are the same. -/
import Derived.Test.YtehpaanpkiidaabNmD
import Derived.Deep.QuietTactic
import Derived.BigQuiet
namespace Go.Proofs.Ytehpaanpkiidaab
open Go.RowKit

def ex1 : ByteArray := ⟨#[47, 47, 97, 47, 46, 47, 98]⟩
theorem ex1_cut : cutE ex1 (rootB ex1) = 0 ∧ cutD ex1 (rootB ex1) = false ∧ cutL ex1 (rootB ex1) = [⟨#[97]⟩, ⟨#[46]⟩, ⟨#[98]⟩] := by
  refine ⟨?_, ?_, ?_⟩
  · kernel_rfl
  · kernel_rfl
  · kernel_rfl
theorem ex2_chk : chkE ⟨#[46, 46]⟩ = 10 := by kernel_rfl

set_option maxHeartbeats 1000000 in
theorem awake_any (w : World) : Calls Try.prog 10 #[] w fun e w' => e = .returned (.bool true) ∧ Below w.heap.size w w' := by
  have HX : Hid (cutE ex1 (rootB ex1) = 0 ∧ cutD ex1 (rootB ex1) = false ∧ cutL ex1 (rootB ex1) = [⟨#[97]⟩, ⟨#[46]⟩, ⟨#[98]⟩]) := ex1_cut
  have HC : Hid (chkE ⟨#[46, 46]⟩ = 10) := ex2_chk
  go_enter Try.func10, Try.ntmps10
  go_wp2_with (first
    | (go_at_call 7; refine (split_any ex1 _).mono ?_; rintro e w1 ⟨v, rfl, hown, hb⟩; rw [HX.out.1, HX.out.2.1]; rw [HX.out.2.2] at hown; obtain ⟨a, cap, rfl, hrow⟩ := hown.row; rcases hrow with h | ⟨g, off, rfl, hs, hc⟩; (· cases h); have c0 : w1.cell? ⟨g, off, none⟩ = _ := hc 0 _ rfl; have c1 := hc 1 _ rfl; have c2 := hc 2 _ rfl; clear hc hown)
    | (go_at_call 9; refine (check_any _ _).mono ?_; rintro e w2 ⟨rfl, hb2⟩; rw [HC.out]))
  go_ret
  exact ⟨rfl, chainB hb hb2⟩

set_option maxHeartbeats 1000000 in
theorem same_any (a a' : Option Addr) (l : List ByteArray) (cap cap' : Nat) (w : World) (h : RowS w a l) (h' : RowS w a' l) (hl : l.length ≤ 140737488355328) :
    Calls Try.prog 11 #[.slice a l.length cap, .slice a' l.length cap'] w fun e w' => e = .returned (.bool true) ∧ Below w.heap.size w w' := by
  go_enter Try.func11, Try.ntmps11
  go_wp2
  go_loopw [5] (fun i wr => ∃ k : Nat, k ≤ l.length ∧ i = .int .i64 k ∧ Below w.heap.size w wr) (fun i _ => l.length - (intOf i).toNat)
  case atStart => exact ⟨0, Nat.zero_le _, rfl, Below.refl _ _⟩
  case round =>
    obtain ⟨k, hk, rfl, hb⟩ := hrel
    by_cases hlt : k < l.length
    · rcases h with h0 | ⟨g, off, rfl, hbs, hc⟩
      · rw [h0] at hlt; simp at hlt
      rcases h' with h0 | ⟨g', off', rfl, hbs', hc'⟩
      · rw [h0] at hlt; simp at hlt
      obtain ⟨x, hx⟩ : ∃ x, l[k]? = some x := ⟨_, List.getElem?_eq_getElem hlt⟩
      have c1 := (hb.cell (by exact hbs)).trans (hc k x hx)
      have c2 := (hb.cell (by exact hbs')).trans (hc' k x hx)
      have hki : (k : Int) < (l.length : Int) := by omega
      clear hc hc' hx
      go_wp2
      go_quiet (fail)
      go_wp2
      go_roundw
      case rel => exact ⟨k + 1, by omega, by go_num, below_drewN hb _⟩
      case measure => simp [intOf]; omega
    · have hkl : k = l.length := by omega
      subst hkl
      go_wp2
      go_ret
      exact ⟨rfl, hb⟩
end Go.Proofs.Ytehpaanpkiidaab
