/- The walks of the laws NameChecks, NameSplits, NameTargets, NameParents: each returns true. -/
import Derived.Test.YtehpaanpkiidaaaNmS
namespace Go.Proofs.Ytehpaanpkiidaaa
open Go.RowKit

theorem walk_NameChecks (s : ByteArray) (w : World) :
    Calls Try.prog 3 #[.string s] w fun e w' => e = .returned (.bool true) ∧ Below w.heap.size w w' := by
  go_enter Try.func3, Try.ntmps3
  go_wp2_with (first
    | (go_at_call 9; refine (check_any _ _).mono ?_; rintro e w1 ⟨rfl, hb1⟩)
    | (go_at_call 10; refine (rcheck_any _ _).mono ?_; rintro e w2 ⟨rfl, rfl⟩)
    | (go_at_call 11; refine (awake_any _).mono ?_; rintro e w3 ⟨rfl, hb3⟩))
  go_ret
  exact ⟨rfl, chainB hb1 hb3⟩

theorem cutL_len (s : ByteArray) (b : Bool) : (cutL s b).length ≤ 97 := by
  unfold cutL
  split
  · rename_i h
    have : s.size ≤ 96 := by
      by_cases h1 : 96 < s.size
      · exfalso; unfold cutE at h; rw [if_pos h1] at h; omega
      · omega
    exact Nat.le_trans (pcs_len s _) (by omega)
  · exact Nat.zero_le _
theorem parL_len (s : ByteArray) : (parL s).length ≤ 97 := by
  unfold parL
  split
  · rename_i h
    have h0 : cutE s (rootB s) = 0 := by
      unfold parE at h
      split at h
      · rename_i h2; exact h2
      · exact h
    have := cutL_len s (rootB s)
    unfold cutL at this
    rw [h0, if_pos rfl] at this
    rw [List.length_dropLast]; omega
  · exact Nat.zero_le _

set_option maxHeartbeats 1000000 in
theorem walk_NameSplits (s : ByteArray) (w : World) :
    Calls Try.prog 4 #[.string s] w fun e w' => e = .returned (.bool true) ∧ Below w.heap.size w w' := by
  have hl := cutL_len s (rootB s)
  go_enter Try.func4, Try.ntmps4
  go_wp2_with (first
    | (go_at_call 12; refine (split_any _ _).mono ?_; rintro e w1 ⟨v1, rfl, hown1, hb1⟩)
    | (go_at_call 13; refine (rsplit_any _ _).mono ?_; rintro e w2 ⟨v2, rfl, hown2, hb2⟩; obtain ⟨a1, cap1, rfl, hrow1⟩ := (hown1.below hb2).row; obtain ⟨a2, cap2, rfl, hrow2⟩ := hown2.row)
    | (go_at_call 14; refine (same_any _ _ _ _ _ _ hrow1 hrow2 (by omega)).mono ?_; rintro e w3 ⟨rfl, hb3⟩)
    | (go_at_call 11; refine (awake_any _).mono ?_; rintro e w4 ⟨rfl, hb4⟩))
  go_ret
  exact ⟨rfl, chainB hb1 (chainB hb2 (chainB hb3 hb4))⟩

set_option maxHeartbeats 1000000 in
theorem walk_NameTargets (s : ByteArray) (w : World) :
    Calls Try.prog 5 #[.string s] w fun e w' => e = .returned (.bool true) ∧ Below w.heap.size w w' := by
  have hl := cutL_len s (fullB s)
  go_enter Try.func5, Try.ntmps5
  go_wp2_with (first
    | (go_at_call 15; refine (target_any _ _).mono ?_; rintro e w1 ⟨v1, rfl, hown1, hb1⟩)
    | (go_at_call 16; refine (rtarget_any _ _).mono ?_; rintro e w2 ⟨v2, rfl, hown2, hb2⟩; obtain ⟨a1, cap1, rfl, hrow1⟩ := (hown1.below hb2).row; obtain ⟨a2, cap2, rfl, hrow2⟩ := hown2.row)
    | (go_at_call 14; refine (same_any _ _ _ _ _ _ hrow1 hrow2 (by omega)).mono ?_; rintro e w3 ⟨rfl, hb3⟩)
    | (go_at_call 11; refine (awake_any _).mono ?_; rintro e w4 ⟨rfl, hb4⟩))
  go_ret
  exact ⟨rfl, chainB hb1 (chainB hb2 (chainB hb3 hb4))⟩

set_option maxHeartbeats 1000000 in
theorem walk_NameParents (s : ByteArray) (w : World) :
    Calls Try.prog 6 #[.string s] w fun e w' => e = .returned (.bool true) ∧ Below w.heap.size w w' := by
  have hl := parL_len s
  go_enter Try.func6, Try.ntmps6
  go_wp2_with (first
    | (go_at_call 17; refine (parent_any _ _).mono ?_; rintro e w1 ⟨v1, rfl, hown1, hb1⟩)
    | (go_at_call 18; refine (rparent_any _ _).mono ?_; rintro e w2 ⟨v2, rfl, hown2, hb2⟩; obtain ⟨a1, cap1, rfl, hrow1⟩ := (hown1.below hb2).row; obtain ⟨a2, cap2, rfl, hrow2⟩ := hown2.row)
    | (go_at_call 14; refine (same_any _ _ _ _ _ _ hrow1 hrow2 (by omega)).mono ?_; rintro e w3 ⟨rfl, hb3⟩)
    | (go_at_call 11; refine (awake_any _).mono ?_; rintro e w4 ⟨rfl, hb4⟩))
  go_ret
  exact ⟨rfl, chainB hb1 (chainB hb2 (chainB hb3 hb4))⟩
end Go.Proofs.Ytehpaanpkiidaaa
