/- The walk of the law NameTwo: it returns true. -/
import Derived.Test.YtehpaanpkiidaabNmE
import Derived.Test.YtehpaanpkiidaabNmFacts
import Derived.Deep.RegionHeld3
namespace Go.Proofs.Ytehpaanpkiidaab
open Go.RowKit

set_option maxHeartbeats 4000000 in
theorem walk_NameTwo (s : ByteArray) (w : World) :
    Calls Try.prog 4 #[.string s] w fun e w' => e = .returned (.bool true) ∧ Below w.heap.size w w' := by
  obtain ⟨E, hE⟩ : ∃ E, cutE s (rootB s) = E := ⟨_, rfl⟩
  go_enter Try.func4, Try.ntmps4
  by_cases h0 : E = 0
  · rw [h0] at hE
    clear h0
    obtain ⟨hD, hL⟩ := cut_zero hE
    obtain ⟨h1, h2, h3, h4⟩ := (cut_ok _ _).1 hE
    have hpos := root_pos h2
    have hf : fullB s = true := by rw [full_iff]; exact decide_eq_true hpos
    have hll : (pieces s).length ≤ 97 := Nat.le_trans (pcs_len s _) (by omega)
    obtain ⟨D, hDD⟩ : ∃ D, dirB s = D := ⟨_, rfl⟩
    obtain ⟨L, hLL⟩ : ∃ L, pieces s = L := ⟨_, rfl⟩
    have HI : Hid (cutE s (rootB s) = 0 ∧ cutD s (rootB s) = D ∧ cutL s (rootB s) = L) := ⟨hE, by rw [hD, hDD], by rw [hL, hLL]⟩
    have HT : Hid (cutE s (fullB s) = 0 ∧ tgtW s = true ∧ cutD s (fullB s) = D ∧ cutL s (fullB s) = L) := by
      have e : cutE s (fullB s) = 0 := by rw [hf, ← h2]; exact hE
      exact ⟨e, by unfold tgtW; rw [e, h2]; rfl, by rw [(cut_zero e).1, hDD], by rw [(cut_zero e).2, hLL]⟩
    rw [hLL] at hll
    by_cases hs2 : 2 ≤ s.size
    · have hbt : ((s[1].toNat : Int) == 47) = decide (bt s 1 = 47) := by rw [bt_at s 1 (by omega)]; exact int_beq _ 47
      have hlen2 : (2 : Int) ≤ (s.size : Int) := by omega
      by_cases h47 : bt s 1 = 47
      · rw [decide_eq_true h47] at hbt
        clear hE hD hL h2 h3 h4 hf hDD hLL h47
        go_wp2_with (first
          | (go_at_call 7; refine (split_any s _).mono ?_; rintro e w1 ⟨v1, rfl, hown1, hb1⟩; rw [HI.out.1, HI.out.2.1]; rw [HI.out.2.2] at hown1)
          | (go_at_call 8; refine (target_any s _).mono ?_; rintro e w2 ⟨v2, rfl, hown2, hb2⟩; rw [HT.out.1, HT.out.2.1, HT.out.2.2.1]; rw [HT.out.2.2.2] at hown2; obtain ⟨a1, cap1, rfl, r1⟩ := (hown1.below hb2).row; obtain ⟨a2, cap2, rfl, r2⟩ := hown2.row)
          | (go_at_call 11; refine (same_any _ _ L _ _ _ r1 r2 (by omega)).mono ?_; rintro e w3 ⟨rfl, hb3⟩)
          | (go_at_call 10; refine (awake_any _).mono ?_; rintro e w4 ⟨rfl, hb4⟩))
        go_ret
        exact ⟨rfl, chainB hb1 (chainB hb2 (chainB hb3 hb4))⟩
      · rw [decide_eq_false h47] at hbt
        have tr : rootB (tail s) = false := by rw [tail_root hs2]; exact decide_eq_false h47
        have t0 := tail_cut hE
        have tf : fullB (tail s) = true := by rw [full_iff]; exact decide_eq_true (by rw [tail_size]; omega)
        have HU : Hid (cutE (tail s) (rootB (tail s)) = 12) := tail_cut_root hE tr
        have HV : Hid (cutE (tail s) (fullB (tail s)) = 0 ∧ tgtW (tail s) = false ∧ cutD (tail s) (fullB (tail s)) = D ∧ cutL (tail s) (fullB (tail s)) = L) := by
          rw [tf]
          refine ⟨t0, ?_, ?_, ?_⟩
          · unfold tgtW; rw [tr, Bool.and_false]
          · rw [(cut_zero t0).1, tail_dir hs2 h2, hDD]
          · rw [(cut_zero t0).2, tail_pieces h2, hLL]
        clear hE hD hL h2 h3 h4 hf hDD hLL h47 tr t0 tf
        go_wp2_with (first
          | (go_at_call_of 7 (Value.string s); refine (split_any s _).mono ?_; rintro e w1 ⟨v1, rfl, hown1, hb1⟩; rw [HI.out.1, HI.out.2.1]; rw [HI.out.2.2] at hown1)
          | (go_at_call_of 8 (Value.string s); refine (target_any s _).mono ?_; rintro e w2 ⟨v2, rfl, hown2, hb2⟩; rw [HT.out.1, HT.out.2.1, HT.out.2.2.1]; rw [HT.out.2.2.2] at hown2; obtain ⟨a1, cap1, rfl, r1⟩ := (hown1.below hb2).row; obtain ⟨a2, cap2, rfl, r2⟩ := hown2.row)
          | (go_at_call 7; refine (split_any (tail s) _).mono ?_; rintro e w4 ⟨v4, rfl, hown4, hb4⟩; rw [HU.out]; have r1' := RowS.below r1 (chainB hb3 hb4))
          | (go_at_call 8; refine (target_any (tail s) _).mono ?_; rintro e w5 ⟨v5, rfl, hown5, hb5⟩; rw [HV.out.1, HV.out.2.1, HV.out.2.2.1]; rw [HV.out.2.2.2] at hown5; obtain ⟨a5, cap5, rfl, r5⟩ := hown5.row; have r1'' := RowS.below r1' hb5)
          | (go_at_call 11; first | (refine (same_any a1 a5 L cap1 cap5 _ r1'' r5 (by omega)).mono ?_; rintro e w6 ⟨rfl, hb6⟩) | (refine (same_any a1 a2 L cap1 cap2 _ r1 r2 (by omega)).mono ?_; rintro e w3 ⟨rfl, hb3⟩))
          | (go_at_call 10; refine (awake_any _).mono ?_; rintro e w7 ⟨rfl, hb7⟩))
        go_ret
        exact ⟨rfl, chainB hb1 (chainB hb2 (chainB hb3 (chainB hb4 (chainB hb5 (chainB hb6 hb7)))))⟩
    · clear hE hD hL h2 h3 h4 hf hDD hLL
      go_wp2_with (first
        | (go_at_call 7; refine (split_any s _).mono ?_; rintro e w1 ⟨v1, rfl, hown1, hb1⟩; rw [HI.out.1, HI.out.2.1]; rw [HI.out.2.2] at hown1)
        | (go_at_call 8; refine (target_any s _).mono ?_; rintro e w2 ⟨v2, rfl, hown2, hb2⟩; rw [HT.out.1, HT.out.2.1, HT.out.2.2.1]; rw [HT.out.2.2.2] at hown2; obtain ⟨a1, cap1, rfl, r1⟩ := (hown1.below hb2).row; obtain ⟨a2, cap2, rfl, r2⟩ := hown2.row)
        | (go_at_call 11; refine (same_any _ _ L _ _ _ r1 r2 (by omega)).mono ?_; rintro e w3 ⟨rfl, hb3⟩)
        | (go_at_call 10; refine (awake_any _).mono ?_; rintro e w4 ⟨rfl, hb4⟩))
      go_ret
      exact ⟨rfl, chainB hb1 (chainB hb2 (chainB hb3 hb4))⟩
  · have HI : Hid (cutE s (rootB s) = E) := hE
    clear hE
    go_wp2_with (first
      | (go_at_call 7; refine (split_any _ _).mono ?_; rintro e w1 ⟨v1, rfl, hown, hb⟩; rw [HI.out])
      | (go_at_call 10; refine (awake_any _).mono ?_; rintro e w4 ⟨rfl, hb4⟩))
    go_ret
    exact ⟨rfl, chainB hb hb4⟩
end Go.Proofs.Ytehpaanpkiidaab
