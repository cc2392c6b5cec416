/- The walk of the law NameSlashes: it returns true. -/
import Derived.Test.YtehpaanpkiidaaaNmE
import Derived.Test.YtehpaanpkiidaaaNmFacts
import Derived.Deep.RegionHeld3
import Derived.Deep.RegionWith
namespace Go.Proofs.Ytehpaanpkiidaaa
open Go.RowKit

theorem undrew {B : Nat} {w w' : World} (h : Below B w.drew w') : Below B w w' := ⟨h.os, h.tape, h.output, h.size, h.block⟩

def plc (v : Int) (n : Nat) : Nat := if Int.tmod v n < 0 then (Int.tmod v n + n).toNat else (Int.tmod v n).toNat
theorem plc_lt (v : Int) (n : Nat) (hn : 0 < n) : plc v n < n := by
  have h1 : -(n : Int) < Int.tmod v n := by
    have := Int.lt_tmod_of_pos v (b := (n : Int)) (by omega); omega
  have h2 : Int.tmod v n < n := Int.tmod_lt_of_pos v (by omega)
  unfold plc
  split <;> omega
theorem place_any (v N : Int) (n : Nat) (w : World) (hN : N = n) (hn : 0 < n) (hn2 : n ≤ 1000) :
    Calls Try.prog 20 #[.int .i64 v, .int .i64 N] w fun e w' => e = .returned (.int .i64 (plc v n)) ∧ w' = w := by
  subst hN
  have h1 : -(n : Int) < Int.tmod v n := by
    have := Int.lt_tmod_of_pos v (b := (n : Int)) (by omega); omega
  have h2 : Int.tmod v n < n := Int.tmod_lt_of_pos v (by omega)
  have HP : Hid (plc v n = if Int.tmod v n < 0 then (Int.tmod v n + n).toNat else (Int.tmod v n).toNat) := (rfl : plc v n = _)
  obtain ⟨r, hr⟩ : ∃ r, Int.tmod v n = r := ⟨_, rfl⟩
  have hn0 : ¬ (n : Int) = 0 := by omega
  rw [hr] at h1 h2 HP
  go_enter Try.func20, Try.ntmps20
  by_cases hneg : r < 0
  · go_wp2
    go_ret
    refine ⟨?_, rfl⟩
    have e := HP.out
    rw [if_pos hneg] at e
    rw [show ((plc v n : Nat) : Int) = r + n by omega]
    rfl
  · go_wp2
    go_ret
    refine ⟨?_, rfl⟩
    have e := HP.out
    rw [if_neg (by omega)] at e
    rw [show ((plc v n : Nat) : Int) = r by omega]
    rfl

set_option maxHeartbeats 4000000 in
theorem walk_NameSlashes (s : ByteArray) (v : Int) (_ : (Lit.int .i64 v).wf = true) (w : World) :
    Calls Try.prog 8 #[.string s, .int .i64 v] w fun e w' => e = .returned (.bool true) ∧ Below w.heap.size w w' := by
  obtain ⟨E, hE⟩ : ∃ E, cutE s (rootB s) = E := ⟨_, rfl⟩
  go_enter Try.func8, Try.ntmps8
  by_cases h0 : E = 0
  · rw [h0] at hE
    clear h0
    obtain ⟨hD, hL⟩ := cut_zero hE
    obtain ⟨h1, h2, h3, h4⟩ := (cut_ok _ _).1 hE
    have hchk : ∀ i x, (pieces s)[i]? = some x → dotsB x = true ∨ chkE x = 0 := fun i x hx => piece_chk hE (List.mem_of_getElem? hx)
    have hll : (pieces s).length ≤ 97 := Nat.le_trans (pcs_len s _) (by omega)
    have hk := plc_lt v (s.size + 1) (by omega)
    have HM : Hid (∀ k, s.size < 96 → k ≤ s.size → (k < s.size → bt s k = 47) → cutE (more s k) (rootB (more s k)) = 0 ∧ cutL (more s k) (rootB (more s k)) = pieces s ∧ cutD (more s k) (rootB (more s k)) = dirB (more s k)) := fun k hs hk hb => by
      have := more_cut hE hs hk hb
      exact ⟨this, by rw [(cut_zero this).2, more_pieces hk hb], (cut_zero this).1⟩
    have HI : Hid (cutE s (rootB s) = 0 ∧ cutD s (rootB s) = dirB s ∧ cutL s (rootB s) = pieces s) := ⟨hE, hD, hL⟩
    have HC : Hid (∀ (i : Nat) (x : ByteArray), (pieces s)[i]? = some x → dotsB x = true ∨ chkE x = 0) := hchk
    obtain ⟨D, hDD⟩ : ∃ D, dirB s = D := ⟨_, rfl⟩
    have HD : Hid (dirB s = D) := hDD
    obtain ⟨L, hLL⟩ : ∃ L, pieces s = L := ⟨_, rfl⟩
    obtain ⟨k, hkk⟩ : ∃ k, plc v (s.size + 1) = k := ⟨_, rfl⟩
    have HK : Hid (plc v (s.size + 1) = k) := hkk
    rw [hkk] at hk
    rw [hLL] at HM HI HC hll
    clear hE hD hL h2 h3 h4 hchk hDD hLL hkk
    go_wp2_with (go_at_call 12; refine (split_any _ _).mono ?_; rintro e w1 ⟨v1, rfl, hown, hb⟩; rw [HI.out.1, HI.out.2.1, HD.out]; rw [HI.out.2.2] at hown; obtain ⟨a, cap, rfl, hrow⟩ := hown.row)
    clear hown
    go_loopw [8] (fun i wr => ∃ j : Nat, j ≤ L.length ∧ i = .int .i64 j ∧ Below w1.heap.size w1 wr) (fun i _ => L.length - (intOf i).toNat)
    case atStart => exact ⟨0, Nat.zero_le _, rfl, Below.refl _ _⟩
    case round =>
      obtain ⟨j, hj, rfl, hb2⟩ := hrel
      by_cases hlt : j < L.length
      · rcases RowS.below hrow hb2 with h0 | ⟨g, off, rfl, hbs, hc⟩
        · rw [h0] at hlt; simp at hlt
        obtain ⟨x, hx⟩ : ∃ x, L[j]? = some x := ⟨_, List.getElem?_eq_getElem hlt⟩
        have hcell := hc j x hx
        have hch := HC.out j x hx
        have hji : (j : Int) < (L.length : Int) := by omega
        clear hc hx
        cases hd1 : x.toList == [46]
        · cases hd2 : x.toList == [46, 46]
          · have hchk : Hid (chkE x = 0) := by
              rcases hch with h | h
              · unfold dotsB at h; rw [hd1, hd2] at h; cases h
              · exact h
            clear hch
            go_wp2_with (go_at_call 9; refine (check_any _ _).mono ?_; rintro e w3 ⟨rfl, hb3⟩; rw [hchk.out])
            go_roundw
            case rel => exact ⟨j + 1, by omega, by go_num, chainB hb2 hb3⟩
            case measure => simp [intOf]; omega
          · clear hch
            go_wp2
            go_roundw
            case rel => exact ⟨j + 1, by omega, by go_num, hb2⟩
            case measure => simp [intOf]; omega
        · clear hch
          go_wp2
          go_roundw
          case rel => exact ⟨j + 1, by omega, by go_num, hb2⟩
          case measure => simp [intOf]; omega
      · obtain rfl : j = L.length := by omega
        have hrow2 := RowS.below hrow hb2
        have hB := chainB hb hb2
        clear hrow hb hb2
        by_cases hfull : 96 ≤ s.size
        · go_wp2_with (first
            | (go_at_call 20; refine (place_any _ _ (s.size + 1) _ (by omega) (by omega) (by omega)).mono ?_; rintro e w' ⟨rfl, rfl⟩; rw [HK.out])
            | (go_at_call 11; refine (awake_any _).mono ?_; rintro e w4 ⟨rfl, hb4⟩))
          go_ret
          exact ⟨rfl, chainB hB hb4⟩
        · by_cases hks : k < s.size
          · have hki : (k : Int) < (s.size : Int) := by omega
            have hbt : ((s[k].toNat : Int) == 47) = decide (bt s k = 47) := by rw [bt_at s k hks]; exact int_beq _ 47
            by_cases h47 : bt s k = 47
            · have hbn : ((s[k].toNat : Int) != 47) = false := by unfold bne; rw [hbt, decide_eq_true h47]; rfl
              obtain ⟨m1, m2, m3⟩ := HM.out k (by omega) (by omega) (fun _ => h47)
              have HN : Hid (cutE (more s k) (rootB (more s k)) = 0 ∧ cutL (more s k) (rootB (more s k)) = L ∧ cutD (more s k) (rootB (more s k)) = D) := ⟨m1, m2, by rw [m3, more_dir hks h47, HD.out]⟩
              clear m1 m2 m3 hbt h47
              go_wp2_with (go_at_call 20; refine (place_any _ _ (s.size + 1) _ (by omega) (by omega) (by omega)).mono ?_; rintro e w' ⟨rfl, rfl⟩; rw [HK.out])
              go_region_with (go_at_call 12; refine (split_any (more s k) _).mono ?_; rintro e w5 ⟨v5, rfl, hown5, hb5⟩; rw [HN.out.1, HN.out.2.2]; rw [HN.out.2.1] at hown5; obtain ⟨a5, cap5, rfl, hrow5⟩ := hown5.row)
              all_goals
                have hb6 := undrew hb5
                have hrow6 := RowS.below hrow2 hb6
                go_wp2_with (first
                  | (go_at_call 14; refine (same_any _ _ L _ _ _ hrow5 hrow6 (by omega)).mono ?_; rintro e w7 ⟨rfl, hb7⟩)
                  | (go_at_call 11; refine (awake_any _).mono ?_; rintro e w8 ⟨rfl, hb8⟩))
                go_ret
                exact ⟨rfl, chainB hB (chainB hb6 (chainB hb7 hb8))⟩
            · have hbn : ((s[k].toNat : Int) != 47) = true := by unfold bne; rw [hbt, decide_eq_false h47]; rfl
              go_wp2_with (first
                | (go_at_call 20; refine (place_any _ _ (s.size + 1) _ (by omega) (by omega) (by omega)).mono ?_; rintro e w' ⟨rfl, rfl⟩; rw [HK.out])
                | (go_at_call 11; refine (awake_any _).mono ?_; rintro e w4 ⟨rfl, hb4⟩))
              go_ret
              exact ⟨rfl, chainB hB hb4⟩
          · have hke : ((k : Int) == (s.size : Int)) = true := by rw [int_beq]; exact decide_eq_true (by omega)
            have hkl : (k : Int) ≤ (s.size : Int) := by omega
            have hkg : (s.size : Int) ≤ (k : Int) := by omega
            obtain ⟨m1, m2, m3⟩ := HM.out k (by omega) (by omega) (fun h => absurd h hks)
            rw [show dirB (more s k) = true by rw [show k = s.size by omega]; exact more_dir_end s] at m3
            have HN : Hid (cutE (more s k) (rootB (more s k)) = 0 ∧ cutL (more s k) (rootB (more s k)) = L ∧ cutD (more s k) (rootB (more s k)) = true) := ⟨m1, m2, m3⟩
            clear m1 m2 m3
            go_wp2_with (go_at_call 20; refine (place_any _ _ (s.size + 1) _ (by omega) (by omega) (by omega)).mono ?_; rintro e w' ⟨rfl, rfl⟩; rw [HK.out])
            go_region_with (go_at_call 12; refine (split_any (more s k) _).mono ?_; rintro e w5 ⟨v5, rfl, hown5, hb5⟩; rw [HN.out.1, HN.out.2.2]; rw [HN.out.2.1] at hown5; obtain ⟨a5, cap5, rfl, hrow5⟩ := hown5.row)
            all_goals
              have hb6 := undrew hb5
              have hrow6 := RowS.below hrow2 hb6
              go_wp2_with (first
                | (go_at_call 14; refine (same_any _ _ L _ _ _ hrow5 hrow6 (by omega)).mono ?_; rintro e w7 ⟨rfl, hb7⟩)
                | (go_at_call 11; refine (awake_any _).mono ?_; rintro e w8 ⟨rfl, hb8⟩))
              go_ret
              exact ⟨rfl, chainB hB (chainB hb6 (chainB hb7 hb8))⟩
  · obtain ⟨hD, hL⟩ := cut_bad (by rw [hE]; exact h0)
    have HI : Hid (cutE s (rootB s) = E ∧ cutD s (rootB s) = false ∧ cutL s (rootB s) = []) := ⟨hE, hD, hL⟩
    clear hE hD hL
    go_wp2_with (first
      | (go_at_call 12; refine (split_any _ _).mono ?_; rintro e w1 ⟨v1, rfl, hown, hb⟩; rw [HI.out.1, HI.out.2.1]; rw [HI.out.2.2] at hown; obtain ⟨a, cap, rfl, hrow⟩ := hown.row)
      | (go_at_call 11; refine (awake_any _).mono ?_; rintro e w4 ⟨rfl, hb4⟩))
    go_ret
    exact ⟨rfl, chainB hb hb4⟩
end Go.Proofs.Ytehpaanpkiidaaa
