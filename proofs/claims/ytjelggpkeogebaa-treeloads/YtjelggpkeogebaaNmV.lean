/- The contracts of the chapter's own answer (package vistaref02): it answers what the plain functions say. -/
import Derived.Test.YtjelggpkeogebaaNmT
namespace Go.Proofs.Ytjelggpkeogebaa
open Go.RowKit

set_option maxRecDepth 20000 in
set_option maxHeartbeats 1000000 in
theorem rhas_any (s : ByteArray) (c : Nat) (w : World) (hs : s.size ≤ 1000) :
    Calls Try.prog 44 #[.string s, .int .u8 c] w fun e w' => e = .returned (.bool (hasB s c)) ∧ w' = w := by
  go_enter Try.func44, Try.ntmps44
  go_wp2
  go_loop [5] (fun i => ∃ k : Nat, k ≤ s.size ∧ i = .int .i64 k ∧ hasF s c k = false) (fun i => s.size - (intOf i).toNat)
  case atStart => exact ⟨0, Nat.zero_le _, rfl, rfl⟩
  case round =>
    obtain ⟨k, hk, rfl, hf⟩ := hrel
    by_cases hp : k < s.size
    · have hb : ((s[k].toNat : Int) == (c : Int)) = decide (bt s k = c) := by rw [bt_at s k hp]; exact int_beq _ _
      have hki : (k : Int) < (s.size : Int) := by omega
      by_cases he : bt s k = c
      · rw [decide_eq_true he] at hb
        have hh := hasB_of hp he
        clear hf he
        go_wp2
        go_ret
        exact ⟨by first | rfl | (rw [hh]; rfl), rfl⟩
      · rw [decide_eq_false he] at hb
        have hf2 : hasF s c (k + 1) = false := hasF_no hf fun i h1 h2 => by
          obtain rfl : i = k := by omega
          exact he
        clear hf he
        go_wp2
        go_round
        case rel => exact ⟨k + 1, by omega, by go_num, hf2⟩
        case measure => simp [intOf] <;> omega
    · have hh : hasB s c = false := by unfold hasB; have : k = s.size := by omega
                                       rw [← this]; exact hf
      obtain rfl : k = s.size := by omega
      clear hf
      go_wp2
      go_ret
      exact ⟨by first | rfl | (rw [hh]; rfl), rfl⟩
theorem rhas_z (s : ByteArray) (z : Int) (w : World) (hs : s.size ≤ 1000) (h0 : 0 ≤ z) : Calls Try.prog 44 #[.string s, .int .u8 z] w fun e w' => e = .returned (.bool (hasB s z.toNat)) ∧ w' = w := by
  obtain ⟨c, rfl⟩ : ∃ c : Nat, z = c := ⟨z.toNat, by omega⟩
  exact rhas_any s c w hs

set_option maxRecDepth 20000 in
set_option maxHeartbeats 2000000 in
theorem rcheck_any (s : ByteArray) (w : World) : Calls Try.prog 25 #[.string s] w fun e w' => e = .returned (.int .i64 (chkE s)) ∧ w' = w := by
  go_enter Try.func25, Try.ntmps25
  by_cases h1 : 12 < s.size
  · have he : chkE s = 11 := by unfold chkE; rw [if_pos h1]
    go_wp2
    go_ret
    exact ⟨by first | rfl | (rw [he]; rfl), rfl⟩
  · cases h2 : s.toList == []
    · have hz : ¬ s.size = 0 := by rw [toList_nil] at h2; exact of_decide_eq_false h2
      cases h3 : s.toList == [46]
      · cases h3' : s.toList == [46, 46]
        · have hd : dotsB s = false := by unfold dotsB; rw [h3, h3']; rfl
          cases h4 : hasB s 0
          · cases h5 : hasB s 47
            · have he : chkE s = 0 := by unfold chkE; rw [if_neg h1, if_neg (by rw [hd, h4, h5]; simp [hz])]
              go_wp2_with (go_at_call 44; refine (rhas_z _ _ _ (by omega) (by decide)).mono ?_; rintro e w1 ⟨rfl, rfl⟩; first | (rw [show hasB s (0 : Int).toNat = false from h4]) | (rw [show hasB s (47 : Int).toNat = _ from h5]))
              go_ret
              exact ⟨by first | rfl | (rw [he]; rfl), rfl⟩
            · have he : chkE s = 10 := by unfold chkE; rw [if_neg h1, if_pos (by rw [h5]; simp)]
              go_wp2_with (go_at_call 44; refine (rhas_z _ _ _ (by omega) (by decide)).mono ?_; rintro e w1 ⟨rfl, rfl⟩; first | (rw [show hasB s (0 : Int).toNat = false from h4]) | (rw [show hasB s (47 : Int).toNat = _ from h5]))
              go_ret
              exact ⟨by first | rfl | (rw [he]; rfl), rfl⟩
          · have he : chkE s = 10 := by unfold chkE; rw [if_neg h1, if_pos (by rw [h4]; simp)]
            go_wp2_with (go_at_call 44; refine (rhas_z _ _ _ (by omega) (by decide)).mono ?_; rintro e w1 ⟨rfl, rfl⟩; rw [show hasB s (0 : Int).toNat = _ from h4])
            go_ret
            exact ⟨by first | rfl | (rw [he]; rfl), rfl⟩
        · have he : chkE s = 10 := by unfold chkE; rw [if_neg h1, if_pos (by unfold dotsB; rw [h3']; simp)]
          go_wp2
          go_ret
          exact ⟨by first | rfl | (rw [he]; rfl), rfl⟩
      · have he : chkE s = 10 := by unfold chkE; rw [if_neg h1, if_pos (by unfold dotsB; rw [h3]; simp)]
        go_wp2
        go_ret
        exact ⟨by first | rfl | (rw [he]; rfl), rfl⟩
    · have hz : s.size = 0 := by rw [toList_nil] at h2; exact of_decide_eq_true h2
      have he : chkE s = 10 := by unfold chkE; rw [if_neg h1, if_pos (.inl hz)]
      go_wp2
      go_ret
      exact ⟨by first | rfl | (rw [he]; rfl), rfl⟩

set_option maxRecDepth 20000 in
set_option maxHeartbeats 2000000 in
theorem rPieces_any (s : ByteArray) (w : World) (hs : s.size ≤ 1000) :
    Calls Try.prog 71 #[.string s] w fun e w' => ∃ v, e = .returned v ∧ Own w' w.heap.size v (pieces s) ∧ Below w.heap.size w w' := by
  obtain ⟨i0, hi, hz0, hz1, hz2⟩ := info_parts Try.infoS
  go_enter Try.func71, Try.ntmps71
  go_wp2
  go_loopw [3, 4, 5] (fun v f i wr => ∃ k : Nat, f = .int .i64 (frm s k) ∧ i = .int .i64 k ∧ k ≤ s.size + 1 ∧ Own wr w.heap.size v (pcs s k) ∧ Below w.heap.size w wr) (fun _ _ i _ => s.size + 1 - (intOf i).toNat)
  case atStart => exact ⟨0, rfl, rfl, Nat.zero_le _, Own.nil _ _, Below.refl _ _⟩
  case round =>
    obtain ⟨k, rfl, rfl, hps, hown, hb⟩ := hrel
    by_cases hp : k ≤ s.size
    · by_cases he : bt s k = 47
      · have e1 := frm_succ_cut he
        have hfl := frm_le s k
        have hkey : (k = s.size) ∨ (∃ h : k < s.size, ((s[k].toNat : Int) == 47) = true) := by
          by_cases h : k = s.size
          · exact .inl h
          · refine .inr ⟨by omega, ?_⟩
            have : ((s[k].toNat : Int) == 47) = decide (bt s k = 47) := by rw [bt_at s k (by omega)]; exact int_beq _ 47
            rw [this, decide_eq_true he]
        by_cases hf : frm s k < k
        · have e2 := pcs_succ_cut he hf
          have hlen := pcs_len s k
          have hfi : ((frm s k : Nat) : Int) < (k : Int) := by omega
          have hki : (k : Int) ≤ (s.size : Int) := by omega
          have fin : ∀ v' w1, w1.ownsRow w.heap.size 9 1 v' ((pcs s k).length + 1) ((pcs s k).map Value.string ++ [.string (s.extract (frm s k) k)]) → ((wr.alloc (.cells #[.string (s.extract (frm s k) k)] 9))).grownBy w1 u3.ownBlock → Own w1 w.heap.size v' (pcs s (k + 1)) ∧ Below w.heap.size w w1 := by
            intro v' w1 hown' hgrow
            refine ⟨?_, Below.grown (hb.alloc hb.size _) hgrow (by have := hb.size; simp; omega) (fun q hq => (hown.lt q hq).1)⟩
            unfold Own
            rw [e2, List.length_append, List.map_append]; exact hown'
          have FIN := fin
          clear fin he
          rcases hkey with hkey | ⟨hlt, hkey⟩
          · subst hkey
            go_wp2_with (first
              | (at_builtin; refine wpList_append_own _ rfl _ _ 61 rfl (w.heap.size) 9 i0 (.string ⟨#[]⟩) 1 16 Try.underlying61 hi hz0 hz1 hz2 rfl (by decide) _ _ _ rfl (hown.alloc _) ⟨wr.heap.size, 0, none⟩ 1 1 [.string (s.extract (frm s s.size) s.size)] rfl rfl ?c1 ?c2 ?c3 ?c4 ?c5 ?_))
            case c1 =>
              intro j u hj
              match j, hj with
              | 0, hj => simp at hj; subst hj; simp [Addr.add]
            case c2 => intro u hu; simp at hu; subst hu; rfl
            case c3 => unfold maxLen; omega
            case c4 => omega
            case c5 => have := hb.size; simp; omega
            intro v' w1 hown' hgrow _
            have hfin := FIN v' w1 hown' hgrow
            clear hown' hgrow FIN hown
            go_wp2
            go_roundw
            case rel => exact ⟨s.size + 1, by rw [e1]; go_num, by go_num, by omega, hfin.1, hfin.2⟩
            case measure => simp [intOf] <;> omega
          · have hkk : ((k : Int) == (s.size : Int)) = false := by rw [int_beq]; exact decide_eq_false (by omega)
            have hki2 : (k : Int) < (s.size : Int) := by omega
            go_wp2_with (first
              | (at_builtin; refine wpList_append_own _ rfl _ _ 61 rfl (w.heap.size) 9 i0 (.string ⟨#[]⟩) 1 16 Try.underlying61 hi hz0 hz1 hz2 rfl (by decide) _ _ _ rfl (hown.alloc _) ⟨wr.heap.size, 0, none⟩ 1 1 [.string (s.extract (frm s k) k)] rfl rfl ?c1 ?c2 ?c3 ?c4 ?c5 ?_))
            case c1 =>
              intro j u hj
              match j, hj with
              | 0, hj => simp at hj; subst hj; simp [Addr.add]
            case c2 => intro u hu; simp at hu; subst hu; rfl
            case c3 => unfold maxLen; omega
            case c4 => omega
            case c5 => have := hb.size; simp; omega
            intro v' w1 hown' hgrow _
            have hfin := FIN v' w1 hown' hgrow
            clear hown' hgrow FIN hown
            go_wp2
            go_roundw
            case rel => exact ⟨k + 1, by rw [e1]; go_num, by go_num, by omega, hfin.1, hfin.2⟩
            case measure => simp [intOf] <;> omega
        · have e2 := pcs_succ_not (s := s) (i := k) (fun h => hf h.2)
          have hfd : decide ((frm s k : Int) < (k : Int)) = false := decide_eq_false (by omega)
          rw [← e2] at hown
          clear he
          rcases hkey with hkey | ⟨hlt, hkey⟩
          · subst hkey
            go_wp2
            go_roundw
            case rel => exact ⟨s.size + 1, by rw [e1]; go_num, by go_num, by omega, hown, hb⟩
            case measure => simp [intOf] <;> omega
          · have hkk : ((k : Int) == (s.size : Int)) = false := by rw [int_beq]; exact decide_eq_false (by omega)
            have hki2 : (k : Int) < (s.size : Int) := by omega
            go_wp2
            go_roundw
            case rel => exact ⟨k + 1, by rw [e1]; go_num, by go_num, by omega, hown, hb⟩
            case measure => simp [intOf] <;> omega
      · have hlt : k < s.size := by
          by_cases h : k = s.size
          · exact absurd (bt_end s k (by omega)) he
          · omega
        have e1 := frm_succ_not he
        have e2 := pcs_succ_not (s := s) (i := k) (fun h => he h.1)
        rw [← e2] at hown
        have hkey : ((s[k].toNat : Int) == 47) = false := by
          have : ((s[k].toNat : Int) == 47) = decide (bt s k = 47) := by rw [bt_at s k (by omega)]; exact int_beq _ 47
          rw [this, decide_eq_false he]
        have hkk : ((k : Int) == (s.size : Int)) = false := by rw [int_beq]; exact decide_eq_false (by omega)
        have hki2 : (k : Int) < (s.size : Int) := by omega
        clear he
        go_wp2
        go_roundw
        case rel => exact ⟨k + 1, by rw [e1], by go_num, by omega, hown, hb⟩
        case measure => simp [intOf] <;> omega
    · obtain rfl : k = s.size + 1 := by omega
      go_wp2
      go_ret
      exact ⟨_, rfl, hown, hb⟩
end Go.Proofs.Ytjelggpkeogebaa
