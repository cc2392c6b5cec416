/- The walk of BagFull. -/
import Derived.Test.YtminjmlneikllaaBgY
namespace Go.Proofs.Ytminjmlneikllaa
open Go.RowKit

def nums (k : Nat) : List (Int × List Int) := (List.range k).map fun (i : Nat) => ((i : Int), [])
theorem nums_len (k : Nat) : (nums k).length = k := by unfold nums; simp
theorem nums_succ (k : Nat) : nums (k + 1) = nums k ++ [((k : Int), [])] := by unfold nums; rw [List.range_succ, List.map_append]; rfl
theorem nums_get (k i : Nat) (h : i < k) : (nums k)[i]? = some ((i : Int), []) := by unfold nums; rw [List.getElem?_map, List.getElem?_range h]; rfl
theorem erase_len {α : Type} (L : List α) (i : Nat) (h : i < L.length) : (L.eraseIdx i).length = L.length - 1 := by rw [List.length_eraseIdx, if_pos h]

theorem sayL_at {ls : List Lt} {i : Nat} {x : Int × List Int} (h : (sayL ls)[i]? = some x) : ∃ p, ls[i]? = some p ∧ p.n = x.1 ∧ p.l = x.2 := by
  unfold sayL at h
  rw [List.getElem?_map] at h
  cases e : ls[i]? with
  | none => rw [e] at h; cases h
  | some p => rw [e] at h; cases h; exact ⟨p, rfl, rfl, rfl⟩

set_option maxHeartbeats 4000000 in
theorem walk_BagFull (n : Int) (t : Int) (_ : (Lit.int .i64 n).wf = true) (_ : (Lit.int .i64 t).wf = true) (w : World) :
    Calls Try.prog 7 #[.int .i64 n, .int .i64 t] w fun e w' => e = .returned (.bool true) ∧ Below w.heap.size w w' := by
  by_cases hn : 1 ≤ n ∧ n ≤ 64
  · obtain ⟨M, rfl⟩ : ∃ M : Nat, n = ((M + 1 : Nat) : Int) := ⟨n.toNat - 1, by omega⟩
    have h2 : M + 1 ≤ 64 := by omega
    have hK := pl_lt t (M + 1) (by omega)
    obtain ⟨K, hK'⟩ : ∃ K, pl t (M + 1) = K := ⟨_, rfl⟩
    have HK : Hid (pl t (M + 1) = K) := hK'
    rw [hK'] at hK
    clear hn hK'
    go_enter Try.func7, Try.ntmps7
    go_wp2_with (go_at_call 8; refine (new_yes (M + 1) _ (by omega) h2).mono ?_; rintro e w1 ⟨b, rfl, hb, hB, hW⟩; have HX : Hid _ := Bx.new w.heap.size hb hB hW hW.size; clear hB hW)
    go_loopw [7] (fun i wr => ∃ k s, k ≤ M + 1 ∧ i = .int .i64 (k : Nat) ∧ Bx w wr w.heap.size b s ∧ s.n = M + 1 ∧ s.say = nums k) (fun i _ => M + 1 - (intOf i).toNat)
    case atStart => exact ⟨0, _, Nat.zero_le _, rfl, HX.out, rfl, rfl⟩
    case round =>
      clear HX
      obtain ⟨k, s, hk, rfl, hX, hsn, hsay⟩ := hrel
      have HX : Hid (Bx w wr w.heap.size b s ∧ s.n = M + 1 ∧ s.say = nums k) := ⟨hX, hsn, hsay⟩
      clear hX hsn hsay
      by_cases hlt : k < M + 1
      · have hki : (k : Int) < (M : Int) + 1 := by omega
        go_wp2_with (go_at_call 12; refine (post_x w w.heap.size b s k _ [] _ HX.out.1 (by rw [HX.out.2.2, HX.out.2.1, nums_len]; exact hlt) (RB.nil _) (by decide)).mono ?_; rintro e w2 ⟨rfl, s2, hS2, hX2⟩; have H2 : Hid (Bx w w2 w.heap.size b s2 ∧ s2.n = M + 1 ∧ s2.say = nums (k + 1)) := ⟨hX2, hS2.n.trans HX.out.2.1, by rw [hS2.say, HX.out.2.2, nums_succ]⟩; clear hS2 hX2)
        go_roundw
        case rel => exact ⟨k + 1, s2, by omega, by go_num, H2.out.1, H2.out.2.1, H2.out.2.2⟩
        case measure => simp [intOf]; omega
      · obtain rfl : k = M + 1 := by omega
        have HF : Hid (s.say.length = M + 1 ∧ s.say.length = s.n) := ⟨by rw [HX.out.2.2, nums_len], by rw [HX.out.2.2, nums_len, HX.out.2.1]⟩
        go_wp2_with (first
          | (go_at_call 12; have _q := H6; refine (post_x w w.heap.size b s6 _ _ [] _ (H6.out.1.alloc _) (by rw [H6.out.2.1, H6.out.2.2]; omega) (RB.nil _) (by decide)).mono ?_; rintro e w7 ⟨rfl, s7, hS7, hX7⟩; have H7 : Hid (Bx w w7 w.heap.size b s7 ∧ s7.say.length = M + 1 ∧ s7.say[M]? = some (99, [])) := ⟨hX7, by rw [hS7.say, List.length_append, H6.out.2.1]; rfl, by rw [hS7.say, List.getElem?_append_right (by rw [H6.out.2.1]; exact Nat.le_refl _), H6.out.2.1, Nat.sub_self]; rfl⟩; clear hS7 hX7)
          | (go_at_call 12; refine (post_fx w w.heap.size b s _ _ _ HX.out.1 HF.out.2).mono ?_; rintro e w2 ⟨rfl, hb2⟩; have H2 : Hid _ := HX.out.1.below hb2; clear hb2)
          | (go_at_call 20; have _q := H3; refine (double_nx w w.heap.size b s _ _ H3.out (by rw [HF.out.1]; omega)).mono ?_; rintro e w4 ⟨rfl, rfl⟩)
          | (go_at_call 20; refine (double_fx w w.heap.size b M s _ H2.out (by rw [HF.out.1]; omega) HF.out.2).mono ?_; rintro e w3 ⟨rfl, hb3⟩; have H3 : Hid _ := H2.out.below hb3; clear hb3)
          | (go_at_call 22; refine (len_x w w.heap.size b s _ H3.out).mono ?_; rintro e w5 ⟨rfl, rfl⟩; rw [HF.out.1])
          | (go_at_call 11; refine (place_any t (M + 1) _ (by omega) (by omega)).mono ?_; rintro e w5 ⟨rfl, rfl⟩; rw [HK.out])
          | (go_at_call 15; refine (take_x w w.heap.size b K s K [] _ H3.out (by rw [HX.out.2.2]; exact nums_get _ _ hK)).mono ?_; rintro e w6 ⟨v6, rfl, ho6, _, s6, hS6, hX6⟩; have H6 : Hid (Bx w w6 w.heap.size b s6 ∧ s6.say.length = M ∧ s6.n = M + 1) := ⟨hX6, by rw [hS6.say, erase_len _ _ (by rw [HF.out.1]; exact hK), HF.out.1]; rfl, hS6.n.trans HX.out.2.1⟩; clear hS6 hX6; obtain ⟨a6, c6, rfl⟩ := owns_len ho6; clear ho6)
          | (go_at_call 24; refine (letters_x w w.heap.size b s7 _ H7.out.1).mono ?_; rintro e w8 ⟨v8, ls8, rfl, hm8, hs8, hb8⟩; have hl8 : ls8.length = M + 1 := (by have := congrArg List.length hs8; unfold sayL at this; rw [List.length_map, H7.out.2.1] at this; exact this); obtain ⟨a8, cap8, rfl⟩ := hm8.len; rw [hl8] at hm8 ⊢; have hq8 : (sayL ls8)[M]? = some (99, []) := (by rw [hs8]; exact H7.out.2.2); obtain ⟨p8, hp8, hpn, hpl⟩ := sayL_at hq8; obtain ⟨g8, av8, cv8, rfl, _, hg8, _, k0, _⟩ := hm8.letter hp8 (Below.refl _ _); rw [hpn] at k0; have H8 : Hid _ := H7.out.1.below hb8; clear hm8 hs8 hb8 hl8 hq8 hp8 hpn hpl)
          | (go_at_call 10; refine (awake_any _).mono ?_; rintro e w9 ⟨rfl, hb9⟩))
        go_ret
        exact ⟨rfl, chainB H8.out.bel hb9⟩
  · go_enter Try.func7, Try.ntmps7
    by_cases hs : n < 1
    · have hd : decide (n < 1) = true := decide_eq_true hs
      go_wp2_with (first
        | (go_at_call 8; refine (new_no n _ (by omega)).mono ?_; rintro e w1 ⟨rfl, rfl⟩)
        | (go_at_call 10; refine (awake_any _).mono ?_; rintro e w2 ⟨rfl, hb2⟩))
      go_ret
      exact ⟨rfl, hb2⟩
    · have hd : decide (n < 1) = false := decide_eq_false hs
      have hd2 : decide (64 < n) = true := decide_eq_true (by omega)
      go_wp2_with (first
        | (go_at_call 8; refine (new_no n _ (by omega)).mono ?_; rintro e w1 ⟨rfl, rfl⟩)
        | (go_at_call 10; refine (awake_any _).mono ?_; rintro e w2 ⟨rfl, hb2⟩))
      go_ret
      exact ⟨rfl, hb2⟩
end Go.Proofs.Ytminjmlneikllaa
