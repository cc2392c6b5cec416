/- The contracts of package name's Check, Split, Target and Parent, and that the law's own example is answered. -/
import Derived.Test.YtjelggpkeogebaaNmQ
namespace Go.Proofs.Ytjelggpkeogebaa
open Go.RowKit

theorem has0 (s : ByteArray) (w : World) : Calls Try.prog 68 #[.string s, .int .i32 0] w fun e w' => e = .returned (.bool (hasB s 0)) ∧ Below w.heap.size w w' := has_any s 0 w (by decide)
theorem has_z (s : ByteArray) (z : Int) (w : World) (h0 : 0 ≤ z) (h1 : z < 128) : Calls Try.prog 68 #[.string s, .int .i32 z] w fun e w' => e = .returned (.bool (hasB s z.toNat)) ∧ Below w.heap.size w w' := by
  obtain ⟨c, rfl⟩ : ∃ c : Nat, z = c := ⟨z.toNat, by omega⟩
  exact has_any s c w (by omega)

set_option maxHeartbeats 2000000 in
theorem check_any (s : ByteArray) (w : World) : Calls Try.prog 40 #[.string s] w fun e w' => e = .returned (.int .i64 (chkE s)) ∧ Below w.heap.size w w' := by
  go_enter Try.func40, Try.ntmps40
  by_cases h1 : 12 < s.size
  · have he : chkE s = 11 := by unfold chkE; rw [if_pos h1]
    go_wp2
    go_ret
    exact ⟨by rw [he]; rfl, Below.refl _ _⟩
  · cases h2 : s.toList == []
    · have hz : ¬ s.size = 0 := by rw [toList_nil] at h2; exact of_decide_eq_false h2
      cases h3 : dotsB s
      · cases h4 : hasB s 0
        · cases h5 : hasB s 47
          · have he : chkE s = 0 := by unfold chkE; rw [if_neg h1, if_neg (by rw [h3, h4, h5]; simp [hz])]
            go_wp2_with (first
              | (go_at_call 67; refine (dots_any _ _).mono ?_; rintro e w' ⟨rfl, rfl⟩; rw [h3])
              | (go_at_call 68; refine (has_z _ _ _ (by decide) (by decide)).mono ?_; first | (rintro e w1 ⟨rfl, hb1⟩; rw [show hasB s (0 : Int).toNat = false from h4]) | (rintro e w2 ⟨rfl, hb2⟩; rw [show hasB s (47 : Int).toNat = _ from h5])))
            go_ret
            exact ⟨by rw [he]; rfl, chainB hb1 hb2⟩
          · have he : chkE s = 10 := by unfold chkE; rw [if_neg h1, if_pos (by rw [h5]; simp)]
            go_wp2_with (first
              | (go_at_call 67; refine (dots_any _ _).mono ?_; rintro e w' ⟨rfl, rfl⟩; rw [h3])
              | (go_at_call 68; refine (has_z _ _ _ (by decide) (by decide)).mono ?_; first | (rintro e w1 ⟨rfl, hb1⟩; rw [show hasB s (0 : Int).toNat = false from h4]) | (rintro e w2 ⟨rfl, hb2⟩; rw [show hasB s (47 : Int).toNat = _ from h5])))
            go_ret
            exact ⟨by rw [he]; rfl, chainB hb1 hb2⟩
        · have he : chkE s = 10 := by unfold chkE; rw [if_neg h1, if_pos (by rw [h4]; simp)]
          go_wp2_with (first
            | (go_at_call 67; refine (dots_any _ _).mono ?_; rintro e w' ⟨rfl, rfl⟩; rw [h3])
            | (go_at_call 68; refine (has0 _ _).mono ?_; rintro e w1 ⟨rfl, hb1⟩; rw [h4]))
          go_ret
          exact ⟨by rw [he]; rfl, hb1⟩
      · have he : chkE s = 10 := by unfold chkE; rw [if_neg h1, if_pos (by rw [h3]; simp)]
        go_wp2_with (go_at_call 67; refine (dots_any _ _).mono ?_; rintro e w' ⟨rfl, rfl⟩; rw [h3])
        go_ret
        exact ⟨by rw [he]; rfl, Below.refl _ _⟩
    · have hz : s.size = 0 := by rw [toList_nil] at h2; exact of_decide_eq_true h2
      have he : chkE s = 10 := by unfold chkE; rw [if_neg h1, if_pos (.inl hz)]
      go_wp2
      go_ret
      exact ⟨by rw [he]; rfl, Below.refl _ _⟩

/-- a component among the first ones is too long -/
theorem long_of {l : List ByteArray} {i : Nat} {x : ByteArray} (h : l[i]? = some x) (hx : 12 < x.size) : longB l = true := by
  unfold longB; rw [List.any_eq_true]
  exact ⟨x, List.mem_of_getElem? h, decide_eq_true hx⟩
theorem long_not {l : List ByteArray} (h : ∀ (i : Nat) (x : ByteArray), l[i]? = some x → x.size ≤ 12) : longB l = false := by
  unfold longB; rw [List.any_eq_false]
  intro x hx
  obtain ⟨i, hi⟩ := List.getElem?_of_mem hx
  have := h i x hi
  simp; omega

set_option maxHeartbeats 2000000 in
theorem cut_any (s : ByteArray) (b : Bool) (w : World) (hb0 : b = true → 0 < s.size) :
    Calls Try.prog 84 #[.string s, .bool b] w fun e w' => ∃ v, e = .returned (.tuple #[v, .bool (cutD s b), .int .i64 (cutE s b)]) ∧ Own w' w.heap.size v (cutL s b) ∧ Below w.heap.size w w' := by
  go_enter Try.func84, Try.ntmps84
  by_cases h1 : 96 < s.size
  · have he : cutE s b = 13 := by unfold cutE; rw [if_pos h1]
    have hd : cutD s b = false := by unfold cutD; rw [he]; rfl
    have hl : cutL s b = [] := by unfold cutL; rw [he]; rfl
    rw [he, hd, hl]
    go_wp2
    go_ret3
    exact ⟨_, rfl, Own.nil _ _, Below.refl _ _⟩
  cases b with
  | false =>
    have he : cutE s false = 12 := by unfold cutE; rw [if_neg h1, if_pos (.inl rfl)]
    have hd : cutD s false = false := by unfold cutD; rw [he]; rfl
    have hl : cutL s false = [] := by unfold cutL; rw [he]; rfl
    rw [he, hd, hl]
    go_wp2
    go_ret3
    exact ⟨_, rfl, Own.nil _ _, Below.refl _ _⟩
  | true =>
  have hpos := hb0 rfl
  clear hb0
  cases h2 : hasB s 0
  · have hpl : (pieces s).length ≤ s.size + 1 := pcs_len s _
    go_wp2_with (first
      | (go_at_call 68; refine (has0 _ _).mono ?_; rintro e w1 ⟨rfl, hb1⟩; rw [h2])
      | (go_at_call 96; refine (pieces_any _ _ (by omega)).mono ?_; rintro e w2 ⟨v, rfl, hown, hb2⟩; obtain ⟨a, cap, rfl, hrow⟩ := hown.row))
    have hb := chainB hb1 hb2
    have hown1 := hown.le hb1.size
    clear hown hb1 hb2
    go_loop [4, 22] (fun v i => v = .slice a (pieces s).length cap ∧ ∃ k : Nat, k ≤ (pieces s).length ∧ i = .int .i64 k ∧ ∀ j x, j < k → (pieces s)[j]? = some x → x.size ≤ 12) (fun _ i => (pieces s).length - (intOf i).toNat)
    case atStart => exact ⟨rfl, 0, Nat.zero_le _, rfl, fun j x h => by omega⟩
    case round =>
      obtain ⟨rfl, k, hk, rfl, hall⟩ := hrel
      by_cases hlt : k < (pieces s).length
      · rcases hrow with h0 | ⟨g, off, rfl, hbs, hc⟩
        · rw [h0] at hlt; simp at hlt
        obtain ⟨x, hx⟩ : ∃ x, (pieces s)[k]? = some x := ⟨_, List.getElem?_eq_getElem hlt⟩
        have hcell := hc k x hx
        by_cases hlong : 12 < x.size
        · have he : cutE s true = 11 := by unfold cutE; rw [if_neg h1, if_neg (by rw [h2]; simp), if_pos (long_of hx hlong)]
          have hd : cutD s true = false := by unfold cutD; rw [he]; rfl
          have hl : cutL s true = [] := by unfold cutL; rw [he]; rfl
          clear hc hall hown1 hx
          have HE : Hid (cutE s true = 11 ∧ cutD s true = false ∧ cutL s true = []) := ⟨he, hd, hl⟩
          clear he hd hl
          go_wp2
          go_ret3
          rw [HE.out.1, HE.out.2.1, HE.out.2.2]
          exact ⟨_, rfl, Own.nil _ _, hb⟩
        · have hall2 : ∀ j y, j < k + 1 → (pieces s)[j]? = some y → y.size ≤ 12 := fun j y hj hy => by
            by_cases hjk : j = k
            · subst hjk; rw [hx] at hy; cases hy; omega
            · exact hall j y (by omega) hy
          clear hc hall hown1 hx
          go_wp2
          go_round
          case rel => exact ⟨rfl, k + 1, by omega, by go_num, hall2⟩
          case measure => simp [intOf]; omega
      · have hkl : k = (pieces s).length := by omega
        have hnl : longB (pieces s) = false := long_not fun i x hx => hall i x (by have := (List.getElem?_eq_some_iff.1 hx).1; omega) hx
        have he : cutE s true = 0 := by unfold cutE; rw [if_neg h1, if_neg (by rw [h2]; simp), hnl]; rfl
        have hd : cutD s true = dirB s := by unfold cutD; rw [he]; rfl
        have hl : cutL s true = pieces s := by unfold cutL; rw [he]; rfl
        have HE : Hid (cutE s true = 0 ∧ cutD s true = dirB s ∧ cutL s true = pieces s) := ⟨he, hd, hl⟩
        clear hall hnl he hd hl
        subst hkl
        have hix : s.size - 1 < s.size := by omega
        have hbt : ((s[s.size - 1].toNat : Int) == 47) = decide (bt s (s.size - 1) = 47) := by rw [bt_at s _ hix]; exact int_beq _ 47
        have HD : Hid (dirB s = (decide (bt s (s.size - 1) = 47) || dotsB (lastT (pieces s)))) := (rfl : dirB s = _)
        cases h6 : decide (bt s (s.size - 1) = 47)
        · rw [h6] at hbt
          go_wp2_with (first
            | (go_at_call 97; refine (end_any _ _ _ _ hrow (by omega)).mono ?_; rintro e w' ⟨rfl, rfl⟩)
            | (go_at_call 67; refine (dots_any _ _).mono ?_; rintro e w' ⟨rfl, rfl⟩))
          go_ret3
          rw [HE.out.1, HE.out.2.1, HE.out.2.2, HD.out, h6]
          exact ⟨_, rfl, hown1, hb⟩
        · rw [h6] at hbt
          go_wp2
          go_ret3
          rw [HE.out.1, HE.out.2.1, HE.out.2.2, HD.out, h6]
          exact ⟨_, rfl, hown1, hb⟩
  · have he : cutE s true = 12 := by unfold cutE; rw [if_neg h1, if_pos (.inr h2)]
    have hd : cutD s true = false := by unfold cutD; rw [he]; rfl
    have hl : cutL s true = [] := by unfold cutL; rw [he]; rfl
    rw [he, hd, hl]
    go_wp2_with (go_at_call 68; refine (has0 _ _).mono ?_; rintro e w1 ⟨rfl, hb1⟩; rw [h2])
    go_ret3
    exact ⟨_, rfl, Own.nil _ _, hb1⟩
end Go.Proofs.Ytjelggpkeogebaa
