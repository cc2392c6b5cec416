/- The contracts of the chapter's own Split, Target and Parent. -/
import Derived.Test.YtmndnjgbbpkidaaGreatJWLks35
namespace Go.Proofs.YtmndnjgbbpkidaaGreat
section
open Go.RowKit

theorem dots_cut (x : ByteArray) (b : Bool) : ((b || (x.toList == [46])) || (x.toList == [46, 46])) = (b || dotsB x) := by unfold dotsB; rw [Bool.or_assoc]

def rpO (s : ByteArray) : Bool := !longB (pieces s)
def rpD (s : ByteArray) : Bool := rpO s && dirB s
def rpL (s : ByteArray) : List ByteArray := if rpO s = true then pieces s else []
theorem rp_long {s : ByteArray} (h : longB (pieces s) = true) : rpO s = false ∧ rpD s = false ∧ rpL s = [] := by
  have e : rpO s = false := by unfold rpO; rw [h]; rfl
  exact ⟨e, by unfold rpD; rw [e]; rfl, by unfold rpL; rw [e]; rfl⟩
theorem rp_not {s : ByteArray} (h : longB (pieces s) = false) : rpO s = true ∧ rpD s = dirB s ∧ rpL s = pieces s := by
  have e : rpO s = true := by unfold rpO; rw [h]; rfl
  exact ⟨e, by unfold rpD; rw [e]; rfl, by unfold rpL; rw [e]; rfl⟩
theorem dots_none : dotsB (lastT []) = false := by decide +kernel

set_option maxHeartbeats 2000000 in
theorem rpieces_any (s : ByteArray) (w : World) (hs : s.size ≤ 1000) (hpos : 0 < s.size) :
    Calls Tryz.prog 61 #[.string s] w fun e w' => ∃ v, e = .returned (.tuple #[v, .bool (rpD s), .bool (rpO s)]) ∧ Own w' w.heap.size v (rpL s) ∧ Below w.heap.size w w' := by
  have hpl : (pieces s).length ≤ s.size + 1 := pcs_len s _
  go_enter Tryz.func61, Tryz.ntmps61
  go_wp2_with (go_at_call 82; refine (rPieces_any _ _ (by omega)).mono ?_; rintro e w2 ⟨v, rfl, hown, hb⟩; obtain ⟨a, cap, rfl, hrow⟩ := hown.row)
  go_loop [6] (fun i => ∃ k : Nat, k ≤ (pieces s).length ∧ i = .int .i64 k ∧ ∀ j x, j < k → (pieces s)[j]? = some x → x.size ≤ 12) (fun i => (pieces s).length - (intOf i).toNat)
  case atStart => exact ⟨0, Nat.zero_le _, rfl, fun j x h => by omega⟩
  case round =>
    obtain ⟨k, hk, rfl, hall⟩ := hrel
    by_cases hlt : k < (pieces s).length
    · rcases hrow with h0 | ⟨g, off, rfl, hbs, hc⟩
      · rw [h0] at hlt; simp at hlt
      obtain ⟨x, hx⟩ : ∃ x, (pieces s)[k]? = some x := ⟨_, List.getElem?_eq_getElem hlt⟩
      have hcell := hc k x hx
      by_cases hlong : 12 < x.size
      · have he : longB (pieces s) = true := long_of hx hlong
        clear hc hall hx
        have HE : Hid (rpO s = false ∧ rpD s = false ∧ rpL s = []) := rp_long he
        clear he
        go_wp2
        go_ret3
        rw [HE.out.1, HE.out.2.1, HE.out.2.2]
        exact ⟨_, rfl, Own.nil _ _, hb⟩
      · have hall2 : ∀ j y, j < k + 1 → (pieces s)[j]? = some y → y.size ≤ 12 := fun j y hj hy => by
          by_cases hjk : j = k
          · subst hjk; rw [hx] at hy; cases hy; omega
          · exact hall j y (by omega) hy
        clear hc hall hx hown
        go_wp2
        go_round
        case rel => exact ⟨k + 1, by omega, by go_num, hall2⟩
        case measure => simp [intOf]; omega
    · have hkl : k = (pieces s).length := by omega
      have hnl : longB (pieces s) = false := long_not fun i x hx => hall i x (by have := (List.getElem?_eq_some_iff.1 hx).1; omega) hx
      have HE : Hid (rpO s = true ∧ rpD s = dirB s ∧ rpL s = pieces s) := rp_not hnl
      clear hall hnl
      subst hkl
      have hix : s.size - 1 < s.size := by omega
      have hbt : ((s[s.size - 1].toNat : Int) == 47) = decide (bt s (s.size - 1) = 47) := by rw [bt_at s _ hix]; exact int_beq _ 47
      have HD : Hid (dirB s = (decide (bt s (s.size - 1) = 47) || dotsB (lastT (pieces s)))) := (rfl : dirB s = _)
      by_cases hne : pieces s = []
      · have hl0 : (pieces s).length = 0 := by rw [hne]; rfl
        have hdz : dotsB (lastT (pieces s)) = false := by rw [hne]; exact dots_none
        have HZ : Hid (dotsB (lastT (pieces s)) = false ∧ (pieces s).length = 0) := ⟨hdz, hl0⟩
        clear hdz hne
        go_wp2
        go_ret3
        rw [HE.out.1, HE.out.2.1, HE.out.2.2, HD.out, HZ.out.1, Bool.or_false, ← hbt]
        exact ⟨_, rfl, by have := hown; rw [HZ.out.2] at this; exact this, hb⟩
      · have hlp : 0 < (pieces s).length := List.length_pos_iff.2 hne
        have hln : ¬ (pieces s).length = 0 := by omega
        rcases hrow with h0 | ⟨g, off, rfl, hbs, hc⟩
        · exact absurd h0 hne
        have hcell := hc _ _ (lastT_get hne)
        clear hc
        obtain ⟨X, hX⟩ : ∃ X, lastT (pieces s) = X := ⟨_, rfl⟩
        rw [hX] at hcell
        have HX : Hid (lastT (pieces s) = X) := hX
        clear hX
        have hpi : (0 : Int) < ((pieces s).length : Int) := by omega
        cases h6 : decide (bt s (s.size - 1) = 47)
        · rw [h6] at hbt
          cases h7 : X.toList == [46]
          · go_wp2
            go_ret3
            rw [HE.out.1, HE.out.2.1, HE.out.2.2, HD.out, HX.out, h6]
            unfold dotsB
            rw [h7]
            exact ⟨_, rfl, hown, hb⟩
          · go_wp2
            go_ret3
            rw [HE.out.1, HE.out.2.1, HE.out.2.2, HD.out, HX.out, h6]
            unfold dotsB
            rw [h7]
            exact ⟨_, rfl, hown, hb⟩
        · rw [h6] at hbt
          go_wp2
          go_ret3
          rw [HE.out.1, HE.out.2.1, HE.out.2.2, HD.out, HX.out, h6]
          exact ⟨_, rfl, hown, hb⟩

theorem cut_13 {s : ByteArray} (b : Bool) (h : 96 < s.size) : cutE s b = 13 ∧ cutD s b = false ∧ cutL s b = [] := by
  have he : cutE s b = 13 := by unfold cutE; rw [if_pos h]
  exact ⟨he, by unfold cutD; rw [he]; rfl, by unfold cutL; rw [he]; rfl⟩
theorem cut_12 {s : ByteArray} {b : Bool} (h : ¬ 96 < s.size) (hb : b = false ∨ hasB s 0 = true) : cutE s b = 12 ∧ cutD s b = false ∧ cutL s b = [] := by
  have he : cutE s b = 12 := by unfold cutE; rw [if_neg h, if_pos hb]
  exact ⟨he, by unfold cutD; rw [he]; rfl, by unfold cutL; rw [he]; rfl⟩
theorem cut_rp {s : ByteArray} {b : Bool} (h : ¬ 96 < s.size) (hb : b = true) (h0 : hasB s 0 = false) : cutE s b = (if rpO s = true then 0 else 11) ∧ cutD s b = rpD s ∧ cutL s b = rpL s := by
  have e1 : cutE s b = (if longB (pieces s) = true then 11 else 0) := by unfold cutE; rw [if_neg h, if_neg (by rw [hb, h0]; simp)]
  cases hl : longB (pieces s)
  · obtain ⟨a1, a2, a3⟩ := rp_not hl
    rw [hl] at e1
    have he : cutE s b = 0 := e1
    rw [a1, a2, a3]
    exact ⟨he, by unfold cutD; rw [he]; rfl, by unfold cutL; rw [he]; rfl⟩
  · obtain ⟨a1, a2, a3⟩ := rp_long hl
    rw [hl] at e1
    have he : cutE s b = 11 := e1
    rw [a1, a2, a3]
    exact ⟨he, by unfold cutD; rw [he]; rfl, by unfold cutL; rw [he]; rfl⟩

set_option maxHeartbeats 2000000 in
theorem rsplit_any (s : ByteArray) (w : World) :
    Calls Tryz.prog 34 #[.string s] w fun e w' => ∃ v, e = .returned (.tuple #[v, .bool (cutD s (rootB s)), .int .i64 (cutE s (rootB s))]) ∧ Own w' w.heap.size v (cutL s (rootB s)) ∧ Below w.heap.size w w' := by
  obtain ⟨E, hE⟩ : ∃ E, cutE s (rootB s) = E := ⟨_, rfl⟩
  obtain ⟨D, hD⟩ : ∃ D, cutD s (rootB s) = D := ⟨_, rfl⟩
  obtain ⟨L, hL⟩ : ∃ L, cutL s (rootB s) = L := ⟨_, rfl⟩
  rw [hE, hD, hL]
  go_enter Tryz.func34, Tryz.ntmps34
  by_cases h1 : 96 < s.size
  · obtain ⟨a1, a2, a3⟩ := cut_13 (rootB s) h1
    have HE : Hid (E = 13 ∧ D = false ∧ L = []) := ⟨hE.symm.trans a1, hD.symm.trans a2, hL.symm.trans a3⟩
    clear hE hD hL a1 a2 a3
    go_wp2
    go_ret3
    rw [HE.out.1, HE.out.2.1, HE.out.2.2]
    exact ⟨_, rfl, Own.nil _ _, Below.refl _ _⟩
  cases h2 : s.toList == []
  · have hpos : 0 < s.size := by rw [toList_nil] at h2; have := of_decide_eq_false h2; omega
    have hd : decide (0 < s.size) = true := decide_eq_true hpos
    have hb : ((s[0].toNat : Int) == 47) = rootB s := by unfold rootB; rw [hd, Bool.true_and, bt_at s 0 hpos]; exact int_beq _ 47
    cases h3 : rootB s
    · obtain ⟨a1, a2, a3⟩ := cut_12 (b := rootB s) h1 (.inl h3)
      have HE : Hid (E = 12 ∧ D = false ∧ L = []) := ⟨hE.symm.trans a1, hD.symm.trans a2, hL.symm.trans a3⟩
      rw [h3] at hb
      have hbn : ((s[0].toNat : Int) != 47) = true := by unfold bne; rw [hb]; rfl
      clear hE hD hL a1 a2 a3 hd h3
      go_wp2
      go_ret3
      rw [HE.out.1, HE.out.2.1, HE.out.2.2]
      exact ⟨_, rfl, Own.nil _ _, Below.refl _ _⟩
    · cases h4 : hasB s 0
      · obtain ⟨a1, a2, a3⟩ := cut_rp (b := rootB s) h1 h3 h4
        have HE : Hid (E = (if rpO s = true then 0 else 11) ∧ D = rpD s ∧ L = rpL s) := ⟨hE.symm.trans a1, hD.symm.trans a2, hL.symm.trans a3⟩
        rw [h3] at hb
        have hbn : ((s[0].toNat : Int) != 47) = false := by unfold bne; rw [hb]; rfl
        clear hE hD hL a1 a2 a3 hd h3
        cases h5 : rpO s
        · have h6 : rpD s = false := by unfold rpD; rw [h5]; rfl
          have h7 : rpL s = [] := by unfold rpL; rw [h5]; rfl
          go_wp2_with (first
            | (go_at_call 60; refine (rhas_z _ _ _ (by omega) (by decide)).mono ?_; rintro e w1 ⟨rfl, rfl⟩; rw [show hasB s (0 : Int).toNat = _ from h4])
            | (go_at_call 61; refine (rpieces_any _ _ (by omega) hpos).mono ?_; rintro e w1 ⟨v, rfl, hown, hbl⟩; rw [h5]))
          go_ret3
          rw [HE.out.1, HE.out.2.1, HE.out.2.2, h5, h6, h7]
          exact ⟨_, rfl, Own.nil _ _, hbl⟩
        · go_wp2_with (first
            | (go_at_call 60; refine (rhas_z _ _ _ (by omega) (by decide)).mono ?_; rintro e w1 ⟨rfl, rfl⟩; rw [show hasB s (0 : Int).toNat = _ from h4])
            | (go_at_call 61; refine (rpieces_any _ _ (by omega) hpos).mono ?_; rintro e w1 ⟨v, rfl, hown, hbl⟩; rw [h5]))
          go_ret3
          rw [HE.out.1, HE.out.2.1, HE.out.2.2, h5]
          exact ⟨_, rfl, hown, hbl⟩
      · obtain ⟨a1, a2, a3⟩ := cut_12 (b := rootB s) h1 (.inr h4)
        have HE : Hid (E = 12 ∧ D = false ∧ L = []) := ⟨hE.symm.trans a1, hD.symm.trans a2, hL.symm.trans a3⟩
        rw [h3] at hb
        have hbn : ((s[0].toNat : Int) != 47) = false := by unfold bne; rw [hb]; rfl
        clear hE hD hL a1 a2 a3 hd h3
        go_wp2_with (go_at_call 60; refine (rhas_z _ _ _ (by omega) (by decide)).mono ?_; rintro e w1 ⟨rfl, rfl⟩; rw [show hasB s (0 : Int).toNat = _ from h4])
        go_ret3
        rw [HE.out.1, HE.out.2.1, HE.out.2.2]
        exact ⟨_, rfl, Own.nil _ _, Below.refl _ _⟩
  · have hz : ¬ 0 < s.size := by rw [toList_nil] at h2; have := of_decide_eq_true h2; omega
    have h3 : rootB s = false := by unfold rootB; rw [decide_eq_false hz]; rfl
    obtain ⟨a1, a2, a3⟩ := cut_12 (b := rootB s) h1 (.inl h3)
    have HE : Hid (E = 12 ∧ D = false ∧ L = []) := ⟨hE.symm.trans a1, hD.symm.trans a2, hL.symm.trans a3⟩
    clear hE hD hL a1 a2 a3 h3
    go_wp2
    go_ret3
    rw [HE.out.1, HE.out.2.1, HE.out.2.2]
    exact ⟨_, rfl, Own.nil _ _, Below.refl _ _⟩

set_option maxHeartbeats 2000000 in
theorem rtarget_any (s : ByteArray) (w : World) :
    Calls Tryz.prog 53 #[.string s] w fun e w' => ∃ v, e = .returned (.tuple #[v, .bool (tgtW s), .bool (cutD s (fullB s)), .int .i64 (cutE s (fullB s))]) ∧ Own w' w.heap.size v (cutL s (fullB s)) ∧ Below w.heap.size w w' := by
  have hT0 : tgtW s = (decide (cutE s (fullB s) = 0) && rootB s) := rfl
  obtain ⟨E, hE⟩ : ∃ E, cutE s (fullB s) = E := ⟨_, rfl⟩
  obtain ⟨D, hD⟩ : ∃ D, cutD s (fullB s) = D := ⟨_, rfl⟩
  obtain ⟨L, hL⟩ : ∃ L, cutL s (fullB s) = L := ⟨_, rfl⟩
  obtain ⟨T, hT⟩ : ∃ T, tgtW s = T := ⟨_, rfl⟩
  rw [hT, hE] at hT0
  rw [hE, hD, hL, hT]
  clear hT
  go_enter Tryz.func53, Tryz.ntmps53
  by_cases h1 : 96 < s.size
  · obtain ⟨a1, a2, a3⟩ := cut_13 (fullB s) h1
    have HE : Hid (E = 13 ∧ D = false ∧ L = [] ∧ T = false) := ⟨hE.symm.trans a1, hD.symm.trans a2, hL.symm.trans a3, by rw [hT0, hE.symm.trans a1]; rfl⟩
    clear hE hD hL a1 a2 a3 hT0
    go_wp2
    (try simp only [Exit.inBlock, Exit.then]); refine bodyPost_ret (results_tmp4 rfl _ _ _) rfl ?_
    rw [HE.out.1, HE.out.2.1, HE.out.2.2.1, HE.out.2.2.2]
    exact ⟨_, rfl, Own.nil _ _, Below.refl _ _⟩
  cases h2 : s.toList == []
  · have hpos : 0 < s.size := by rw [toList_nil] at h2; have := of_decide_eq_false h2; omega
    have hd : decide (0 < s.size) = true := decide_eq_true hpos
    have hb : ((s[0].toNat : Int) == 47) = rootB s := by unfold rootB; rw [hd, Bool.true_and, bt_at s 0 hpos]; exact int_beq _ 47
    have h3 : fullB s = true := by rw [full_iff]; exact hd
    cases h4 : hasB s 0
    · obtain ⟨a1, a2, a3⟩ := cut_rp (b := fullB s) h1 h3 h4
      cases h5 : rpO s
      · rw [h5] at a1
        have HE : Hid (E = 11 ∧ D = rpD s ∧ L = rpL s ∧ T = false) := ⟨hE.symm.trans a1, hD.symm.trans a2, hL.symm.trans a3, by rw [hT0, hE.symm.trans a1]; rfl⟩
        clear hE hD hL a1 a2 a3 hd h3 hT0 hb
        have h6 : rpD s = false := by unfold rpD; rw [h5]; rfl
        have h7 : rpL s = [] := by unfold rpL; rw [h5]; rfl
        go_wp2_with (first
          | (go_at_call 60; refine (rhas_z _ _ _ (by omega) (by decide)).mono ?_; rintro e w1 ⟨rfl, rfl⟩; rw [show hasB s (0 : Int).toNat = _ from h4])
          | (go_at_call 61; refine (rpieces_any _ _ (by omega) hpos).mono ?_; rintro e w1 ⟨v, rfl, hown, hbl⟩; rw [h5]))
        (try simp only [Exit.inBlock, Exit.then]); refine bodyPost_ret (results_tmp4 rfl _ _ _) rfl ?_
        rw [HE.out.1, HE.out.2.1, HE.out.2.2.1, HE.out.2.2.2, h6, h7]
        exact ⟨_, rfl, Own.nil _ _, hbl⟩
      · rw [h5] at a1
        have HE : Hid (E = 0 ∧ D = rpD s ∧ L = rpL s ∧ T = rootB s) := ⟨hE.symm.trans a1, hD.symm.trans a2, hL.symm.trans a3, by rw [hT0, hE.symm.trans a1]; rfl⟩
        clear hE hD hL a1 a2 a3 hd h3 hT0
        have hix : (0 : Int) < (s.size : Int) := by omega
        go_wp2_with (first
          | (go_at_call 60; refine (rhas_z _ _ _ (by omega) (by decide)).mono ?_; rintro e w1 ⟨rfl, rfl⟩; rw [show hasB s (0 : Int).toNat = _ from h4])
          | (go_at_call 61; refine (rpieces_any _ _ (by omega) hpos).mono ?_; rintro e w1 ⟨v, rfl, hown, hbl⟩; rw [h5]))
        go_quiet (fail)
        go_wp2
        (try simp only [Exit.inBlock, Exit.then]); refine bodyPost_ret (results_tmp4 rfl _ _ _) rfl ?_
        rw [HE.out.1, HE.out.2.1, HE.out.2.2.1, HE.out.2.2.2]
        exact ⟨_, rfl, hown, below_drewN hbl _⟩
    · obtain ⟨a1, a2, a3⟩ := cut_12 (b := fullB s) h1 (.inr h4)
      have HE : Hid (E = 12 ∧ D = false ∧ L = [] ∧ T = false) := ⟨hE.symm.trans a1, hD.symm.trans a2, hL.symm.trans a3, by rw [hT0, hE.symm.trans a1]; rfl⟩
      clear hE hD hL a1 a2 a3 hd h3 hT0 hb
      go_wp2_with (go_at_call 60; refine (rhas_z _ _ _ (by omega) (by decide)).mono ?_; rintro e w1 ⟨rfl, rfl⟩; rw [show hasB s (0 : Int).toNat = _ from h4])
      (try simp only [Exit.inBlock, Exit.then]); refine bodyPost_ret (results_tmp4 rfl _ _ _) rfl ?_
      rw [HE.out.1, HE.out.2.1, HE.out.2.2.1, HE.out.2.2.2]
      exact ⟨_, rfl, Own.nil _ _, Below.refl _ _⟩
  · have hz : ¬ 0 < s.size := by rw [toList_nil] at h2; have := of_decide_eq_true h2; omega
    have h3 : fullB s = false := by rw [full_iff]; exact decide_eq_false hz
    obtain ⟨a1, a2, a3⟩ := cut_12 (b := fullB s) h1 (.inl h3)
    have HE : Hid (E = 12 ∧ D = false ∧ L = [] ∧ T = false) := ⟨hE.symm.trans a1, hD.symm.trans a2, hL.symm.trans a3, by rw [hT0, hE.symm.trans a1]; rfl⟩
    clear hE hD hL a1 a2 a3 h3 hT0
    go_wp2
    (try simp only [Exit.inBlock, Exit.then]); refine bodyPost_ret (results_tmp4 rfl _ _ _) rfl ?_
    rw [HE.out.1, HE.out.2.1, HE.out.2.2.1, HE.out.2.2.2]
    exact ⟨_, rfl, Own.nil _ _, Below.refl _ _⟩
end
section
open Go.RowKit
attribute [local go_sem ↓ high] loadEn storeEn loadNd storeNd storeOu buildNd
attribute [local go_sem high] eqK neqK guardK

theorem root_d (w : World) : Calls Tryz.prog 51 #[] w fun x w' => x = .returned rootN.agg ∧ Below w.heap.size w w' := by
  have HB : Hid (Below w.heap.size w (w.alloc (.cells rootN.vals.toArray 32))) := below_alloc _ _
  have bx : (ndSt (.pointer (some ⟨w.heap.size, 0, none⟩)) (.agg #[.int .i64 1, .int .i64 1, .int .i64 0, .string ⟨#[]⟩])).run Tryz.prog (w.alloc (.cells #[.int .i64 0, .int .i64 0, .int .i64 0, .string ⟨#[]⟩] 32)) = .ok () (w.alloc (.cells rootN.vals.toArray 32)) := box4 w rootN
  go_enter Tryz.func51, Tryz.ntmps51
  go_wp2
  refine bodyPost_ret (ret_node rfl _ _ w.heap.size rfl (heap_new w (.cells rootN.vals.toArray 32))) rfl ?_
  exact ⟨rfl, HB.out⟩
theorem leftOf {w : World} {B : Nat} {v : Value} {L : List ByteArray} (h : Own w B v L) : LeftR w v L ∧ ∀ b, InBlk v b → B ≤ b ∧ b < w.heap.size := by
  obtain ⟨a, cap, rfl, hr⟩ := h.row
  refine ⟨⟨a, cap, rfl, ?_, hr⟩, ?_⟩
  · rcases h.2 with ⟨e, _⟩ | ⟨g, cap', cur, e, hg, hh, r1, r2⟩
    · injection e with _ e1 _; omega
    · injection e with _ e1 e2; omega
  · rintro b ⟨o, n, c, e⟩
    injection e with e1 _ _
    subst e1
    rcases h.2 with ⟨e, _⟩ | ⟨g, cap', cur, e, hg, hh, r1, r2⟩
    · cases e
    · cases e
      exact ⟨hg, (Array.getElem?_eq_some_iff.1 hh).1⟩
theorem wayOf {w : World} {B : Nat} {v : Value} {l : List Nd} (h : RowN w B v l) (hne : l ≠ []) : WayR w v l ∧ ∀ b, InBlk v b → B ≤ b ∧ b < w.heap.size := by
  obtain ⟨N, hN⟩ : ∃ N, l.length = N + 1 := ⟨l.length - 1, by have := List.length_pos_iff.2 hne; omega⟩
  unfold RowN at h
  rw [hN] at h
  obtain ⟨g, cap, rfl⟩ := owns_form h
  obtain ⟨hc, -, h3, -, hB, hg⟩ := owns_cells h
  refine ⟨⟨g, cap, by rw [hN], by omega, hc⟩, ?_⟩
  rintro b ⟨o, n, c, e⟩
  injection e with e1 _ _
  injection e1 with e1
  injection e1 with e1 _ _
  subst e1
  exact ⟨hB, hg⟩
theorem way_new (W : World) (n : Nd) : WayR (W.alloc (.cells n.vals.toArray 32)) (.slice (some ⟨W.heap.size, 0, none⟩) 1 1) [n] := by
  refine ⟨_, 1, rfl, Nat.le_refl _, fun j u hu => ?_⟩
  rw [cell_of (heap_new W _)]
  have : nc [n] = n.vals := by simp [nc]
  rw [this] at hu
  simpa using hu
/-- how long a list is -/
def lenV : Value → Nat
  | .slice _ n _ => n
  | _ => 0
end
end Go.Proofs.YtmndnjgbbpkidaaGreat
