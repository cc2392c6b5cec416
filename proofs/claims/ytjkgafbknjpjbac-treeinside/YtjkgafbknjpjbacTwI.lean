/- The walk of the law TreeInside: it returns true. -/
import Derived.Test.YtjkgafbknjpjbacTqD
import Derived.Test.YtjkgafbknjpjbacTqP
import Derived.Test.YtjkgafbknjpjbacPuF
namespace Go.Proofs.Ytjkgafbknjpjbac
open Go.RowKit
attribute [local go_sem high] eqK' neqK' eqE neqE eqN neqN guardK guardE guardN

theorem chk_d : Mn.chk nmD = 0 := chk_one 100 (by decide) (by decide) (by decide)
theorem chk_e : Mn.chk nmE = 0 := chk_one 101 (by decide) (by decide) (by decide)
structure ChS (s : Tr) (i : Nat) : Prop where
  es : s.es = ch i
  vers : s.vers = i
  next : s.next = (i : Int) + 2
  good : Good Mn s i
theorem ChS.new : ChS emptyT 0 := ⟨rfl, rfl, rfl, Good.new _⟩
theorem ChS.step {s s' : Tr} {i : Nat} (h : ChS s i) (hi : i ≤ 22) (hs : Step Mn s s' (mkO i)) : ChS s' (i + 1) := by
  obtain ⟨h1, h2, h3⟩ := ch_step (M := Mn) h.es h.next hi chk_d
  have hg := (h.good.step (mkO i)).alike hs.alike.symm
  refine ⟨by rw [hs.es, if_pos h1, h2], by rw [hs.vers, if_pos h1, h.vers]; omega, by rw [hs.next, if_pos h1, h3], ?_⟩
  have e : ((i + 1 : Nat) : Int) = (i : Int) + 1 := by omega
  rw [e]; exact hg

theorem find_mv {t A B : Nat} {s : Tr} {w : World} (h : IsP w t s) (hn : nodeE s.es ((A : Int) + 2) = some (movedEn (chE A) ((B : Int) + 1) nmE)) : Calls Try.prog 15 #[.pointer (some ⟨t, 0, none⟩), .int .i64 (2 + (A : Int))] w fun e w' => e = .returned (.tuple #[.agg #[.int .i64 (1 + (B : Int)), .string ⟨#[101]⟩, .bool false, .int .i64 (2 + (A : Int)), .int .i64 1, .int .i64 0, .string ⟨#[]⟩], .int .i64 0]) ∧ Below w.heap.size w w' := by
  have := find_p t s ((A : Int) + 2) w h
  unfold findV at this
  rw [if_neg (by omega), hn] at this
  rw [show (2 : Int) + (A : Int) = (A : Int) + 2 by omega, show (1 : Int) + (B : Int) = (B : Int) + 1 by omega]
  exact this
set_option maxRecDepth 20000 in
set_option maxHeartbeats 16000000 in
theorem walk_TreeInside (a0 a1 a2 : Int) (_ : (Lit.int .i64 a0).wf = true) (_ : (Lit.int .i64 a1).wf = true) (_ : (Lit.int .i64 a2).wf = true) (w : World) :
    Calls Try.prog 4 #[.int .i64 a0, .int .i64 a1, .int .i64 a2] w fun e w' => e = .returned (.bool true) ∧ Below w.heap.size w w' := by
  have p0 := placeV_bd a0 20 (by omega)
  obtain ⟨P0, hP0⟩ : ∃ x, placeV a0 20 = x := ⟨_, rfl⟩
  have HP0 : Hid (∀ w, Calls Try.prog 13 #[.int .i64 a0, .int .i64 20] w fun e w' => e = .returned (.int .i64 P0) ∧ w' = w) := fun w => by rw [← hP0]; exact place_any a0 20 w (by omega) (by omega)
  rw [hP0] at p0
  obtain ⟨kk, hkk⟩ : ∃ kk : Nat, P0 = (kk : Int) := ⟨P0.toNat, by omega⟩
  subst hkk
  obtain ⟨k, hk⟩ : ∃ k : Nat, (2 : Int) + kk = k := ⟨2 + kk, by omega⟩
  have hk21 : k ≤ 21 := by omega
  have hk2 : 2 ≤ k := by omega
  clear hP0
  have p1 := placeV_bd a1 k (by omega)
  obtain ⟨A, hA⟩ : ∃ A : Nat, placeV a1 k = (A : Int) := ⟨(placeV a1 k).toNat, by omega⟩
  rw [hA] at p1
  have HP1 : Hid (∀ w, Calls Try.prog 13 #[.int .i64 a1, .int .i64 (k : Int)] w fun e w' => e = .returned (.int .i64 (A : Int)) ∧ w' = w) := fun w => by rw [← hA]; exact place_any a1 k w (by omega) (by omega)
  have p2 := placeV_bd a2 ((k : Int) + 1) (by omega)
  obtain ⟨B, hB⟩ : ∃ B : Nat, placeV a2 ((k : Int) + 1) = (B : Int) := ⟨(placeV a2 ((k : Int) + 1)).toNat, by omega⟩
  rw [hB] at p2
  have HP2 : Hid (∀ w, Calls Try.prog 13 #[.int .i64 a2, .int .i64 ((k : Int) + 1)] w fun e w' => e = .returned (.int .i64 (B : Int)) ∧ w' = w) := fun w => by rw [← hB]; exact place_any a2 _ w (by omega) (by omega)
  clear hA hB
  have HAw : Hid (∀ w, Calls Try.prog 11 #[] w fun e w' => e = .returned (.bool true) ∧ Below w.heap.size w w') := awake_p
  go_enter Try.func4, Try.ntmps4
  go_wp2_with (first
    | (go_at_call 12; refine (new_p _).mono ?_; rintro x w1 ⟨rfl, hi1, hb1⟩)
    | (go_at_call 13; refine (HP0.out _).mono ?_; rintro x w2 ⟨rfl, rfl⟩))
  have H1 : Hid (Own5 w.heap.size w2 w.heap.size emptyT ∧ Below w.heap.size w w2) := ⟨⟨hi1, Nat.le_refl _, fun q hq => by cases hq⟩, hb1⟩
  clear hi1 hb1
  try rw [hk]
  go_loopw [9] (fun i wr => ∃ (j : Nat) (s : Tr), j ≤ k ∧ i = .int .i64 j ∧ Hid (Own5 w.heap.size wr w.heap.size s ∧ ChS s j ∧ Below w.heap.size w wr)) (fun i _ => k - (intOf i).toNat)
  case atStart => exact ⟨0, emptyT, Nat.zero_le _, rfl, H1.out.1, ChS.new, H1.out.2⟩
  case round =>
    obtain ⟨j, s, hj, rfl, hI⟩ := hrel
    by_cases hjk : j < k
    · have hji : (j : Int) < (k : Int) := by omega
      have hap := apply_g w.heap.size s (mkO j) j wr hI.out.1.is hI.out.2.1.good (by omega)
      have hE := (ch_step (M := Mn) hI.out.2.1.es hI.out.2.1.next (by omega) chk_d).1
      have HAp : Hid (Calls Try.prog 9 #[.pointer (some ⟨w.heap.size, 0, none⟩), .agg #[.int .i64 6, .int .i64 (1 + (j : Int)), .string ⟨#[100]⟩, .int .i64 0, .string ⟨#[]⟩, .int .i64 0, .string ⟨#[]⟩]] wr fun e w' => ∃ v k' s', e = .returned (.tuple #[v, k', .int .i64 0]) ∧ Hid (Own5 w.heap.size w' w.heap.size s' ∧ ChS s' (j + 1) ∧ Below w.heap.size w w')) := by
       rw [show (1 : Int) + (j : Int) = (j : Int) + 1 by omega]
       exact hap.mono fun e w' ⟨v, k', s', he, hps, hst, _⟩ => by
        rw [hE] at he
        have := hI.out.1.step hI.out.2.2 hI.out.2.2.size hps
        exact ⟨v, k', s', he, this.1, hI.out.2.1.step (by omega) hst, this.2⟩
      clear hap hE
      go_wp2_with (go_at_call 9; refine HAp.out.mono ?_; rintro x w3 ⟨v3, k3, s3, rfl, h3⟩)
      exact ⟨⟨j + 1, s3, by omega, by simp, h3⟩, by simp [intOf]; omega⟩
    · have hjk' : ¬ (j : Int) < (k : Int) := by omega
      obtain rfl : j = k := by omega
      have hE := ch_move (M := Mn) (a := A) (b := B) hI.out.2.1.es (by omega) (by omega) chk_d chk_e
      have hap := apply_g w.heap.size s (mvO A B) j wr hI.out.1.is hI.out.2.1.good (by omega)
      by_cases hab : A < B
      · have habi : (A : Int) < (B : Int) := by omega
        have HAp : Hid (Calls Try.prog 9 #[.pointer (some ⟨w.heap.size, 0, none⟩), .agg #[.int .i64 10, .int .i64 (1 + (A : Int)), .string ⟨#[100]⟩, .int .i64 (1 + (B : Int)), .string ⟨#[101]⟩, .int .i64 0, .string ⟨#[]⟩]] wr fun e w' => ∃ v k' s', e = .returned (.tuple #[v, k', .int .i64 45]) ∧ Hid (IsP w' w.heap.size s' ∧ s'.vers = j ∧ Below w.heap.size w w')) := by
          rw [show (1 : Int) + (A : Int) = (A : Int) + 1 by omega, show (1 : Int) + (B : Int) = (B : Int) + 1 by omega]
          exact hap.mono fun e w' ⟨v, k', s', he, hps, hst, _⟩ => by
            rw [hE, if_pos hab] at he
            have h5 := hI.out.1.step hI.out.2.2 hI.out.2.2.size hps
            have hv := hst.vers
            rw [hE, if_pos hab, if_neg (by decide), hI.out.2.1.vers] at hv
            exact ⟨v, k', s', he, hps.is, hv, h5.2⟩
        clear hap hE
        go_upto_region 12 with (go_at_call 13; refine (HP1.out _).mono ?_; rintro x w4 ⟨rfl, rfl⟩)
        clear HP1 HP0
        go_upto_region 13 with (go_at_call 13; refine (HP2.out _).mono ?_; rintro x w4 ⟨rfl, rfl⟩)
        clear HP2
        go_wp2_with (first
          | (go_at_call 9; refine HAp.out.mono ?_; rintro x w5 ⟨v5, k5, s5, rfl, h5⟩)
          | (go_at_call 14; refine (version_p _ _ _ h5.out.1).mono ?_; rw [h5.out.2.1]; rintro x w6 ⟨rfl, rfl⟩)
          | (go_at_call 11; refine (HAw.out _).mono ?_; rintro x w7 ⟨rfl, hb7⟩))
        go_ret
        exact ⟨rfl, chainB h5.out.2.2 hb7⟩
      · have habi : ¬ (A : Int) < (B : Int) := by omega
        rw [if_neg hab] at hE
        have hth := ch_there hI.out.2.1.good.wf hI.out.2.1.es (by omega) hE
        have HAp : Hid (Calls Try.prog 9 #[.pointer (some ⟨w.heap.size, 0, none⟩), .agg #[.int .i64 10, .int .i64 (1 + (A : Int)), .string ⟨#[100]⟩, .int .i64 (1 + (B : Int)), .string ⟨#[101]⟩, .int .i64 0, .string ⟨#[]⟩]] wr fun e w' => ∃ v k' s', e = .returned (.tuple #[v, k', .int .i64 0]) ∧ Hid (IsP w' w.heap.size s' ∧ nodeE s'.es ((A : Int) + 2) = some (movedEn (chE A) ((B : Int) + 1) nmE) ∧ Below w.heap.size w w')) := by
          rw [show (1 : Int) + (A : Int) = (A : Int) + 1 by omega, show (1 : Int) + (B : Int) = (B : Int) + 1 by omega]
          exact hap.mono fun e w' ⟨v, k', s', he, hps, hst, _⟩ => by
            rw [hE] at he
            have h5 := hI.out.1.step hI.out.2.2 hI.out.2.2.size hps
            have hv := hst.es
            rw [hE, if_pos rfl] at hv
            exact ⟨v, k', s', he, hps.is, by rw [hv]; exact hth, h5.2⟩
        have hK : eqKy (1 + (B : Int)) ⟨#[101]⟩ (1 + (B : Int)) ⟨#[101]⟩ = true := decide_eq_true ⟨rfl, rfl⟩
        clear hap hE hth
        go_upto_region 12 with (go_at_call 13; refine (HP1.out _).mono ?_; rintro x w4 ⟨rfl, rfl⟩)
        clear HP1 HP0
        go_upto_region 13 with (go_at_call 13; refine (HP2.out _).mono ?_; rintro x w4 ⟨rfl, rfl⟩)
        clear HP2
        go_wp2_with (first
          | (go_at_call 9; refine HAp.out.mono ?_; rintro x w5 ⟨v5, k5, s5, rfl, h5⟩)
          | (go_at_call 15; refine (find_mv h5.out.1 h5.out.2.1).mono ?_; rintro x w6 ⟨rfl, hb6⟩)
          | (go_at_call 11; refine (HAw.out _).mono ?_; rintro x w7 ⟨rfl, hb7⟩))
        go_ret
        exact ⟨rfl, chainB (chainB (chainB h5.out.2.2 hb6) (below_alloc _ _)) hb7⟩
end Go.Proofs.Ytjkgafbknjpjbac
