/- The walk of the law MarkCounts: it returns true. -/
import Derived.Test.YtiecakeeekeidabLawsD
namespace Go.Proofs.Ytiecakeeekeidab
open Go.RowKit

def placeV (v n : Int) : Int := if v.tmod n < 0 then v.tmod n + n else v.tmod n
theorem placeV_bd (v n : Int) (h : 0 < n) : 0 ≤ placeV v n ∧ placeV v n < n := by
  unfold placeV
  have h1 := Int.tmod_lt_of_pos v h
  have h2 : -n < v.tmod n := by
    have := Int.tmod_lt_of_pos (-v) h
    rw [Int.neg_tmod] at this
    omega
  split <;> omega

set_option maxHeartbeats 400000 in
theorem place_core (v n k : Int) (w : World) (hn : 0 < n) (hn2 : n ≤ 1000) (hk : v.tmod n = k) (h1 : -1000 < k) (h2 : k < 1000) :
    Calls Try.prog 21 #[.int .i64 v, .int .i64 n] w fun e w' => e = .returned (.int .i64 (if k < 0 then k + n else k)) ∧ w' = w := by
  by_cases c : k < 0
  · rw [if_pos c]
    go_enter Try.func21, Try.ntmps21
    go_wp2
    go_ret
    exact ⟨rfl, rfl⟩
  · rw [if_neg c]
    go_enter Try.func21, Try.ntmps21
    go_wp2
    go_ret
    exact ⟨rfl, rfl⟩

theorem place_any (v n : Int) (w : World) (hn : 0 < n) (hn2 : n ≤ 1000) :
    Calls Try.prog 21 #[.int .i64 v, .int .i64 n] w fun e w' => e = .returned (.int .i64 (placeV v n)) ∧ w' = w := by
  have h1 := Int.tmod_lt_of_pos v hn
  have h2 : -n < v.tmod n := by
    have := Int.tmod_lt_of_pos (-v) hn
    rw [Int.neg_tmod] at this
    omega
  exact place_core v n _ w hn hn2 rfl (by omega) (by omega)

/-- what a round of counting on needs -/
theorem count_step (CM DM c d : Nat) (E M : Int) (k : Nat) (hE0 : 0 ≤ E) (hE1 : E ≤ 1000) (hM0 : 0 ≤ M) (hM1 : M ≤ 1000) (hk : k < 300)
    (vm : fval CM = some (E * U)) (vn : fval DM = some (M * U)) (vc : fval c = some (E * U)) (vd : fval d = some ((M + k) * U)) :
    ∃ c' d' x y, fval c' = some (E * U) ∧ fval d' = some ((M + (k + 1 : Nat)) * U) ∧ goodB c' d' = true ∧
      (∀ w, Calls Try.prog 12 #[.complex .f64 c d] w fun e w' => e = .returned (.tuple #[.complex .f64 c' d', .int .i64 0]) ∧ w' = w) ∧
      (∀ w, Calls Try.prog 13 #[.complex .f64 CM DM, .complex .f64 c' d'] w fun e w' => e = .returned (.tuple #[.int .i64 ((k : Int) + 1), .bool true]) ∧ w' = w) ∧
      (∀ w, (binOp .sub 24 (.complex .f64 c' d') (.complex .f64 c d)).run Try.prog w = .ok (.complex .f64 x y) w) ∧
      FloatKind.f64.format.order x 0 = some .eq ∧ FloatKind.f64.format.order y 4607182418800017408 = some .eq := by
  have hg : goodB c d = true := by rw [good_of vc vd]; exact decide_eq_true ⟨by omega, by omega, by omega, by omega⟩
  have hgm : goodB CM DM = true := by rw [good_of vm vn]; exact decide_eq_true ⟨by omega, by omega, by omega, by omega⟩
  obtain ⟨c', d', vc', vd', hN⟩ := next_yes c d hg (by rw [part_of vd]; omega)
  rw [part_of vc] at vc'
  rw [part_of vd, show M + (k : Int) + 1 = M + ((k + 1 : Nat) : Int) by omega] at vd'
  have hg' : goodB c' d' = true := by rw [good_of vc' vd']; exact decide_eq_true ⟨by omega, by omega, by omega, by omega⟩
  obtain ⟨x, hx, vx⟩ := sub_whole vc' vc (by omega)
  obtain ⟨y, hy, vy⟩ := sub_whole vd' vd (by omega)
  refine ⟨c', d', x, y, vc', vd', hg', hN, ?_, ?_, ?_, ?_⟩
  · intro w
    have := gap_any CM DM c' d' w
    have hgap : gapB CM DM c' d' = true := by unfold gapB; rw [hgm, hg', part_of vm, part_of vn, part_of vc', part_of vd']; simp; omega
    rw [hgap, if_pos rfl, part_of vn, part_of vd', show M + ((k + 1 : Nat) : Int) - M = (k : Int) + 1 by omega] at this
    exact this
  · intro w
    refine run_complex_sum (P := Try.prog) w .sub (.inr rfl) 24 .f64 c' d' c d x y ?_
    unfold cSumBits; rw [hx, hy]; rfl
  · rw [order_whole vx val_zeroU, cmp_eq (by omega)]
  · rw [order_whole vy val_one, cmp_eq (by omega)]

/-- what stands behind the loop -/
theorem count_end (CM DM c d : Nat) (E M : Int) (k : Nat) (hE0 : 0 ≤ E) (hE1 : E ≤ 1000) (hM0 : 0 ≤ M) (hM1 : M ≤ 1000) (hk : k ≤ 300)
    (vm : fval CM = some (E * U)) (vn : fval DM = some (M * U)) (vc : fval c = some (E * U)) (vd : fval d = some ((M + k) * U)) :
    ∃ s, goodB s 0 = true ∧ part s = E + 1 ∧ goodB c d = true ∧ goodB CM DM = true ∧
      (∀ w, Calls Try.prog 14 #[.complex .f64 c d] w fun e w' => e = .returned (.tuple #[.complex .f64 s 0, .int .i64 0]) ∧ w' = w) ∧
      gapB c d s 0 = false ∧ gapB s 0 CM DM = false := by
  have hg : goodB c d = true := by rw [good_of vc vd]; exact decide_eq_true ⟨by omega, by omega, by omega, by omega⟩
  have hgm : goodB CM DM = true := by rw [good_of vm vn]; exact decide_eq_true ⟨by omega, by omega, by omega, by omega⟩
  obtain ⟨s, vs, hR⟩ := restart_yes c d hg (by rw [part_of vc]; omega)
  rw [part_of vc] at vs
  refine ⟨s, by rw [good_of vs val_zeroU]; exact decide_eq_true ⟨by omega, by omega, by omega, by omega⟩, part_of vs, hg, hgm, hR, ?_, ?_⟩
  · unfold gapB; rw [part_of vc, part_of vs]; simp; intros; omega
  · unfold gapB; rw [part_of vm, part_of vs]; simp; intros; omega

set_option maxHeartbeats 4000000 in
theorem counts_core (e n m : Int) (E M K : Int) (CM DM : Nat) (w : World) (hE0 : 0 ≤ E) (hE1 : E ≤ 1000) (hM0 : 0 ≤ M) (hM1 : M ≤ 1000) (hK0 : 0 ≤ K) (hK1 : K ≤ 300)
    (pe : ∀ w, Calls Try.prog 21 #[.int .i64 e, .int .i64 1000] w fun e w' => e = .returned (.int .i64 E) ∧ w' = w)
    (pn : ∀ w, Calls Try.prog 21 #[.int .i64 n, .int .i64 1000] w fun e w' => e = .returned (.int .i64 M) ∧ w' = w)
    (pm : ∀ w, Calls Try.prog 21 #[.int .i64 m, .int .i64 300] w fun e w' => e = .returned (.int .i64 K) ∧ w' = w)
    (ha : ∀ w, Calls Try.prog 20 #[.int .i64 E, .int .i64 M] w fun e w' => e = .returned (.tuple #[.complex .f64 CM DM, .int .i64 0]) ∧ w' = w)
    (vm : fval CM = some (E * U)) (vn : fval DM = some (M * U)) :
    Calls Try.prog 6 #[.int .i64 e, .int .i64 n, .int .i64 m] w fun e w' => e = .returned (.bool true) ∧ Below w.heap.size w w' := by
  have VM : Hid (fval CM = some (E * U)) := vm
  have VN : Hid (fval DM = some (M * U)) := vn
  clear vm vn
  obtain ⟨KN, rfl⟩ := Int.eq_ofNat_of_zero_le hK0
  go_enter Try.func6, Try.ntmps6
  go_wp2_with (first
      | (go_at_call_of 21 (Value.int .i64 e); refine (pe _).mono ?_; rintro e w' ⟨rfl, rfl⟩)
      | (go_at_call_of 21 (Value.int .i64 n); refine (pn _).mono ?_; rintro e w' ⟨rfl, rfl⟩)
      | (go_at_call_of 21 (Value.int .i64 m); refine (pm _).mono ?_; rintro e w' ⟨rfl, rfl⟩)
      | (go_at_call 20; refine (ha _).mono ?_; rintro e w' ⟨rfl, rfl⟩))
  go_loop [10, 11] (fun t i => ∃ (k : Nat) (c d : Nat), k ≤ KN ∧ i = .int .i64 k ∧ t = .complex .f64 c d ∧ Hid (fval c = some (E * U)) ∧ Hid (fval d = some ((M + k) * U))) (fun _ i => KN - (intOf i).toNat)
  case atStart => exact ⟨0, CM, DM, Nat.zero_le _, rfl, rfl, VM, by rw [show M + ((0 : Nat) : Int) = M by omega]; exact VN⟩
  case round =>
    obtain ⟨k, c, d, hk, rfl, rfl, vc, vd⟩ := hrel
    by_cases hlt : k < KN
    · obtain ⟨c', d', x, y, vc', vd', hg', hN, hG, hS, o1, o2⟩ := count_step CM DM c d E M k hE0 hE1 hM0 hM1 (by omega) VM.out VN.out vc.out vd.out
      have hgm : goodB CM DM = true := by rw [good_of VM.out VN.out]; exact decide_eq_true ⟨by omega, by omega, by omega, by omega⟩
      have p1 : part c' = E := part_of vc'
      have p2 : part CM = E := part_of VM.out
      have VC : Hid (fval c' = some (E * U)) := vc'
      have VD : Hid (fval d' = some ((M + (k + 1 : Nat)) * U)) := vd'
      clear vc' vd' vc vd
      go_wp2_with (first
        | (go_at_call 12; refine (hN _).mono ?_; rintro e w' ⟨rfl, rfl⟩)
        | (go_at_call 13; refine (hG _).mono ?_; rintro e w' ⟨rfl, rfl⟩)
        | (go_at_call 15; refine (epoch_any _ _ _).mono ?_; rintro e w' ⟨rfl, rfl⟩))
      go_round
      case rel => exact ⟨k + 1, c', d', by omega, by go_num, rfl, VC, VD⟩
      case measure => simp [intOf]; omega
    · have hkn : k = KN := by omega
      subst hkn
      obtain ⟨s, g1, p1, g2, g3, hR, q1, q2⟩ := count_end CM DM c d E M k hE0 hE1 hM0 hM1 (by omega) VM.out VN.out vc.out vd.out
      have p2 : part CM = E := part_of VM.out
      have p3 : part d = M + k := part_of vd.out
      have p4 : part DM = M := part_of VN.out
      have p5 : part 0 = 0 := part_of val_zeroU
      clear vc vd VM VN
      go_wp2_with (first
        | (go_at_call 14; refine (hR _).mono ?_; rintro e w' ⟨rfl, rfl⟩)
        | (go_at_call 13; refine (gap_any _ _ _ _ _).mono ?_; rintro e w' ⟨rfl, rfl⟩)
        | (go_at_call 15; refine (epoch_any _ _ _).mono ?_; rintro e w' ⟨rfl, rfl⟩)
        | (go_at_call 16; refine (number_any _ _ _).mono ?_; rintro e w' ⟨rfl, rfl⟩)
        | (go_at_call 11; refine (awake_any _).mono ?_; rintro e w' ⟨rfl, rfl⟩))
      go_ret
      exact ⟨rfl, Below.refl _ _⟩

theorem walk_MarkCounts (e n m : Int) (_ : (Lit.int .i64 e).wf = true) (_ : (Lit.int .i64 n).wf = true) (_ : (Lit.int .i64 m).wf = true) (w : World) :
    Calls Try.prog 6 #[.int .i64 e, .int .i64 n, .int .i64 m] w fun e w' => e = .returned (.bool true) ∧ Below w.heap.size w w' := by
  have b1 := placeV_bd e 1000 (by omega)
  have b2 := placeV_bd n 1000 (by omega)
  have b3 := placeV_bd m 300 (by omega)
  have ha := fun w => at_yes (placeV e 1000) (placeV n 1000) w (by unfold withinB; exact decide_eq_true ⟨by omega, by omega⟩) (by unfold withinB; exact decide_eq_true ⟨by omega, by omega⟩)
  exact counts_core e n m _ _ _ _ _ w b1.1 (by omega) b2.1 (by omega) b3.1 (by omega) (fun w => place_any e 1000 w (by omega) (by omega)) (fun w => place_any n 1000 w (by omega) (by omega)) (fun w => place_any m 300 w (by omega) (by omega)) ha (ofInt_val _ (by omega)) (ofInt_val _ (by omega))

end Go.Proofs.Ytiecakeeekeidab
