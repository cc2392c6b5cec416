/- VowAcks. -/
import Derived.Test.YtaofhjckliobpabVpD
namespace Go.Proofs.Ytaofhjckliobpab
open Go.RowKit Go.Shelf Go.Sort
attribute [local go_sem high] eqK neqK guardK

def kN (j : Nat) : Ky := ⟨j, ⟨#[107]⟩⟩
def bkA (j : Nat) : Bs := ⟨(j : Int) + 1, (j : Int) + 1, false, [kN j]⟩
def SA (m : Nat) : Vs := ⟨2, m, [kN m], (List.range m).map bkA, 1, 16⟩
theorem kN_ne {i j : Nat} (h : i ≠ j) : eqKy (kN i) (kN j) = false := eqKy_no fun e => h (by have := congrArg Ky.d e; unfold kN at this; simp at this; omega)
theorem acks_0 : (Vs.new 2 1 16).grant (kN 0) 0 = (SA 0, []) := rfl
theorem acks_s (m : Nat) (h : m < 16) : (SA m).grant (kN (m + 1)) ((m : Int) + 1) = (SA (m + 1), [bkA m]) := by
  have h1 : dropK [kN m] (kN (m + 1)) ++ [kN (m + 1)] = [kN m, kN (m + 1)] := by
    unfold dropK; rw [List.filter_cons, kN_ne (by omega)]; rfl
  have h2 : dropK [kN m, kN (m + 1)] (kN m) = [kN (m + 1)] := by
    unfold dropK; rw [List.filter_cons, eqKy_self, List.filter_cons, kN_ne (by omega)]; rfl
  unfold Vs.grant
  rw [show dropK (SA m).ks (kN (m + 1)) ++ [kN (m + 1)] = [kN m, kN (m + 1)] from h1, if_neg (by show ¬ 2 ≤ 1; omega)]
  simp only [h2]
  unfold Vs.tell
  rw [if_pos (by show (m : Int) < MX; unfold MX; omega), if_neg (by show ¬ ((List.range m).map bkA).length = 16; rw [List.length_map, List.length_range]; omega)]
  have e : (List.range (m + 1)).map bkA = (List.range m).map bkA ++ [bkA m] := by rw [List.range_succ, List.map_append]; rfl
  show (Vs.mk _ _ _ _ _ _, _) = (Vs.mk _ _ _ _ _ _, _)
  rw [e]
  rfl
theorem filt_range (a k : Nat) : (List.range k).filter (fun j => decide (a ≤ j)) = (List.range k).drop a := by
  induction k with
  | zero => simp
  | succ k ih =>
    rw [List.range_succ, List.filter_append, ih]
    rcases Nat.lt_or_ge k a with h | h
    · rw [List.drop_eq_nil_of_le (by simp; omega), List.drop_eq_nil_of_le (by simp; omega)]
      simp; omega
    · rw [List.drop_append_of_le_length (by simp; omega)]
      simp [h]
theorem acks_q (k a : Nat) : ((List.range k).map bkA).filter (fun b => decide ((a : Int) < b.n)) = ((List.range k).map bkA).drop a := by
  rw [List.filter_map, ← List.map_drop, ← filt_range]
  congr 1
  apply List.filter_congr
  intro j _
  show decide ((a : Int) < (j : Int) + 1) = decide (a ≤ j)
  by_cases h : a ≤ j
  · rw [decide_eq_true h, decide_eq_true (by omega)]
  · rw [decide_eq_false h, decide_eq_false (by omega)]
theorem acks_q2 (k a l : Nat) (h : l ≤ a) : (((List.range k).map bkA).drop a).filter (fun b => decide ((l : Int) < b.n)) = ((List.range k).map bkA).drop a := by
  rw [List.filter_eq_self]
  intro b hb
  rw [← acks_q] at hb
  have := (List.mem_filter.1 hb).2
  simp only [decide_eq_true_eq] at this ⊢
  omega
set_option maxHeartbeats 8000000 in
theorem walk_VowAcks (n a l : Int) (_ : (Lit.int .i64 n).wf = true) (_ : (Lit.int .i64 a).wf = true) (_ : (Lit.int .i64 l).wf = true) (w : World) : Calls Try.prog 4 #[.int .i64 n, .int .i64 a, .int .i64 l] w fun e w' => e = .returned (.bool true) ∧ Below w.heap.size w w' := by
  have hnew := lv_new w w (Below.refl _ _) 2 1 16 (by omega) (by omega) (by omega) (by omega) (by omega) (by omega)
  change Calls Try.prog 6 #[.int .i64 2, .int .i64 1, .int .i64 16] w _ at hnew
  have hp1 := fun W => place_any n 17 W (by omega) (by omega)
  have hk := pl_lt n 17 (by omega)
  obtain ⟨k, hkk⟩ : ∃ k, pl n 17 = k := ⟨_, rfl⟩
  rw [hkk] at hp1 hk
  change ∀ W, Calls Try.prog 5 #[.int .i64 n, .int .i64 17] W _ at hp1
  clear hkk
  go_enter Try.func4, Try.ntmps4
  go_upto_region 5 with (first
    | (go_at_call 6; refine hnew.mono ?_; rintro e w1 ⟨rfl, hL1, -⟩)
    | (go_at_call 5; refine (hp1 _).mono ?_; rintro e w2 ⟨rfl, rfl⟩))
  have HL : Hid (Lv w w2 w.heap.size (Vs.new 2 1 16) (fun _ => False)) := hL1.mono fun _ h => h.elim
  clear hnew hp1 hL1
  go_wp2
  go_loopw [10] (fun s10 wr => ∃ i : Nat, s10 = .int .i64 i ∧ i ≤ k + 1 ∧ Hid (Lv w wr w.heap.size (match i with | 0 => Vs.new 2 1 16 | m + 1 => SA m) (fun _ => False))) (fun s10 _ => k + 1 - (intOf s10).toNat)
  case atStart => exact ⟨0, rfl, by omega, HL⟩
  case round =>
    obtain ⟨i, rfl, hi, HI⟩ := hrel
    by_cases hlt : i ≤ k
    · have hltz : (i : Int) ≤ (k : Int) := by omega
      have hg : Calls Try.prog 7 #[.pointer (some ⟨w.heap.size, 0, none⟩), .agg #[.int .i64 i, .string ⟨#[107]⟩], .int .i64 i] wr fun x w' => ∃ v', x = .returned v' ∧ (∃ a c, v' = .slice a 0 c ∨ v' = .slice a 1 c) ∧ Lv w w' w.heap.size (SA i) (fun _ => False) := by
        match i, HI with
        | 0, HI =>
          have h := lv_grant HI.out (kN 0) 0
          rw [acks_0] at h
          refine h.mono ?_
          rintro x w' ⟨v', rfl, Bq, hc⟩
          obtain ⟨av, cv, rfl⟩ := hc.rt.form
          exact ⟨_, rfl, ⟨av, cv, .inl rfl⟩, hc.lv.mono fun _ h => h.elim⟩
        | m + 1, HI =>
          have h := lv_grant HI.out (kN (m + 1)) ((m : Int) + 1)
          rw [acks_s m (by omega)] at h
          refine h.mono ?_
          rintro x w' ⟨v', rfl, Bq, hc⟩
          obtain ⟨av, cv, rfl⟩ := hc.rt.form
          exact ⟨_, rfl, ⟨av, cv, .inr rfl⟩, hc.lv.mono fun _ h => h.elim⟩
      have HG : Hid (Calls Try.prog 7 #[.pointer (some ⟨w.heap.size, 0, none⟩), .agg #[.int .i64 i, .string ⟨#[107]⟩], .int .i64 i] wr fun x w' => ∃ v', x = .returned v' ∧ (∃ a c, v' = .slice a 0 c ∨ v' = .slice a 1 c) ∧ Lv w w' w.heap.size (SA i) (fun _ => False)) := hg
      clear hg HI
      go_wp2_with (go_at_call 7; refine HG.out.mono ?_; rintro e w3 ⟨v3, rfl, -, hL3⟩)
      exact ⟨⟨i + 1, by simp, by omega, hL3⟩, by simp [intOf]; omega⟩
    · obtain rfl : i = k + 1 := by omega
      have hltz : ¬ (((k + 1 : Nat) : Int)) ≤ (k : Int) := by omega
      have HS : Hid (Lv w wr w.heap.size (SA k) (fun _ => False)) := HI.out
      have hq := lv_queue HS.out
      have hp2 := fun W => place_any a (k + 1) W (by omega) (by omega)
      have hak := pl_lt a (k + 1) (by omega)
      obtain ⟨A, hA⟩ : ∃ A, pl a (k + 1) = A := ⟨_, rfl⟩
      rw [hA] at hp2 hak
      have hp3 := fun W => place_any l (A + 1) W (by omega) (by omega)
      have hlk := pl_lt l (A + 1) (by omega)
      obtain ⟨Lq, hLq⟩ : ∃ y, pl l (A + 1) = y := ⟨_, rfl⟩
      rw [hLq] at hp3 hlk
      have hp3w : ∀ W, Calls Try.prog 5 #[.int .i64 l, .int .i64 (IntKind.i64.wrap ((A : Int) + 1))] W fun e w' => e = .returned (.int .i64 Lq) ∧ w' = W := fun W => by
        have h := hp3 W
        rw [IntWalk.i64_in _ (by omega)]; exact h
      clear HI hA hLq hp3
      go_upto_region 11 with (first
        | (go_at_call 10; refine hq.mono ?_; rintro e w3 ⟨v3, rfl, hR3, hb3⟩; obtain ⟨av, cv, hv3⟩ := hR3.form; subst hv3)
        | (go_at_call 5; refine (hp2 _).mono ?_; rintro e w4 ⟨rfl, rfl⟩))
      have hR4 : Rt w4 wr.heap.size (.slice av k cv) (SA k).q 2 := by
        have e : (SA k).q.length = k := by show ((List.range k).map bkA).length = k; rw [List.length_map, List.length_range]
        rw [e] at hR3; exact hR3
      have hql : (SA k).q.length = k := by show ((List.range k).map bkA).length = k; rw [List.length_map, List.length_range]
      rw [hql]
      have hL4 : Lv w w4 w.heap.size (SA k) (fun q => wr.heap.size ≤ q ∧ q < w4.heap.size) := (HS.out.on hb3).mono fun _ h => .inr h
      obtain ⟨f2, hf2⟩ : ∃ x, floatOfInt .f64 2 = x := ⟨_, rfl⟩
      have hm1 := fun (x : Int) W => mark_any 2 x W
      have mA : Mk (floatOfInt .f64 2) (floatOfInt .f64 (A : Int)) 2 A := Mk.of (by omega) (by omega) (by omega) (by omega)
      have mL : Mk (floatOfInt .f64 2) (floatOfInt .f64 (Lq : Int)) 2 Lq := Mk.of (by omega) (by omega) (by omega) (by omega)
      have mK : Mk (floatOfInt .f64 2) (floatOfInt .f64 (k : Int)) 2 k := Mk.of (by omega) (by omega) (by omega) (by omega)
      rw [hf2] at hm1 mA mL mK
      obtain ⟨ma, mb, hMm, hack⟩ := lv_ack hL4.drew f2 (floatOfInt .f64 (A : Int))
      have hgap : gapB f2 (floatOfInt .f64 (A : Int)) ma mb = true := by rw [mA.gap hMm]; exact decide_eq_true (by show (A : Int) ≤ (k : Int); omega)
      rw [hgap, mA.pb] at hack
      simp only [if_true] at hack
      have hS1 : (SA k).ack (A : Int) = { SA k with q := ((List.range k).map bkA).drop A } := by
        show Vs.mk _ _ _ (((List.range k).map bkA).filter fun b => decide ((A : Int) < b.n)) _ _ = _
        rw [acks_q]
      rw [hS1] at hack
      have hS2 : ({ SA k with q := ((List.range k).map bkA).drop A } : Vs).ack (Lq : Int) = { SA k with q := ((List.range k).map bkA).drop A } := by
        show Vs.mk _ _ _ ((((List.range k).map bkA).drop A).filter fun b => decide ((Lq : Int) < b.n)) _ _ = _
        rw [acks_q2 k A Lq (by omega)]
      have hbase : wr.heap.size ≤ w4.heap.size := hb3.size
      have HK : Hid (k < 17 ∧ A ≤ k ∧ Lq ≤ A) := ⟨hk, by omega, by omega⟩
      have HW : Hid (Lv w w4 w.heap.size (SA k) (fun q => wr.heap.size ≤ q ∧ q < w4.heap.size)) := hL4
      have HR : Hid (Rt w4 wr.heap.size (.slice av k cv) (SA k).q 2) := hR4
      have HM : Hid (Mk f2 (floatOfInt .f64 (A : Int)) 2 A ∧ Mk f2 (floatOfInt .f64 (Lq : Int)) 2 Lq ∧ Mk f2 (floatOfInt .f64 (k : Int)) 2 k) := ⟨mA, mL, mK⟩
      have HS2 : Hid (({ SA k with q := ((List.range k).map bkA).drop A } : Vs).ack (Lq : Int) = { SA k with q := ((List.range k).map bkA).drop A }) := hS2
      have HA : Hid (Calls Try.prog 14 #[.pointer (some ⟨w.heap.size, 0, none⟩), .complex .f64 f2 (floatOfInt .f64 (A : Int))] w4.drew fun x w' => x = .returned (.bool true) ∧ Lv w w' w.heap.size { SA k with q := ((List.range k).map bkA).drop A } (fun q => wr.heap.size ≤ q ∧ q < w4.heap.size) ∧ (∀ q, wr.heap.size ≤ q ∧ q < w4.heap.size → w'.heap[q]? = w4.drew.heap[q]?) ∧ w4.drew.heap.size ≤ w'.heap.size) := hack
      have hkk : ((k : Int) != (k : Int)) = false := by simp
      clear hL4 hR3 hR4 hf2 mA mL mK hMm hgap hS1 hS2 hack hq HS hql
      rcases HR.out.own with ⟨rfl, rfl, rfl⟩ | ⟨g, rfl, hgb, hgl, hkc⟩
      · have HV : Hid (∀ W : World, (∀ q, wr.heap.size ≤ q → q < w4.heap.size → W.heap[q]? = w4.heap[q]?) → w4.heap.size ≤ W.heap.size → Rd W (.slice none 0 0) (((List.range 0).map bkA).drop A) 2) := fun W _ _ => ⟨[], ⟨⟨none, 0, rfl, .inl ⟨rfl, rfl⟩⟩, fun b hb => by cases hb⟩, by simp, fun b hb => by cases hb⟩
        have HQ : Hid ((((List.range 0).map bkA).drop A).length ≤ 1000) := by show _ ≤ _; simp
        obtain rfl : A = 0 := by have := HK.out; omega
        go_region_held3 (fun _ => True) (first | trivial)
          (first
            | (go_at_call 8; refine (hm1 _ _).mono ?_; rintro e w5 ⟨rfl, rfl⟩)
            | (go_at_call 14; refine HA.out.mono ?_; rintro e w6 ⟨rfl, hL6, hkp6, hsz6⟩; have hq6 := lv_queue hL6)
            | (go_at_call 10; (refine hq6.mono ?_; rintro e w7 ⟨v7, rfl, hR7, hb7⟩; have hR7' : Rt w7 _ _ (((List.range 0).map bkA).drop 0) 2 := hR7; obtain ⟨a7, c7, hv7⟩ := hR7'.form; subst hv7; have hsm7 := same_rd hR7'.rd (HV.out w7 (fun q h1 h2 => (hb7.block q (Nat.lt_of_lt_of_le h2 hsz6)).trans (hkp6 q ⟨h1, h2⟩)) (Nat.le_trans hsz6 hb7.size)) (HQ.out)))
            | (go_at_call 13; refine hsm7.mono ?_; rintro e w8 ⟨rfl, hb8⟩))
        have hL8 := (((hL6.on hb7).mono (fun _ h => Or.inl h)).on hb8).mono (G := fun q => wr.heap.size ≤ q ∧ q < w4.heap.size) (fun _ h => Or.inl h)
        have hk8 : ∀ q, wr.heap.size ≤ q → q < w4.heap.size → w8.heap[q]? = w4.heap[q]? := fun q h1 h2 => (hb8.block q (Nat.lt_of_lt_of_le h2 (Nat.le_trans hsz6 hb7.size))).trans ((hb7.block q (Nat.lt_of_lt_of_le h2 hsz6)).trans (hkp6 q ⟨h1, h2⟩))
        have hs8 : w4.heap.size ≤ w8.heap.size := Nat.le_trans (Nat.le_trans hsz6 hb7.size) hb8.size
        obtain ⟨na, nb, hMn, hack2⟩ := lv_ack hL8.drew f2 (floatOfInt .f64 (Lq : Int))
        have hgap2 : gapB f2 (floatOfInt .f64 (Lq : Int)) na nb = true := by rw [HM.out.2.1.gap hMn]; refine decide_eq_true ?_; have := HK.out; show (Lq : Int) ≤ _; simp only [SA]; omega
        rw [hgap2, HM.out.2.1.pb] at hack2
        simp only [if_true] at hack2
        rw [HS2.out] at hack2
        have HA2 : Hid (Calls Try.prog 14 #[.pointer (some ⟨w.heap.size, 0, none⟩), .complex .f64 f2 (floatOfInt .f64 (Lq : Int))] w8.drew _) := hack2
        have HW8 : Hid ((∀ q, wr.heap.size ≤ q → q < w4.heap.size → w8.heap[q]? = w4.heap[q]?) ∧ w4.heap.size ≤ w8.heap.size) := ⟨hk8, hs8⟩
        clear hL6 hb7 hb8 hsz6 hkp6 hR7 hR7' hsm7 hq6 hL8 hk8 hs8 hMn hgap2 hack2
        go_upto_region 13 with fail
        go_region_held3 (fun _ => True) (first | trivial)
          (first
            | (go_at_call 5; refine (hp3w _).mono ?_; rintro e w9 ⟨rfl, rfl⟩)
            | (go_at_call 8; refine (hm1 _ _).mono ?_; rintro e w9 ⟨rfl, rfl⟩)
            | (go_at_call 14; refine (show Calls _ _ _ _ _ from HA2.out).mono ?_; rintro e wa ⟨rfl, hLa, hkpa, hsza⟩; have hqa := lv_queue hLa)
            | (go_at_call 10; refine hqa.mono ?_; rintro e wb ⟨vb, rfl, hRb, hbb⟩; have hRb' : Rt wb _ _ (((List.range 0).map bkA).drop 0) 2 := hRb; obtain ⟨ab, cb, hvb⟩ := hRb'.form; subst hvb; have hsmb := same_rd hRb'.rd (HV.out wb (fun q h1 h2 => (hbb.block q (Nat.lt_of_lt_of_le h2 (Nat.le_trans HW8.out.2 hsza))).trans ((hkpa q ⟨h1, h2⟩).trans (HW8.out.1 q h1 h2))) (Nat.le_trans (Nat.le_trans HW8.out.2 hsza) hbb.size)) (HQ.out))
            | (go_at_call 13; refine hsmb.mono ?_; rintro e wc ⟨rfl, hbc⟩; have hLc := (hLa.on (chainB hbb hbc)); obtain ⟨xa, xb, hMx, hmk⟩ := lv_mark hLc; have hMy : Mk xa xb 2 ((0 : Nat) : Int) := hMx; have hMz : Mk f2 (floatOfInt .f64 (0 : Int)) 2 ((0 : Nat) : Int) := HM.out.2.2; obtain ⟨o1, o2⟩ := mk_eq hMy hMz; rw [cmp_eq rfl] at o2; have hpr := lv_promises hLc)
            | (go_at_call 17; refine hmk.mono ?_; rintro e wd ⟨rfl, rfl⟩)
            | (go_at_call 11; refine hpr.mono ?_; rintro e we ⟨ve, rfl, hRe, hbe⟩; obtain ⟨ae, ce, hve⟩ := owns_len hRe; subst hve; have hbl := chainB hLc.below hbe)
            | (go_at_call 16; refine (awake_p _).mono ?_; rintro e wf ⟨rfl, hbf⟩))
        all_goals
          go_wp2
          go_ret
          exact ⟨rfl, chainB hbl hbf⟩
      · have hAk : A ≤ k := by omega
        have HLn : Hid ((((List.range k).map bkA).drop A).length = k - A) := by show _ = _; rw [List.length_drop, List.length_map, List.length_range]
        by_cases hAc : A < cv
        · have HV : Hid (∀ W : World, (∀ q, wr.heap.size ≤ q → q < w4.heap.size → W.heap[q]? = w4.heap[q]?) → w4.heap.size ≤ W.heap.size → Rd W (.slice (some ⟨g, A * 4, none⟩) (k - A) (cv - A)) (((List.range k).map bkA).drop A) 2) := fun W h1 _ => by
            have hr := (HR.out.moved h1).rd
            have := hr.cut A (cv - A) hAk
            rw [Nat.zero_add] at this
            exact this
          have HQ : Hid ((((List.range k).map bkA).drop A).length ≤ 1000) := by show _ ≤ _; rw [List.length_drop, List.length_map, List.length_range]; omega
          go_region_held3 (fun _ => True) (first | trivial)
            (first
              | (go_at_call 8; refine (hm1 _ _).mono ?_; rintro e w5 ⟨rfl, rfl⟩)
              | (go_at_call 14; refine HA.out.mono ?_; rintro e w6 ⟨rfl, hL6, hkp6, hsz6⟩; have hq6 := lv_queue hL6)
              | (go_at_call 10; (refine hq6.mono ?_; rintro e w7 ⟨v7, rfl, hR7, hb7⟩; have hR7' : Rt w7 _ _ (((List.range k).map bkA).drop A) 2 := hR7; obtain ⟨a7, c7, hv7⟩ := hR7'.form; rw [HLn.out] at hv7; subst hv7; have hsm7 := same_rd hR7'.rd (HV.out w7 (fun q h1 h2 => (hb7.block q (Nat.lt_of_lt_of_le h2 hsz6)).trans (hkp6 q ⟨h1, h2⟩)) (Nat.le_trans hsz6 hb7.size)) (HQ.out)))
              | (go_at_call 13; refine hsm7.mono ?_; rintro e w8 ⟨rfl, hb8⟩))
          have hL8 := (((hL6.on hb7).mono (fun _ h => Or.inl h)).on hb8).mono (G := fun q => wr.heap.size ≤ q ∧ q < w4.heap.size) (fun _ h => Or.inl h)
          have hk8 : ∀ q, wr.heap.size ≤ q → q < w4.heap.size → w8.heap[q]? = w4.heap[q]? := fun q h1 h2 => (hb8.block q (Nat.lt_of_lt_of_le h2 (Nat.le_trans hsz6 hb7.size))).trans ((hb7.block q (Nat.lt_of_lt_of_le h2 hsz6)).trans (hkp6 q ⟨h1, h2⟩))
          have hs8 : w4.heap.size ≤ w8.heap.size := Nat.le_trans (Nat.le_trans hsz6 hb7.size) hb8.size
          obtain ⟨na, nb, hMn, hack2⟩ := lv_ack hL8.drew f2 (floatOfInt .f64 (Lq : Int))
          have hgap2 : gapB f2 (floatOfInt .f64 (Lq : Int)) na nb = true := by rw [HM.out.2.1.gap hMn]; refine decide_eq_true ?_; have := HK.out; show (Lq : Int) ≤ _; simp only [SA]; omega
          rw [hgap2, HM.out.2.1.pb] at hack2
          simp only [if_true] at hack2
          rw [HS2.out] at hack2
          have HA2 : Hid (Calls Try.prog 14 #[.pointer (some ⟨w.heap.size, 0, none⟩), .complex .f64 f2 (floatOfInt .f64 (Lq : Int))] w8.drew _) := hack2
          have HW8 : Hid ((∀ q, wr.heap.size ≤ q → q < w4.heap.size → w8.heap[q]? = w4.heap[q]?) ∧ w4.heap.size ≤ w8.heap.size) := ⟨hk8, hs8⟩
          clear hL6 hb7 hb8 hsz6 hkp6 hR7 hR7' hsm7 hq6 hL8 hk8 hs8 hMn hgap2 hack2
          go_upto_region 13 with fail
          go_region_held3 (fun _ => True) (first | trivial)
            (first
              | (go_at_call 5; refine (hp3w _).mono ?_; rintro e w9 ⟨rfl, rfl⟩)
              | (go_at_call 8; refine (hm1 _ _).mono ?_; rintro e w9 ⟨rfl, rfl⟩)
              | (go_at_call 14; refine (show Calls _ _ _ _ _ from HA2.out).mono ?_; rintro e wa ⟨rfl, hLa, hkpa, hsza⟩; have hqa := lv_queue hLa)
              | (go_at_call 10; refine hqa.mono ?_; rintro e wb ⟨vb, rfl, hRb, hbb⟩; have hRb' : Rt wb _ _ (((List.range k).map bkA).drop A) 2 := hRb; obtain ⟨ab, cb, hvb⟩ := hRb'.form; rw [HLn.out] at hvb; subst hvb; have hsmb := same_rd hRb'.rd (HV.out wb (fun q h1 h2 => (hbb.block q (Nat.lt_of_lt_of_le h2 (Nat.le_trans HW8.out.2 hsza))).trans ((hkpa q ⟨h1, h2⟩).trans (HW8.out.1 q h1 h2))) (Nat.le_trans (Nat.le_trans HW8.out.2 hsza) hbb.size)) (HQ.out))
              | (go_at_call 13; refine hsmb.mono ?_; rintro e wc ⟨rfl, hbc⟩; have hLc := (hLa.on (chainB hbb hbc)); obtain ⟨xa, xb, hMx, hmk⟩ := lv_mark hLc; have hMy : Mk xa xb 2 ((k : Nat) : Int) := hMx; have hMz : Mk f2 (floatOfInt .f64 (k : Int)) 2 ((k : Nat) : Int) := HM.out.2.2; obtain ⟨o1, o2⟩ := mk_eq hMy hMz; rw [cmp_eq rfl] at o2; have hpr := lv_promises hLc)
              | (go_at_call 17; refine hmk.mono ?_; rintro e wd ⟨rfl, rfl⟩)
              | (go_at_call 11; refine hpr.mono ?_; rintro e we ⟨ve, rfl, hRe, hbe⟩; obtain ⟨ae, ce, hve⟩ := owns_len hRe; subst hve; have hbl := chainB hLc.below hbe)
              | (go_at_call 16; refine (awake_p _).mono ?_; rintro e wf ⟨rfl, hbf⟩))
          all_goals
            go_wp2
            go_ret
            exact ⟨rfl, chainB hbl hbf⟩
        · have hce : cv = k := by omega
          have hke : A = k := by omega
          subst hke
          subst hce
          have HV : Hid (∀ W : World, (∀ q, wr.heap.size ≤ q → q < w4.heap.size → W.heap[q]? = w4.heap[q]?) → w4.heap.size ≤ W.heap.size → Rd W (.slice (some ⟨g, 0, none⟩) 0 0) (((List.range cv).map bkA).drop cv) 2) := fun W h1 h2 => by
            rw [List.drop_eq_nil_of_le (by simp)]
            exact Rd.empty (by omega)
          have HQ : Hid ((((List.range cv).map bkA).drop cv).length ≤ 1000) := by show _ ≤ _; rw [List.length_drop, List.length_map, List.length_range]; omega
          have HLn : Hid ((((List.range cv).map bkA).drop cv).length = 0) := by show _ = _; rw [List.length_drop, List.length_map, List.length_range]; omega
          go_region_held3 (fun _ => True) (first | trivial)
            (first
              | (go_at_call 8; refine (hm1 _ _).mono ?_; rintro e w5 ⟨rfl, rfl⟩)
              | (go_at_call 14; refine HA.out.mono ?_; rintro e w6 ⟨rfl, hL6, hkp6, hsz6⟩; have hq6 := lv_queue hL6)
              | (go_at_call 10; (refine hq6.mono ?_; rintro e w7 ⟨v7, rfl, hR7, hb7⟩; have hR7' : Rt w7 _ _ (((List.range cv).map bkA).drop cv) 2 := hR7; obtain ⟨a7, c7, hv7⟩ := hR7'.form; rw [HLn.out] at hv7; subst hv7; have hsm7 := same_rd hR7'.rd (HV.out w7 (fun q h1 h2 => (hb7.block q (Nat.lt_of_lt_of_le h2 hsz6)).trans (hkp6 q ⟨h1, h2⟩)) (Nat.le_trans hsz6 hb7.size)) (HQ.out)))
              | (go_at_call 13; refine hsm7.mono ?_; rintro e w8 ⟨rfl, hb8⟩))
          have hL8 := (((hL6.on hb7).mono (fun _ h => Or.inl h)).on hb8).mono (G := fun q => wr.heap.size ≤ q ∧ q < w4.heap.size) (fun _ h => Or.inl h)
          have hk8 : ∀ q, wr.heap.size ≤ q → q < w4.heap.size → w8.heap[q]? = w4.heap[q]? := fun q h1 h2 => (hb8.block q (Nat.lt_of_lt_of_le h2 (Nat.le_trans hsz6 hb7.size))).trans ((hb7.block q (Nat.lt_of_lt_of_le h2 hsz6)).trans (hkp6 q ⟨h1, h2⟩))
          have hs8 : w4.heap.size ≤ w8.heap.size := Nat.le_trans (Nat.le_trans hsz6 hb7.size) hb8.size
          obtain ⟨na, nb, hMn, hack2⟩ := lv_ack hL8.drew f2 (floatOfInt .f64 (Lq : Int))
          have hgap2 : gapB f2 (floatOfInt .f64 (Lq : Int)) na nb = true := by rw [HM.out.2.1.gap hMn]; refine decide_eq_true ?_; have := HK.out; show (Lq : Int) ≤ _; simp only [SA]; omega
          rw [hgap2, HM.out.2.1.pb] at hack2
          simp only [if_true] at hack2
          rw [HS2.out] at hack2
          have HA2 : Hid (Calls Try.prog 14 #[.pointer (some ⟨w.heap.size, 0, none⟩), .complex .f64 f2 (floatOfInt .f64 (Lq : Int))] w8.drew _) := hack2
          have HW8 : Hid ((∀ q, wr.heap.size ≤ q → q < w4.heap.size → w8.heap[q]? = w4.heap[q]?) ∧ w4.heap.size ≤ w8.heap.size) := ⟨hk8, hs8⟩
          clear hL6 hb7 hb8 hsz6 hkp6 hR7 hR7' hsm7 hq6 hL8 hk8 hs8 hMn hgap2 hack2
          go_upto_region 13 with fail
          go_region_held3 (fun _ => True) (first | trivial)
            (first
              | (go_at_call 5; refine (hp3w _).mono ?_; rintro e w9 ⟨rfl, rfl⟩)
              | (go_at_call 8; refine (hm1 _ _).mono ?_; rintro e w9 ⟨rfl, rfl⟩)
              | (go_at_call 14; refine (show Calls _ _ _ _ _ from HA2.out).mono ?_; rintro e wa ⟨rfl, hLa, hkpa, hsza⟩; have hqa := lv_queue hLa)
              | (go_at_call 10; refine hqa.mono ?_; rintro e wb ⟨vb, rfl, hRb, hbb⟩; have hRb' : Rt wb _ _ (((List.range cv).map bkA).drop cv) 2 := hRb; obtain ⟨ab, cb, hvb⟩ := hRb'.form; rw [HLn.out] at hvb; subst hvb; have hsmb := same_rd hRb'.rd (HV.out wb (fun q h1 h2 => (hbb.block q (Nat.lt_of_lt_of_le h2 (Nat.le_trans HW8.out.2 hsza))).trans ((hkpa q ⟨h1, h2⟩).trans (HW8.out.1 q h1 h2))) (Nat.le_trans (Nat.le_trans HW8.out.2 hsza) hbb.size)) (HQ.out))
              | (go_at_call 13; refine hsmb.mono ?_; rintro e wc ⟨rfl, hbc⟩; have hLc := (hLa.on (chainB hbb hbc)); obtain ⟨xa, xb, hMx, hmk⟩ := lv_mark hLc; have hMy : Mk xa xb 2 ((cv : Nat) : Int) := hMx; have hMz : Mk f2 (floatOfInt .f64 (cv : Int)) 2 ((cv : Nat) : Int) := HM.out.2.2; obtain ⟨o1, o2⟩ := mk_eq hMy hMz; rw [cmp_eq rfl] at o2; have hpr := lv_promises hLc)
              | (go_at_call 17; refine hmk.mono ?_; rintro e wd ⟨rfl, rfl⟩)
              | (go_at_call 11; refine hpr.mono ?_; rintro e we ⟨ve, rfl, hRe, hbe⟩; obtain ⟨ae, ce, hve⟩ := owns_len hRe; subst hve; have hbl := chainB hLc.below hbe)
              | (go_at_call 16; refine (awake_p _).mono ?_; rintro e wf ⟨rfl, hbf⟩))
          all_goals
            go_wp2
            go_ret
            exact ⟨rfl, chainB hbl hbf⟩
end Go.Proofs.Ytaofhjckliobpab
