/- VowFloods. -/
import Derived.Test.YtaofhjckliobpabTkA
namespace Go.Proofs.Ytaofhjckliobpab
open Go.RowKit Go.Shelf Go.Sort
attribute [local go_sem high] eqK neqK guardK

def kF (j : Nat) : Ky := ⟨1 + (j : Int), ⟨#[107]⟩⟩
def bkF (ver : Int) (j : Nat) : Bs := ⟨(j : Int) + 1, ver, false, [kF j]⟩
def SF (ver : Int) (q m : Nat) : Vs := ⟨5, m, [kF m], (List.range m).map (bkF ver), 1, q⟩
theorem kF_ne {i j : Nat} (h : i ≠ j) : eqKy (kF i) (kF j) = false := eqKy_no fun e => h (by have := congrArg Ky.d e; unfold kF at this; simp at this; omega)
theorem flood_0 (ver : Int) (q : Nat) : (Vs.new 5 1 q).grant (kF 0) ver = (SF ver q 0, []) := rfl
theorem flood_s (ver : Int) (q m : Nat) (h : m < q) (hq : q ≤ 16) : (SF ver q m).grant (kF (m + 1)) ver = (SF ver q (m + 1), [bkF ver m]) := by
  have h1 : dropK [kF m] (kF (m + 1)) ++ [kF (m + 1)] = [kF m, kF (m + 1)] := by
    unfold dropK; rw [List.filter_cons, kF_ne (by omega)]; rfl
  have h2 : dropK [kF m, kF (m + 1)] (kF m) = [kF (m + 1)] := by
    unfold dropK; rw [List.filter_cons, eqKy_self, List.filter_cons, kF_ne (by omega)]; rfl
  unfold Vs.grant
  rw [show dropK (SF ver q m).ks (kF (m + 1)) ++ [kF (m + 1)] = [kF m, kF (m + 1)] from h1, if_neg (by show ¬ 2 ≤ 1; omega)]
  simp only [h2]
  unfold Vs.tell
  rw [if_pos (by show (m : Int) < MX; unfold MX; omega), if_neg (by show ¬ ((List.range m).map (bkF ver)).length = q; rw [List.length_map, List.length_range]; omega)]
  have e : (List.range (m + 1)).map (bkF ver) = (List.range m).map (bkF ver) ++ [bkF ver m] := by rw [List.range_succ, List.map_append]; rfl
  show (Vs.mk _ _ _ _ _ _, _) = (Vs.mk _ _ _ _ _ _, _)
  rw [e]
  rfl
theorem flood_t (ver : Int) (q : Nat) (hq : q ≤ 16) : (SF ver q q).touch [kF q] ver = (⟨5, (q : Int) + 1, [], [⟨(q : Int) + 1, ver, true, []⟩], 1, q⟩, [⟨(q : Int) + 1, ver, true, []⟩]) := by
  have ht : (SF ver q q).told [kF q] = [kF q] := by
    unfold Vs.told Vs.holds
    have : inK (SF ver q q).ks (kF q) = true := (inK_iff _ _).2 (by show kF q ∈ [kF q]; simp)
    rw [List.filter_cons, this]; rfl
  unfold Vs.touch
  rw [ht, srtK_one, if_neg (by simp)]
  unfold Vs.tell
  rw [if_pos (by show (q : Int) < MX; unfold MX; omega), if_pos (by show ((List.range q).map (bkF ver)).length = q; rw [List.length_map, List.length_range])]
  rfl
def SG (ver : Int) (q : Nat) : Nat → Vs
  | 0 => Vs.new 5 1 q
  | m + 1 => SF ver q m
/-- what a Grant of the loop leaves -/
def FlR (ver : Int) (w w' : World) (t q i : Nat) (v' : Value) : Prop := Lv w w' t (SF ver q i) (fun _ => False) ∧ ((i = 0 ∧ ∃ a c, v' = .slice a 0 c) ∨ (0 < i ∧ ∃ Bq, Rt w' Bq v' [⟨(i : Int), ver, false, [⟨(i : Int), ⟨#[107]⟩⟩]⟩] 5))
theorem flood_g {ver : Int} {w wr : World} {t q i : Nat} (hi : i ≤ q) (hq : q ≤ 16) (HI : Lv w wr t (SG ver q i) (fun _ => False)) :
    Calls Try.prog 7 #[.pointer (some ⟨t, 0, none⟩), .agg #[.int .i64 (1 + (i : Int)), .string ⟨#[107]⟩], .int .i64 ver] wr fun x w' => ∃ v', x = .returned v' ∧ FlR ver w w' t q i v' := by
  match i, HI with
  | 0, HI =>
    have h := lv_grant (show Lv w wr t (Vs.new 5 1 q) _ from HI) (kF 0) ver
    rw [flood_0] at h
    refine h.mono ?_
    rintro x w' ⟨v', rfl, Bq, hc⟩
    exact ⟨_, rfl, hc.lv.mono fun _ h => h.elim, .inl ⟨rfl, hc.rt.form⟩⟩
  | m + 1, HI =>
    have h := lv_grant (show Lv w wr t (SF ver q m) _ from HI) (kF (m + 1)) ver
    rw [flood_s ver q m (by omega) hq] at h
    refine h.mono ?_
    rintro x w' ⟨v', rfl, Bq, hc⟩
    refine ⟨_, rfl, hc.lv.mono fun _ h => h.elim, .inr ⟨by omega, Bq, ?_⟩⟩
    have e : [bkF ver m] = [(⟨((m + 1 : Nat) : Int), ver, false, [⟨((m + 1 : Nat) : Int), ⟨#[107]⟩⟩]⟩ : Bs)] := by
      unfold bkF kF
      rw [show (1 : Int) + (m : Int) = ((m + 1 : Nat) : Int) by omega]; rfl
    rw [← e]; exact hc.rt
set_option maxHeartbeats 8000000 in
set_option maxRecDepth 20000 in
theorem walk_VowFloods (qq ver : Int) (_ : (Lit.int .i64 qq).wf = true) (_ : (Lit.int .i64 ver).wf = true) (w : World) : Calls Try.prog 3 #[.int .i64 qq, .int .i64 ver] w fun e w' => e = .returned (.bool true) ∧ Below w.heap.size w w' := by
  have hp1 := fun W => place_any qq 16 W (by omega) (by omega)
  have hk := pl_lt qq 16 (by omega)
  obtain ⟨P0, hkk⟩ : ∃ k, pl qq 16 = k := ⟨_, rfl⟩
  rw [hkk] at hp1 hk
  change ∀ W, Calls Try.prog 5 #[.int .i64 qq, .int .i64 16] W _ at hp1
  clear hkk
  go_enter Try.func3, Try.ntmps3
  go_upto_region 2 with (go_at_call 5; refine (hp1 _).mono ?_; rintro e w2 ⟨rfl, rfl⟩)
  obtain ⟨q, hq⟩ : ∃ q, 1 + P0 = q := ⟨_, rfl⟩
  have hqz : (1 : Int) + (P0 : Int) = (q : Int) := by omega
  rw [hqz]
  have hq16 : q ≤ 16 := by omega
  have hq1 : 1 ≤ q := by omega
  have hnew := lv_new w2 w2 (Below.refl _ _) 5 1 q (by omega) (by omega) (by omega) (by omega) hq1 hq16
  change Calls Try.prog 6 #[.int .i64 5, .int .i64 1, .int .i64 q] w2 _ at hnew
  clear hp1 hk hq hqz
  go_upto_region 5 with (go_at_call 6; refine hnew.mono ?_; rintro e w1 ⟨rfl, hL1, -⟩)
  have HL : Hid (Lv w2 w1 w2.heap.size (Vs.new 5 1 q) (fun _ => False)) := hL1.mono fun _ h => h.elim
  clear hnew hL1
  go_wp2
  go_loopw [8, 9] (fun s8 _ wr => ∃ i : Nat, s8 = .int .i64 i ∧ i ≤ q + 1 ∧ Hid (Lv w2 wr w2.heap.size (SG ver q i) (fun _ => False))) (fun s8 _ _ => q + 1 - (intOf s8).toNat)
  case atStart => exact ⟨0, rfl, by omega, HL⟩
  case round =>
    obtain ⟨i, rfl, hi, HI⟩ := hrel
    by_cases hlt : i ≤ q
    · have hltz : (i : Int) ≤ (q : Int) := by omega
      have hg := flood_g hlt hq16 HI.out
      clear HI
      by_cases hi0 : i = 0
      · subst hi0
        change Calls Try.prog 7 #[.pointer (some ⟨w2.heap.size, 0, none⟩), .agg #[.int .i64 1, .string ⟨#[107]⟩], .int .i64 ver] wr _ at hg
        go_upto_region 9 with (go_at_call 7; refine hg.mono ?_; rintro e w3 ⟨v3, rfl, hL3, h3⟩; obtain ⟨-, a3, c3, hv3⟩ := h3.resolve_right (fun h => absurd h.1 (by omega)); subst hv3)
        go_quiet (fail)
        go_wp2
        exact ⟨⟨1, rfl, by omega, hL3.drewN _⟩, by simp [intOf]⟩
      · have HN : Hid (0 < i) := by show 0 < i; omega
        go_upto_region 9 with (go_at_call 7; refine hg.mono ?_; rintro e w3 ⟨v3, rfl, hL3, h3⟩; obtain ⟨-, Bq, hR3⟩ := h3.resolve_left (fun h => absurd h.1 hi0); obtain ⟨g, c3, b, hv3, hgl, x0, -, x2, x3, hM, hK⟩ := hR3.one; subst hv3)
        simp only [List.length_singleton] at x2 x3 hK
        have hiz1 : ((i : Int) == 0) = false := beq_eq_false_iff_ne.2 (by omega)
        have hiz2 : (0 : Int) < (i : Int) := by have := HN.out; omega
        have hiz3 : 0 < i := HN.out
        have hm := fun (x : Int) W => mark_any 5 x W
        have mI : Mk (floatOfInt .f64 5) (floatOfInt .f64 (i : Int)) 5 i := Mk.of (by omega) (by omega) (by omega) (by omega)
        obtain ⟨f5, hf5⟩ : ∃ x, floatOfInt .f64 5 = x := ⟨_, rfl⟩
        rw [hf5] at hm mI
        obtain ⟨o1, o2⟩ := mk_eq hM mI
        rw [cmp_eq rfl] at o2
        have k0 : w3.drew.cell? ⟨g, 0, none⟩ = some (.complex .f64 b.a b.b) ∧ w3.drew.cell? ⟨g, 2, none⟩ = some (.bool false) ∧ w3.drew.cell? ⟨g, 3, none⟩ = some (.slice b.va 1 b.vc) := ⟨x0, x2, x3⟩
        have HSm : Hid (Calls Try.prog 9 #[.slice b.va 1 b.vc, .slice (some ⟨w3.heap.size, 0, none⟩) 1 1] (w3.drew.alloc (.cells #[.int .i64 (i : Int), .string ⟨#[107]⟩] 30)) fun e w' => e = .returned (.bool true) ∧ Below (w3.drew.alloc (.cells #[.int .i64 (i : Int), .string ⟨#[107]⟩] 30)).heap.size (w3.drew.alloc (.cells #[.int .i64 (i : Int), .string ⟨#[107]⟩] 30)) w') := by
          have hk1 := (hK.below ((Below.refl _ _).drew)).below (below_alloc w3.drew (.cells #[.int .i64 (i : Int), .string ⟨#[107]⟩] 30))
          have hk2 : RowK (w3.drew.alloc (.cells #[.int .i64 (i : Int), .string ⟨#[107]⟩] 30)) 0 (.slice (some ⟨w3.heap.size, 0, none⟩) 1 1) [⟨(i : Int), ⟨#[107]⟩⟩] := owns_whole (xs := kc [⟨(i : Int), ⟨#[107]⟩⟩]) (Nat.zero_le _) (heap_new w3.drew _) rfl (by unfold maxLen; omega)
          have := sameK_any _ _ _ _ _ hk1.rd hk2.rd (by simp) (by simp)
          rw [(sameKs_iff _ _).2 rfl] at this
          exact this
        clear hf5 hM mI hK hR3 h3 x0 x2 x3 hi0
        refine wp_region_held_drew (S := fun w' => w'.cell? ⟨g, 0, none⟩ = some (.complex .f64 b.a b.b) ∧ w'.cell? ⟨g, 2, none⟩ = some (.bool false) ∧ w'.cell? ⟨g, 3, none⟩ = some (.slice b.va 1 b.vc)) (by kernel_rfl) k0 (fun hHeld => ?_)
        refine tky 0 (some 36) rfl rfl ⟨?vr0, fun w hSw => ?ar0, fun _ _ _ h => h, ?br0⟩
        case ar0 => (try dsimp only at hSw); go_simp; (try rfl)
        try simp only [Act.put, List.setIfInBounds_toArray, List.set_cons_zero, List.set_cons_succ]
        refine tky 1 (some 37) rfl rfl ⟨.bool false, fun w hSw => ?ar1, fun _ _ _ h => h, ?br1⟩
        case ar1 => (try dsimp only at hSw); go_simp; (try rfl)
        try simp only [Act.put, List.setIfInBounds_toArray, List.set_cons_zero, List.set_cons_succ]
        refine tky 2 (some 38) rfl rfl ⟨?vr2, fun w hSw => ?ar2, fun _ _ _ h => h, ?br2⟩
        case ar2 => (try dsimp only at hSw); go_simp; (try rfl)
        try simp only [Act.put, List.setIfInBounds_toArray, List.set_cons_zero, List.set_cons_succ]
        refine tkn 3 (some 39) rfl rfl ?_
        try simp only [Act.put, List.setIfInBounds_toArray, List.set_cons_zero, List.set_cons_succ]
        refine tkn 4 (some 40) rfl rfl ?_
        try simp only [Act.put, List.setIfInBounds_toArray, List.set_cons_zero, List.set_cons_succ]
        refine tkn 5 (some 41) rfl rfl ?_
        try simp only [Act.put, List.setIfInBounds_toArray, List.set_cons_zero, List.set_cons_succ]
        refine tky 6 (some 42) rfl rfl ⟨?vr6, fun w hSw => ?ar6, fun _ _ _ h => h, ?br6⟩
        case ar6 => (try dsimp only at hSw); go_simp; (try rfl)
        try simp only [Act.put, List.setIfInBounds_toArray, List.set_cons_zero, List.set_cons_succ]
        refine tky 7 (some 43) rfl rfl ⟨?vr7, fun w hSw => ?ar7, fun _ _ _ h => h, ?br7⟩
        case ar7 => (try dsimp only at hSw); go_simp; (try rfl)
        try simp only [Act.put, List.setIfInBounds_toArray, List.set_cons_zero, List.set_cons_succ]
        refine tky 8 (some 44) rfl rfl ⟨?vr8, fun w hSw => ?ar8, fun _ _ _ h => h, ?br8⟩
        case ar8 => (try dsimp only at hSw); go_simp; (try rfl)
        try simp only [Act.put, List.setIfInBounds_toArray, List.set_cons_zero, List.set_cons_succ]
        refine tky 9 (some 45) rfl rfl ⟨.bool true, fun w hSw => ?ar9, fun _ _ _ h => h, ?br9⟩
        case ar9 => (try dsimp only at hSw); go_simp; (try rfl)
        try simp only [Act.put, List.setIfInBounds_toArray, List.set_cons_zero, List.set_cons_succ]
        refine tky 10 (some 46) rfl rfl ⟨?vr10, fun w hSw => ?ar10, fun _ _ _ h => h, ?br10⟩
        case ar10 => (try dsimp only at hSw); go_simp; (try rfl)
        try simp only [Act.put, List.setIfInBounds_toArray, List.set_cons_zero, List.set_cons_succ]
        refine tky 11 (some 47) rfl rfl ⟨?vr11, fun w hSw => ?ar11, fun _ _ _ h => h, ?br11⟩
        case ar11 => (try dsimp only at hSw); go_simp; (try rfl)
        try simp only [Act.put, List.setIfInBounds_toArray, List.set_cons_zero, List.set_cons_succ]
        refine tky 12 (some 48) rfl rfl ⟨?vr12, fun w hSw => ?ar12, fun _ _ _ h => h, ?br12⟩
        case ar12 => (try dsimp only at hSw); go_simp; (try rfl)
        try simp only [Act.put, List.setIfInBounds_toArray, List.set_cons_zero, List.set_cons_succ]
        refine tky 13 (some 49) rfl rfl ⟨.bool false, fun w hSw => ?ar13, fun _ _ _ h => h, ?br13⟩
        case ar13 => (try dsimp only at hSw); go_simp; (try rfl)
        try simp only [Act.put, List.setIfInBounds_toArray, List.set_cons_zero, List.set_cons_succ]
        refine tky 14 (some 50) rfl rfl ⟨?vr14, fun w hSw => ?ar14, fun _ _ _ h => h, ?br14⟩
        case ar14 => (try dsimp only at hSw); go_simp; (try rfl)
        try simp only [Act.put, List.setIfInBounds_toArray, List.set_cons_zero, List.set_cons_succ]
        refine tky 15 (some 51) rfl rfl ⟨?vr15, fun w hSw => ?ar15, fun _ _ _ h => h, ?br15⟩
        case ar15 => (try dsimp only at hSw); go_simp; (try rfl)
        try simp only [Act.put, List.setIfInBounds_toArray, List.set_cons_zero, List.set_cons_succ]
        refine tky 16 (some 52) rfl rfl ⟨?vr16, fun w hSw => ?ar16, fun _ _ _ h => h, ?br16⟩
        case ar16 => (try dsimp only at hSw); go_simp; (try rfl)
        try simp only [Act.put, List.setIfInBounds_toArray, List.set_cons_zero, List.set_cons_succ]
        refine tky 17 (some 53) rfl rfl ⟨?vr17, fun w hSw => ?ar17, fun _ _ _ h => h, ?br17⟩
        case ar17 => (try dsimp only at hSw); go_simp; (try rfl)
        try simp only [Act.put, List.setIfInBounds_toArray, List.set_cons_zero, List.set_cons_succ]
        refine tky 18 (some 54) rfl rfl ⟨.bool false, fun w hSw => ?ar18, fun _ _ _ h => h, ?br18⟩
        case ar18 => (try dsimp only at hSw); go_simp; (try rfl)
        try simp only [Act.put, List.setIfInBounds_toArray, List.set_cons_zero, List.set_cons_succ]
        refine tky 19 (some 55) rfl rfl ⟨?vr19, fun w hSw => ?ar19, fun _ _ _ h => h, ?br19⟩
        case ar19 => (try dsimp only at hSw); go_simp; (try rfl)
        try simp only [Act.put, List.setIfInBounds_toArray, List.set_cons_zero, List.set_cons_succ]
        refine tky 20 (some 56) rfl rfl ⟨?vr20, fun w hSw => ?ar20, fun _ _ _ h => h, ?br20⟩
        case ar20 => (try dsimp only at hSw); go_simp; (try rfl)
        try simp only [Act.put, List.setIfInBounds_toArray, List.set_cons_zero, List.set_cons_succ]
        refine tky 21 (some 57) rfl rfl ⟨?vr21, fun w hSw => ?ar21, fun _ _ _ h => h, ?br21⟩
        case ar21 => (try dsimp only at hSw); go_simp; (try rfl)
        try simp only [Act.put, List.setIfInBounds_toArray, List.set_cons_zero, List.set_cons_succ]
        refine tky 22 (some 58) rfl rfl ⟨?vr22, fun w hSw => ?ar22, fun _ _ _ h => h, ?br22⟩
        case ar22 => (try dsimp only at hSw); go_simp; (try rfl)
        try simp only [Act.put, List.setIfInBounds_toArray, List.set_cons_zero, List.set_cons_succ]
        refine tky 23 (some 59) rfl rfl ⟨?vr23, fun w hSw => ?ar23, fun _ _ _ h => h, ?br23⟩
        case ar23 => (try dsimp only at hSw); go_simp; (try rfl)
        try simp only [Act.put, List.setIfInBounds_toArray, List.set_cons_zero, List.set_cons_succ]
        refine tky 24 (some 60) rfl rfl ⟨?vr24, fun w hSw => ?ar24, fun _ _ _ h => h, ?br24⟩
        case ar24 => (try dsimp only at hSw); go_simp; (try rfl)
        try simp only [Act.put, List.setIfInBounds_toArray, List.set_cons_zero, List.set_cons_succ]
        refine tky 25 (some 61) rfl rfl ⟨?vr25, fun w hSw => ?ar25, fun _ _ _ h => h, ?br25⟩
        case ar25 => (try dsimp only at hSw); go_simp; (try rfl)
        try simp only [Act.put, List.setIfInBounds_toArray, List.set_cons_zero, List.set_cons_succ]
        refine wpAnyH_ready (rs := [26]) (by kernel_rfl) (by simp) ?_
        refine AllReadyH.cons rfl (fun K hK => ?_) AllReadyH.nil
        go_simp
        go_at_call 8
        refine (hm i _).mono ?_
        rintro e w4 ⟨rfl, rfl⟩
        refine hK.out _ _ k0 (fun hHeld => ?_)
        clear hK K
        refine tky 27 (some 63) rfl rfl ⟨.bool false, fun w hSw => ?ar27, fun _ _ _ h => h, ?br27⟩
        case ar27 => (try dsimp only at hSw); go_simp; (try rfl)
        try simp only [Act.put, List.setIfInBounds_toArray, List.set_cons_zero, List.set_cons_succ]
        refine tky 28 (some 64) rfl rfl ⟨?vr28, fun w hSw => ?ar28, fun _ _ _ h => h, ?br28⟩
        case ar28 => (try dsimp only at hSw); go_simp; (try rfl)
        try simp only [Act.put, List.setIfInBounds_toArray, List.set_cons_zero, List.set_cons_succ]
        refine tky 29 (some 65) rfl rfl ⟨?vr29, fun w hSw => ?ar29, fun _ _ _ h => h, ?br29⟩
        case ar29 => (try dsimp only at hSw); go_simp; (try rfl)
        try simp only [Act.put, List.setIfInBounds_toArray, List.set_cons_zero, List.set_cons_succ]
        refine tky 30 (some 66) rfl rfl ⟨?vr30, fun w hSw => ?ar30, fun _ _ _ h => h, ?br30⟩
        case ar30 => (try dsimp only at hSw); go_simp; (try rfl)
        try simp only [Act.put, List.setIfInBounds_toArray, List.set_cons_zero, List.set_cons_succ]
        refine tky 31 (some 67) rfl rfl ⟨?vr31, fun w hSw => ?ar31, fun _ _ _ h => h, ?br31⟩
        case ar31 => (try dsimp only at hSw); go_simp; (try rfl)
        try simp only [Act.put, List.setIfInBounds_toArray, List.set_cons_zero, List.set_cons_succ]
        refine tky 32 (some 68) rfl rfl ⟨?vr32, fun w hSw => ?ar32, fun _ _ _ h => h, ?br32⟩
        case ar32 => (try dsimp only at hSw); go_simp; (try rfl)
        try simp only [Act.put, List.setIfInBounds_toArray, List.set_cons_zero, List.set_cons_succ]
        refine tky 33 (some 69) rfl rfl ⟨?vr33, fun w hSw => ?ar33, fun _ _ _ h => h, ?br33⟩
        case ar33 => (try dsimp only at hSw); go_simp; (try rfl)
        try simp only [Act.put, List.setIfInBounds_toArray, List.set_cons_zero, List.set_cons_succ]
        refine tky 34 (some 70) rfl rfl ⟨?vr34, fun w hSw => ?ar34, fun _ _ _ h => h, ?br34⟩
        case ar34 => (try dsimp only at hSw); go_simp; (try rfl)
        try simp only [Act.put, List.setIfInBounds_toArray, List.set_cons_zero, List.set_cons_succ]
        refine tky 35 (some 71) rfl rfl ⟨?vr35, fun w hSw => ?ar35, fun _ _ _ h => h, ?br35⟩
        case ar35 => (try dsimp only at hSw); go_simp; (try rfl)
        try simp only [Act.put, List.setIfInBounds_toArray, List.set_cons_zero, List.set_cons_succ]
        refine wpAnyH_ready (rs := [36]) (by kernel_rfl) (by simp) ?_
        refine AllReadyH.cons rfl (fun K hK => ?_) AllReadyH.nil
        go_simp
        have k5 : (w3.drew.alloc (.cells #[.int .i64 (i : Int), .string ⟨#[107]⟩] 30)).cell? ⟨g, 0, none⟩ = some (.complex .f64 b.a b.b) ∧ (w3.drew.alloc (.cells #[.int .i64 (i : Int), .string ⟨#[107]⟩] 30)).cell? ⟨g, 2, none⟩ = some (.bool false) ∧ (w3.drew.alloc (.cells #[.int .i64 (i : Int), .string ⟨#[107]⟩] 30)).cell? ⟨g, 3, none⟩ = some (.slice b.va 1 b.vc) := keep3 k0 (below_alloc _ _)
        refine hK.out _ _ k5 (fun hHeld => ?_)
        clear hK K
        refine wpAnyH_ready (rs := [37]) (by kernel_rfl) (by simp) ?_
        refine AllReadyH.cons rfl (fun K hK => ?_) AllReadyH.nil
        go_simp
        go_at_call 9
        refine HSm.out.mono ?_
        rintro e w6 ⟨rfl, hb6⟩
        have k6 : w6.cell? ⟨g, 0, none⟩ = some (.complex .f64 b.a b.b) ∧ w6.cell? ⟨g, 2, none⟩ = some (.bool false) ∧ w6.cell? ⟨g, 3, none⟩ = some (.slice b.va 1 b.vc) := keep3 k5 hb6
        refine hK.out _ _ k6 (fun hHeld => ?_)
        clear hK K
        refine tky 38 (some 74) rfl rfl ⟨?vr38, fun w hSw => ?ar38, fun _ _ _ h => h, ?br38⟩
        case ar38 => (try dsimp only at hSw); go_simp; (try rfl)
        try simp only [Act.put, List.setIfInBounds_toArray, List.set_cons_zero, List.set_cons_succ]
        refine tky 39 (some 75) rfl rfl ⟨?vr39, fun w hSw => ?ar39, fun _ _ _ h => h, ?br39⟩
        case ar39 => (try dsimp only at hSw); go_simp; (try rfl)
        try simp only [Act.put, List.setIfInBounds_toArray, List.set_cons_zero, List.set_cons_succ]
        refine tky 40 (some 76) rfl rfl ⟨?vr40, fun w hSw => ?ar40, fun _ _ _ h => h, ?br40⟩
        case ar40 => (try dsimp only at hSw); go_simp; (try rfl)
        try simp only [Act.put, List.setIfInBounds_toArray, List.set_cons_zero, List.set_cons_succ]
        refine tky 41 (some 77) rfl rfl ⟨?vr41, fun w hSw => ?ar41, fun _ _ _ h => h, ?br41⟩
        case ar41 => (try dsimp only at hSw); go_simp; (try rfl)
        try simp only [Act.put, List.setIfInBounds_toArray, List.set_cons_zero, List.set_cons_succ]
        refine wpAnyH_done (by kernel_rfl) ?_ _
        go_wp2
        exact ⟨⟨i + 1, by simp, by omega, (((hL3.drew).on (below_alloc _ _)).on hb6).mono (fun _ h => h.elim)⟩, by simp [intOf]; omega⟩
    · obtain rfl : i = q + 1 := by omega
      have hltz : ¬ (((q + 1 : Nat) : Int)) ≤ (q : Int) := by omega
      have HS : Hid (Lv w2 wr w2.heap.size (SF ver q q) (fun _ => False)) := HI.out
      have hql : (SF ver q q).q.length = q := by show ((List.range q).map (bkF ver)).length = q; rw [List.length_map, List.length_range]
      have hqu := lv_queue HS.out
      clear HI HL
      go_upto_region 13 with (first
        | (go_at_call 10; refine hqu.mono ?_; rintro e w3 ⟨v3, rfl, hR3, hb3⟩; obtain ⟨a3, c3, hv3⟩ := hR3.form; rw [hql] at hv3; subst hv3; have hpr := lv_promises (HS.out.on hb3))
        | (go_at_call 11; refine hpr.mono ?_; rintro e w4 ⟨v4, rfl, hR4, hb4⟩; obtain ⟨a4, c4, hv4⟩ := owns_len hR4; subst hv4))
      have hL4 : Lv w2 w4 w2.heap.size (SF ver q q) (fun _ => False) := ((HS.out.on hb3).on hb4).mono fun _ h => h.elim
      have HK5 : Hid (RowK (w4.alloc (.cells #[.int .i64 ((q : Int) + 1), .string ⟨#[107]⟩] 30)) 0 (.slice (some ⟨w4.heap.size, 0, none⟩) 1 1) [kF q]) := by
        have e : kF q = ⟨(q : Int) + 1, ⟨#[107]⟩⟩ := by unfold kF; rw [Int.add_comm]
        rw [e]
        exact owns_whole (xs := kc [⟨(q : Int) + 1, ⟨#[107]⟩⟩]) (Nat.zero_le _) (heap_new w4 _) rfl (by show 1 ≤ maxLen; unfold maxLen; omega)
      have hto := lv_touch ((hL4.on (below_alloc w4 (.cells #[.int .i64 ((q : Int) + 1), .string ⟨#[107]⟩] 30))).mono (G := fun _ => False) (fun _ h => h.elim)) _ [kF q] ver HK5.out.rd (by simp [LK])
      rw [flood_t ver q hq16] at hto
      clear hqu hR3 hb3 hpr hR4 hb4 HS hql hL4
      go_upto_region 14 with (go_at_call 12; refine hto.mono ?_; rintro e w6 ⟨v6, rfl, Bq, hc6⟩; obtain ⟨g, c6, b, hv6, hgl, x0, -, x2, x3, hM, -⟩ := hc6.rt.one; subst hv6)
      simp only [List.length_nil] at x2 x3
      have HR6 : Hid (Rt w6 Bq (.slice (some ⟨g, 0, none⟩) 1 c6) [⟨(q : Int) + 1, ver, true, []⟩] 5) := hc6.rt
      have HL6 : Hid (Lv w2 w6 w2.heap.size ⟨5, (q : Int) + 1, [], [⟨(q : Int) + 1, ver, true, []⟩], 1, q⟩ (fun _ => False)) := hc6.lv.mono fun _ h => h.elim
      have mI : Mk (floatOfInt .f64 5) (floatOfInt .f64 ((q : Int) + 1)) 5 ((q : Int) + 1) := Mk.of (by omega) (by omega) (by omega) (by omega)
      have hm := fun (e x : Int) W => mark_any e x W
      obtain ⟨o1, o2⟩ := mk_eq hM mI
      rw [cmp_eq rfl] at o2
      clear hto HK5 hc6 hM
      have o2w : FloatKind.f64.format.order b.b (floatOfInt .f64 (IntKind.i64.wrap ((q : Int) + 1))) = some .eq := by rw [IntWalk.i64_in _ (by omega)]; exact o2
      have k0 : w6.drew.cell? ⟨g, 0, none⟩ = some (.complex .f64 b.a b.b) ∧ w6.drew.cell? ⟨g, 2, none⟩ = some (.bool true) ∧ w6.drew.cell? ⟨g, 3, none⟩ = some (.slice b.va 0 b.vc) := ⟨x0, x2, x3⟩
      refine wp_region_held_drew (S := fun w' => w'.cell? ⟨g, 0, none⟩ = some (.complex .f64 b.a b.b) ∧ w'.cell? ⟨g, 2, none⟩ = some (.bool true) ∧ w'.cell? ⟨g, 3, none⟩ = some (.slice b.va 0 b.vc)) (by kernel_rfl) k0 (fun hHeld => ?_)
      refine tky 0 (some 96) rfl rfl ⟨?vs0, fun w hSw => ?as0, fun _ _ _ h => h, ?bs0⟩
      case as0 => (try dsimp only at hSw); go_simp; (try rfl)
      try simp only [Act.put, List.setIfInBounds_toArray, List.set_cons_zero, List.set_cons_succ]
      refine tky 1 (some 97) rfl rfl ⟨?vs1, fun w hSw => ?as1, fun _ _ _ h => h, ?bs1⟩
      case as1 => (try dsimp only at hSw); go_simp; (try rfl)
      try simp only [Act.put, List.setIfInBounds_toArray, List.set_cons_zero, List.set_cons_succ]
      refine tky 2 (some 98) rfl rfl ⟨.bool false, fun w hSw => ?as2, fun _ _ _ h => h, ?bs2⟩
      case as2 => (try dsimp only at hSw); go_simp; (try rfl)
      try simp only [Act.put, List.setIfInBounds_toArray, List.set_cons_zero, List.set_cons_succ]
      refine tky 3 (some 99) rfl rfl ⟨?vs3, fun w hSw => ?as3, fun _ _ _ h => h, ?bs3⟩
      case as3 => (try dsimp only at hSw); go_simp; (try rfl)
      try simp only [Act.put, List.setIfInBounds_toArray, List.set_cons_zero, List.set_cons_succ]
      refine tky 4 (some 100) rfl rfl ⟨?vs4, fun w hSw => ?as4, fun _ _ _ h => h, ?bs4⟩
      case as4 => (try dsimp only at hSw); go_simp; (try rfl)
      try simp only [Act.put, List.setIfInBounds_toArray, List.set_cons_zero, List.set_cons_succ]
      refine tky 5 (some 101) rfl rfl ⟨?vs5, fun w hSw => ?as5, fun _ _ _ h => h, ?bs5⟩
      case as5 => (try dsimp only at hSw); go_simp; (try rfl)
      try simp only [Act.put, List.setIfInBounds_toArray, List.set_cons_zero, List.set_cons_succ]
      refine tky 6 (some 102) rfl rfl ⟨?vs6, fun w hSw => ?as6, fun _ _ _ h => h, ?bs6⟩
      case as6 => (try dsimp only at hSw); go_simp; (try rfl)
      try simp only [Act.put, List.setIfInBounds_toArray, List.set_cons_zero, List.set_cons_succ]
      refine tky 7 (some 103) rfl rfl ⟨.bool true, fun w hSw => ?as7, fun _ _ _ h => h, ?bs7⟩
      case as7 => (try dsimp only at hSw); go_simp; (try rfl)
      try simp only [Act.put, List.setIfInBounds_toArray, List.set_cons_zero, List.set_cons_succ]
      refine tky 8 (some 104) rfl rfl ⟨?vs8, fun w hSw => ?as8, fun _ _ _ h => h, ?bs8⟩
      case as8 => (try dsimp only at hSw); go_simp; (try rfl)
      try simp only [Act.put, List.setIfInBounds_toArray, List.set_cons_zero, List.set_cons_succ]
      refine tky 9 (some 105) rfl rfl ⟨?vs9, fun w hSw => ?as9, fun _ _ _ h => h, ?bs9⟩
      case as9 => (try dsimp only at hSw); go_simp; (try rfl)
      try simp only [Act.put, List.setIfInBounds_toArray, List.set_cons_zero, List.set_cons_succ]
      refine tky 10 (some 106) rfl rfl ⟨?vs10, fun w hSw => ?as10, fun _ _ _ h => h, ?bs10⟩
      case as10 => (try dsimp only at hSw); go_simp; (try rfl)
      try simp only [Act.put, List.setIfInBounds_toArray, List.set_cons_zero, List.set_cons_succ]
      refine tky 11 (some 107) rfl rfl ⟨?vs11, fun w hSw => ?as11, fun _ _ _ h => h, ?bs11⟩
      case as11 => (try dsimp only at hSw); go_simp; (try rfl)
      try simp only [Act.put, List.setIfInBounds_toArray, List.set_cons_zero, List.set_cons_succ]
      refine tky 12 (some 108) rfl rfl ⟨?vs12, fun w hSw => ?as12, fun _ _ _ h => h, ?bs12⟩
      case as12 => (try dsimp only at hSw); go_simp; (try rfl)
      try simp only [Act.put, List.setIfInBounds_toArray, List.set_cons_zero, List.set_cons_succ]
      refine tky 13 (some 109) rfl rfl ⟨?vs13, fun w hSw => ?as13, fun _ _ _ h => h, ?bs13⟩
      case as13 => (try dsimp only at hSw); go_simp; (try rfl)
      try simp only [Act.put, List.setIfInBounds_toArray, List.set_cons_zero, List.set_cons_succ]
      refine tky 14 (some 110) rfl rfl ⟨?vs14, fun w hSw => ?as14, fun _ _ _ h => h, ?bs14⟩
      case as14 => (try dsimp only at hSw); go_simp; (try rfl)
      try simp only [Act.put, List.setIfInBounds_toArray, List.set_cons_zero, List.set_cons_succ]
      refine tky 15 (some 111) rfl rfl ⟨?vs15, fun w hSw => ?as15, fun _ _ _ h => h, ?bs15⟩
      case as15 => (try dsimp only at hSw); go_simp; (try rfl)
      try simp only [Act.put, List.setIfInBounds_toArray, List.set_cons_zero, List.set_cons_succ]
      refine tky 16 (some 112) rfl rfl ⟨.bool false, fun w hSw => ?as16, fun _ _ _ h => h, ?bs16⟩
      case as16 => (try dsimp only at hSw); go_simp; (try rfl)
      try simp only [Act.put, List.setIfInBounds_toArray, List.set_cons_zero, List.set_cons_succ]
      refine tky 17 (some 113) rfl rfl ⟨?vs17, fun w hSw => ?as17, fun _ _ _ h => h, ?bs17⟩
      case as17 => (try dsimp only at hSw); go_simp; (try rfl)
      try simp only [Act.put, List.setIfInBounds_toArray, List.set_cons_zero, List.set_cons_succ]
      refine tky 18 (some 114) rfl rfl ⟨?vs18, fun w hSw => ?as18, fun _ _ _ h => h, ?bs18⟩
      case as18 => (try dsimp only at hSw); go_simp; (try rfl)
      try simp only [Act.put, List.setIfInBounds_toArray, List.set_cons_zero, List.set_cons_succ]
      refine tky 19 (some 115) rfl rfl ⟨?vs19, fun w hSw => ?as19, fun _ _ _ h => h, ?bs19⟩
      case as19 => (try dsimp only at hSw); go_simp; (try rfl)
      try simp only [Act.put, List.setIfInBounds_toArray, List.set_cons_zero, List.set_cons_succ]
      refine wpAnyH_ready (rs := [20]) (by kernel_rfl) (by simp) ?_
      refine AllReadyH.cons rfl (fun K hK => ?_) AllReadyH.nil
      go_simp
      go_at_call 11
      refine (lv_promises HL6.out.drew).mono ?_
      rintro e w7 ⟨v7, rfl, hr7, hb70⟩
      have hb7 := undrew hb70
      obtain ⟨a7, c7, hv7⟩ := owns_len hr7
      subst hv7
      have k7 : w7.cell? ⟨g, 0, none⟩ = some (.complex .f64 b.a b.b) ∧ w7.cell? ⟨g, 2, none⟩ = some (.bool true) ∧ w7.cell? ⟨g, 3, none⟩ = some (.slice b.va 0 b.vc) := keep3 k0 hb70
      have hq7 := lv_queue (HL6.out.on hb7)
      refine hK.out _ _ k7 (fun hHeld => ?_)
      clear hK K
      refine tky 21 (some 117) rfl rfl ⟨?vs21, fun w hSw => ?as21, fun _ _ _ h => h, ?bs21⟩
      case as21 => (try dsimp only at hSw); go_simp; (try rfl)
      try simp only [Act.put, List.setIfInBounds_toArray, List.set_cons_zero, List.set_cons_succ]
      refine tky 22 (some 118) rfl rfl ⟨.bool false, fun w hSw => ?as22, fun _ _ _ h => h, ?bs22⟩
      case as22 => (try dsimp only at hSw); go_simp; (try rfl)
      try simp only [Act.put, List.setIfInBounds_toArray, List.set_cons_zero, List.set_cons_succ]
      refine tky 23 (some 119) rfl rfl ⟨?vs23, fun w hSw => ?as23, fun _ _ _ h => h, ?bs23⟩
      case as23 => (try dsimp only at hSw); go_simp; (try rfl)
      try simp only [Act.put, List.setIfInBounds_toArray, List.set_cons_zero, List.set_cons_succ]
      refine tky 24 (some 120) rfl rfl ⟨?vs24, fun w hSw => ?as24, fun _ _ _ h => h, ?bs24⟩
      case as24 => (try dsimp only at hSw); go_simp; (try rfl)
      try simp only [Act.put, List.setIfInBounds_toArray, List.set_cons_zero, List.set_cons_succ]
      refine tky 25 (some 121) rfl rfl ⟨?vs25, fun w hSw => ?as25, fun _ _ _ h => h, ?bs25⟩
      case as25 => (try dsimp only at hSw); go_simp; (try rfl)
      try simp only [Act.put, List.setIfInBounds_toArray, List.set_cons_zero, List.set_cons_succ]
      refine tky 27 (some 123) rfl rfl ⟨?vs27, fun w hSw => ?as27, fun _ _ _ h => h, ?bs27⟩
      case as27 => (try dsimp only at hSw); go_simp; (try rfl)
      try simp only [Act.put, List.setIfInBounds_toArray, List.set_cons_zero, List.set_cons_succ]
      refine wpAnyH_ready (rs := [26]) (by kernel_rfl) (by simp) ?_
      refine AllReadyH.cons rfl (fun K hK => ?_) AllReadyH.nil
      go_simp
      go_at_call 10
      refine hq7.mono ?_
      rintro e w8 ⟨v8, rfl, hR8, hb8⟩
      obtain ⟨a8, c8, hv8⟩ := hR8.form
      subst hv8
      have k8 : w8.cell? ⟨g, 0, none⟩ = some (.complex .f64 b.a b.b) ∧ w8.cell? ⟨g, 2, none⟩ = some (.bool true) ∧ w8.cell? ⟨g, 3, none⟩ = some (.slice b.va 0 b.vc) := keep3 k7 hb8
      have hsm8 := same_rd hR8.rd (HR6.out.rd.below (chainB hb7 hb8)) (by simp)
      refine hK.out _ _ k8 (fun hHeld => ?_)
      clear hK K
      refine wpAnyH_ready (rs := [28]) (by kernel_rfl) (by simp) ?_
      refine AllReadyH.cons rfl (fun K hK => ?_) AllReadyH.nil
      go_simp
      go_at_call 13
      refine hsm8.mono ?_
      rintro e w9 ⟨rfl, hb9⟩
      have k9 : w9.cell? ⟨g, 0, none⟩ = some (.complex .f64 b.a b.b) ∧ w9.cell? ⟨g, 2, none⟩ = some (.bool true) ∧ w9.cell? ⟨g, 3, none⟩ = some (.slice b.va 0 b.vc) := keep3 k8 hb9
      refine hK.out _ _ k9 (fun hHeld => ?_)
      clear hK K
      refine tky 29 (some 125) rfl rfl ⟨?vs29, fun w hSw => ?as29, fun _ _ _ h => h, ?bs29⟩
      case as29 => (try dsimp only at hSw); go_simp; (try rfl)
      try simp only [Act.put, List.setIfInBounds_toArray, List.set_cons_zero, List.set_cons_succ]
      refine tky 30 (some 126) rfl rfl ⟨?vs30, fun w hSw => ?as30, fun _ _ _ h => h, ?bs30⟩
      case as30 => (try dsimp only at hSw); go_simp; (try rfl)
      try simp only [Act.put, List.setIfInBounds_toArray, List.set_cons_zero, List.set_cons_succ]
      refine tky 31 (some 127) rfl rfl ⟨?vs31, fun w hSw => ?as31, fun _ _ _ h => h, ?bs31⟩
      case as31 => (try dsimp only at hSw); go_simp; (try rfl)
      try simp only [Act.put, List.setIfInBounds_toArray, List.set_cons_zero, List.set_cons_succ]
      refine tky 32 (some 128) rfl rfl ⟨?vs32, fun w hSw => ?as32, fun _ _ _ h => h, ?bs32⟩
      case as32 => (try dsimp only at hSw); go_simp; (try rfl)
      try simp only [Act.put, List.setIfInBounds_toArray, List.set_cons_zero, List.set_cons_succ]
      refine tky 33 (some 129) rfl rfl ⟨?vs33, fun w hSw => ?as33, fun _ _ _ h => h, ?bs33⟩
      case as33 => (try dsimp only at hSw); go_simp; (try rfl)
      try simp only [Act.put, List.setIfInBounds_toArray, List.set_cons_zero, List.set_cons_succ]
      refine tky 34 (some 130) rfl rfl ⟨?vs34, fun w hSw => ?as34, fun _ _ _ h => h, ?bs34⟩
      case as34 => (try dsimp only at hSw); go_simp; (try rfl)
      try simp only [Act.put, List.setIfInBounds_toArray, List.set_cons_zero, List.set_cons_succ]
      refine tky 35 (some 131) rfl rfl ⟨?vs35, fun w hSw => ?as35, fun _ _ _ h => h, ?bs35⟩
      case as35 => (try dsimp only at hSw); go_simp; (try rfl)
      try simp only [Act.put, List.setIfInBounds_toArray, List.set_cons_zero, List.set_cons_succ]
      refine tky 36 (some 132) rfl rfl ⟨?vs36, fun w hSw => ?as36, fun _ _ _ h => h, ?bs36⟩
      case as36 => (try dsimp only at hSw); go_simp; (try rfl)
      try simp only [Act.put, List.setIfInBounds_toArray, List.set_cons_zero, List.set_cons_succ]
      refine tky 37 (some 133) rfl rfl ⟨?vs37, fun w hSw => ?as37, fun _ _ _ h => h, ?bs37⟩
      case as37 => (try dsimp only at hSw); go_simp; (try rfl)
      try simp only [Act.put, List.setIfInBounds_toArray, List.set_cons_zero, List.set_cons_succ]
      refine wpAnyH_ready (rs := [38]) (by kernel_rfl) (by simp) ?_
      refine AllReadyH.cons rfl (fun K hK => ?_) AllReadyH.nil
      go_simp
      go_at_call 8
      refine (hm 5 _ _).mono ?_
      rintro e wa ⟨rfl, hwa⟩
      rw [hwa]
      clear hwa
      refine hK.out _ _ k9 (fun hHeld => ?_)
      clear hK K
      refine tky 39 (some 135) rfl rfl ⟨.bool false, fun w hSw => ?as39, fun _ _ _ h => h, ?bs39⟩
      case as39 => (try dsimp only at hSw); go_simp; (try rfl)
      try simp only [Act.put, List.setIfInBounds_toArray, List.set_cons_zero, List.set_cons_succ]
      refine tky 40 (some 136) rfl rfl ⟨?vs40, fun w hSw => ?as40, fun _ _ _ h => h, ?bs40⟩
      case as40 => (try dsimp only at hSw); go_simp; (try rfl)
      try simp only [Act.put, List.setIfInBounds_toArray, List.set_cons_zero, List.set_cons_succ]
      refine wpAnyH_done (by kernel_rfl) ?_ _
      have hL9 : Lv w2 w9 w2.heap.size ⟨5, (q : Int) + 1, [], [⟨(q : Int) + 1, ver, true, []⟩], 1, q⟩ (fun _ => False) := (HL6.out.on (chainB hb7 (chainB hb8 hb9))).mono fun _ h => h.elim
      clear k0 k7 k8 k9 hb7 hb8 hb9 hb70 hr7 hq7 hR8 hsm8 x0 x2 x3 o1 o2 o2w HR6 HL6
      have m2 : Mk (floatOfInt .f64 5) (floatOfInt .f64 ((q : Int) + 2)) 5 ((q : Int) + 2) := Mk.of (by omega) (by omega) (by omega) (by omega)
      have m4 : Mk (floatOfInt .f64 4) (floatOfInt .f64 0) 4 0 := Mk.of (by omega) (by omega) (by omega) (by omega)
      obtain ⟨pa, pb, hMp, hack1⟩ := lv_ack hL9 (floatOfInt .f64 5) (floatOfInt .f64 ((q : Int) + 2))
      have hg1 : gapB (floatOfInt .f64 5) (floatOfInt .f64 ((q : Int) + 2)) pa pb = false := by rw [m2.gap hMp]; exact decide_eq_false (by show ¬ (q : Int) + 2 ≤ (q : Int) + 1; omega)
      rw [hg1] at hack1
      simp only [Bool.false_eq_true, if_false] at hack1
      have HA2 : Hid (∀ W, Lv w2 W w2.heap.size ⟨5, (q : Int) + 1, [], [⟨(q : Int) + 1, ver, true, []⟩], 1, q⟩ (fun _ => False) → Calls Try.prog 14 #[.pointer (some ⟨w2.heap.size, 0, none⟩), .complex .f64 (floatOfInt .f64 4) (floatOfInt .f64 0)] W fun x w' => x = .returned (.bool false) ∧ Lv w2 w' w2.heap.size ⟨5, (q : Int) + 1, [], [⟨(q : Int) + 1, ver, true, []⟩], 1, q⟩ (fun _ => False)) := fun W hL => by
        obtain ⟨ra, rb, hMr, hack⟩ := lv_ack hL (floatOfInt .f64 4) (floatOfInt .f64 0)
        have hg : gapB (floatOfInt .f64 4) (floatOfInt .f64 0) ra rb = false := by
          unfold gapB
          rw [m4.pa, hMr.pa]
          simp
        rw [hg] at hack
        simp only [Bool.false_eq_true, if_false] at hack
        exact hack.mono fun e w' ⟨h1, h2, _⟩ => ⟨h1, h2⟩
      have HA3 : Hid (∀ W, Lv w2 W w2.heap.size ⟨5, (q : Int) + 1, [], [⟨(q : Int) + 1, ver, true, []⟩], 1, q⟩ (fun _ => False) → Calls Try.prog 14 #[.pointer (some ⟨w2.heap.size, 0, none⟩), .complex .f64 (floatOfInt .f64 5) (floatOfInt .f64 ((q : Int) + 1))] W fun x w' => x = .returned (.bool true) ∧ Lv w2 w' w2.heap.size ⟨5, (q : Int) + 1, [], [], 1, q⟩ (fun _ => False)) := fun W hL => by
        obtain ⟨ra, rb, hMr, hack⟩ := lv_ack hL (floatOfInt .f64 5) (floatOfInt .f64 ((q : Int) + 1))
        have hg : gapB (floatOfInt .f64 5) (floatOfInt .f64 ((q : Int) + 1)) ra rb = true := by rw [mI.gap hMr]; exact decide_eq_true (Int.le_refl _)
        rw [hg, mI.pb] at hack
        simp only [if_true] at hack
        refine hack.mono fun e w' ⟨h1, h2, _⟩ => ⟨h1, ?_⟩
        have e1 : (⟨5, (q : Int) + 1, [], [⟨(q : Int) + 1, ver, true, []⟩], 1, q⟩ : Vs).ack ((q : Int) + 1) = ⟨5, (q : Int) + 1, [], [], 1, q⟩ := by
          unfold Vs.ack
          simp
        rw [e1] at h2; exact h2
      have HA1 : Hid (Calls Try.prog 14 #[.pointer (some ⟨w2.heap.size, 0, none⟩), .complex .f64 (floatOfInt .f64 5) (floatOfInt .f64 ((q : Int) + 2))] w9 fun x w' => x = .returned (.bool false) ∧ Lv w2 w' w2.heap.size ⟨5, (q : Int) + 1, [], [⟨(q : Int) + 1, ver, true, []⟩], 1, q⟩ (fun _ => False)) := hack1.mono fun e w' ⟨h1, h2, _⟩ => ⟨h1, h2⟩
      clear hL9 hMp hack1 hg1 m2 m4 mI
      go_upto_region 16 with fail
      go_upto_region 18 with (first
        | (go_at_call 8; refine (hm _ _ _).mono ?_; rintro e wx ⟨rfl, rfl⟩)
        | (go_at_call 14; refine (HA3.out _ hLd).mono ?_; rintro e we ⟨rfl, hLe⟩)
        | (go_at_call 14; refine (HA2.out _ hLb).mono ?_; rintro e wc ⟨rfl, hLc⟩; have hqc := lv_queue hLc)
        | (go_at_call 14; refine HA1.out.mono ?_; rintro e wb ⟨rfl, hLb⟩)
        | (go_at_call 10; refine hqc.mono ?_; rintro e wd ⟨vd, rfl, hRd, hbd⟩; obtain ⟨ad, cd, hvd⟩ := hRd.form; subst hvd; have hLd := (hLc.on hbd).mono (G := fun _ => False) (fun _ h => h.elim); clear hqc))
      have hqe := lv_queue hLe
      have HGz : Hid (∀ W, Lv w2 W w2.heap.size ⟨5, (q : Int) + 1, [], [], 1, q⟩ (fun _ => False) → Calls Try.prog 7 #[.pointer (some ⟨w2.heap.size, 0, none⟩), .agg #[.int .i64 9, .string ⟨#[122]⟩], .int .i64 ver] W fun x w' => ∃ v', x = .returned v' ∧ (∃ a c, v' = .slice a 0 c) ∧ Lv w2 w' w2.heap.size ⟨5, (q : Int) + 1, [⟨9, ⟨#[122]⟩⟩], [], 1, q⟩ (fun _ => False)) := fun W hL => by
        have h := lv_grant hL ⟨9, ⟨#[122]⟩⟩ ver
        rw [show (⟨5, (q : Int) + 1, [], [], 1, q⟩ : Vs).grant ⟨9, ⟨#[122]⟩⟩ ver = (⟨5, (q : Int) + 1, [⟨9, ⟨#[122]⟩⟩], [], 1, q⟩, []) from rfl] at h
        refine h.mono ?_
        rintro x w' ⟨v', rfl, Bq', hc⟩
        exact ⟨_, rfl, hc.rt.form, hc.lv.mono fun _ h => h.elim⟩
      go_wp2_with (first
        | (go_at_call 10; refine hqe.mono ?_; rintro e wf ⟨vf, rfl, hRf, hbf⟩; obtain ⟨af, cf, hvf⟩ := hRf.form; subst hvf; have hgz := HGz.out wf ((hLe.on hbf).mono (fun _ h => h.elim)))
        | (go_at_call 7; refine hgz.mono ?_; rintro e wg ⟨vg, rfl, ⟨ag, cg, hvg⟩, hLg⟩; subst hvg; have hho := lv_holds hLg ⟨9, ⟨#[122]⟩⟩; rw [show inK [(⟨9, ⟨#[122]⟩⟩ : Ky)] ⟨9, ⟨#[122]⟩⟩ = true from by decide] at hho)
        | (go_at_call 15; refine hho.mono ?_; rintro e wh ⟨rfl, hbh⟩)
        | (go_at_call 16; refine (awake_p _).mono ?_; rintro e wi ⟨rfl, hbi⟩))
      go_ret
      exact ⟨by simp, chainB hLg.below (chainB hbh hbi)⟩
end Go.Proofs.Ytaofhjckliobpab
