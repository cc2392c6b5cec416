/- The walk of the law BlockCopies. -/
import Derived.Test.YtfomnnlilmahhaaBkG
import Derived.Deep.CutRange
import Derived.Deep.Light
namespace Go.Proofs.Ytfomnnlilmahhaa
open Go.RowKit

theorem fused_run {N W0 : Nat} {cs : List (List Int)} (f : Int) (s : Dsk) (hp : s.plain) (hw : s.writes = W0) (hc : s.cs = cs) (hl : s.cs.length = N) (P : Nat → Nat) (F : Nat → Int) : Run f N W0 cs P F (s.fuse f) 0 0 ∧ (s.fuse f).cs.length = s.cs.length := by
  unfold Dsk.fuse
  by_cases h : f < 0
  · rw [if_pos h]
    exact ⟨⟨by rw [hw]; rfl, hc, hl, Nat.le_refl _, fun _ => ⟨rfl, hp.1, hp.2⟩, fun h' => by omega⟩, rfl⟩
  · rw [if_neg h, if_pos hp.1]
    exact ⟨⟨by show s.writes = _; rw [hw]; rfl, hc, hl, Nat.le_refl _, fun h' => absurd h' h, fun h' => .inl ⟨rfl, by omega, hp.1, rfl, by show f = f - _; omega⟩⟩, rfl⟩
theorem left_is (f : Int) (L M : Nat) : ∃ lf : Int, lf = (if 0 ≤ f ∧ f < ((L + M : Nat) : Int) then f else ((L + M : Nat) : Int)) := ⟨_, rfl⟩

set_option maxRecDepth 100000 in
set_option maxHeartbeats 16000000 in
theorem walk_BlockCopies (n : Int) (a : Option Addr) (len cap : Nat) (A : Nat → Int) (f : Int) (a2 : Option Addr) (len2 cap2 : Nat) (B : Nat → Int) (a3 : Option Addr) (len3 cap3 : Nat) (C : Nat → Int) (w : World)
    (_ : (Lit.int .i64 n).wf = true) (row : RowI w a len A) (hlen : len * 8 ≤ 140737488351232) (wf : (Lit.int .i64 f).wf = true) (row2 : RowI w a2 len2 B) (hlen2 : len2 * 8 ≤ 140737488351232) (row3 : RowI w a3 len3 C) (hlen3 : len3 * 8 ≤ 140737488351232) :
    Calls Try.prog 7 #[.int .i64 n, .slice a len cap, .int .i64 f, .slice a2 len2 cap2, .slice a3 len3 cap3] w fun e w' => e = .returned (.bool true) ∧ Below w.heap.size w w' := by
  have hf2 : f ≤ 9223372036854775807 := (bounds_i64 wf).2
  by_cases hn : 1 ≤ n ∧ n ≤ 1024
  · obtain ⟨N, rfl⟩ := Int.eq_ofNat_of_zero_le (show 0 ≤ n by omega)
    have h1 : 1 ≤ N := by omega
    have h2 : N ≤ 1024 := by omega
    have HR : Hid (RowI w a len A ∧ RowI w a2 len2 B ∧ RowI w a3 len3 C) := ⟨row, row2, row3⟩
    clear hn row row2 row3
    obtain ⟨cs0, hcs0⟩ : ∃ cs0, (Dsk.new N).cs = cs0 := ⟨_, rfl⟩
    have hl0 : cs0.length = N := by rw [← hcs0]; exact new_len N
    have HC0 : Hid ((Dsk.new N).cs = cs0 ∧ cs0.length = N) := ⟨hcs0, hl0⟩
    have HZ : Hid (∀ K, K < N → cs0[K]? = some (List.replicate 64 0)) := by
      intro K hK; rw [← hcs0]; simp [Dsk.new, zeros, hK]
    clear hcs0 hl0
    go_enter Try.func7, Try.ntmps7
    go_wp2_with (first
      | (go_at_call 9; refine (new_yes N _ h1 h2).mono ?_; rintro e w1 ⟨b, g, rfl, hb, hg, hD, hB⟩; have hI := Inv.start hb hg hD hB; clear hb hg hD hB))
    obtain ⟨base, hbase⟩ : ∃ base, w1.heap.size = base := ⟨_, rfl⟩
    rw [hbase] at hI
    clear hbase
    go_loopw [13] (fun i wr => ∃ k : Nat, k ≤ len ∧ i = .int .i64 k ∧ ∃ s, Inv w base b g N wr s ∧ s.plain ∧ s.writes = k ∧ s.cs = wrt cs0 (fun i => pl (A i) N) (fun i => i) k) (fun i _ => len - (intOf i).toNat)
    case atStart => exact ⟨0, Nat.zero_le _, rfl, _, hI, new_plain N, rfl, HC0.out.1⟩
    case round =>
      clear hI
      obtain ⟨k, hk, rfl, s, hI, hp, hw, hcs⟩ := hrel
      have HP : Hid (s.plain ∧ s.writes = k ∧ s.cs = wrt cs0 (fun i => pl (A i) N) (fun i => i) k) := ⟨hp, hw, hcs⟩
      clear hp hw hcs
      by_cases hlt : k < len
      · obtain ⟨ab, off, rfl, d1⟩ := HR.out.1.at hI.bel k hlt
        have hki : (k : Int) < (len : Int) := by omega
        have hj := pl_lt (A k) N h1
        obtain ⟨J, hJ'⟩ : ∃ J, pl (A k) N = J := ⟨_, rfl⟩
        have HJ : Hid (pl (A k) N = J) := hJ'
        rw [hJ'] at hj
        clear hJ'
        go_wp2_with (first
          | (go_at_call 12; refine (place_any (A k) N _ h1 h2).mono ?_; rintro e w4 ⟨rfl, rfl⟩; rw [HJ.out])
          | (go_at_call 14; refine (bytes_64 _ _).mono ?_; rintro e w5 ⟨v5, rfl, ho5, hb5⟩)
          | (go_at_call 13; refine (write_plain b g s J v5 _ _ _ (hI.below hb5).d HP.out.1 (by rw [HP.out.2.1]; omega) (by rw [HP.out.2.1]; omega) (by rw [hI.len]; exact hj) (bl_len _ _) ho5 (by have := hI.d.lb; omega)).mono ?_; rintro e w6 ⟨rfl, hD6, hO6⟩; have hI6 := (hI.below hb5).step hD6 hO6 (List.length_set ..)))
        go_roundw
        case rel => exact ⟨k + 1, by omega, by go_num, _, hI6, HP.out.1, by rw [HP.out.2.1]; rfl, by rw [HP.out.2.2, wrt, HJ.out]⟩
        case measure => simp [intOf]; omega
      · obtain rfl : k = len := by omega
        have hF := fused_run f s HP.out.1 HP.out.2.1 HP.out.2.2 hI.len (fun i => pl (B i) N) (fun i => 100 + i)
        have hF' := fused_run f s HP.out.1 HP.out.2.1 HP.out.2.2 hI.len (fun i => pl (C i) N) (fun i => 200 + i)
        obtain ⟨cs1, hcs1⟩ : ∃ cs1, wrt cs0 (fun i => pl (A i) N) (fun i => i) k = cs1 := ⟨_, rfl⟩
        rw [hcs1] at hF hF'
        have HC1 : Hid (wrt cs0 (fun i => pl (A i) N) (fun i => i) k = cs1) := hcs1
        obtain ⟨S, hS⟩ : ∃ S, s.fuse f = S := ⟨_, rfl⟩
        rw [hS] at hF hF'
        have HS : Hid (s.fuse f = S) := hS
        have HF : Hid (Run f N k cs1 (fun i => pl (B i) N) (fun i => 100 + i) S 0 0 ∧ Run f N k cs1 (fun i => pl (C i) N) (fun i => 200 + i) S 0 0 ∧ S.cs.length = s.cs.length) := ⟨hF.1, hF'.1, hF.2⟩
        clear hF hF' hcs1 hS HP hk
        obtain ⟨lf, hlf⟩ := left_is f len2 len3
        go_upto_region 13 with (first
          | (go_at_call 19; refine (fuse_any b g s f _ hI.d).mono ?_; rintro e w2 ⟨rfl, hD2, hO2⟩; rw [HS.out] at hD2; have hI2 := hI.stepB hD2 hO2 HF.out.2.2)
          | (go_at_call 25; refine (copy_any b g S _ hI2.d).mono ?_; rintro e w3 ⟨b', g', rfl, hb', hg', hD3, hB3⟩; have hT := Two.start hI2 hb' hg' hD3 hB3)
          | (go_at_call 32; refine (size_any b' g' S _ hT.two.d).mono ?_; rintro e w4 ⟨rfl, rfl⟩; rw [hT.two.len])
          | (go_at_call_of 27 (Value.pointer (some ⟨b', 0, none⟩)); refine (on_any b' g' S _ hT.two.d).mono ?_; rintro e w5 ⟨rfl, rfl⟩)
          | (go_at_call_of 27 (Value.pointer (some ⟨b, 0, none⟩)); refine (on_any b g S _ hT.one.d).mono ?_; rintro e w5 ⟨rfl, rfl⟩)
          | (go_at_call_of 28 (Value.pointer (some ⟨b', 0, none⟩)); refine (writes_any b' g' S _ hT.two.d).mono ?_; rintro e w5 ⟨rfl, rfl⟩)
          | (go_at_call_of 28 (Value.pointer (some ⟨b, 0, none⟩)); refine (writes_any b g S _ hT.one.d).mono ?_; rintro e w5 ⟨rfl, rfl⟩))
        clear hI2 hD2 hO2 hD3 hB3 hb' hg' hI
        go_cut [100] from 94 to 99 (fun x wx => x = .bool (decide (0 ≤ f ∧ f < (len2 : Int) + (len3 : Int))) ∧ w5 = wx)
        case first =>
          rcases (show (0 ≤ f ∧ f < (len2 : Int) + (len3 : Int)) ∨ f < 0 ∨ (0 ≤ f ∧ (len2 : Int) + (len3 : Int) ≤ f) by omega) with ⟨p0, p1⟩ | p0 | ⟨p0, p1⟩
          all_goals
            go_wp2_with fail
            go_meet
            refine ⟨congrArg Value.bool ?_, rfl⟩
            simp <;> omega
        case rest =>
          obtain ⟨rfl, rfl⟩ := hcut
          go_upto_if 100 with fail
          go_cut [15] from 94 to 101 (fun x wx => x = .int .i64 lf ∧ w5 = wx)
          case first =>
            by_cases p0 : 0 ≤ f ∧ f < (len2 : Int) + (len3 : Int)
            · have hlf2 : lf = f := by rw [hlf, if_pos (by omega)]
              have HLF : Hid (lf = f) := hlf2
              clear hlf hlf2
              go_wp2_with fail
              go_meet
              exact ⟨by rw [HLF.out], rfl⟩
            · have hlf2 : lf = (len2 : Int) + (len3 : Int) := by rw [hlf, if_neg (by omega)]; omega
              have HLF : Hid (lf = (len2 : Int) + (len3 : Int)) := hlf2
              clear hlf hlf2
              go_wp2_with fail
              go_meet
              exact ⟨by rw [HLF.out], rfl⟩
          case rest =>
            obtain ⟨rfl, rfl⟩ := hcut
            have HLF : Hid (lf = (if 0 ≤ f ∧ f < ((len2 + len3 : Nat) : Int) then f else ((len2 + len3 : Nat) : Int))) := hlf
            clear hlf
            go_wp2
            go_loopw [16, 17] (fun c i wr => ∃ j : Nat, j ≤ len2 ∧ i = .int .i64 j ∧ ∃ t m, c = .int .i64 (m : Nat) ∧ m ≤ j ∧ Two w N b g b' g' wr t S ∧ Run f N k cs1 (fun i => pl (B i) N) (fun i => 100 + i) t j m) (fun _ i _ => len2 - (intOf i).toNat)
            case atStart => exact ⟨0, Nat.zero_le _, rfl, S, 0, rfl, Nat.le_refl _, hT, HF.out.1⟩
            case round =>
              clear hT
              obtain ⟨j, hj, rfl, t, m, rfl, hmj, hT, hRun⟩ := hrel
              have HRun : Hid (Run f N k cs1 (fun i => pl (B i) N) (fun i => 100 + i) t j m) := hRun
              clear hRun
              by_cases hlt2 : j < len2
              · obtain ⟨ab, off, rfl, d1⟩ := HR.out.2.1.at hT.one.bel j hlt2
                have hji : (j : Int) < (len2 : Int) := by omega
                have hJ := pl_lt (B j) N h1
                obtain ⟨E, T, m', hE, hT', hR', hor⟩ := HRun.out.step hJ
                have hgood := HRun.out.good hf2 (by omega)
                obtain ⟨J, hJ'⟩ : ∃ J, pl (B j) N = J := ⟨_, rfl⟩
                have HJ : Hid (pl (B j) N = J) := hJ'
                simp only [hJ'] at hE hT'
                rw [hJ'] at hJ
                have HW : Hid (∀ v base w, IsD w b g t → OwnB w base v (bl 64 (100 + (j : Int))) → b < base → Calls Try.prog 13 #[.pointer (some ⟨b, 0, none⟩), .int .i64 J, v] w fun e w' => e = .returned (.int .i64 E) ∧ IsD w' b g T ∧ Only (fun x => x = b ∨ x = g) w w') := fun v base w h hv hb => write_to b g t J v _ base w h hgood hv hb (bl_len _ _) E T hE hT'
                have HX : Hid (Run f N k cs1 (fun i => pl (B i) N) (fun i => 100 + i) T (j + 1) m' ∧ T.cs.length = t.cs.length) := ⟨hR', hR'.len.trans HRun.out.len.symm⟩
                clear hE hT' hR' hgood hJ'
                rcases hor with ⟨rfl, rfl⟩ | ⟨rfl, rfl⟩
                all_goals
                  go_wp2_with (first
                    | (go_at_call 12; refine (place_any (B j) N _ h1 h2).mono ?_; rintro e w4 ⟨rfl, rfl⟩; rw [HJ.out])
                    | (go_at_call 14; refine (bytes_64 _ _).mono ?_; rintro e w5 ⟨v5, rfl, ho5, hb5⟩)
                    | (go_at_call 13; refine (HW.out v5 _ _ (hT.below hb5).one.d ho5 (by have := hT.one.d.lb; omega)).mono ?_; rintro e w6 ⟨rfl, hD6, hO6⟩; have hT6 := (hT.below hb5).first hD6 hO6 HX.out.2))
                  go_roundw
                  case rel => exact ⟨j + 1, by omega, by go_num, T, _, by go_num, by omega, hT6, HX.out.1⟩
                  case measure => simp [intOf]; omega
              · obtain rfl : j = len2 := by omega
                go_wp2
                go_loopw [18, 19] (fun c i wr => ∃ i' : Nat, i' ≤ len3 ∧ i = .int .i64 i' ∧ ∃ t' m', c = .int .i64 (m' : Nat) ∧ m' ≤ i' ∧ Two w N b g b' g' wr t t' ∧ Run f N k cs1 (fun i => pl (C i) N) (fun i => 200 + i) t' i' m') (fun _ i _ => len3 - (intOf i).toNat)
                case atStart => exact ⟨0, Nat.zero_le _, rfl, S, 0, rfl, Nat.le_refl _, hT, HF.out.2.1⟩
                case round =>
                  clear hT hlt2
                  obtain ⟨i', hi', rfl, t', m', rfl, hmi, hT, hRun'⟩ := hrel
                  have HRun' : Hid (Run f N k cs1 (fun i => pl (C i) N) (fun i => 200 + i) t' i' m') := hRun'
                  clear hRun'
                  by_cases hlt3 : i' < len3
                  · obtain ⟨ab, off, rfl, d1⟩ := HR.out.2.2.at hT.one.bel i' hlt3
                    have hji : (i' : Int) < (len3 : Int) := by omega
                    have hJ := pl_lt (C i') N h1
                    obtain ⟨E, T, m'', hE, hT', hR', hor⟩ := HRun'.out.step hJ
                    have hgood := HRun'.out.good hf2 (by omega)
                    obtain ⟨J, hJ'⟩ : ∃ J, pl (C i') N = J := ⟨_, rfl⟩
                    have HJ : Hid (pl (C i') N = J) := hJ'
                    simp only [hJ'] at hE hT'
                    rw [hJ'] at hJ
                    have HW : Hid (∀ v base w, IsD w b' g' t' → OwnB w base v (bl 64 (200 + (i' : Int))) → b' < base → Calls Try.prog 13 #[.pointer (some ⟨b', 0, none⟩), .int .i64 J, v] w fun e w' => e = .returned (.int .i64 E) ∧ IsD w' b' g' T ∧ Only (fun x => x = b' ∨ x = g') w w') := fun v base w h hv hb => write_to b' g' t' J v _ base w h hgood hv hb (bl_len _ _) E T hE hT'
                    have HX : Hid (Run f N k cs1 (fun i => pl (C i) N) (fun i => 200 + i) T (i' + 1) m'' ∧ T.cs.length = t'.cs.length) := ⟨hR', hR'.len.trans HRun'.out.len.symm⟩
                    clear hE hT' hR' hgood hJ'
                    rcases hor with ⟨rfl, rfl⟩ | ⟨rfl, rfl⟩
                    all_goals
                      go_wp2_with (first
                        | (go_at_call 12; refine (place_any (C i') N _ h1 h2).mono ?_; rintro e w4 ⟨rfl, rfl⟩; rw [HJ.out])
                        | (go_at_call 14; refine (bytes_64 _ _).mono ?_; rintro e w5 ⟨v5, rfl, ho5, hb5⟩)
                        | (go_at_call 13; refine (HW.out v5 _ _ (hT.below hb5).two.d ho5 (by have := hT.two.d.lb; omega)).mono ?_; rintro e w6 ⟨rfl, hD6, hO6⟩; have hT6 := ((hT.below hb5).swap.first hD6 hO6 HX.out.2).swap))
                      go_roundw
                      case rel => exact ⟨i' + 1, by omega, by go_num, T, _, by go_num, by omega, hT6, HX.out.1⟩
                      case measure => simp [intOf]; omega
                  · obtain rfl : i' = len3 := by omega
                    have hcA := HRun.out.count (j + i') (by omega) lf HLF.out
                    have hcB := HRun'.out.count (j + i') (by omega) lf HLF.out
                    have hwA : t.writes = (k : Int) + (m : Int) := HRun.out.wr
                    have hwB : t'.writes = (k : Int) + (m' : Int) := HRun'.out.wr
                    have HV : Hid (t.writes = (k : Int) + (m : Int) ∧ t'.writes = (k : Int) + (m' : Int)) := ⟨hwA, hwB⟩
                    have hD : Hid (t'.cs = wrt cs1 (fun i => pl (C i) N) (fun i => 200 + i) m') := HRun'.out.cs
                    obtain ⟨hcA1, hcA2⟩ := hcA
                    obtain ⟨hcB1, hcB2⟩ := hcB
                    clear hwA hwB hlt3
                    go_upto_region 27 with fail
                    go_cut [189] from 142 to 188 (fun x wx => x = .bool false ∧ wr = wx)
                    case first =>
                      by_cases qa : (m : Int) < lf <;> by_cases qb : (m' : Int) < lf
                      all_goals
                        go_wp2_with (first
                          | (go_at_call_of 28 (Value.pointer (some ⟨b, 0, none⟩)); refine (writes_any b g t _ hT.one.d).mono ?_; rintro e w7 ⟨rfl, rfl⟩; rw [HV.out.1])
                          | (go_at_call_of 28 (Value.pointer (some ⟨b', 0, none⟩)); refine (writes_any b' g' t' _ hT.two.d).mono ?_; rintro e w7 ⟨rfl, rfl⟩; rw [HV.out.2]))
                        go_meet
                        go_light
                        refine ⟨congrArg Value.bool ?_, rfl⟩
                        simp <;> omega
                    case rest =>
                      obtain ⟨rfl, rfl⟩ := hcut
                      obtain ⟨i0, hi0, hz0, hz1, hz2⟩ := info_parts Try.infoU
                      have hmi3 : m' ≤ i' := hmi
                      have hI4 := hT.two
                      obtain ⟨base2, hbase2⟩ : ∃ base2, wr.heap.size = base2 := ⟨_, rfl⟩
                      rw [hbase2] at hI4
                      have HL1 : Hid (cs1.length = N) := by rw [← HC1.out, wrt_len]; exact HC0.out.2
                      clear hT hbase2 hcA1 hcA2 hcB1 hcB2 HRun HRun' HLF HF HV
                      go_wp2
                      go_loopw [20] (fun i wr => ∃ K : Nat, K ≤ N ∧ i = .int .i64 K ∧ Inv w base2 b' g' N wr t') (fun i _ => N - (intOf i).toNat)
                      case atStart => exact ⟨0, Nat.zero_le _, rfl, hI4⟩
                      case round =>
                        clear hI4
                        obtain ⟨K, hK, rfl, hI⟩ := hrel
                        by_cases hKc : K < N ∧ K < 20
                        · obtain ⟨hK1, hK2⟩ := hKc
                          have hd1 : decide ((K : Int) < (N : Int)) = true := decide_eq_true (by omega)
                          have hd2 : decide ((K : Int) < 20) = true := decide_eq_true (by omega)
                          go_wp2_with (at_make; refine wpList_make_full _ rfl (.const (.int .i64 64)) (.const (.int .i64 64)) 37 rfl _ 5 i0 (.int .u8 0) 1 Try.underlying37 hi0 hz0 hz1 .i64 .i64 64 64 64 rfl rfl rfl rfl (by rw [hz2]; decide) (by decide) (Nat.le_refl _) ?_; intro w3 hown hgrow; have hb1 := below_grown hgrow; have ho1 := (OwnB.made hown).le (Nat.zero_le _); have hI3 := hI.below hb1; clear hown hgrow hb1 hI)
                          go_loopw [21, 22] (fun v i wr => ∃ q : Nat, q ≤ k ∧ i = .int .i64 q ∧ Inv w base2 b' g' N wr t' ∧ ∃ L, OwnB wr 0 v L ∧ (wrt cs0 (fun i => pl (A i) N) (fun i => i) q)[K]? = some L ∧ L.length = 64) (fun _ i _ => k - (intOf i).toNat)
                          case atStart => exact ⟨0, Nat.zero_le _, rfl, hI3, _, ho1, HZ.out K hK1, by simp⟩
                          case round =>
                            clear hI3 ho1
                            obtain ⟨q, hq, rfl, hI, L, ho, hL, hLl⟩ := hrel
                            have HL : Hid ((wrt cs0 (fun i => pl (A i) N) (fun i => i) q)[K]? = some L ∧ L.length = 64) := ⟨hL, hLl⟩
                            clear hL hLl
                            by_cases hql : q < k
                            · obtain ⟨ab, off, rfl, d1⟩ := HR.out.1.at hI.bel q hql
                              have hqi : (q : Int) < (k : Int) := by omega
                              obtain ⟨J, hJ'⟩ : ∃ J, pl (A q) N = J := ⟨_, rfl⟩
                              have HJ : Hid (pl (A q) N = J) := hJ'
                              clear hJ'
                              by_cases hJK : J = K
                              · have hb : ((J : Int) == (K : Int)) = true := by rw [int_beq]; exact decide_eq_true hJK
                                have HE : Hid (J = K) := hJK
                                clear hJK
                                go_wp2_with (first
                                  | (go_at_call 12; refine (place_any (A q) N _ h1 h2).mono ?_; rintro e w4 ⟨rfl, rfl⟩; rw [HJ.out])
                                  | (go_at_call 14; refine (bytes_64 _ _).mono ?_; rintro e w5 ⟨v5, rfl, ho5, hb5⟩))
                                go_roundw
                                case rel => exact ⟨q + 1, by omega, by go_num, hI.below hb5, _, ho5.le (Nat.zero_le _), wrt_hit _ _ _ _ _ (by show pl (A q) N = K; rw [HJ.out, HE.out]) (by rw [HC0.out.2]; exact hK1), bl_len _ _⟩
                                case measure => simp [intOf]; omega
                              · have hb : ((J : Int) == (K : Int)) = false := by rw [int_beq]; exact decide_eq_false hJK
                                have HE : Hid (J ≠ K) := hJK
                                clear hJK
                                go_wp2_with (first
                                  | (go_at_call 12; refine (place_any (A q) N _ h1 h2).mono ?_; rintro e w4 ⟨rfl, rfl⟩; rw [HJ.out]))
                                go_roundw
                                case rel => exact ⟨q + 1, by omega, by go_num, hI, L, ho, (wrt_miss _ _ _ _ _ (by show pl (A q) N ≠ K; rw [HJ.out]; exact HE.out)).trans HL.out.1, HL.out.2⟩
                                case measure => simp [intOf]; omega
                            · obtain rfl : q = k := by omega
                              have HL1' : Hid ((wrt cs1 (fun i => pl (C i) N) (fun i => 200 + i) 0)[K]? = some L ∧ L.length = 64) := by
                                refine ⟨?_, HL.out.2⟩
                                show cs1[K]? = _
                                rw [← HC1.out]; exact HL.out.1
                              clear HL
                              go_wp2
                              go_loopw [21, 23] (fun v i wr => ∃ q : Nat, q ≤ m' ∧ i = .int .i64 q ∧ Inv w base2 b' g' N wr t' ∧ ∃ L, OwnB wr 0 v L ∧ (wrt cs1 (fun i => pl (C i) N) (fun i => 200 + i) q)[K]? = some L ∧ L.length = 64) (fun _ i _ => m' - (intOf i).toNat)
                              case atStart => exact ⟨0, Nat.zero_le _, rfl, hI, L, ho, HL1'.out.1, HL1'.out.2⟩
                              case round =>
                                clear hI ho HL1' hql hq
                                obtain ⟨q2, hq, rfl, hI, L, ho, hL, hLl⟩ := hrel
                                have HL : Hid ((wrt cs1 (fun i => pl (C i) N) (fun i => 200 + i) q2)[K]? = some L ∧ L.length = 64) := ⟨hL, hLl⟩
                                clear hL hLl
                                by_cases hql : q2 < m'
                                · obtain ⟨ab, off, rfl, d1⟩ := HR.out.2.2.at hI.bel q2 (by omega)
                                  have hqi : (q2 : Int) < (m' : Int) := by omega
                                  obtain ⟨J, hJ'⟩ : ∃ J, pl (C q2) N = J := ⟨_, rfl⟩
                                  have HJ : Hid (pl (C q2) N = J) := hJ'
                                  clear hJ'
                                  by_cases hJK : J = K
                                  · have hb : ((J : Int) == (K : Int)) = true := by rw [int_beq]; exact decide_eq_true hJK
                                    have HE : Hid (J = K) := hJK
                                    clear hJK
                                    go_wp2_with (first
                                      | (go_at_call 12; refine (place_any (C q2) N _ h1 h2).mono ?_; rintro e w4 ⟨rfl, rfl⟩; rw [HJ.out])
                                      | (go_at_call 14; refine (bytes_64 _ _).mono ?_; rintro e w5 ⟨v5, rfl, ho5, hb5⟩))
                                    go_roundw
                                    case rel => exact ⟨q2 + 1, by omega, by go_num, hI.below hb5, _, ho5.le (Nat.zero_le _), wrt_hit _ _ _ _ _ (by show pl (C q2) N = K; rw [HJ.out, HE.out]) (by rw [HL1.out]; exact hK1), bl_len _ _⟩
                                    case measure => simp [intOf]; omega
                                  · have hb : ((J : Int) == (K : Int)) = false := by rw [int_beq]; exact decide_eq_false hJK
                                    have HE : Hid (J ≠ K) := hJK
                                    clear hJK
                                    go_wp2_with (first
                                      | (go_at_call 12; refine (place_any (C q2) N _ h1 h2).mono ?_; rintro e w4 ⟨rfl, rfl⟩; rw [HJ.out]))
                                    go_roundw
                                    case rel => exact ⟨q2 + 1, by omega, by go_num, hI, L, ho, (wrt_miss _ _ _ _ _ (by show pl (C q2) N ≠ K; rw [HJ.out]; exact HE.out)).trans HL.out.1, HL.out.2⟩
                                    case measure => simp [intOf]; omega
                                · obtain rfl : q2 = m' := by omega
                                  have HD : Hid (t'.rdE K = 0 ∧ t'.rd K = L) := by
                                    have hk' : K < t'.cs.length := by rw [hI.len]; exact hK1
                                    obtain ⟨e1, e2⟩ := rd_nat t' K hk'
                                    have hx := HL.out.1
                                    rw [← hD.out, List.getElem?_eq_getElem hk'] at hx
                                    exact ⟨e1, by rw [e2]; exact Option.some.inj hx⟩
                                  go_wp2_with (first
                                    | (go_at_call 16; refine (read_any b' g' t' K _ hI.d).mono ?_; rintro e w4 ⟨v4, rfl, ho4, hb4⟩; rw [HD.out.1]; rw [HD.out.2] at ho4)
                                    | (go_at_call 18; refine (same_any v4 _ L _ 0 _ ho4 (ho.below hb4) (by rw [HL.out.2]; decide)).mono ?_; rintro e w5 ⟨rfl, hb5⟩))
                                  go_roundw
                                  case rel => exact ⟨K + 1, by omega, by go_num, (hI.below hb4).below hb5⟩
                                  case measure => simp [intOf]; omega
                        · by_cases hKN : K < N
                          · have hd1 : decide ((K : Int) < (N : Int)) = true := decide_eq_true (by omega)
                            have hd2 : decide ((K : Int) < 20) = false := decide_eq_false (by omega)
                            go_wp2_with (go_at_call 11; refine (awake_any _).mono ?_; rintro e w6 ⟨rfl, hb6⟩)
                            go_ret
                            exact ⟨rfl, chainB hI.bel hb6⟩
                          · have hd1 : decide ((K : Int) < (N : Int)) = false := decide_eq_false (by omega)
                            go_wp2_with (go_at_call 11; refine (awake_any _).mono ?_; rintro e w6 ⟨rfl, hb6⟩)
                            go_ret
                            exact ⟨rfl, chainB hI.bel hb6⟩
  · go_enter Try.func7, Try.ntmps7
    by_cases hs : n < 1
    · have hd : decide (n < 1) = true := decide_eq_true hs
      go_wp2_with (first
        | (go_at_call 9; refine (new_no n _ (by omega)).mono ?_; rintro e w1 ⟨rfl, rfl⟩)
        | (go_at_call 11; refine (awake_any _).mono ?_; rintro e w2 ⟨rfl, hb2⟩))
      go_ret
      exact ⟨rfl, hb2⟩
    · have hd : decide (n < 1) = false := decide_eq_false hs
      have hd2 : decide (1024 < n) = true := decide_eq_true (by omega)
      go_wp2_with (first
        | (go_at_call 9; refine (new_no n _ (by omega)).mono ?_; rintro e w1 ⟨rfl, rfl⟩)
        | (go_at_call 11; refine (awake_any _).mono ?_; rintro e w2 ⟨rfl, hb2⟩))
      go_ret
      exact ⟨rfl, hb2⟩
end Go.Proofs.Ytfomnnlilmahhaa
