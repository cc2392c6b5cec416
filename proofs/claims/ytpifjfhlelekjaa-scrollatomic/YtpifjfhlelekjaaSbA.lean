/- The walk of the law ScrollAtomic. -/
import Derived.Test.YtpifjfhlelekjaaSbR
namespace Go.Proofs.Ytpifjfhlelekjaa
open Go.RowKit

set_option maxRecDepth 100000 in
set_option maxHeartbeats 16000000 in
theorem walk_ScrollAtomic (n : Int) (a : Option Addr) (len cap : Nat) (K A L F M : Nat → Int) (w : World) (_ : (Lit.int .i64 n).wf = true) (row : RowV w a len K A L F M) (hlen : len * 40 ≤ 140737488351232) :
    Calls Try.prog 6 #[.int .i64 n, .slice a len cap] w fun e w' => e = .returned (.bool true) ∧ Below w.heap.size w w' := by
  have HR : Hid (RowV w a len K A L F M) := row
  obtain ⟨i1, hi1, hw0, hw1, hw2⟩ := info_parts Try.infoS
  have hp := pl_lt n 97 (by decide)
  obtain ⟨N, hN⟩ : ∃ N, 3 + pl n 97 = N := ⟨_, rfl⟩
  have hN2 : N ≤ 1024 ∧ 3 ≤ N := by omega
  have HF : Hid (∀ w, Calls Try.prog 31 #[.int .i64 n] w fun e w' => ∃ b g sb s, e = .returned (.tuple #[.pointer (some ⟨b, 0, none⟩), .pointer (some ⟨sb, 0, none⟩), .bool true]) ∧ Lw w w' b g sb 1 0 0 s [] N 1 ∧ s.on = true) := fun w => (fresh_any n w).mono fun e w' ⟨b, g, sb, s, h1, h2, h3, _⟩ => ⟨b, g, sb, s, h1, by rw [← hN]; exact h2, h3⟩
  clear row hp hN
  go_enter Try.func6, Try.ntmps6
  go_wp2_with (go_at_call 31; refine (HF.out _).mono ?_; rintro e w1 ⟨b, g, sb0, s0, rfl, hL0, hon0⟩)
  clear HF
  go_loopw [6, 8, 9] (fun t v i wr => ∃ k : Nat, k ≤ len ∧ i = .int .i64 k ∧ ∃ sb G Hh u s R, t = .pointer (some ⟨sb, 0, none⟩) ∧ Lw w wr b g sb G Hh u s R N (1 + 1000 * k) ∧ s.on = true ∧ OwnR wr w.heap.size wr.heap.size v R ∧ Sm R) (fun _ _ i _ => len - (intOf i).toNat)
  case atStart => exact ⟨0, Nat.zero_le _, rfl, sb0, 1, 0, 0, s0, [], rfl, hL0, hon0, OwnR.nil _ _ _, fun _ h => by cases h⟩
  case round =>
    clear hL0 hon0
    obtain ⟨k, hk, rfl, sb, G, Hh, u, s, R, rfl, hLw, hon, hW, hSm⟩ := hrel
    by_cases hlt : k < len
    · obtain ⟨ab, off, rfl, hab, r0, r1, r2, r3, r4, wA, wF, wL⟩ := HR.out.at hLw.bel hlt
      have hki : (k : Int) < (len : Int) := by omega
      have hbA := bounds_i64 wA
      have HwF : Hid ((Lit.int .i64 (F k)).wf = true) := wF
      obtain ⟨xk, hxk⟩ : ∃ x, K k = x := ⟨_, rfl⟩
      obtain ⟨xa, hxa⟩ : ∃ x, A k = x := ⟨_, rfl⟩
      obtain ⟨xl, hxl⟩ : ∃ x, L k = x := ⟨_, rfl⟩
      obtain ⟨xf, hxf⟩ : ∃ x, F k = x := ⟨_, rfl⟩
      obtain ⟨xm, hxm⟩ : ∃ x, M k = x := ⟨_, rfl⟩
      rw [hxk] at r0
      rw [hxa] at r1 hbA
      rw [hxl] at r2
      rw [hxf] at r3 HwF
      rw [hxm] at r4
      have HK9 : Hid (1 + 1000 * (k : Int) + 9000 < 9223372036854775807) := by show _ < _; omega
      have HbA : Hid (xa ≤ 9223372036854775807) := hbA.2
      clear hbA
      have H : Hid (Lw w wr b g sb G Hh u s R N (1 + 1000 * k) ∧ s.on = true ∧ OwnR wr w.heap.size wr.heap.size u8 R) := ⟨hLw, hon, hW⟩
      have HSm : Hid (Sm R) := hSm
      have HlK : Hid (k < len ∧ len * 40 ≤ 140737488351232) := ⟨hlt, hlen⟩
      clear hxk hxa hxl hxf hxm wA wF wL hLw hon hW hSm
      go_upto_if 39 with fail
      obtain ⟨X, hX⟩ : ∃ X, wr.heap.size = X := ⟨_, rfl⟩
      obtain ⟨W, hWw⟩ : ∃ W, wr.alloc (.cells #[.int .i64 xk, .int .i64 xa, .int .i64 xl, .int .i64 xf, .int .i64 xm] 34) = W := ⟨_, rfl⟩
      have hBx : Bx5 W X xk xa xl xf xm := by rw [← hWw, ← hX]; exact heap_new _ _
      have hbW : Below wr.heap.size wr W := by rw [← hWw]; exact below_alloc _ _
      have hLW := H.out.1.below hbW
      have hOW := OwnR.go H.out.2.2 hbW
      obtain ⟨x0, x1, x2, x3, x4⟩ := hBx.cells
      have HW : Hid (Lw w W b g sb G Hh u s R N (1 + 1000 * k) ∧ s.on = true ∧ OwnR W w.heap.size W.heap.size u8 R ∧ Bx5 W X xk xa xl xf xm) := ⟨hLW, H.out.2.1, hOW, hBx⟩
      rw [hWw, hX]
      clear hLW hOW hBx hbW hWw hX H r0 r1 r2 r3 r4
      go_cut [44] from 39 to 43 (fun x wx => x = u44 ∧ ∃ s1, Lw w wx b g sb G Hh u s1 R N (1 + 1000 * k) ∧ s1.on = true ∧ OwnR wx w.heap.size wx.heap.size u8 R ∧ Bx5 wx X xk xa xl xf xm)
      case first =>
        by_cases ha : 0 ≤ xa
        · have hd : decide (0 ≤ xa) = true := decide_eq_true ha
          have HA : Hid (0 ≤ xa) := ha
          rw [hd]
          clear hd ha
          go_wp2_with (go_at_call 19; refine (lw_fuse HW.out.1 HW.out.2.1 xa ⟨HA.out, HbA.out⟩).mono ?_; rintro e w2 ⟨E2, s2, rfl, hL2, hon2, hO2, _⟩)
          go_meet
          exact ⟨rfl, s2, hL2, hon2, OwnR.law HW.out.2.2.1 HW.out.1 hO2, HW.out.2.2.2.law HW.out.1 hO2⟩
        · have hd : decide (0 ≤ xa) = false := decide_eq_false ha
          rw [hd]
          clear hd ha
          go_wp2
          go_meet
          exact ⟨rfl, s, HW.out.1, HW.out.2.1, HW.out.2.2.1, HW.out.2.2.2⟩
      case rest =>
        obtain ⟨rfl, s1, hL1, hon1, hO1, hBx⟩ := hcut
        obtain ⟨x0, x1, x2, x3, x4⟩ := hBx.cells
        have H1 : Hid (Lw w wc b g sb G Hh u s1 R N (1 + 1000 * k) ∧ s1.on = true ∧ OwnR wc w.heap.size wc.heap.size u8 R ∧ Bx5 wc X xk xa xl xf xm) := ⟨hL1, hon1, hO1, hBx⟩
        have hp3 := pl_lt xk 3 (by decide)
        obtain ⟨P, hP⟩ : ∃ P, pl xk 3 = P := ⟨_, rfl⟩
        have HP : Hid (∀ w, Calls Try.prog 12 #[.int .i64 xk, .int .i64 3] w fun e w' => e = .returned (.int .i64 (P : Nat)) ∧ w = w') := fun w => by
          have := place_any xk 3 w (by decide) (by decide); rw [hP] at this; exact this.mono fun e w2 hq => ⟨hq.1, hq.2.symm⟩
        clear hL1 hon1 hO1 hBx HW hP
        go_upto_if 47 with (go_at_call 12; refine (HP.out _).mono ?_; rintro e w2 ⟨rfl, rfl⟩)
        obtain ⟨B, hB⟩ : ∃ B, decide ((P : Int) < 2) = B := ⟨_, rfl⟩
        rw [hB]
        clear hB
        have HN2 : Hid (N ≤ 1024 ∧ 3 ≤ N) := hN2
        clear hlen hN2 hp3 hki hlt hk HP
        go_cut [8, 11, 12] from 48 to 72 (fun v e t wx => ∃ E G2 H2 u2 s2 R2, e = .int .i64 E ∧ Lw w wx b g sb G2 H2 u2 s2 R2 N (1 + 1000 * k + 600) ∧ Pw E s2.on ∧ OwnR wx w.heap.size wx.heap.size v R2 ∧ Sm R2 ∧ Bx5 wx X xk xa xl xf xm)
        case first =>
          rcases B with _ | _
          rotate_left
          · have hbl : (bl (bn xl) xf).length ≤ 1000000 := by rw [bl_len]; have := bn_le xl; omega
            obtain ⟨l, hl⟩ : ∃ l, bl (bn xl) xf = l := ⟨_, rfl⟩
            have hby : Byt l := by rw [← hl]; exact bl_byt _ _
            rw [hl] at hbl
            have HRc : Hid (∀ w, Calls Try.prog 14 #[.int .i64 xl, .int .i64 xf] w fun e w' => ∃ v, e = .returned v ∧ OwnB w' w.heap.size v l ∧ Below w.heap.size w w') := fun w => by
              have := record_any xl xf w; rw [hl] at this; exact this
            have HBl : Hid (Byt l ∧ l.length ≤ 1000000) := ⟨hby, hbl⟩
            clear hl hby hbl
            go_upto_if 56 with (first
              | (go_at_call 14; refine (HRc.out _).mono ?_; rintro e w3 ⟨v3, rfl, ho3, hb3⟩)
              | (go_at_call 13; refine (lw_append (H1.out.1.below hb3) H1.out.2.1 HN2.out HK9.out v3 l ho3.rt HBl.out.1 HBl.out.2).mono ?_; rintro e w4 ⟨E, s2, R2, u2, rfl, hL4, hO4, hPw, hcase, -⟩; have hW4 := OwnR.law (OwnR.go H1.out.2.2.1 hb3) (H1.out.1.below hb3) hO4; have hB4 := (H1.out.2.2.2.below hb3).law (H1.out.1.below hb3) hO4))
            have H4 : Hid (Lw w w4 b g sb G Hh u2 s2 R2 N (1 + 1000 * k + 8) ∧ Pw E s2.on ∧ OwnR w4 w.heap.size w4.heap.size u8 R ∧ Bx5 w4 X xk xa xl xf xm ∧ R.length ≤ 1024) := ⟨hL4, hPw, hW4, hB4, H1.out.1.few HN2.out.1⟩
            obtain ⟨c0, c1, c2, c3, c4⟩ := hB4.cells
            clear hL4 hPw hW4 hB4 hO4 x0 x1 x2 x3 x4 ho3 hb3
            rcases hcase with ⟨rfl, rfl, -⟩ | ⟨hE, rfl, rfl⟩
            · rw [show ((0 : Int) == 0) = true from rfl]
              go_wp2_with (first
                | (go_at_call 14; refine (HRc.out _).mono ?_; rintro e w5 ⟨v5, rfl, ho5, hb5⟩; obtain ⟨vs, hrow, hels⟩ := H4.out.2.2.1.below hb5; have HV : Hid (w5.ownsRow w.heap.size 22 1 u8 R.length vs ∧ Els w5 w.heap.size w4.heap.size vs R) := ⟨hrow, hels⟩; obtain ⟨a5, n5, e5⟩ := owns_len ho5; subst e5; have hs5 := hb5.size; have hRl := H4.out.2.2.2.2; have hs0 := H4.out.1.bel.size; clear hrow hels)
                | (at_builtin; go_loud (refine wpList_append_own_at _ rfl _ _ 41 rfl w.heap.size 22 i1 (.slice none 0 0) 1 24 Try.underlying41 hi1 hw0 hw1 hw2 rfl (by decide) _ R.length vs rfl (World.ownsRow.alloc HV.out.1 _) ⟨w5.heap.size, 0, none⟩ 1 1 [_] rfl rfl (one_at _ _ _) (one_cell _ rfl) (by unfold maxLen; omega) (by omega) (by simp; omega) ?_; intro v9 w9 hown9 hgrow9 _ _)))
              have h9 := OwnR.app HV.out.1 HV.out.2 hs0 hs5 ho5 hown9 hgrow9
              have hB5 : OwnR w5 w.heap.size w4.heap.size u8 R := H4.out.2.2.1.below hb5
              have hL9 := (H4.out.1.below hb5).list hB5 h9.2.2
              have hX9 := (H4.out.2.2.2.1.below hb5).list hB5 h9.2.2
              go_meet
              exact ⟨0, G, Hh, _, s2, _, rfl, hL9.le (by omega), H4.out.2.1, h9.1, HSm.out.app HBl.out.2, hX9⟩
            · have hd : (E == (0 : Int)) = false := beq_eq_false_iff_ne.2 hE
              rw [hd]
              clear hd hE
              go_wp2
              go_meet
              exact ⟨E, G, Hh, u2, s2, R2, rfl, H4.out.1.le (by omega), H4.out.2.1, H4.out.2.2.1, HSm.out, H4.out.2.2.2.1⟩
          · obtain ⟨Lr, hLr⟩ : ∃ Lr, recsL xl xf (cM xm) = Lr := ⟨_, rfl⟩
            have HLr : Hid ((∀ l ∈ Lr, Byt l ∧ l.length ≤ 1000000) ∧ Lr.length ≤ 1000) := by
              refine ⟨fun l hl => ?_, ?_⟩
              · rw [← hLr] at hl
                have h1 := recsL_mem hl
                have h2 := bn_le xl
                exact ⟨h1.2, by omega⟩
              · rw [← hLr, recsL_len]; unfold cM; omega
            have HRs : Hid (∀ w, Calls Try.prog 17 #[.agg #[.int .i64 xk, .int .i64 xa, .int .i64 xl, .int .i64 xf, .int .i64 xm]] w fun e w' => ∃ v, e = .returned v ∧ OwnR w' w.heap.size w'.heap.size v Lr ∧ Below w.heap.size w w') := fun w => by
              have := records_any xk xa xl xf xm w HwF.out; rw [hLr] at this; exact this
            clear hLr
            go_upto_if 71 with (first
              | (go_at_call 17; refine (HRs.out _).mono ?_; rintro e w3 ⟨v3, rfl, ho3, hb3⟩)
              | (go_at_call 16; refine (lw_turn (H1.out.1.below hb3) H1.out.2.1 HN2.out HK9.out v3 Lr ho3.rs HLr.out.1 HLr.out.2).mono ?_; rintro e w4 ⟨E, s2, R2, u2, G2, H2, rfl, hL4, hO4, hPw, hcase, -⟩; have hW4 := OwnR.law (OwnR.go H1.out.2.2.1 hb3) (H1.out.1.below hb3) hO4; have hV4 := OwnR.law (ho3.lower H1.out.1.bel.size) (H1.out.1.below hb3) hO4; have hB4 := (H1.out.2.2.2.below hb3).law (H1.out.1.below hb3) hO4))
            have H4 : Hid (Lw w w4 b g sb G2 H2 u2 s2 R2 N (1 + 1000 * k + 600) ∧ Pw E s2.on ∧ OwnR w4 w.heap.size w4.heap.size u8 R ∧ OwnR w4 w.heap.size w4.heap.size v3 Lr ∧ Bx5 w4 X xk xa xl xf xm) := ⟨hL4, hPw, hW4, hV4, hB4⟩
            clear hL4 hPw hW4 hV4 hB4 hO4 x0 x1 x2 x3 x4 ho3 hb3
            rcases hcase with ⟨rfl, rfl, -⟩ | ⟨hE, rfl, rfl, rfl, rfl⟩
            · rw [show ((0 : Int) == 0) = true from rfl]
              go_wp2
              go_meet
              exact ⟨0, G2, H2, _, s2, _, rfl, H4.out.1, H4.out.2.1, H4.out.2.2.2.1, fun l hl => (HLr.out.1 l hl).2, H4.out.2.2.2.2⟩
            · have hd : (E == (0 : Int)) = false := beq_eq_false_iff_ne.2 hE
              rw [hd]
              clear hd hE
              go_wp2
              go_meet
              exact ⟨E, _, _, _, s2, _, rfl, H4.out.1, H4.out.2.1, H4.out.2.2.1, HSm.out, H4.out.2.2.2.2⟩

        case rest =>
          obtain ⟨E, G2, Hc, u2, s2, R2, rfl, hL2, hPw, hO2, hSm2, hBx⟩ := hcut
          obtain ⟨y0, y1, y2, y3, y4⟩ := hBx.cells
          have HF2 : Hid (R2.length ≤ 1000000) := by have := hL2.few HN2.out.1; show _ ≤ _; omega
          have HOn : Hid (Calls Try.prog 34 #[.pointer (some ⟨b, 0, none⟩)] wc fun e w' => e = .returned (.bool s2.on) ∧ wc = w') := (on_any b g s2 wc hL2.dk).mono fun e w2 hq => ⟨hq.1, hq.2.symm⟩
          have H2 : Hid (Lw w wc b g sb G2 Hc u2 s2 R2 N (1 + 1000 * k + 600) ∧ OwnR wc w.heap.size wc.heap.size u8 R2 ∧ Sm R2) := ⟨hL2, hO2, hSm2⟩
          have HW1 : Hid (wrap64 ((k : Int) + 1) = ((k + 1 : Nat) : Int)) := by show _ = _; have := HlK.out; unfold wrap64; omega
          have HSR : Hid (∀ v v' w, Rs w v R2 → Rs w v' R2 → Calls Try.prog 33 #[v, v'] w fun e w' => e = .returned (.bool true) ∧ Below w.heap.size w w') := fun v v' w h h' => by
            have := sameRows_any v v' R2 R2 w h h' HF2.out HF2.out hSm2 hSm2; rw [decide_eq_true (rfl : R2 = R2)] at this; exact this
          clear hL2 hO2 hSm2 hBx x0 x1 x2 x3 x4 H1
          rcases hPw with ⟨rfl, hof⟩ | ⟨hE, hof⟩
          · rw [hof] at HOn
            clear hof
            go_upto_if 77 with (go_at_call 34; refine HOn.out.mono ?_; rintro e w4 ⟨rfl, rfl⟩)
            go_upto_if 85 with (go_at_call 34; refine HOn.out.mono ?_; rintro e w4 ⟨rfl, rfl⟩)
            go_wp2_with (first
              | (go_at_call 21; refine (lw_power H2.out.1).mono ?_; rintro e w5 ⟨s5, rfl, hL5, hon5, -, -, hO5⟩; have hW5 := OwnR.law H2.out.2.1 H2.out.1 hO5)
              | (go_at_call 32; refine (lw_open hL5 HN2.out.2).mono ?_; rintro e w6 ⟨sb6, vR, rfl, hL6, hR6, hB6⟩; have hW6 := OwnR.go hW5 hB6)
              | (go_at_call 33; refine (HSR.out vR u8 _ hR6.rs hW6.rs).mono ?_; rintro e w7 ⟨rfl, hB7⟩))
            go_roundw
            case rel => exact ⟨k + 1, by have := HlK.out; omega, by rw [HW1.out], sb6, G2, Hc, u2, s5, R2, rfl, (hL6.below hB7).le (by push_cast; omega), hon5, OwnR.go hW6 hB7, H2.out.2.2⟩
            case measure => have := HlK.out; rw [HW1.out]; simp [intOf]; omega
          · rw [hof] at HOn
            have HOn2 : Hid (s2.on = true) := hof
            have hd : (E == (21 : Int)) = false := beq_eq_false_iff_ne.2 hE
            clear hof hE
            have HD : Hid ((E == (21 : Int)) = false) := hd
            clear hd
            go_upto_if 77 with (go_at_call 34; refine HOn.out.mono ?_; rintro e w4 ⟨rfl, rfl⟩)
            rw [HD.out]
            go_upto_if 85 with (go_at_call 34; refine HOn.out.mono ?_; rintro e w4 ⟨rfl, rfl⟩)
            obtain ⟨Bm, hBm⟩ : ∃ Bm, (xf.tmod 3 != 0) = Bm := ⟨_, rfl⟩
            rw [hBm]
            clear hBm
            rcases Bm with _ | _
            · go_wp2_with (first
                | (go_at_call 21; refine (lw_power H2.out.1).mono ?_; rintro e w5 ⟨s5, rfl, hL5, hon5, -, -, hO5⟩; have hW5 := OwnR.law H2.out.2.1 H2.out.1 hO5)
                | (go_at_call 32; refine (lw_open hL5 HN2.out.2).mono ?_; rintro e w6 ⟨sb6, vR, rfl, hL6, hR6, hB6⟩; have hW6 := OwnR.go hW5 hB6)
                | (go_at_call 33; refine (HSR.out vR u8 _ hR6.rs hW6.rs).mono ?_; rintro e w7 ⟨rfl, hB7⟩))
              go_roundw
              case rel => exact ⟨k + 1, by have := HlK.out; omega, by rw [HW1.out], sb6, G2, Hc, u2, s5, R2, rfl, (hL6.below hB7).le (by push_cast; omega), hon5, OwnR.go hW6 hB7, H2.out.2.2⟩
              case measure => have := HlK.out; rw [HW1.out]; simp [intOf]; omega
            · go_wp2
              go_roundw
              case rel => exact ⟨k + 1, by have := HlK.out; omega, by rw [HW1.out], sb, G2, Hc, u2, s2, R2, rfl, H2.out.1.le (by push_cast; omega), HOn2.out, H2.out.2.1, H2.out.2.2⟩
              case measure => have := HlK.out; rw [HW1.out]; simp [intOf]; omega
    · have hki : ¬ ((k : Int) < (len : Int)) := by omega
      have hF2 : R.length ≤ 1000000 := by have := hLw.few hN2.1; omega
      have HSR : Hid (∀ v v' w, Rs w v R → Rs w v' R → Calls Try.prog 33 #[v, v'] w fun e w' => e = .returned (.bool true) ∧ Below w.heap.size w w') := fun v v' w h h' => by
        have := sameRows_any v v' R R w h h' hF2 hF2 hSm hSm; rw [decide_eq_true (rfl : R = R)] at this; exact this
      have H2 : Hid (Lw w wr b g sb G Hh u s R N (1 + 1000 * k) ∧ OwnR wr w.heap.size wr.heap.size u8 R ∧ 3 ≤ N) := ⟨hLw, hW, hN2.2⟩
      clear hLw hW hSm hF2 hN2 hlen hon
      go_wp2_with (first
        | (go_at_call 21; refine (lw_power H2.out.1).mono ?_; rintro e w5 ⟨s5, rfl, hL5, -, -, -, hO5⟩; have hW5 := OwnR.law H2.out.2.1 H2.out.1 hO5)
        | (go_at_call 32; refine (lw_open hL5 H2.out.2.2).mono ?_; rintro e w6 ⟨sb6, vR, rfl, hL6, hR6, hB6⟩; have hW6 := OwnR.go hW5 hB6)
        | (go_at_call 33; refine (HSR.out vR u8 _ hR6.rs hW6.rs).mono ?_; rintro e w7 ⟨rfl, hB7⟩)
        | (go_at_call 10; refine (awake_any _).mono ?_; rintro e w8 ⟨rfl, hB8⟩))
      go_ret
      exact ⟨rfl, chainB (chainB hL6.bel hB7) hB8⟩
end Go.Proofs.Ytpifjfhlelekjaa
