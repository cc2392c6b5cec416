/- ScrollPlays. -/
import Derived.Test.YtajgaialnafdbaaJSAys33
import Derived.BigQuiet
import Derived.Deep.CutBlock
namespace Go.Proofs.Ytajgaialnafdbaa
section
open Go.RowKit Go.Lib

theorem bx23 {w : World} {x : Nat} {k a l f m : Int} (h : Hid (Bx5 w x k a l f m)) : w.cell? ⟨x, 2, none⟩ = some (.int .i64 l) ∧ w.cell? ⟨x, 3, none⟩ = some (.int .i64 f) := ⟨h.out.cells.2.2.1, h.out.cells.2.2.2.1⟩
theorem bx5 {w : World} {x : Nat} {k a l f m : Int} (h : Hid (Bx5 w x k a l f m)) : w.cell? ⟨x, 0, none⟩ = some (.int .i64 k) ∧ w.cell? ⟨x, 1, none⟩ = some (.int .i64 a) ∧ w.cell? ⟨x, 2, none⟩ = some (.int .i64 l) ∧ w.cell? ⟨x, 3, none⟩ = some (.int .i64 f) ∧ w.cell? ⟨x, 4, none⟩ = some (.int .i64 m) := h.out.cells
set_option maxRecDepth 100000 in
set_option maxHeartbeats 16000000 in
theorem walk_ScrollPlays (n : Int) (ai : Option Addr) (len cap : Nat) (l : List Int) (a : Option Addr) (m capV : Nat) (K A Ln F Mn : Nat → Int) (w : World) (_ : (Lit.int .i64 n).wf = true) (row : RC w (.slice ai len cap) l) (hlen : l.length ≤ LB) (hbyt : Byt l) (rowV : RowV w a m K A Ln F Mn) (hm : m ≤ 1048576) :
    Calls Try.prog 3 #[.int .i64 n, .slice ai len cap, .slice a m capV] w fun e w' => e = .returned (.bool true) ∧ Below w.heap.size w w' := by
  have HA : Hid (∀ w, Calls Try.prog 5 #[] w fun e w' => e = .returned (.bool true) ∧ Below w.heap.size w w') := awake_any
  by_cases hn : n < 1 ∨ 1024 < n
  · have HD : Hid (Calls Try.prog 4 #[.int .i64 n, .slice ai len cap] w fun e w' => e = .returned (.tuple #[.pointer none, .pointer none, .bool false]) ∧ w' = w) := disks_no n ai len cap w hn
    clear row hlen hbyt rowV
    rcases hn with hn | hn
    · have d1 : decide (n < 1) = true := decide_eq_true hn
      go_enter Try.func3, Try.ntmps3
      go_wp2_with (first
        | (go_at_call 4; refine HD.out.mono ?_; rintro e w' ⟨rfl, rfl⟩)
        | (go_at_call 5; refine (HA.out _).mono ?_; rintro e w2 ⟨rfl, hb2⟩))
      go_ret
      exact ⟨rfl, hb2⟩
    · have d1 : decide (n < 1) = false := decide_eq_false (by omega)
      have d2 : decide (1024 < n) = true := decide_eq_true hn
      go_enter Try.func3, Try.ntmps3
      go_wp2_with (first
        | (go_at_call 4; refine HD.out.mono ?_; rintro e w' ⟨rfl, rfl⟩)
        | (go_at_call 5; refine (HA.out _).mono ?_; rintro e w2 ⟨rfl, hb2⟩))
      go_ret
      exact ⟨rfl, hb2⟩
  · obtain ⟨N, rfl⟩ := Int.eq_ofNat_of_zero_le (show 0 ≤ n by omega)
    have hN : 1 ≤ N ∧ N ≤ 1024 := by omega
    have HD : Hid (Calls Try.prog 4 #[.int .i64 N, .slice ai len cap] w fun e w' => ∃ b g r s R, e = .returned (.tuple #[.pointer (some ⟨b, 0, none⟩), .pointer (some ⟨r, 0, none⟩), .bool true]) ∧ Dk w w' b g r s R N N ∧ s.on = true ∧ s.burns = false) := disks_yes N ai len cap l w hN.1 hN.2 row hlen hbyt
    have HV : Hid (RowV w a m K A Ln F Mn) := rowV
    have HOp : Hid (∀ W b g r s R k, Dk w W b g r s R N k → k * 32 ≤ 140737488355328 → Calls Try.prog 6 #[.pointer (some ⟨b, 0, none⟩), .pointer (some ⟨r, 0, none⟩)] W fun e w' => ∃ vs vt, e = .returned (.tuple #[vs, vt, .bool true]) ∧ Dk w w' b g r s R N k ∧ Scs w w' b r (hS s.cs) vs vt) := fun W b g r s R k hk hb => (opened_any b g r s R N k w W hk hN.1 hN.2 hb).mono fun e w' hq => by
      obtain ⟨vs, vt, e1, e2, e3⟩ := hq
      exact ⟨vs, vt, e1, hk.below e2, e3⟩
    clear row hlen hbyt hn rowV
    go_enter Try.func3, Try.ntmps3
    go_wp2_with (first
      | (go_at_call 6; refine (HOp.out _ _ _ _ _ _ _ HK.out (by omega)).mono ?_; rintro e w2 ⟨vs, vt, rfl, hk2, hs2⟩; have H2 : Hid (Dk w w2 b g r s R N N ∧ Scs w w2 b r (hS s.cs) vs vt) := ⟨hk2, hs2⟩; clear hk2 hs2)
      | (go_at_call 4; refine HD.out.mono ?_; rintro e w1 ⟨b, g, r, s, R, rfl, hK, -, -⟩; have HK : Hid (Dk w w1 b g r s R N N) := hK; clear hK))
    go_loopw [9, 10, 11, 12, 13, 54, 75, 90, 100, 113] (fun s9 s10 s11 s12 _ _ _ _ _ _ wr => ∃ i : Nat, i ≤ m ∧ s12 = .int .i64 i ∧ s9 = .bool true ∧ Hid (∃ s R, Dk w wr b g r s R N (N + i * 8001) ∧ Scs w wr b r (hS s.cs) s10 s11)) (fun _ _ _ s12 _ _ _ _ _ _ _ => m - (RowKit.intOf s12).toNat)
    case atStart => exact ⟨0, Nat.zero_le _, rfl, rfl, s, R, by rw [Nat.zero_mul, Nat.add_zero]; exact H2.out.1, H2.out.2⟩
    case round =>
      clear H2 HK HD
      obtain ⟨i, hi, rfl, rfl, HJ⟩ := hrel
      by_cases hlt : i < m
      · have hltz : (i : Int) < (m : Int) := by omega
        obtain ⟨s, R, hD, hSc⟩ := HJ.out
        obtain ⟨bb, off, rfl, hbb, k0, k1, k2, k3, k4, hwf⟩ := HV.out.at hD.bel hlt
        have HL : Hid (i < m ∧ i + 1 ≤ m) := ⟨hlt, hlt⟩
        have HWi : Hid (wrap64 ((i : Int) + 1) = ((i + 1 : Nat) : Int)) := by show _ = _; unfold wrap64; omega
        obtain ⟨xk, hxk⟩ : ∃ x, K i = x := ⟨_, rfl⟩
        obtain ⟨xa, hxa⟩ : ∃ x, A i = x := ⟨_, rfl⟩
        obtain ⟨xl, hxl⟩ : ∃ x, Ln i = x := ⟨_, rfl⟩
        obtain ⟨xf, hxf⟩ : ∃ x, F i = x := ⟨_, rfl⟩
        obtain ⟨xm, hxm⟩ : ∃ x, Mn i = x := ⟨_, rfl⟩
        rw [hxk] at k0
        rw [hxa] at k1
        rw [hxl] at k2
        rw [hxf] at k3
        rw [hxm] at k4
        have HWf : Hid ((Lit.int .i64 xa).wf = true ∧ (Lit.int .i64 xf).wf = true ∧ (Lit.int .i64 xl).wf = true) := by rw [← hxa, ← hxf, ← hxl]; exact hwf
        obtain ⟨P, HP0, HP⟩ : ∃ P : Int, (P = 0 ∨ P = 1 ∨ P = 2 ∨ P = 3 ∨ P = 4) ∧ Hid (∀ W, Calls Try.prog 7 #[.int .i64 xk, .int .i64 5] W fun e w' => e = .returned (.int .i64 P) ∧ W = w') := ⟨(pl xk 5 : Nat), by have := pl_lt xk 5 (by omega); omega, fun W => (place_any xk 5 W (by omega) (by omega)).mono fun _ _ hq => ⟨hq.1, hq.2.symm⟩⟩
        obtain ⟨M0, hM0⟩ : ∃ x, N + i * 8001 = x := ⟨_, rfl⟩
        have HM : Hid (M0 + 8001 = N + (i + 1) * 8001 ∧ (M0 + 8001 + 9) * 32 ≤ 140737488355328 ∧ M0 + 16010 ≤ 140737488355328 ∧ (M0 + 9) * 32 ≤ 140737488355328 ∧ (M0 + 8010) * 32 ≤ 140737488355328 ∧ M0 ≤ 140737488355328) := by rw [← hM0]; show _ ∧ _; omega
        rw [hM0] at hD
        obtain ⟨x, hx⟩ : ∃ x, wr.heap.size = x := ⟨_, rfl⟩
        obtain ⟨W1, hW1⟩ : ∃ W, wr.alloc (.cells #[.int .i64 xk, .int .i64 xa, .int .i64 xl, .int .i64 xf, .int .i64 xm] 34 (0, 0)) = W := ⟨_, rfl⟩
        have HD1 : Hid (Dk w W1 b g r s R N M0 ∧ Scs w W1 b r (hS s.cs) u10 u11 ∧ Bx5 W1 x xk xa xl xf xm) := by
          rw [← hW1, ← hx]
          exact ⟨hD.below (below_alloc _ _), hSc.below (below_alloc _ _), heap_new _ _⟩
        have HW1 : Hid (wr.heap.size = x ∧ wr.alloc (.cells #[.int .i64 xk, .int .i64 xa, .int .i64 xl, .int .i64 xf, .int .i64 xm] 34 (0, 0)) = W1) := ⟨hx, hW1⟩
        clear hx hW1 hM0 hxk hxa hxl hxf hxm hwf hD hSc HJ hi hlt hbb
        go_upto_block 2 with (go_at_call 7; refine (HP.out _).mono ?_; rintro e w' ⟨rfl, rfl⟩)
        rw [HW1.out.2, HW1.out.1]
        clear HW1 HP k0 k1 k2 k3 k4
        go_cut [9, 10, 11] from 53 to 126 (fun s9 s10 s11 wx => s9 = .bool true ∧ Hid (∃ s' R', Dk w wx b g r s' R' N (M0 + 8001) ∧ Scs w wx b r (hS s'.cs) s10 s11))
        case first =>
          rcases HP0 with rfl | rfl | rfl | rfl | rfl
          · rcases HD1.out.2.1 with ⟨rfl, rfl⟩ | ⟨sb, q, G, H, nn, uu, rfl, rfl, hs, ht, hG, hH, hu, hnu, ls, lq⟩
            · go_upto_region 13 with fail
              go_quiet (fail)
              go_wp2
              go_meet
              exact ⟨rfl, s, R, (HD1.out.1.below (below_drewN (Below.refl _ _) _)).mono (by omega), .inl ⟨rfl, rfl⟩⟩
            · have HQ : Hid (Lq w W1 b g r s R N M0 sb q G H nn uu x xk xa xl xf xm) := ⟨HD1.out.1, hs, ht, HD1.out.2.2, hG, hH, hu, hnu, ls, lq⟩
              have hfew := HQ.out.few hN
              obtain ⟨l0, hl0⟩ : ∃ l0, bl (bn xl) xf = l0 := ⟨_, rfl⟩
              obtain ⟨T, hT⟩ : ∃ T, apT s G H nn uu l0 = T := ⟨_, rfl⟩
              obtain ⟨E, hE⟩ : ∃ E, apE s G H nn uu l0 = E := ⟨_, rfl⟩
              obtain ⟨n', hn'⟩ : ∃ n', apN s G H nn uu l0 = n' := ⟨_, rfl⟩
              obtain ⟨u', hu'⟩ : ∃ u', apU s G H nn uu l0 = u' := ⟨_, rfl⟩
              have hl2 : l0.length ≤ 1000000 ∧ Byt l0 := by rw [← hl0]; have := bn_le xl; exact ⟨by rw [bl_len]; omega, bl_byt _ _⟩
              have HRec : Hid (∀ W, Calls Try.prog 9 #[.int .i64 xl, .int .i64 xf] W fun e w' => ∃ v, e = .returned v ∧ OwnB w' W.heap.size v l0 ∧ Below W.heap.size W w') := fun W => by rw [← hl0]; exact record_any xl xf W
              have HAp : Hid (∀ W v, Lq w W b g r s R N M0 sb q G H nn uu x xk xa xl xf xm → RT W v l0 → Calls Try.prog 8 #[.pointer (some ⟨sb, 0, none⟩), v] W fun e w' => e = .returned (.int .i64 E) ∧ Lm w w' b g r s T R N M0 sb q G H nn uu G H n' u' x xk xa xl xf xm) := fun W v h1 h2 => by
                have := h1.app_p hN HM.out.2.2.2.2.2 v l0 h2 hl2.1
                rw [hT, hE, hn', hu'] at this
                exact this
              have HAd : Hid (∀ W v base, Lm w W b g r s T R N M0 sb q G H nn uu G H n' u' x xk xa xl xf xm → OwnB W base v l0 → Calls Try.prog 10 #[.pointer (some ⟨q, 0, none⟩), v] W fun e w' => e = .returned (.int .i64 E) ∧ ∃ R', Lq w w' b g r T R' N (M0 + 8) sb q G H n' u' x xk xa xl xf xm) := fun W v base h1 h2 => by
                rw [← hT, ← hn', ← hu'] at h1
                have := h1.app_d hN HM.out.2.2.2.1 HD1.out.1.byt hG hH hfew.2.1 hu hnu v base h2 hl2.2
                rw [hT, hE, hn', hu'] at this
                exact this
              have HQ0 : Hid (Lq w W1.drew b g r s R N M0 sb q G H nn uu x xk xa xl xf xm) := HQ.out.below (below_drewN (Below.refl _ _) 1)
              have HB0 : Hid (Bx5 W1.drew x xk xa xl xf xm) := HQ0.out.xx
              clear hs ht hG hH hu hnu ls lq HQ hfew hl0 hT hE hn' hu' hl2
              go_upto_region 13 with fail
              go_region_held3 (fun W => W.cell? ⟨x, 2, none⟩ = some (.int .i64 xl) ∧ W.cell? ⟨x, 3, none⟩ = some (.int .i64 xf))
                (first | exact bx23 (k := xk) (a := xa) (m := xm) (by assumption) | fail)
                (first
                  | (go_at_call 10; refine (HAd.out _ _ _ H3.out.1 H3.out.2).mono ?_; rintro e w5 ⟨rfl, R', h⟩; have H4 : Hid (Lq w w5 b g r T R' N (M0 + 8) sb q G H n' u' x xk xa xl xf xm) := h; have HB5 : Hid (Bx5 w5 x xk xa xl xf xm) := h.xx; clear h)
                  | (go_at_call 8; refine (HAp.out _ _ H1.out.1 H1.out.2.rt).mono ?_; rintro e w3 ⟨rfl, h⟩; have H2 : Hid (Lm w w3 b g r s T R N M0 sb q G H nn uu G H n' u' x xk xa xl xf xm) := h; have HB3 : Hid (Bx5 w3 x xk xa xl xf xm) := h.xx; clear h)
                  | (go_at_call 9; first
                    | (refine (HRec.out _).mono ?_; rintro e w4 ⟨v4, rfl, ho, hb⟩; have H3 : Hid (Lm w w4 b g r s T R N M0 sb q G H nn uu G H n' u' x xk xa xl xf xm ∧ OwnB w4 w3.heap.size v4 l0) := ⟨H2.out.below hb, ho⟩; have HB4 : Hid (Bx5 w4 x xk xa xl xf xm) := H3.out.1.xx; clear ho hb)
                    | (refine (HRec.out _).mono ?_; rintro e w2 ⟨v2, rfl, ho, hb⟩; have H1 : Hid (Lq w w2 b g r s R N M0 sb q G H nn uu x xk xa xl xf xm ∧ OwnB w2 W1.heap.size v2 l0) := ⟨HQ0.out.below hb, ho⟩; have HB2 : Hid (Bx5 w2 x xk xa xl xf xm) := H1.out.1.xx; clear ho hb)
                    | fail)
                  | fail)
              all_goals (
                go_wp2
                go_meet
                exact ⟨rfl, T, _, H4.out.d.mono (by omega), H4.out.tl.scs⟩)
          · rcases HD1.out.2.1 with ⟨rfl, rfl⟩ | ⟨sb, q, G, H, nn, uu, rfl, rfl, hs, ht, hG, hH, hu, hnu, ls, lq⟩
            · go_upto_region 16 with fail
              go_quiet (fail)
              go_wp2
              go_meet
              exact ⟨rfl, s, R, (HD1.out.1.below (below_drewN (Below.refl _ _) _)).mono (by omega), .inl ⟨rfl, rfl⟩⟩
            · have HQ : Hid (Lq w W1 b g r s R N M0 sb q G H nn uu x xk xa xl xf xm) := ⟨HD1.out.1, hs, ht, HD1.out.2.2, hG, hH, hu, hnu, ls, lq⟩
              have hbk := HD1.out.1.bk hN.1 hN.2 (by have := HM.out; omega)
              obtain ⟨L0, hL0⟩ : ∃ L0, recsL xl xf (cM xm) = L0 := ⟨_, rfl⟩
              obtain ⟨T, hT⟩ : ∃ T, tuT s L0 = T := ⟨_, rfl⟩
              obtain ⟨E, hE⟩ : ∃ E, tuE s L0 = E := ⟨_, rfl⟩
              obtain ⟨G', hG'⟩ : ∃ G', (if tuD s L0 then nextG s.cs else G) = G' := ⟨_, rfl⟩
              obtain ⟨H', hH'⟩ : ∃ H', (if tuD s L0 then nextH s.cs else H) = H' := ⟨_, rfl⟩
              obtain ⟨n', hn'⟩ : ∃ n', (if tuD s L0 then L0.length else nn) = n' := ⟨_, rfl⟩
              obtain ⟨u', hu'⟩ : ∃ u', (if tuD s L0 then tot L0 else uu) = u' := ⟨_, rfl⟩
              have hl2 : L0.length ≤ 1000 ∧ (∀ l ∈ L0, l.length = bn xl) ∧ (∀ l ∈ L0, Byt l) ∧ bn xl ≤ 1000000 := by
                have := bn_le xl
                refine ⟨by rw [← hL0, recsL_len]; unfold cM; omega, fun l hl => ?_, fun l hl => ?_, by omega⟩
                · rw [← hL0] at hl; exact (recsL_mem hl).1
                · rw [← hL0] at hl; exact (recsL_mem hl).2
              have HRec : Hid (∀ W, Calls Try.prog 12 #[.agg #[.int .i64 xk, .int .i64 xa, .int .i64 xl, .int .i64 xf, .int .i64 xm]] W fun e w' => ∃ a c, e = .returned (.slice a L0.length c) ∧ OwnR w' W.heap.size w'.heap.size (.slice a L0.length c) L0 ∧ Below W.heap.size W w') := fun W => by
                refine (records_any xk xa xl xf xm W HWf.out.2.1).mono ?_
                rintro e w2 ⟨v, rfl, h1, h2⟩
                rw [hL0] at h1
                obtain ⟨a, c, e, -⟩ := h1.rs.form
                subst e
                exact ⟨a, c, rfl, h1, h2⟩
              have HAp : Hid (∀ W a c, Lq w W b g r s R N M0 sb q G H nn uu x xk xa xl xf xm → Rs W (.slice a L0.length c) L0 → Calls Try.prog 11 #[.pointer (some ⟨sb, 0, none⟩), .slice a L0.length c] W fun e w' => e = .returned (.int .i64 E) ∧ Lm w w' b g r s T R N M0 sb q G H nn uu G' H' n' u' x xk xa xl xf xm) := fun W a c h1 h2 => by
                have := h1.turn_p hN HM.out.2.2.2.2.2 a c (bn xl) L0 h2 hl2.1 hl2.2.1 hl2.2.2.2
                rw [hT, hE, hG', hH', hn', hu'] at this
                exact this
              have HAd : Hid (∀ W a c base m', Lm w W b g r s T R N M0 sb q G H nn uu G' H' n' u' x xk xa xl xf xm → OwnR W base m' (.slice a L0.length c) L0 → Calls Try.prog 13 #[.pointer (some ⟨q, 0, none⟩), .slice a L0.length c] W fun e w' => e = .returned (.int .i64 E) ∧ ∃ R', Lq w w' b g r T R' N (M0 + 8001) sb q G' H' n' u' x xk xa xl xf xm) := fun W a c base m' h1 h2 => by
                rw [← hT, ← hG', ← hH', ← hn', ← hu'] at h1
                have := h1.turn_d hN HM.out.2.2.2.2.1 hbk HD1.out.1.byt hG hH hu hnu a c base m' h2 hl2.1 (fun l hl => by rw [hl2.2.1 l hl]; exact hl2.2.2.2) hl2.2.2.1
                rw [hT, hE, hG', hH', hn', hu'] at this
                exact this
              have HQ0 : Hid (Lq w W1.drew b g r s R N M0 sb q G H nn uu x xk xa xl xf xm) := HQ.out.below (below_drewN (Below.refl _ _) 1)
              have HB0 : Hid (Bx5 W1.drew x xk xa xl xf xm) := HQ0.out.xx
              clear hs ht hG hH hu hnu ls lq HQ hbk hL0 hT hE hG' hH' hn' hu' hl2
              go_upto_region 16 with fail
              go_region_held3 (fun W => W.cell? ⟨x, 0, none⟩ = some (.int .i64 xk) ∧ W.cell? ⟨x, 1, none⟩ = some (.int .i64 xa) ∧ W.cell? ⟨x, 2, none⟩ = some (.int .i64 xl) ∧ W.cell? ⟨x, 3, none⟩ = some (.int .i64 xf) ∧ W.cell? ⟨x, 4, none⟩ = some (.int .i64 xm))
                (first | exact bx5 (by assumption) | fail)
                (first
                  | (go_at_call 13; refine (HAd.out _ _ _ _ _ H3.out.1 H3.out.2).mono ?_; rintro e w5 ⟨rfl, R', h⟩; have H4 : Hid (Lq w w5 b g r T R' N (M0 + 8001) sb q G' H' n' u' x xk xa xl xf xm) := h; have HB5 : Hid (Bx5 w5 x xk xa xl xf xm) := h.xx; clear h)
                  | (go_at_call 11; refine (HAp.out _ _ _ H1.out.1 H1.out.2.rs).mono ?_; rintro e w3 ⟨rfl, h⟩; have H2 : Hid (Lm w w3 b g r s T R N M0 sb q G H nn uu G' H' n' u' x xk xa xl xf xm) := h; have HB3 : Hid (Bx5 w3 x xk xa xl xf xm) := h.xx; clear h)
                  | (go_at_call 12; first
                    | (refine (HRec.out _).mono ?_; rintro e w4 ⟨a4, c4, rfl, ho, hb⟩; have H3 : Hid (Lm w w4 b g r s T R N M0 sb q G H nn uu G' H' n' u' x xk xa xl xf xm ∧ OwnR w4 w3.heap.size w4.heap.size (.slice a4 L0.length c4) L0) := ⟨H2.out.below hb, ho⟩; have HB4 : Hid (Bx5 w4 x xk xa xl xf xm) := H3.out.1.xx; clear ho hb)
                    | (refine (HRec.out _).mono ?_; rintro e w2 ⟨a2, c2, rfl, ho, hb⟩; have H1 : Hid (Lq w w2 b g r s R N M0 sb q G H nn uu x xk xa xl xf xm ∧ OwnR w2 W1.heap.size w2.heap.size (.slice a2 L0.length c2) L0) := ⟨HQ0.out.below hb, ho⟩; have HB2 : Hid (Bx5 w2 x xk xa xl xf xm) := H1.out.1.xx; clear ho hb)
                    | fail)
                  | fail)
              all_goals (
                go_wp2
                go_meet
                exact ⟨rfl, T, _, H4.out.d, H4.out.tl.scs⟩)
          · have hD := HD1.out.1
            have c1 : W1.cell? ⟨x, 1, none⟩ = some (.int .i64 xa) := HD1.out.2.2.cells.2.1
            have HFp : Hid (Calls Try.prog 14 #[.pointer (some ⟨b, 0, none⟩), .int .i64 xa] W1 fun e w' => e = .returned (.int .i64 (s.fuseE xa)) ∧ IsD w' b g (s.fuse xa) ∧ Only (· = b) W1 w') := fuse_any b g s xa W1 hD.dk
            have HFd : Hid (∀ W, IsRf W r R → Calls Try.prog 15 #[.pointer (some ⟨r, 0, none⟩), .int .i64 xa] W fun e w' => e = .returned (.int .i64 (R.fuseE xa)) ∧ IsRf w' r (R.fuse xa) ∧ Only (· = r) W w') := fun W h => rfuse_any r R xa W h
            have HS2 : Hid (Sim (s.fuse xa) (R.fuse xa) ∧ (s.fuse xa).cs = s.cs ∧ (R.fuse xa).n = R.n ∧ (R.fuse xa).did = R.did ∧ (R.fuse xa).v = R.v) := by
              refine ⟨(hD.sim.fuse xa (bounds_i64 HWf.out.1).2).2, ?_, ?_, ?_, ?_⟩
              · unfold Dsk.fuse; split; rfl; split <;> rfl
              all_goals (unfold Rf.fuse; split; rfl; split <;> rfl)
            clear hD
            go_wp2_with (first
              | (go_at_call 15; refine (HFd.out _ H2.out.2.2).mono ?_; rintro e w3 ⟨rfl, h3, ho3⟩; have H3 : Hid (IsRf w3 r (R.fuse xa) ∧ Only (· = r) w2 w3) := ⟨h3, ho3⟩; clear h3 ho3)
              | (go_at_call 14; refine HFp.out.mono ?_; rintro e w2 ⟨rfl, h2, ho2⟩; have H2 : Hid (IsD w2 b g (s.fuse xa) ∧ Only (· = b) W1 w2 ∧ IsRf w2 r R) := ⟨h2, ho2, HD1.out.1.rf.disk HD1.out.1.dk (ho2.mono fun _ hx => .inl hx)⟩; have c2 : w2.cell? ⟨x, 1, none⟩ = some (.int .i64 xa) := (x_disk HD1.out.2.2 HD1.out.1.dk ho2).cells.2.1; clear h2 ho2))
            go_meet
            refine ⟨rfl, s.fuse xa, R.fuse xa, (HD1.out.1.two H2.out.1 H2.out.2.1 H3.out.1 H3.out.2 HS2.out.1 HS2.out.2.1 HS2.out.2.2.1 HS2.out.2.2.2.1 HS2.out.2.2.2.2).mono (by omega), ?_⟩
            rw [HS2.out.2.1]
            exact HD1.out.2.1.two HD1.out.1.dk HD1.out.1.rf H2.out.1 H2.out.2.1 H3.out.2
          · have hD := HD1.out.1
            have HFp : Hid (Calls Try.prog 16 #[.pointer (some ⟨b, 0, none⟩)] W1 fun e w' => e = .returned (.tuple #[]) ∧ IsD w' b g s.power ∧ Only (· = b) W1 w') := power_any b g s W1 hD.dk
            have HFd : Hid (∀ W, IsRf W r R → Calls Try.prog 17 #[.pointer (some ⟨r, 0, none⟩)] W fun e w' => e = .returned (.tuple #[]) ∧ IsRf w' r R.power ∧ Only (· = r) W w') := fun W h => rpower_any r R W h
            have HS2 : Hid (Sim s.power R.power) := hD.sim.power
            clear hD
            go_wp2_with (first
              | (go_at_call 6; refine (HOp.out _ _ _ _ _ _ _ H3.out (by have := HM.out; omega)).mono ?_; rintro e w4 ⟨v1, v2, rfl, hk4, hs4⟩; have H4 : Hid (Dk w w4 b g r s.power R.power N M0 ∧ Scs w w4 b r (hS s.power.cs) v1 v2) := ⟨hk4, hs4⟩; clear hk4 hs4)
              | (go_at_call 17; refine (HFd.out _ H2.out.2.2).mono ?_; rintro e w3 ⟨rfl, h3, ho3⟩; have H3 : Hid (Dk w w3 b g r s.power R.power N M0) := HD1.out.1.two H2.out.1 H2.out.2.1 h3 ho3 HS2.out rfl rfl rfl rfl; clear h3 ho3)
              | (go_at_call 16; refine HFp.out.mono ?_; rintro e w2 ⟨rfl, h2, ho2⟩; have H2 : Hid (IsD w2 b g s.power ∧ Only (· = b) W1 w2 ∧ IsRf w2 r R) := ⟨h2, ho2, HD1.out.1.rf.disk HD1.out.1.dk (ho2.mono fun _ hx => .inl hx)⟩; clear h2 ho2))
            go_meet
            exact ⟨rfl, s.power, R.power, H4.out.1.mono (by omega), H4.out.2⟩
          · have hD := HD1.out.1
            have hbk := hD.bk hN.1 hN.2 (by have := HM.out; omega)
            have HFp : Hid (Calls Try.prog 18 #[.pointer (some ⟨b, 0, none⟩)] W1 fun e w' => e = .returned (.int .i64 (fmtE s)) ∧ IsD w' b g (fmtD s) ∧ Only (fun x => x = b ∨ x = g) W1 w') := format_any b g s W1 hD.dk (hD.sim.good (by have := hD.few; have := HM.out; omega)) (by rw [hD.sim.n, hD.n]; exact hN.1) hD.byt
            have HFd : Hid (∀ W, IsRf W r R → Calls Try.prog 19 #[.pointer (some ⟨r, 0, none⟩)] W fun e w' => e = .returned (.int .i64 (fmtE s)) ∧ ∃ R', IsRf w' r R' ∧ R.fmtA R' s.cs ∧ Only (fun x => x = r ∨ R.v.ownBlock = some x) W w' ∧ (R'.v.ownBlock = R.v.ownBlock ∨ ∀ q, R'.v.ownBlock = some q → W.heap.size ≤ q)) := fun W h => by
              rw [fmt_E hD.sim (by rw [hD.n]; exact hN.1)]
              exact rformat_d r R s.cs W hbk h (by rcases hD.sim.fz with ⟨_, e⟩ | ⟨_, _, e1, e2, e⟩ <;> rw [e] <;> omega) (by have := hD.few; have := HM.out; omega)
            clear hD hbk
            go_wp2_with (first
              | (go_at_call 6; refine (HOp.out _ _ _ _ _ _ _ H3.out (by have := HM.out; omega)).mono ?_; rintro e w4 ⟨v1, v2, rfl, hk4, hs4⟩; have H4 : Hid (∃ R', Dk w w4 b g r (fmtD s) R' N (M0 + 1) ∧ Scs w w4 b r (hS (fmtD s).cs) v1 v2) := ⟨_, hk4, hs4⟩; clear hk4 hs4)
              | (go_at_call 19; refine (HFd.out _ H2.out.2.2).mono ?_; rintro e w3 ⟨rfl, R', h3, hA3, ho3, hv3⟩; have H3 : Hid (Dk w w3 b g r (fmtD s) R' N (M0 + 1)) := HD1.out.1.fmt hN.1 H2.out.1 H2.out.2.1 h3 hA3 ho3 hv3; clear h3 hA3 ho3 hv3)
              | (go_at_call 18; refine HFp.out.mono ?_; rintro e w2 ⟨rfl, h2, ho2⟩; have H2 : Hid (IsD w2 b g (fmtD s) ∧ Only (fun x => x = b ∨ x = g) W1 w2 ∧ IsRf w2 r R) := ⟨h2, ho2, HD1.out.1.rf.disk HD1.out.1.dk ho2⟩; clear h2 ho2))
            go_meet
            obtain ⟨R', h4, h5⟩ := H4.out
            exact ⟨rfl, fmtD s, R', h4.mono (by omega), h5⟩
        case rest =>
          obtain ⟨rfl, hC⟩ := hcut
          obtain ⟨s', R', hD, hSc⟩ := hC.out
          have HD2 : Hid (Dk w wc b g r s' R' N (M0 + 8001)) := hD
          have HLk : Hid (∀ W, Below wc.heap.size wc W → Calls Try.prog 20 #[.pointer (some ⟨b, 0, none⟩), .pointer (some ⟨r, 0, none⟩)] W fun e w' => e = .returned (.bool true) ∧ Below wc.heap.size wc w') := like_ps hD hN (by have := HM.out; omega)
          have HD9 : Hid (Below wc.heap.size wc wc.drew) := below_drewN (Below.refl _ _) 1
          clear hC HD1 HWf
          rcases hSc with ⟨rfl, rfl⟩ | ⟨sb, q, G, H, nn, uu, rfl, rfl, hs, ht, hG, hH, hu, hnu, ls, lq⟩
          · clear hD
            go_upto_region 29 with fail
            refine wp_region_held (S := fun _ => True) (by kernel_rfl) ?_
            refine wpAnyH_take (i := 0) (oi := { dst := some 127, op := Op.move (Operand.tmp 9), type := 4, pos := "law.go:133", after := #[], guard := none }) (v := ?_) rfl (by kernel_rfl) (by kernel_rfl) (by kernel_rfl) (fun _ _ _ h => h) (Or.inl ⟨by rfl, ?_⟩) True.intro ?_
            rotate_left
            · intro W _; go_simp; try (with_reducible rfl)
            try simp only [Act.put, List.setIfInBounds_toArray, List.set_cons_zero, List.set_cons_succ]
            refine wpAnyH_take (i := 1) (oi := { dst := some 128, op := Op.unOp UnOp.not 4 (Operand.tmp 127), type := 4, pos := "law.go:133", after := #[{ on := 0, ground := Ground.data }], guard := none }) (v := ?_) rfl (by kernel_rfl) (by kernel_rfl) (by kernel_rfl) (fun _ _ _ h => h) (Or.inl ⟨by rfl, ?_⟩) True.intro ?_
            rotate_left
            · intro W _; go_simp; try (with_reducible rfl)
            try simp only [Act.put, List.setIfInBounds_toArray, List.set_cons_zero, List.set_cons_succ]
            refine wpAnyH_take (i := 2) (oi := { dst := some 129, op := Op.move (Operand.tmp 128), type := 4, pos := "law.go:133", after := #[{ on := 1, ground := Ground.data }], guard := none }) (v := ?_) rfl (by kernel_rfl) (by kernel_rfl) (by kernel_rfl) (fun _ _ _ h => h) (Or.inl ⟨by rfl, ?_⟩) True.intro ?_
            rotate_left
            · intro W _; go_simp; try (with_reducible rfl)
            try simp only [Act.put, List.setIfInBounds_toArray, List.set_cons_zero, List.set_cons_succ]
            refine wpAnyH_take (i := 3) (oi := { dst := some 130, op := Op.move (Operand.tmp 7), type := 24, pos := "law.go:133", after := #[{ on := 2, ground := Ground.guard }], guard := some (2, false) }) (v := ?_) rfl (by kernel_rfl) (by kernel_rfl) (by kernel_rfl) (fun _ _ _ h => h) (Or.inl ⟨by rfl, ?_⟩) True.intro ?_
            rotate_left
            · intro W _; go_simp; try (with_reducible rfl)
            try simp only [Act.put, List.setIfInBounds_toArray, List.set_cons_zero, List.set_cons_succ]
            refine wpAnyH_take (i := 4) (oi := { dst := some 131, op := Op.move (Operand.tmp 8), type := 25, pos := "law.go:133", after := #[{ on := 2, ground := Ground.guard }], guard := some (2, false) }) (v := ?_) rfl (by kernel_rfl) (by kernel_rfl) (by kernel_rfl) (fun _ _ _ h => h) (Or.inl ⟨by rfl, ?_⟩) True.intro ?_
            rotate_left
            · intro W _; go_simp; try (with_reducible rfl)
            try simp only [Act.put, List.setIfInBounds_toArray, List.set_cons_zero, List.set_cons_succ]
            refine wpAnyH_ready (rs := [5]) (by kernel_rfl) (by simp) ?_
            refine AllReadyH.cons (o := { dst := some 132, op := Op.call { callee := Callee.value (Operand.func 20), args := #[Operand.tmp 130, Operand.tmp 131], argTypes := #[24, 25] }, type := 4, pos := "law.go:133", after := #[{ on := 3, ground := Ground.data }, { on := 4, ground := Ground.data }, { on := 2, ground := Ground.chain }, { on := 2, ground := Ground.guard }], guard := some (2, false) }) rfl (fun K hK => ?_) AllReadyH.nil
            go_simp
            go_at_call 20; refine (HLk.out _ (Hid.out (by assumption))).mono ?_; rintro e w8 ⟨rfl, hb⟩; have H8 : Hid (Below wc.heap.size wc w8) := hb; clear hb
            refine hK.out _ _ True.intro (fun _ => ?_)
            clear hK K
            try simp only [Act.put, List.setIfInBounds_toArray, List.set_cons_zero, List.set_cons_succ]
            refine wpAnyH_take (i := 6) (oi := { dst := some 133, op := Op.unOp UnOp.not 4 (Operand.tmp 132), type := 4, pos := "law.go:133", after := #[{ on := 5, ground := Ground.data }, { on := 2, ground := Ground.guard }], guard := some (2, false) }) (v := ?_) rfl (by kernel_rfl) (by kernel_rfl) (by kernel_rfl) (fun _ _ _ h => h) (Or.inl ⟨by rfl, ?_⟩) True.intro ?_
            rotate_left
            · intro W _; go_simp; try (with_reducible rfl)
            try simp only [Act.put, List.setIfInBounds_toArray, List.set_cons_zero, List.set_cons_succ]
            refine wpAnyH_take (i := 7) (oi := { dst := some 134, op := Op.pick (Operand.tmp 129) (Operand.const (Value.bool true)) (Operand.tmp 133), type := 4, pos := "law.go:133", after := #[{ on := 2, ground := Ground.data }, { on := 6, ground := Ground.data }], guard := none }) (v := ?_) rfl (by kernel_rfl) (by kernel_rfl) (by kernel_rfl) (fun _ _ _ h => h) (Or.inl ⟨by rfl, ?_⟩) True.intro ?_
            rotate_left
            · intro W _; go_simp; try (with_reducible rfl)
            try simp only [Act.put, List.setIfInBounds_toArray, List.set_cons_zero, List.set_cons_succ]
            refine wpAnyH_take (i := 8) (oi := { dst := some 135, op := Op.move (Operand.tmp 134), type := 4, pos := "law.go:133", after := #[{ on := 7, ground := Ground.data }, { on := 5, ground := Ground.chain }], guard := none }) (v := ?_) rfl (by kernel_rfl) (by kernel_rfl) (by kernel_rfl) (fun _ _ _ h => h) (Or.inl ⟨by rfl, ?_⟩) True.intro ?_
            rotate_left
            · intro W _; go_simp; try (with_reducible rfl)
            try simp only [Act.put, List.setIfInBounds_toArray, List.set_cons_zero, List.set_cons_succ]
            refine wpAnyH_take (i := 9) (oi := { dst := some 136, op := Op.move (Operand.tmp 11), type := 30, pos := "law.go:133", after := #[{ on := 8, ground := Ground.guard }], guard := some (8, false) }) (v := ?_) rfl (by kernel_rfl) (by kernel_rfl) (by kernel_rfl) (fun _ _ _ h => h) (Or.inl ⟨by rfl, ?_⟩) True.intro ?_
            rotate_left
            · intro W _; go_simp; try (with_reducible rfl)
            try simp only [Act.put, List.setIfInBounds_toArray, List.set_cons_zero, List.set_cons_succ]
            refine wpAnyH_take (i := 10) (oi := { dst := some 137, op := Op.binOp BinOp.neq 30 (Operand.tmp 136) (Operand.const (Value.pointer none)) 30, type := 4, pos := "law.go:133", after := #[{ on := 9, ground := Ground.data }, { on := 8, ground := Ground.guard }], guard := some (8, false) }) (v := ?_) rfl (by kernel_rfl) (by kernel_rfl) (by kernel_rfl) (fun _ _ _ h => h) (Or.inl ⟨by rfl, ?_⟩) True.intro ?_
            rotate_left
            · intro W _; go_simp; try (with_reducible rfl)
            try simp only [Act.put, List.setIfInBounds_toArray, List.set_cons_zero, List.set_cons_succ]
            refine wpAnyH_take (i := 11) (oi := { dst := some 138, op := Op.move (Operand.tmp 137), type := 4, pos := "law.go:133", after := #[{ on := 10, ground := Ground.data }, { on := 8, ground := Ground.chain }, { on := 8, ground := Ground.guard }], guard := some (8, false) }) (v := ?_) rfl (by kernel_rfl) (by kernel_rfl) (by kernel_rfl) (fun _ _ _ h => h) (Or.inl ⟨by rfl, ?_⟩) True.intro ?_
            rotate_left
            · intro W _; go_simp; try (with_reducible rfl)
            try simp only [Act.put, List.setIfInBounds_toArray, List.set_cons_zero, List.set_cons_succ]
            refine wpAnyH_take (i := 12) (oi := { dst := some 139, op := Op.move (Operand.tmp 10), type := 29, pos := "law.go:133", after := #[{ on := 11, ground := Ground.guard }], guard := some (11, true) }) (v := undef) rfl (by kernel_rfl) (by kernel_rfl) (by kernel_rfl) (fun _ _ _ h => h) (Or.inr ⟨by rfl, rfl⟩) True.intro ?_
            try simp only [Act.put, List.setIfInBounds_toArray, List.set_cons_zero, List.set_cons_succ]
            refine wpAnyH_take (i := 13) (oi := { dst := some 140, op := Op.call { callee := Callee.value (Operand.func 21), args := #[Operand.tmp 139], argTypes := #[29] }, type := 3, pos := "law.go:133", after := #[{ on := 12, ground := Ground.data }, { on := 11, ground := Ground.chain }, { on := 11, ground := Ground.guard }], guard := some (11, true) }) (v := undef) rfl (by kernel_rfl) (by kernel_rfl) (by kernel_rfl) (fun _ _ _ h => h) (Or.inr ⟨by rfl, rfl⟩) True.intro ?_
            try simp only [Act.put, List.setIfInBounds_toArray, List.set_cons_zero, List.set_cons_succ]
            refine wpAnyH_take (i := 14) (oi := { dst := some 141, op := Op.move (Operand.tmp 11), type := 30, pos := "law.go:133", after := #[{ on := 11, ground := Ground.guard }], guard := some (11, true) }) (v := undef) rfl (by kernel_rfl) (by kernel_rfl) (by kernel_rfl) (fun _ _ _ h => h) (Or.inr ⟨by rfl, rfl⟩) True.intro ?_
            try simp only [Act.put, List.setIfInBounds_toArray, List.set_cons_zero, List.set_cons_succ]
            refine wpAnyH_take (i := 15) (oi := { dst := some 142, op := Op.call { callee := Callee.value (Operand.func 22), args := #[Operand.tmp 141], argTypes := #[30] }, type := 3, pos := "law.go:133", after := #[{ on := 14, ground := Ground.data }, { on := 13, ground := Ground.chain }, { on := 11, ground := Ground.guard }], guard := some (11, true) }) (v := undef) rfl (by kernel_rfl) (by kernel_rfl) (by kernel_rfl) (fun _ _ _ h => h) (Or.inr ⟨by rfl, rfl⟩) True.intro ?_
            try simp only [Act.put, List.setIfInBounds_toArray, List.set_cons_zero, List.set_cons_succ]
            refine wpAnyH_take (i := 16) (oi := { dst := some 143, op := Op.binOp BinOp.neq 3 (Operand.tmp 140) (Operand.tmp 142) 3, type := 4, pos := "law.go:133", after := #[{ on := 13, ground := Ground.data }, { on := 15, ground := Ground.data }, { on := 11, ground := Ground.guard }], guard := some (11, true) }) (v := undef) rfl (by kernel_rfl) (by kernel_rfl) (by kernel_rfl) (fun _ _ _ h => h) (Or.inr ⟨by rfl, rfl⟩) True.intro ?_
            try simp only [Act.put, List.setIfInBounds_toArray, List.set_cons_zero, List.set_cons_succ]
            refine wpAnyH_take (i := 17) (oi := { dst := some 144, op := Op.move (Operand.tmp 143), type := 4, pos := "law.go:133", after := #[{ on := 16, ground := Ground.data }, { on := 15, ground := Ground.chain }, { on := 11, ground := Ground.guard }], guard := some (11, true) }) (v := undef) rfl (by kernel_rfl) (by kernel_rfl) (by kernel_rfl) (fun _ _ _ h => h) (Or.inr ⟨by rfl, rfl⟩) True.intro ?_
            try simp only [Act.put, List.setIfInBounds_toArray, List.set_cons_zero, List.set_cons_succ]
            refine wpAnyH_take (i := 18) (oi := { dst := some 145, op := Op.move (Operand.tmp 10), type := 29, pos := "law.go:133", after := #[{ on := 17, ground := Ground.guard }], guard := some (17, false) }) (v := undef) rfl (by kernel_rfl) (by kernel_rfl) (by kernel_rfl) (fun _ _ _ h => h) (Or.inr ⟨by rfl, rfl⟩) True.intro ?_
            try simp only [Act.put, List.setIfInBounds_toArray, List.set_cons_zero, List.set_cons_succ]
            refine wpAnyH_take (i := 19) (oi := { dst := some 146, op := Op.call { callee := Callee.value (Operand.func 23), args := #[Operand.tmp 145], argTypes := #[29] }, type := 3, pos := "law.go:133", after := #[{ on := 18, ground := Ground.data }, { on := 17, ground := Ground.chain }, { on := 17, ground := Ground.guard }], guard := some (17, false) }) (v := undef) rfl (by kernel_rfl) (by kernel_rfl) (by kernel_rfl) (fun _ _ _ h => h) (Or.inr ⟨by rfl, rfl⟩) True.intro ?_
            try simp only [Act.put, List.setIfInBounds_toArray, List.set_cons_zero, List.set_cons_succ]
            refine wpAnyH_take (i := 20) (oi := { dst := some 147, op := Op.move (Operand.tmp 11), type := 30, pos := "law.go:133", after := #[{ on := 17, ground := Ground.guard }], guard := some (17, false) }) (v := undef) rfl (by kernel_rfl) (by kernel_rfl) (by kernel_rfl) (fun _ _ _ h => h) (Or.inr ⟨by rfl, rfl⟩) True.intro ?_
            try simp only [Act.put, List.setIfInBounds_toArray, List.set_cons_zero, List.set_cons_succ]
            refine wpAnyH_take (i := 21) (oi := { dst := some 148, op := Op.nilCheck (Operand.tmp 147), type := 0, pos := "law.go:133", after := #[{ on := 20, ground := Ground.data }, { on := 17, ground := Ground.guard }], guard := some (17, false) }) (v := undef) rfl (by kernel_rfl) (by kernel_rfl) (by kernel_rfl) (fun _ _ _ h => h) (Or.inr ⟨by rfl, rfl⟩) True.intro ?_
            try simp only [Act.put, List.setIfInBounds_toArray, List.set_cons_zero, List.set_cons_succ]
            refine wpAnyH_take (i := 22) (oi := { dst := some 149, op := Op.fieldAddr 51 (Operand.tmp 148) 1, type := 0, pos := "law.go:133", after := #[{ on := 21, ground := Ground.data }, { on := 17, ground := Ground.guard }], guard := some (17, false) }) (v := undef) rfl (by kernel_rfl) (by kernel_rfl) (by kernel_rfl) (fun _ _ _ h => h) (Or.inr ⟨by rfl, rfl⟩) True.intro ?_
            try simp only [Act.put, List.setIfInBounds_toArray, List.set_cons_zero, List.set_cons_succ]
            refine wpAnyH_take (i := 23) (oi := { dst := some 150, op := Op.load 3 (Operand.tmp 149), type := 3, pos := "law.go:133", after := #[{ on := 22, ground := Ground.data }, { on := 17, ground := Ground.guard }], guard := some (17, false) }) (v := undef) rfl (by kernel_rfl) (by kernel_rfl) (by kernel_rfl) (fun _ _ _ h => h) (Or.inr ⟨by rfl, rfl⟩) True.intro ?_
            try simp only [Act.put, List.setIfInBounds_toArray, List.set_cons_zero, List.set_cons_succ]
            refine wpAnyH_take (i := 24) (oi := { dst := some 151, op := Op.binOp BinOp.neq 3 (Operand.tmp 146) (Operand.tmp 150) 3, type := 4, pos := "law.go:133", after := #[{ on := 19, ground := Ground.data }, { on := 23, ground := Ground.data }, { on := 17, ground := Ground.guard }], guard := some (17, false) }) (v := undef) rfl (by kernel_rfl) (by kernel_rfl) (by kernel_rfl) (fun _ _ _ h => h) (Or.inr ⟨by rfl, rfl⟩) True.intro ?_
            try simp only [Act.put, List.setIfInBounds_toArray, List.set_cons_zero, List.set_cons_succ]
            refine wpAnyH_take (i := 25) (oi := { dst := some 152, op := Op.pick (Operand.tmp 144) (Operand.const (Value.bool true)) (Operand.tmp 151), type := 4, pos := "law.go:133", after := #[{ on := 17, ground := Ground.data }, { on := 24, ground := Ground.data }, { on := 11, ground := Ground.guard }], guard := some (11, true) }) (v := undef) rfl (by kernel_rfl) (by kernel_rfl) (by kernel_rfl) (fun _ _ _ h => h) (Or.inr ⟨by rfl, rfl⟩) True.intro ?_
            try simp only [Act.put, List.setIfInBounds_toArray, List.set_cons_zero, List.set_cons_succ]
            refine wpAnyH_take (i := 26) (oi := { dst := some 153, op := Op.pick (Operand.tmp 138) (Operand.tmp 152) (Operand.const (Value.bool false)), type := 4, pos := "law.go:133", after := #[{ on := 11, ground := Ground.data }, { on := 25, ground := Ground.data }, { on := 8, ground := Ground.guard }], guard := some (8, false) }) (v := ?_) rfl (by kernel_rfl) (by kernel_rfl) (by kernel_rfl) (fun _ _ _ h => h) (Or.inl ⟨by rfl, ?_⟩) True.intro ?_
            rotate_left
            · intro W _; go_simp; try (with_reducible rfl)
            try simp only [Act.put, List.setIfInBounds_toArray, List.set_cons_zero, List.set_cons_succ]
            refine wpAnyH_take (i := 27) (oi := { dst := some 154, op := Op.pick (Operand.tmp 135) (Operand.const (Value.bool true)) (Operand.tmp 153), type := 4, pos := "law.go:133", after := #[{ on := 8, ground := Ground.data }, { on := 26, ground := Ground.data }], guard := none }) (v := ?_) rfl (by kernel_rfl) (by kernel_rfl) (by kernel_rfl) (fun _ _ _ h => h) (Or.inl ⟨by rfl, ?_⟩) True.intro ?_
            rotate_left
            · intro W _; go_simp; try (with_reducible rfl)
            try simp only [Act.put, List.setIfInBounds_toArray, List.set_cons_zero, List.set_cons_succ]
            refine wpAnyH_done (by kernel_rfl) ?_ _
            all_goals (
              go_wp2
              go_roundw
              case rel => exact ⟨i + 1, HL.out.2, by go_num, rfl, s', R', HM.out.1 ▸ HD2.out.below H8.out, .inl ⟨rfl, rfl⟩⟩
              case measure => have := HL.out; simp [RowKit.intOf]; omega)
          · have HTl : Hid (TlB w wc b g r s' R' N (M0 + 8001) sb q G H nn uu) := ⟨hD, hs, ht, hG, hH, hu, hnu, ls, lq⟩
            obtain ⟨X, hX⟩ : ∃ X, hS s'.cs - uu = X := ⟨_, rfl⟩
            have HRp : Hid (∀ W, Below wc.heap.size wc W → Calls Try.prog 21 #[.pointer (some ⟨sb, 0, none⟩)] W fun e w' => e = .returned (.int .i64 (X : Nat)) ∧ Below wc.heap.size wc w') := by rw [← hX]; exact HTl.out.roomP hN
            have HRd : Hid (∀ W, Below wc.heap.size wc W → Calls Try.prog 22 #[.pointer (some ⟨q, 0, none⟩)] W fun e w' => e = .returned (.int .i64 (X : Nat)) ∧ Below wc.heap.size wc w') := by rw [← hX]; exact HTl.out.roomD hN (by have := HM.out; omega)
            have HGp : Hid (∀ W, Below wc.heap.size wc W → Calls Try.prog 23 #[.pointer (some ⟨sb, 0, none⟩)] W fun e w' => e = .returned (.int .i64 (G : Nat)) ∧ Below wc.heap.size wc w') := HTl.out.genP
            have HS9 : Hid (∀ W, Below wc.heap.size wc W → W.cell? ⟨q, 1, none⟩ = some (.int .i64 G)) := fun W hb => (HTl.out.tt.below hb).cells.2.1
            clear hX hD hs ht hG hH hu hnu ls lq HD2
            go_upto_region 29 with fail
            go_region_held3 (fun W => W.cell? ⟨q, 1, none⟩ = some (.int .i64 G))
              (first | exact HS9.out _ (Hid.out (by assumption)) | fail)
              (first
                | (go_at_call 20; refine (HLk.out _ (Hid.out (by assumption))).mono ?_; rintro e w8 ⟨rfl, hb⟩; have H8 : Hid (Below wc.heap.size wc w8) := hb; clear hb)
                | (go_at_call 21; refine (HRp.out _ (Hid.out (by assumption))).mono ?_; rintro e w8 ⟨rfl, hb⟩; have H8 : Hid (Below wc.heap.size wc w8) := hb; clear hb)
                | (go_at_call 22; refine (HRd.out _ (Hid.out (by assumption))).mono ?_; rintro e w8 ⟨rfl, hb⟩; have H8 : Hid (Below wc.heap.size wc w8) := hb; clear hb)
                | (go_at_call 23; refine (HGp.out _ (Hid.out (by assumption))).mono ?_; rintro e w8 ⟨rfl, hb⟩; have H8 : Hid (Below wc.heap.size wc w8) := hb; clear hb)
                | fail)
            all_goals (
              go_wp2
              go_roundw
              case rel => exact ⟨i + 1, HL.out.2, by go_num, rfl, s', R', HM.out.1 ▸ HTl.out.d.below H8.out, HTl.out.scs.below H8.out⟩
              case measure => have := HL.out; simp [RowKit.intOf]; omega)
      · obtain rfl : i = m := by omega
        have hltz : ¬ (i : Int) < (i : Int) := by omega
        obtain ⟨s, R, hD, hSc⟩ := HJ.out
        have HE : Hid (Dk w wr b g r s R N (N + i * 8001)) := hD
        clear HJ hD hSc
        go_wp2_with (first
          | (go_at_call 6; refine (HOp.out _ _ _ _ _ _ _ HE.out (by omega)).mono ?_; rintro e w3 ⟨v1, v2, rfl, hk3, -⟩; have H3 : Hid (Below w.heap.size w w3) := hk3.bel; clear hk3)
          | (go_at_call 5; refine (HA.out _).mono ?_; rintro e w4 ⟨rfl, hb⟩; have H4 : Hid (Below w.heap.size w w4) := chainB H3.out hb; clear hb))
        go_ret
        exact ⟨rfl, H4.out⟩
end
end Go.Proofs.Ytajgaialnafdbaa
