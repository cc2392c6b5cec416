/- The walk of BagPlays. -/
import Derived.Test.YtminjmlneikllaaBgZ
namespace Go.Proofs.Ytminjmlneikllaa
open Go.RowKit

set_option maxRecDepth 100000 in
set_option maxHeartbeats 16000000 in
theorem walk_BagPlays (n : Int) (a : Option Addr) (len cap : Nat) (K A T : Nat → Int) (V : Nat → Value) (L : Nat → List Int) (w : World) (_ : (Lit.int .i64 n).wf = true) (row : RowQ w a len K A T V L) (hlen : len * 48 ≤ 140737488351232) :
    Calls Try.prog 3 #[.int .i64 n, .slice a len cap] w fun e w' => e = .returned (.bool true) ∧ Below w.heap.size w w' := by
  by_cases hn : 1 ≤ n ∧ n ≤ 64
  · obtain ⟨N, rfl⟩ := Int.eq_ofNat_of_zero_le (show 0 ≤ n by omega)
    have h1 : 1 ≤ N := by omega
    have h2 : N ≤ 64 := by omega
    have HR : Hid (RowQ w a len K A T V L) := row
    clear hn row
    go_enter Try.func3, Try.ntmps3
    go_wp2_with (first
      | (go_at_call 8; refine (new_yes N _ h1 h2).mono ?_; rintro e w1 ⟨b, rfl, hb, hB, hW⟩; have HA : Hid _ := And.intro hB hW; clear hB hW)
      | (go_at_call 9; refine (rnew_yes N _ h1 h2).mono ?_; rintro e w2 ⟨r, rfl, hr, hR, hW2⟩; have HX : Hid _ := Px.start hb HA.out.1 HA.out.2 hr hR hW2; clear hR hW2 HA))
    go_loopw [9] (fun i wr => ∃ k s R, k ≤ len ∧ i = .int .i64 (k : Nat) ∧ Px w wr N b r s R ∧ s.say = R.say) (fun i _ => len - (intOf i).toNat)
    case atStart => exact ⟨0, _, _, Nat.zero_le _, rfl, HX.out, rfl⟩
    case round =>
      clear HX
      obtain ⟨k, s, R, hk, rfl, hX, hsay⟩ := hrel
      obtain ⟨sl, hsl'⟩ : ∃ x, s.say.length = x := ⟨_, rfl⟩
      have hsl : sl ≤ N := by rw [← hX.n, ← hsl']; exact hX.bx.room.1
      have HX : Hid (Px w wr N b r s R ∧ s.say.length = sl ∧ R.say = s.say ∧ R.say.length = sl) := ⟨hX, hsl', hsay.symm, by rw [← hsay]; exact hsl'⟩
      clear hX hsl' hsay
      by_cases hlt : k < len
      · have hki : (k : Int) < (len : Int) := by omega
        obtain ⟨g, off, av, cv, rfl, q0, q1, q2, q3, hr', hlb⟩ := HR.out.at HX.out.1.bx.bel k hlt
        obtain ⟨c, hc, hP⟩ := place4 (K k)
        have HP : Hid (∀ w1, Calls Try.prog 11 #[.int .i64 (K k), .int .i64 4] w1 fun e w' => e = .returned (.int .i64 (c : Int)) ∧ w' = w1) := hP
        obtain ⟨kk, hkk⟩ : ∃ x, K k = x := ⟨_, rfl⟩
        obtain ⟨ak, hak⟩ : ∃ x, A k = x := ⟨_, rfl⟩
        obtain ⟨tk, htk⟩ : ∃ x, T k = x := ⟨_, rfl⟩
        obtain ⟨lk, hlk⟩ : ∃ x, L k = x := ⟨_, rfl⟩
        obtain ⟨ln, hln⟩ : ∃ x, lk.length = x := ⟨_, rfl⟩
        rw [hkk] at q0 HP
        rw [hak] at q1
        rw [htk] at q2
        rw [hlk, hln] at q3
        have HB : Hid (lk.length ≤ LB ∧ lk.length = ln) := ⟨by rw [← hlk]; exact hlb, hln⟩
        have HRk : Hid (∀ w', Below w.heap.size w w' → RB w' (.slice av ln cv) lk) := by
          intro w' hb'
          obtain ⟨g', off', av', cv', eg, _, _, _, r3, r4, _⟩ := HR.out.at hb' k hlt
          cases eg
          rw [hlk, hln] at r3 r4
          rcases HR.out with e | ⟨g0, off0, eg0, hg0, hh0⟩
          · omega
          · cases eg0
            rw [hb'.cell (p := ⟨g, off + k * 4 + 3, none⟩) hg0, ← HX.out.1.bx.bel.cell (p := ⟨g, off + k * 4 + 3, none⟩) hg0, q3] at r3
            cases r3
            exact r4
        clear hr' hlb hP hkk hak htk hlk hln
        go_upto_region 12 with fail
        obtain ⟨W, hW⟩ : ∃ W, wr.alloc (.cells #[.int .i64 kk, .int .i64 ak, .int .i64 tk, .slice av ln cv] 33) = W := ⟨_, rfl⟩
        rw [hW]
        obtain ⟨m0, hbW, _⟩ := box1 hW
        obtain ⟨z0, z1, z2, z3⟩ := cells4 m0
        have HW : Hid (Px w W N b r s R ∧ W.heap[wr.heap.size]? = some (.cells #[.int .i64 kk, .int .i64 ak, .int .i64 tk, .slice av ln cv] 33 (0, 0))) := ⟨HX.out.1.below hbW, m0⟩
        obtain ⟨kx, hkx⟩ : ∃ x, wr.heap.size = x := ⟨_, rfl⟩
        rw [hkx] at HW z0 z1 z2 z3
        rw [hkx]
        have HS : Hid (s.say.length = sl ∧ R.say = s.say ∧ R.say.length = sl) := HX.out.2
        clear hW m0 hbW HX hkx q0 q1 q2 q3
        rcases (show c = 0 ∨ c = 1 ∨ c = 2 ∨ c = 3 by omega) with rfl | rfl | rfl | rfl
        · by_cases hf : sl < N
          · go_upto_region 14 with (first
              | (go_at_call 11; refine (HP.out _).mono ?_; rintro e W1 ⟨rfl, rfl⟩))
            go_region_held3 (fun w' => w'.cell? ⟨kx, 0, none⟩ = some (.int .i64 kk) ∧ w'.cell? ⟨kx, 1, none⟩ = some (.int .i64 ak) ∧ w'.cell? ⟨kx, 2, none⟩ = some (.int .i64 tk) ∧ w'.cell? ⟨kx, 3, none⟩ = some (.slice av ln cv))
              (first | exact ⟨z0, z1, z2, z3⟩ | exact cells4 hq5 | exact cells4 hq4 | exact cells4 hq3 | exact cells4 hq2 | assumption)
              (first
                | (go_at_call 13; have _q := H3; refine (letter_any kk ak tk _ lk _ (HRk.out _ H3.out.1.bx.bel) HB.out.1).mono ?_; rintro e w4 ⟨v4, rfl, ho4, hb4⟩; obtain ⟨a4, c4, rfl⟩ := owns_len ho4; rw [HB.out.2] at ho4 ⊢; have hq4 := heap_below hq3 hb4; have H4 : Hid (Px w w4 N b r s3 R ∧ RB w4 (.slice a4 ln c4) lk) := ⟨H3.out.1.below hb4, ho4.rb⟩; clear ho4 hb4)
                | (go_at_call 13; refine (letter_any kk ak tk _ lk _ (HRk.out _ HW.out.1.drew.bx.bel) HB.out.1).mono ?_; rintro e w2 ⟨v2, rfl, ho2, hb2⟩; obtain ⟨a2, c2, rfl⟩ := owns_len ho2; rw [HB.out.2] at ho2 ⊢; have hq2 := heap_below (W := W1.drew) HW.out.2 hb2; have H2 : Hid (Px w w2 N b r s R ∧ RB w2 (.slice a2 ln c2) lk) := ⟨HW.out.1.drew.below hb2, ho2.rb⟩; clear ho2 hb2)
                | (go_at_call 12; refine (post_x w w.heap.size b s tk _ lk _ H2.out.1.bx (by rw [HS.out.1, HW.out.1.n]; exact hf) H2.out.2 HB.out.1).mono ?_; rintro e w3 ⟨rfl, s3, hS3, _⟩; have hq3 := H2.out.1.varB hS3 (by decide) hq2; have H3 : Hid (Px w w3 N b r s3 R ∧ s3.say = s.say ++ [(tk, lk)]) := ⟨H2.out.1.bag hS3, hS3.say⟩; clear hS3)
                | (go_at_call 14; refine (rpost_ok w.heap.size r R tk _ lk _ H4.out.1.is H4.out.1.bx.bel.size (by rw [← say_len, HS.out.2.2, HW.out.1.rn]; exact hf) H4.out.2 HB.out.1).mono ?_; rintro e w5 ⟨rfl, R5, hS5⟩; have hq5 := H4.out.1.varR hS5 (by decide) hq4; have H5 : Hid (Px w w5 N b r s3 R5 ∧ s3.say = R5.say ∧ R5.say.length = sl + 1) := ⟨H4.out.1.ref hS5, by rw [H3.out.2, hS5.say, HS.out.2.1], by rw [hS5.say, List.length_append, HS.out.2.2]; rfl⟩; clear hS5))
            obtain ⟨slN, hslN⟩ : ∃ x, sl + 1 = x := ⟨_, rfl⟩
            have hN64 : slN ≤ 64 := by omega
            have HT : Hid (Px w w5 N b r s3 R5 ∧ s3.say = R5.say ∧ R5.say.length = slN) := ⟨H5.out.1, H5.out.2.1, by rw [H5.out.2.2, hslN]⟩
            clear H2 H3 H4 H5 HS HW hq2 hq3 hq4 hq5 HRk hslN
            obtain ⟨aR, cR, eR⟩ := HT.out.1.is.form
            have cR1 : w5.cell? ⟨r, 1, none⟩ = some (.slice aR slN cR) := by rw [HT.out.1.is.cells.2.1, eR, ← say_len, HT.out.2.2]
            have HM : Hid (Mail w5 0 w.heap.size (.slice aR slN cR) R5.ls ∧ sayL R5.ls = s3.say) := ⟨by have := HT.out.1.is.mail; rw [eR, ← say_len, HT.out.2.2] at this; exact this, HT.out.2.1.symm⟩
            clear eR
            go_upto_region 23 with fail
            go_region_held3 (fun w' => w'.cell? ⟨r, 1, none⟩ = some (.slice aR slN cR))
              (first | exact cR1 | exact (hb8.cell (cellLt (by assumption))).trans (by assumption) | exact (hb9.cell (cellLt (by assumption))).trans (by assumption) | assumption)
              (first
                | (go_at_call 22; refine (len_x w w.heap.size b s3 _ HT.out.1.bx.drew).mono ?_; rintro e w7 ⟨rfl, rfl⟩; rw [HT.out.2.1, HT.out.2.2])
                | (go_at_call 24; refine (letters_x w w.heap.size b s3 _ HT.out.1.bx.drew).mono ?_; rintro e w8 ⟨v8, ls8, rfl, hm8, hs8, hb8⟩)
                | (go_at_call 23; refine (sameL_any _ _ ls8 R5.ls _ _ _ _ _ hm8 ((HM.out.1.below (Below.refl _ _).drew).below hb8) (hs8.trans HM.out.2.symm) (by have := sayL_len (hs8.trans HM.out.2.symm); have h3 := say_len R5; rw [HT.out.2.2] at h3; omega)).mono ?_; rintro e w9 ⟨rfl, hb9⟩))
            go_wp2
            exact ⟨⟨k + 1, s3, R5, by omega, by simp, (HT.out.1.drew.below hb8).below hb9, HT.out.2.1⟩, by simp [intOf]; omega⟩
          · go_upto_region 14 with (first
              | (go_at_call 11; refine (HP.out _).mono ?_; rintro e W1 ⟨rfl, rfl⟩))
            go_region_held3 (fun w' => w'.cell? ⟨kx, 0, none⟩ = some (.int .i64 kk) ∧ w'.cell? ⟨kx, 1, none⟩ = some (.int .i64 ak) ∧ w'.cell? ⟨kx, 2, none⟩ = some (.int .i64 tk) ∧ w'.cell? ⟨kx, 3, none⟩ = some (.slice av ln cv))
              (first | exact ⟨z0, z1, z2, z3⟩ | exact cells4 hq5 | exact cells4 hq4 | exact cells4 hq3 | exact cells4 hq2 | assumption)
              (first
                | (go_at_call 13; have _q := H3; refine (letter_any kk ak tk _ lk _ (HRk.out _ H3.out.bx.bel) HB.out.1).mono ?_; rintro e w4 ⟨v4, rfl, ho4, hb4⟩; obtain ⟨a4, c4, rfl⟩ := owns_len ho4; have hq4 := heap_below hq3 hb4; have H4 : Hid (Px w w4 N b r s R) := H3.out.below hb4; clear ho4 hb4)
                | (go_at_call 13; refine (letter_any kk ak tk _ lk _ (HRk.out _ HW.out.1.drew.bx.bel) HB.out.1).mono ?_; rintro e w2 ⟨v2, rfl, ho2, hb2⟩; obtain ⟨a2, c2, rfl⟩ := owns_len ho2; have hq2 := heap_below (W := W1.drew) HW.out.2 hb2; have H2 : Hid (Px w w2 N b r s R) := HW.out.1.drew.below hb2; clear ho2 hb2)
                | (go_at_call 12; refine (post_fx w w.heap.size b s tk _ _ H2.out.bx (by rw [HS.out.1, HW.out.1.n]; omega)).mono ?_; rintro e w3 ⟨rfl, hb3⟩; have hq3 := heap_below hq2 hb3; have H3 : Hid (Px w w3 N b r s R) := H2.out.below hb3; clear hb3)
                | (go_at_call 14; refine (rpost_full w.heap.size r R tk _ _ H4.out.is (by rw [← say_len, HS.out.2.2, HW.out.1.rn]; omega)).mono ?_; rintro e w5 ⟨rfl, hb5⟩; have hq5 := heap_below hq4 hb5; have H5 : Hid (Px w w5 N b r s R) := H4.out.below hb5; clear hb5))
            obtain ⟨slN, hslN⟩ : ∃ x, sl = x := ⟨_, rfl⟩
            have hN64 : slN ≤ 64 := by omega
            have HT : Hid (Px w w5 N b r s R ∧ s.say = R.say ∧ R.say.length = slN) := ⟨H5.out, HS.out.2.1.symm, by rw [HS.out.2.2, hslN]⟩
            clear H2 H3 H4 H5 HS HW hq2 hq3 hq4 hq5 HRk hslN
            obtain ⟨aR, cR, eR⟩ := HT.out.1.is.form
            have cR1 : w5.cell? ⟨r, 1, none⟩ = some (.slice aR slN cR) := by rw [HT.out.1.is.cells.2.1, eR, ← say_len, HT.out.2.2]
            have HM : Hid (Mail w5 0 w.heap.size (.slice aR slN cR) R.ls ∧ sayL R.ls = s.say) := ⟨by have := HT.out.1.is.mail; rw [eR, ← say_len, HT.out.2.2] at this; exact this, HT.out.2.1.symm⟩
            clear eR
            go_upto_region 23 with fail
            go_region_held3 (fun w' => w'.cell? ⟨r, 1, none⟩ = some (.slice aR slN cR))
              (first | exact cR1 | exact (hb8.cell (cellLt (by assumption))).trans (by assumption) | exact (hb9.cell (cellLt (by assumption))).trans (by assumption) | assumption)
              (first
                | (go_at_call 22; refine (len_x w w.heap.size b s _ HT.out.1.bx.drew).mono ?_; rintro e w7 ⟨rfl, rfl⟩; rw [HT.out.2.1, HT.out.2.2])
                | (go_at_call 24; refine (letters_x w w.heap.size b s _ HT.out.1.bx.drew).mono ?_; rintro e w8 ⟨v8, ls8, rfl, hm8, hs8, hb8⟩)
                | (go_at_call 23; refine (sameL_any _ _ ls8 R.ls _ _ _ _ _ hm8 ((HM.out.1.below (Below.refl _ _).drew).below hb8) (hs8.trans HM.out.2.symm) (by have := sayL_len (hs8.trans HM.out.2.symm); have h3 := say_len R; rw [HT.out.2.2] at h3; omega)).mono ?_; rintro e w9 ⟨rfl, hb9⟩))
            go_wp2
            exact ⟨⟨k + 1, s, R, by omega, by simp, (HT.out.1.drew.below hb8).below hb9, HT.out.2.1⟩, by simp [intOf]; omega⟩
        · by_cases hin : 0 ≤ ak ∧ ak < sl
          · obtain ⟨i, rfl⟩ := Int.eq_ofNat_of_zero_le hin.1
            have hi : i < sl := by omega
            obtain ⟨⟨t', l'⟩, hget⟩ : ∃ y, s.say[i]? = some y := ⟨_, List.getElem?_eq_getElem (by rw [HS.out.1]; exact hi)⟩
            have HG : Hid (s.say[i]? = some (t', l')) := hget
            clear hget
            go_upto_region 18 with (first
              | (go_at_call 11; refine (HP.out _).mono ?_; rintro e W1 ⟨rfl, rfl⟩)
              | (go_at_call 15; refine (take_x w w.heap.size b i s t' l' _ HW.out.1.bx HG.out).mono ?_; rintro e w2 ⟨v2, rfl, ho2, hl2, s2, hS2, _⟩; obtain ⟨a2, c2, rfl⟩ := owns_len ho2; have hq2 := heap_below (HW.out.1.varB hS2 (by decide) HW.out.2) (below_alloc w2 (.cells #[.int .i64 t', .slice a2 l'.length c2] 37)); have H2 : Hid (Px w w2 N b r s2 R ∧ s2.say = s.say.eraseIdx i ∧ OwnB w2 0 (.slice a2 l'.length c2) l' ∧ l'.length ≤ LB) := ⟨HW.out.1.bag hS2, hS2.say, ho2.le (Nat.zero_le _), hl2⟩; have x1 := (cells4 hq2).2.1; clear hS2 ho2 hl2 z0 z1 z2 z3)
              | (go_at_call 16; refine (rtake_x w.heap.size r i R t' l' _ (H2.out.1.alloc _).is (by rw [HS.out.2.1]; exact HG.out)).mono ?_; rintro e w3 ⟨v3, rfl, ho3, R3, hS3⟩; obtain ⟨a3, c3, rfl⟩ := owns_len ho3; have H3 : Hid (TakeTwo w w2 w3 N b r s2 R3 t' (.slice a2 l'.length c2) l' (R.say.eraseIdx i) ∧ OwnB w3 0 (.slice a3 l'.length c3) l') := ⟨takeTwo H2.out.1 H2.out.2.2.1 hS3, ho3.le (Nat.zero_le _)⟩; obtain ⟨y0, y1⟩ := H3.out.1.cells; have hl3 : w2.heap.size < w3.heap.size := H3.out.1.lt; clear hS3 ho3))
            obtain ⟨W3, hW3⟩ : ∃ W3, w3.alloc (.cells #[.int .i64 t', .slice a3 l'.length c3] 37) = W3 := ⟨_, rfl⟩
            rw [hW3]
            obtain ⟨m0, hb3, _⟩ := box1 hW3
            have x0' := cell_of m0 0
            have x1' := cell_of m0 1
            simp at x0' x1'
            have y0' := (hb3.cell (p := ⟨w2.heap.size, 0, none⟩) hl3).trans y0
            have y1' := (hb3.cell (p := ⟨w2.heap.size, 1, none⟩) hl3).trans y1
            have H4 : Hid (Px w W3 N b r s2 R3 ∧ s2.say = R3.say ∧ R3.say.length = sl - 1 ∧ RB W3 (.slice a2 l'.length c2) l' ∧ RB W3 (.slice a3 l'.length c3) l' ∧ l'.length ≤ LB) := ⟨H3.out.1.px.below hb3, by rw [H2.out.2.1, H3.out.1.say, HS.out.2.1], by rw [H3.out.1.say, erase_len _ _ (by rw [HS.out.2.2]; exact hi), HS.out.2.2], (H3.out.1.own.below hb3).rb, (H3.out.2.below hb3).rb, H2.out.2.2.2⟩
            clear m0 hb3 y0 y1 hl3 H2 H3 HW HS hq2 x1 hW3 HRk HB
            go_upto_region 23 with (go_at_call 17; refine (same_any _ _ l' l' _ H4.out.2.2.2.1 H4.out.2.2.2.2.1 H4.out.2.2.2.2.2 H4.out.2.2.2.2.2).mono ?_; rintro e w5 ⟨rfl, hb5⟩; rw [decide_eq_true (rfl : l' = l')])
            obtain ⟨slN, hslN⟩ : ∃ x, sl - 1 = x := ⟨_, rfl⟩
            have hN64 : slN ≤ 64 := by omega
            have HT : Hid (Px w w5 N b r s2 R3 ∧ s2.say = R3.say ∧ R3.say.length = slN) := ⟨H4.out.1.below hb5, H4.out.2.1, by rw [H4.out.2.2.1, hslN]⟩
            clear H4 hb5 HG hslN
            obtain ⟨aR, cR, eR⟩ := HT.out.1.is.form
            have cR1 : w5.cell? ⟨r, 1, none⟩ = some (.slice aR slN cR) := by rw [HT.out.1.is.cells.2.1, eR, ← say_len, HT.out.2.2]
            have HM : Hid (Mail w5 0 w.heap.size (.slice aR slN cR) R3.ls ∧ sayL R3.ls = s2.say) := ⟨by have := HT.out.1.is.mail; rw [eR, ← say_len, HT.out.2.2] at this; exact this, HT.out.2.1.symm⟩
            clear eR
            go_upto_region 23 with fail
            go_region_held3 (fun w' => w'.cell? ⟨r, 1, none⟩ = some (.slice aR slN cR))
              (first | exact cR1 | exact (hb8.cell (cellLt (by assumption))).trans (by assumption) | exact (hb9.cell (cellLt (by assumption))).trans (by assumption) | assumption)
              (first
                | (go_at_call 22; refine (len_x w w.heap.size b s2 _ HT.out.1.bx.drew).mono ?_; rintro e w7 ⟨rfl, rfl⟩; rw [HT.out.2.1, HT.out.2.2])
                | (go_at_call 24; refine (letters_x w w.heap.size b s2 _ HT.out.1.bx.drew).mono ?_; rintro e w8 ⟨v8, ls8, rfl, hm8, hs8, hb8⟩)
                | (go_at_call 23; refine (sameL_any _ _ ls8 R3.ls _ _ _ _ _ hm8 ((HM.out.1.below (Below.refl _ _).drew).below hb8) (hs8.trans HM.out.2.symm) (by have := sayL_len (hs8.trans HM.out.2.symm); have h3 := say_len R3; rw [HT.out.2.2] at h3; omega)).mono ?_; rintro e w9 ⟨rfl, hb9⟩))
            go_wp2
            exact ⟨⟨k + 1, s2, R3, by omega, by simp, (HT.out.1.drew.below hb8).below hb9, HT.out.2.1⟩, by simp [intOf]; omega⟩
          · go_upto_region 23 with (first
              | (go_at_call 11; refine (HP.out _).mono ?_; rintro e W1 ⟨rfl, rfl⟩)
              | (go_at_call 15; refine (take_nx w w.heap.size b s _ _ HW.out.1.bx (by rw [HS.out.1]; exact hin)).mono ?_; rintro e w2 ⟨rfl, hb2⟩; have hq2 := heap_below (heap_below HW.out.2 hb2) (below_alloc w2 (.cells #[.int .i64 0, .slice none 0 0] 37)); have x1 := (cells4 hq2).2.1; have H2 : Hid (Px w w2 N b r s R) := HW.out.1.below hb2; clear hb2 hq2 z0 z1 z2 z3)
              | (go_at_call 16; refine (rtake_no w.heap.size r R _ _ (H2.out.alloc _).is (by rw [← say_len, HS.out.2.2]; exact hin)).mono ?_; rintro e w3 ⟨rfl, hb3⟩; have hv3 := heap_below (heap_new w2 (.cells #[.int .i64 0, .slice none 0 0] 37)) hb3; have y0 := cell_of hv3 0; have y1 := cell_of hv3 1; have hl3 : w2.heap.size < w3.heap.size := (Array.getElem?_eq_some_iff.1 hv3).1; simp at y0 y1; have H3 : Hid (Px w w3 N b r s R) := (H2.out.alloc _).below hb3; clear hb3 hv3 x1)
              | (go_at_call 17; refine (same_any _ _ [] [] _ (RB.nil _) (RB.nil _) (by decide) (by decide)).mono ?_; rintro e w5 ⟨rfl, hb5⟩; rw [decide_eq_true (rfl : ([] : List Int) = [])]; have H5 : Hid (Px w w5 N b r s R) := (H3.out.alloc _).below hb5; clear hb5))
            obtain ⟨slN, hslN⟩ : ∃ x, sl = x := ⟨_, rfl⟩
            have hN64 : slN ≤ 64 := by omega
            have HT : Hid (Px w w5 N b r s R ∧ s.say = R.say ∧ R.say.length = slN) := ⟨H5.out, HS.out.2.1.symm, by rw [HS.out.2.2, hslN]⟩
            clear H2 H3 H5 HS HW hslN
            obtain ⟨aR, cR, eR⟩ := HT.out.1.is.form
            have cR1 : w5.cell? ⟨r, 1, none⟩ = some (.slice aR slN cR) := by rw [HT.out.1.is.cells.2.1, eR, ← say_len, HT.out.2.2]
            have HM : Hid (Mail w5 0 w.heap.size (.slice aR slN cR) R.ls ∧ sayL R.ls = s.say) := ⟨by have := HT.out.1.is.mail; rw [eR, ← say_len, HT.out.2.2] at this; exact this, HT.out.2.1.symm⟩
            clear eR
            go_upto_region 23 with fail
            go_region_held3 (fun w' => w'.cell? ⟨r, 1, none⟩ = some (.slice aR slN cR))
              (first | exact cR1 | exact (hb8.cell (cellLt (by assumption))).trans (by assumption) | exact (hb9.cell (cellLt (by assumption))).trans (by assumption) | assumption)
              (first
                | (go_at_call 22; refine (len_x w w.heap.size b s _ HT.out.1.bx.drew).mono ?_; rintro e w7 ⟨rfl, rfl⟩; rw [HT.out.2.1, HT.out.2.2])
                | (go_at_call 24; refine (letters_x w w.heap.size b s _ HT.out.1.bx.drew).mono ?_; rintro e w8 ⟨v8, ls8, rfl, hm8, hs8, hb8⟩)
                | (go_at_call 23; refine (sameL_any _ _ ls8 R.ls _ _ _ _ _ hm8 ((HM.out.1.below (Below.refl _ _).drew).below hb8) (hs8.trans HM.out.2.symm) (by have := sayL_len (hs8.trans HM.out.2.symm); have h3 := say_len R; rw [HT.out.2.2] at h3; omega)).mono ?_; rintro e w9 ⟨rfl, hb9⟩))
            go_wp2
            exact ⟨⟨k + 1, s, R, by omega, by simp, (HT.out.1.drew.below hb8).below hb9, HT.out.2.1⟩, by simp [intOf]; omega⟩
        · by_cases hin : 0 ≤ ak ∧ ak < sl
          · obtain ⟨i, rfl⟩ := Int.eq_ofNat_of_zero_le hin.1
            have hi : i < sl := by omega
            go_upto_region 20 with (first
              | (go_at_call 11; refine (HP.out _).mono ?_; rintro e W1 ⟨rfl, rfl⟩))
            go_region_held3 (fun w' => w'.cell? ⟨kx, 1, none⟩ = some (.int .i64 (i : Nat)))
              (first | exact z1 | exact (cells4 hq3).2.1 | exact (cells4 hq2).2.1 | assumption)
              (first
                | (go_at_call 18; refine (drop_x w w.heap.size b i s _ HW.out.1.bx.drew (by rw [HS.out.1]; exact hi)).mono ?_; rintro e w2 ⟨rfl, s2, hS2, _⟩; have hq2 := HW.out.1.drew.varB hS2 (by decide) HW.out.2; have H2 : Hid (Px w w2 N b r s2 R ∧ s2.say = s.say.eraseIdx i) := ⟨HW.out.1.drew.bag hS2, hS2.say⟩; clear hS2)
                | (go_at_call 19; refine (rdrop_ok w.heap.size r i R _ H2.out.1.is (by rw [← say_len, HS.out.2.2]; exact hi)).mono ?_; rintro e w3 ⟨rfl, R3, hS3⟩; have hq3 := H2.out.1.varR hS3 (by decide) hq2; have H3 : Hid (Px w w3 N b r s2 R3 ∧ s2.say = R3.say ∧ R3.say.length = sl - 1) := ⟨H2.out.1.ref hS3, by rw [H2.out.2, hS3.say, HS.out.2.1], by rw [hS3.say, erase_len _ _ (by rw [HS.out.2.2]; exact hi), HS.out.2.2]⟩; clear hS3))
            obtain ⟨slN, hslN⟩ : ∃ x, sl - 1 = x := ⟨_, rfl⟩
            have hN64 : slN ≤ 64 := by omega
            have HT : Hid (Px w w3 N b r s2 R3 ∧ s2.say = R3.say ∧ R3.say.length = slN) := ⟨H3.out.1, H3.out.2.1, by rw [H3.out.2.2, hslN]⟩
            clear H2 H3 HS HW hq2 hq3 hslN
            obtain ⟨aR, cR, eR⟩ := HT.out.1.is.form
            have cR1 : w3.cell? ⟨r, 1, none⟩ = some (.slice aR slN cR) := by rw [HT.out.1.is.cells.2.1, eR, ← say_len, HT.out.2.2]
            have HM : Hid (Mail w3 0 w.heap.size (.slice aR slN cR) R3.ls ∧ sayL R3.ls = s2.say) := ⟨by have := HT.out.1.is.mail; rw [eR, ← say_len, HT.out.2.2] at this; exact this, HT.out.2.1.symm⟩
            clear eR
            go_upto_region 23 with fail
            go_region_held3 (fun w' => w'.cell? ⟨r, 1, none⟩ = some (.slice aR slN cR))
              (first | exact cR1 | exact (hb8.cell (cellLt (by assumption))).trans (by assumption) | exact (hb9.cell (cellLt (by assumption))).trans (by assumption) | assumption)
              (first
                | (go_at_call 22; refine (len_x w w.heap.size b s2 _ HT.out.1.bx.drew).mono ?_; rintro e w7 ⟨rfl, rfl⟩; rw [HT.out.2.1, HT.out.2.2])
                | (go_at_call 24; refine (letters_x w w.heap.size b s2 _ HT.out.1.bx.drew).mono ?_; rintro e w8 ⟨v8, ls8, rfl, hm8, hs8, hb8⟩)
                | (go_at_call 23; refine (sameL_any _ _ ls8 R3.ls _ _ _ _ _ hm8 ((HM.out.1.below (Below.refl _ _).drew).below hb8) (hs8.trans HM.out.2.symm) (by have := sayL_len (hs8.trans HM.out.2.symm); have h3 := say_len R3; rw [HT.out.2.2] at h3; omega)).mono ?_; rintro e w9 ⟨rfl, hb9⟩))
            go_wp2
            exact ⟨⟨k + 1, s2, R3, by omega, by simp, (HT.out.1.drew.below hb8).below hb9, HT.out.2.1⟩, by simp [intOf]; omega⟩
          · go_upto_region 20 with (first
              | (go_at_call 11; refine (HP.out _).mono ?_; rintro e W1 ⟨rfl, rfl⟩))
            go_region_held3 (fun w' => w'.cell? ⟨kx, 1, none⟩ = some (.int .i64 ak))
              (first | exact z1 | assumption)
              (first
                | (go_at_call 18; refine (drop_nx w w.heap.size b s _ _ HW.out.1.bx.drew (by rw [HS.out.1]; exact hin)).mono ?_; rintro e w2 ⟨rfl, rfl⟩)
                | (go_at_call 19; refine (rdrop_no w.heap.size r R _ _ HW.out.1.drew.is (by rw [← say_len, HS.out.2.2]; exact hin)).mono ?_; rintro e w3 ⟨rfl, rfl⟩))
            obtain ⟨slN, hslN⟩ : ∃ x, sl = x := ⟨_, rfl⟩
            have hN64 : slN ≤ 64 := by omega
            have HT : Hid (Px w W1.drew N b r s R ∧ s.say = R.say ∧ R.say.length = slN) := ⟨HW.out.1.drew, HS.out.2.1.symm, by rw [HS.out.2.2, hslN]⟩
            clear HS HW hslN
            obtain ⟨aR, cR, eR⟩ := HT.out.1.is.form
            have cR1 : W1.drew.cell? ⟨r, 1, none⟩ = some (.slice aR slN cR) := by rw [HT.out.1.is.cells.2.1, eR, ← say_len, HT.out.2.2]
            have HM : Hid (Mail W1.drew 0 w.heap.size (.slice aR slN cR) R.ls ∧ sayL R.ls = s.say) := ⟨by have := HT.out.1.is.mail; rw [eR, ← say_len, HT.out.2.2] at this; exact this, HT.out.2.1.symm⟩
            clear eR
            go_upto_region 23 with fail
            go_region_held3 (fun w' => w'.cell? ⟨r, 1, none⟩ = some (.slice aR slN cR))
              (first | exact cR1 | exact (hb8.cell (cellLt (by assumption))).trans (by assumption) | exact (hb9.cell (cellLt (by assumption))).trans (by assumption) | assumption)
              (first
                | (go_at_call 22; refine (len_x w w.heap.size b s _ HT.out.1.bx.drew).mono ?_; rintro e w7 ⟨rfl, rfl⟩; rw [HT.out.2.1, HT.out.2.2])
                | (go_at_call 24; refine (letters_x w w.heap.size b s _ HT.out.1.bx.drew).mono ?_; rintro e w8 ⟨v8, ls8, rfl, hm8, hs8, hb8⟩)
                | (go_at_call 23; refine (sameL_any _ _ ls8 R.ls _ _ _ _ _ hm8 ((HM.out.1.below (Below.refl _ _).drew).below hb8) (hs8.trans HM.out.2.symm) (by have := sayL_len (hs8.trans HM.out.2.symm); have h3 := say_len R; rw [HT.out.2.2] at h3; omega)).mono ?_; rintro e w9 ⟨rfl, hb9⟩))
            go_wp2
            exact ⟨⟨k + 1, s, R, by omega, by simp, (HT.out.1.drew.below hb8).below hb9, HT.out.2.1⟩, by simp [intOf]; omega⟩
        · by_cases hin : 0 ≤ ak ∧ ak < sl
          · obtain ⟨i, rfl⟩ := Int.eq_ofNat_of_zero_le hin.1
            have hi : i < sl := by omega
            obtain ⟨⟨t', l'⟩, hget⟩ : ∃ y, s.say[i]? = some y := ⟨_, List.getElem?_eq_getElem (by rw [HS.out.1]; exact hi)⟩
            have HG : Hid (s.say[i]? = some (t', l')) := hget
            clear hget
            by_cases hf : sl < N
            · go_upto_region 22 with (first
                | (go_at_call 11; refine (HP.out _).mono ?_; rintro e W1 ⟨rfl, rfl⟩))
              go_region_held3 (fun w' => w'.cell? ⟨kx, 1, none⟩ = some (.int .i64 (i : Nat)))
                (first | exact z1 | exact (cells4 hq3).2.1 | exact (cells4 hq2).2.1 | assumption)
                (first
                  | (go_at_call 20; refine (double_x w w.heap.size b i s t' l' _ HW.out.1.bx.drew HG.out (by rw [HS.out.1, HW.out.1.n]; exact hf)).mono ?_; rintro e w2 ⟨rfl, s2, hS2, _⟩; have hq2 := HW.out.1.drew.varB hS2 (by decide) HW.out.2; have H2 : Hid (Px w w2 N b r s2 R ∧ s2.say = s.say ++ [(t', l')]) := ⟨HW.out.1.drew.bag hS2, hS2.say⟩; clear hS2)
                  | (go_at_call 21; refine (rdouble_x w.heap.size r i R t' l' _ H2.out.1.is H2.out.1.bx.bel.size (by rw [HS.out.2.1]; exact HG.out) (by rw [HS.out.2.2, HW.out.1.rn]; exact hf)).mono ?_; rintro e w3 ⟨rfl, R3, hS3⟩; have hq3 := H2.out.1.varR hS3 (by decide) hq2; have H3 : Hid (Px w w3 N b r s2 R3 ∧ s2.say = R3.say ∧ R3.say.length = sl + 1) := ⟨H2.out.1.ref hS3, by rw [H2.out.2, hS3.say, HS.out.2.1], by rw [hS3.say, List.length_append, HS.out.2.2]; rfl⟩; clear hS3))
              obtain ⟨slN, hslN⟩ : ∃ x, sl + 1 = x := ⟨_, rfl⟩
              have hN64 : slN ≤ 64 := by omega
              have HT : Hid (Px w w3 N b r s2 R3 ∧ s2.say = R3.say ∧ R3.say.length = slN) := ⟨H3.out.1, H3.out.2.1, by rw [H3.out.2.2, hslN]⟩
              clear H2 H3 HS HW hq2 hq3 HG hslN
              obtain ⟨aR, cR, eR⟩ := HT.out.1.is.form
              have cR1 : w3.cell? ⟨r, 1, none⟩ = some (.slice aR slN cR) := by rw [HT.out.1.is.cells.2.1, eR, ← say_len, HT.out.2.2]
              have HM : Hid (Mail w3 0 w.heap.size (.slice aR slN cR) R3.ls ∧ sayL R3.ls = s2.say) := ⟨by have := HT.out.1.is.mail; rw [eR, ← say_len, HT.out.2.2] at this; exact this, HT.out.2.1.symm⟩
              clear eR
              go_upto_region 23 with fail
              go_region_held3 (fun w' => w'.cell? ⟨r, 1, none⟩ = some (.slice aR slN cR))
                (first | exact cR1 | exact (hb8.cell (cellLt (by assumption))).trans (by assumption) | exact (hb9.cell (cellLt (by assumption))).trans (by assumption) | assumption)
                (first
                  | (go_at_call 22; refine (len_x w w.heap.size b s2 _ HT.out.1.bx.drew).mono ?_; rintro e w7 ⟨rfl, rfl⟩; rw [HT.out.2.1, HT.out.2.2])
                  | (go_at_call 24; refine (letters_x w w.heap.size b s2 _ HT.out.1.bx.drew).mono ?_; rintro e w8 ⟨v8, ls8, rfl, hm8, hs8, hb8⟩)
                  | (go_at_call 23; refine (sameL_any _ _ ls8 R3.ls _ _ _ _ _ hm8 ((HM.out.1.below (Below.refl _ _).drew).below hb8) (hs8.trans HM.out.2.symm) (by have := sayL_len (hs8.trans HM.out.2.symm); have h3 := say_len R3; rw [HT.out.2.2] at h3; omega)).mono ?_; rintro e w9 ⟨rfl, hb9⟩))
              go_wp2
              exact ⟨⟨k + 1, s2, R3, by omega, by simp, (HT.out.1.drew.below hb8).below hb9, HT.out.2.1⟩, by simp [intOf]; omega⟩
            · go_upto_region 22 with (first
                | (go_at_call 11; refine (HP.out _).mono ?_; rintro e W1 ⟨rfl, rfl⟩))
              go_region_held3 (fun w' => w'.cell? ⟨kx, 1, none⟩ = some (.int .i64 (i : Nat)))
                (first | exact z1 | exact (cells4 hq3).2.1 | exact (cells4 hq2).2.1 | assumption)
                (first
                  | (go_at_call 20; refine (double_fx w w.heap.size b i s _ HW.out.1.bx.drew (by rw [HS.out.1]; exact hi) (by rw [HS.out.1, HW.out.1.n]; omega)).mono ?_; rintro e w2 ⟨rfl, hb2⟩; have hq2 := heap_below (W := W1.drew) HW.out.2 hb2; have H2 : Hid (Px w w2 N b r s R) := HW.out.1.drew.below hb2; clear hb2)
                  | (go_at_call 21; refine (rdouble_fx w.heap.size r i R _ H2.out.is (by rw [HS.out.2.2]; exact hi) (by rw [HS.out.2.2, HW.out.1.rn]; omega)).mono ?_; rintro e w3 ⟨rfl, hb3⟩; have hq3 := heap_below hq2 hb3; have H3 : Hid (Px w w3 N b r s R) := H2.out.below hb3; clear hb3))
              obtain ⟨slN, hslN⟩ : ∃ x, sl = x := ⟨_, rfl⟩
              have hN64 : slN ≤ 64 := by omega
              have HT : Hid (Px w w3 N b r s R ∧ s.say = R.say ∧ R.say.length = slN) := ⟨H3.out, HS.out.2.1.symm, by rw [HS.out.2.2, hslN]⟩
              clear H2 H3 HS HW hq2 hq3 hslN
              obtain ⟨aR, cR, eR⟩ := HT.out.1.is.form
              have cR1 : w3.cell? ⟨r, 1, none⟩ = some (.slice aR slN cR) := by rw [HT.out.1.is.cells.2.1, eR, ← say_len, HT.out.2.2]
              have HM : Hid (Mail w3 0 w.heap.size (.slice aR slN cR) R.ls ∧ sayL R.ls = s.say) := ⟨by have := HT.out.1.is.mail; rw [eR, ← say_len, HT.out.2.2] at this; exact this, HT.out.2.1.symm⟩
              clear eR
              go_upto_region 23 with fail
              go_region_held3 (fun w' => w'.cell? ⟨r, 1, none⟩ = some (.slice aR slN cR))
                (first | exact cR1 | exact (hb8.cell (cellLt (by assumption))).trans (by assumption) | exact (hb9.cell (cellLt (by assumption))).trans (by assumption) | assumption)
                (first
                  | (go_at_call 22; refine (len_x w w.heap.size b s _ HT.out.1.bx.drew).mono ?_; rintro e w7 ⟨rfl, rfl⟩; rw [HT.out.2.1, HT.out.2.2])
                  | (go_at_call 24; refine (letters_x w w.heap.size b s _ HT.out.1.bx.drew).mono ?_; rintro e w8 ⟨v8, ls8, rfl, hm8, hs8, hb8⟩)
                  | (go_at_call 23; refine (sameL_any _ _ ls8 R.ls _ _ _ _ _ hm8 ((HM.out.1.below (Below.refl _ _).drew).below hb8) (hs8.trans HM.out.2.symm) (by have := sayL_len (hs8.trans HM.out.2.symm); have h3 := say_len R; rw [HT.out.2.2] at h3; omega)).mono ?_; rintro e w9 ⟨rfl, hb9⟩))
              go_wp2
              exact ⟨⟨k + 1, s, R, by omega, by simp, (HT.out.1.drew.below hb8).below hb9, HT.out.2.1⟩, by simp [intOf]; omega⟩
          · go_upto_region 22 with (first
              | (go_at_call 11; refine (HP.out _).mono ?_; rintro e W1 ⟨rfl, rfl⟩))
            go_region_held3 (fun w' => w'.cell? ⟨kx, 1, none⟩ = some (.int .i64 ak))
              (first | exact z1 | assumption)
              (first
                | (go_at_call 20; refine (double_nx w w.heap.size b s _ _ HW.out.1.bx.drew (by rw [HS.out.1]; exact hin)).mono ?_; rintro e w2 ⟨rfl, rfl⟩)
                | (go_at_call 21; refine (rdouble_no w.heap.size r R _ _ HW.out.1.drew.is (by rw [← say_len, HS.out.2.2]; exact hin)).mono ?_; rintro e w3 ⟨rfl, rfl⟩))
            obtain ⟨slN, hslN⟩ : ∃ x, sl = x := ⟨_, rfl⟩
            have hN64 : slN ≤ 64 := by omega
            have HT : Hid (Px w W1.drew N b r s R ∧ s.say = R.say ∧ R.say.length = slN) := ⟨HW.out.1.drew, HS.out.2.1.symm, by rw [HS.out.2.2, hslN]⟩
            clear HS HW hslN
            obtain ⟨aR, cR, eR⟩ := HT.out.1.is.form
            have cR1 : W1.drew.cell? ⟨r, 1, none⟩ = some (.slice aR slN cR) := by rw [HT.out.1.is.cells.2.1, eR, ← say_len, HT.out.2.2]
            have HM : Hid (Mail W1.drew 0 w.heap.size (.slice aR slN cR) R.ls ∧ sayL R.ls = s.say) := ⟨by have := HT.out.1.is.mail; rw [eR, ← say_len, HT.out.2.2] at this; exact this, HT.out.2.1.symm⟩
            clear eR
            go_upto_region 23 with fail
            go_region_held3 (fun w' => w'.cell? ⟨r, 1, none⟩ = some (.slice aR slN cR))
              (first | exact cR1 | exact (hb8.cell (cellLt (by assumption))).trans (by assumption) | exact (hb9.cell (cellLt (by assumption))).trans (by assumption) | assumption)
              (first
                | (go_at_call 22; refine (len_x w w.heap.size b s _ HT.out.1.bx.drew).mono ?_; rintro e w7 ⟨rfl, rfl⟩; rw [HT.out.2.1, HT.out.2.2])
                | (go_at_call 24; refine (letters_x w w.heap.size b s _ HT.out.1.bx.drew).mono ?_; rintro e w8 ⟨v8, ls8, rfl, hm8, hs8, hb8⟩)
                | (go_at_call 23; refine (sameL_any _ _ ls8 R.ls _ _ _ _ _ hm8 ((HM.out.1.below (Below.refl _ _).drew).below hb8) (hs8.trans HM.out.2.symm) (by have := sayL_len (hs8.trans HM.out.2.symm); have h3 := say_len R; rw [HT.out.2.2] at h3; omega)).mono ?_; rintro e w9 ⟨rfl, hb9⟩))
            go_wp2
            exact ⟨⟨k + 1, s, R, by omega, by simp, (HT.out.1.drew.below hb8).below hb9, HT.out.2.1⟩, by simp [intOf]; omega⟩
      · have hkl : (len : Int) ≤ k := by omega
        go_wp2_with (go_at_call 10; refine (awake_any _).mono ?_; rintro e w11 ⟨rfl, hb11⟩)
        go_ret
        exact ⟨rfl, chainB HX.out.1.bx.bel hb11⟩
  · go_enter Try.func3, Try.ntmps3
    go_wp2_with (first
      | (go_at_call 8; refine (new_no n _ (by omega)).mono ?_; rintro e w1 ⟨rfl, rfl⟩)
      | (go_at_call 9; refine (rnew_no n _ (by omega)).mono ?_; rintro e w1 ⟨rfl, rfl⟩)
      | (go_at_call 10; refine (awake_any _).mono ?_; rintro e w2 ⟨rfl, hb2⟩))
    go_ret
    exact ⟨rfl, hb2⟩
end Go.Proofs.Ytminjmlneikllaa
