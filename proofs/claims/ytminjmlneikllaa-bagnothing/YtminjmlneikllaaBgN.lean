/- The walk of BagNothing. -/
import Derived.Test.YtminjmlneikllaaBgM
namespace Go.Proofs.Ytminjmlneikllaa
open Go.RowKit

set_option maxRecDepth 100000 in
set_option maxHeartbeats 16000000 in
theorem walk_BagNothing (n : Int) (a : Option Addr) (len cap : Nat) (K A T : Nat → Int) (V : Nat → Value) (L : Nat → List Int) (w : World) (_ : (Lit.int .i64 n).wf = true) (row : RowQ w a len K A T V L) (hlen : len * 48 ≤ 140737488351232) :
    Calls Try.prog 4 #[.int .i64 n, .slice a len cap] w fun e w' => e = .returned (.bool true) ∧ Below w.heap.size w w' := by
  by_cases hn : 1 ≤ n ∧ n ≤ 64
  · obtain ⟨N, rfl⟩ := Int.eq_ofNat_of_zero_le (show 0 ≤ n by omega)
    have h1 : 1 ≤ N := by omega
    have h2 : N ≤ 64 := by omega
    have HR : Hid (RowQ w a len K A T V L) := row
    clear hn row
    go_enter Try.func4, Try.ntmps4
    go_wp2_with (go_at_call 8; refine (new_yes N _ h1 h2).mono ?_; rintro e w1 ⟨b, rfl, hb, hB, hW⟩; have HX : Hid _ := Nx.start (Bx.new w.heap.size hb hB hW hW.size); clear hB hW)
    go_loopw [7, 8, 9, 10] (fun ui uo v i wr => ∃ k s ps ins outs, k ≤ len ∧ i = .int .i64 (k : Nat) ∧ ui = .int .i64 (ins : Nat) ∧ uo = .int .i64 (outs : Nat) ∧ Nx w wr N b s v ps k ∧ ins = outs + s.say.length ∧ ins ≤ k ∧ ∀ y ∈ s.say, y ∈ sayL ps) (fun _ _ _ i _ => len - (intOf i).toNat)
    case atStart => exact ⟨0, _, [], 0, 0, Nat.zero_le _, rfl, rfl, rfl, HX.out, rfl, Nat.le_refl _, fun y hy => (by cases hy)⟩
    case round =>
      clear HX
      obtain ⟨k, s, ps, ins, outs, hk, rfl, rfl, rfl, hX, hio, hik, hsub⟩ := hrel
      have hsl : s.say.length ≤ N := by rw [← hX.n]; exact hX.bx.room.1
      obtain ⟨sl, hsl'⟩ : ∃ x, s.say.length = x := ⟨_, rfl⟩
      have HX : Hid (Nx w wr N b s u9 ps k ∧ s.say.length = sl ∧ (∀ y ∈ s.say, y ∈ sayL ps)) := ⟨hX, hsl', hsub⟩
      rw [hsl'] at hsl hio
      have HI : Hid (ins = outs + sl) := hio
      have hin0 : outs ≤ ins := by omega
      have e0 : (ins : Int) - (outs : Int) = (sl : Int) := by omega
      clear hsl' hio
      obtain ⟨i1, hi1, hw0, hw1, hw2⟩ := info_parts Try.infoL
      have hfew := hX.few
      obtain ⟨ap, cp, hu9⟩ := hX.mail.len
      subst hu9
      clear hX hsub
      by_cases hlt : k < len
      · have hki : (k : Int) < (len : Int) := by omega
        obtain ⟨g, off, av, cv, rfl, q0, q1, q2, q3, hr, hlb⟩ := HR.out.at HX.out.1.bx.bel k hlt
        obtain ⟨c, hc, hP⟩ := place4 (K k)
        have HB : Hid (RB wr (.slice av (L k).length cv) (L k) ∧ (L k).length ≤ LB) := ⟨hr, hlb⟩
        have HP : Hid (∀ w1, Calls Try.prog 11 #[.int .i64 (K k), .int .i64 4] w1 fun e w' => e = .returned (.int .i64 (c : Int)) ∧ w' = w1) := hP
        obtain ⟨kk, hkk⟩ : ∃ x, K k = x := ⟨_, rfl⟩
        obtain ⟨ak, hak⟩ : ∃ x, A k = x := ⟨_, rfl⟩
        obtain ⟨tk, htk⟩ : ∃ x, T k = x := ⟨_, rfl⟩
        obtain ⟨lk, hlk⟩ : ∃ x, L k = x := ⟨_, rfl⟩
        obtain ⟨ln, hln⟩ : ∃ x, lk.length = x := ⟨_, rfl⟩
        rw [hkk] at q0 HP
        rw [hak] at q1
        rw [htk] at q2
        rw [hlk, hln] at q3
        rw [hlk] at HB
        have HB' : Hid (RB wr (.slice av ln cv) lk ∧ lk.length ≤ LB ∧ lk.length = ln) := ⟨by rw [← hln]; exact HB.out.1, HB.out.2, hln⟩
        have HRk : Hid (∀ w', Below w.heap.size w w' → RB w' (.slice av ln cv) lk) := by
          intro w' hb'
          obtain ⟨g', off', av', cv', eg, _, _, _, r3, r4, _⟩ := HR.out.at hb' k hlt
          cases eg
          obtain ⟨g'', off'', av'', cv'', eg', _, _, _, r3', _, _⟩ := HR.out.at HX.out.1.bx.bel k hlt
          cases eg'
          rw [hlk, hln] at r3' r4 r3
          rw [q3] at r3'
          have hq := HR.out
          rcases hq with e | ⟨g0, off0, eg0, hg0, hh0⟩
          · omega
          · cases eg0
            rw [hb'.cell (p := ⟨g, off + k * 4 + 3, none⟩) hg0, ← HX.out.1.bx.bel.cell (p := ⟨g, off + k * 4 + 3, none⟩) hg0, q3] at r3
            cases r3
            exact r4
        clear hr hlb hP hkk hak htk hlk hln HB
        rcases (show c = 0 ∨ c = 1 ∨ c = 2 ∨ c = 3 by omega) with rfl | rfl | rfl | rfl
        · by_cases hf : sl < N
          · have HG : Hid (s.say.length < s.n) := by rw [HX.out.1.n, HX.out.2.1]; exact hf
            obtain ⟨sl2, hs2⟩ : ∃ x, x = sl + 1 := ⟨_, rfl⟩
            have HS2 : Hid (sl2 = sl + 1) := hs2
            have e1 : (ins : Int) + 1 - (outs : Int) = (sl2 : Int) := by omega
            have e2 : sl2 ≤ N := by omega
            clear hs2
            go_wp2_with (first
              | (go_at_call 11; refine (HP.out _).mono ?_; rintro e w' ⟨rfl, rfl⟩)
              | (go_at_call 13; have _q := H3; refine (letter_any kk ak tk _ lk _ H3.out.2.2.2 HB'.out.2.1).mono ?_; rintro e w4 ⟨v4, rfl, ho4, hb4⟩; obtain ⟨a4, c4, rfl⟩ := owns_len ho4; rw [HB'.out.2.2] at ho4 ⊢; have H4 : Hid (Nx w w4 N b s3 (.slice ap ps.length cp) ps k ∧ OwnB w4 w.heap.size (.slice a4 ln c4) lk) := ⟨H3.out.1.below hb4, ho4.le H3.out.1.bx.bel.size⟩; have e4 := H4.out.1.mail.row; have z4 := H4.out.1.bx.bel.size; clear ho4 hb4)
              | (go_at_call 13; refine (letter_any kk ak tk _ lk _ (HB'.out.1.below (below_alloc _ _)) HB'.out.2.1).mono ?_; rintro e w2 ⟨v2, rfl, ho2, hb2⟩; obtain ⟨a2, c2, rfl⟩ := owns_len ho2; rw [HB'.out.2.2] at ho2 ⊢; have H2 : Hid (Nx w w2 N b s (.slice ap ps.length cp) ps k ∧ RB w2 (.slice a2 ln c2) lk ∧ RB w2 (.slice av ln cv) lk) := ⟨(HX.out.1.alloc _).below hb2, ho2.rb, (HB'.out.1.below (below_alloc _ _)).below hb2⟩; have m2 : w2.heap[wr.heap.size]? = some (.cells #[.int .i64 kk, .int .i64 ak, .int .i64 tk, .slice av ln cv] 33 (0, 0)) := (hb2.block _ (by simp)).trans (heap_new _ _); clear ho2 hb2)
              | (go_at_call 12; refine (post_x w w.heap.size b s tk _ lk _ H2.out.1.bx HG.out H2.out.2.1 HB'.out.2.1).mono ?_; rintro e w3 ⟨rfl, s3, hS3, _⟩; have hq3 : w3.heap[wr.heap.size]? = some (.cells #[.int .i64 kk, .int .i64 ak, .int .i64 tk, .slice av ln cv] 33 (0, 0)) := (hS3.only.block _ (Array.getElem?_eq_some_iff.1 m2).1 (fun e => e.elim (fun e => Tag.ne (⟨_, _, m2⟩ : Tag w2 _ 33) H2.out.1.bx.is.tb (by decide) e) (fun e => Tag.ne (⟨_, _, m2⟩ : Tag w2 _ 33) (H2.out.1.bx.is.tv e) (by decide) rfl))).trans m2; have H3 : Hid (Nx w w3 N b s3 (.slice ap ps.length cp) ps k ∧ s3.say.length = sl2 ∧ s3.say = s.say ++ [(tk, lk)] ∧ RB w3 (.slice av ln cv) lk) := ⟨H2.out.1.step hS3, by rw [hS3.say, List.length_append, HX.out.2.1, HS2.out]; rfl, hS3.say, (by have hbw : Below w.heap.size w w3 := (H2.out.1.step hS3).bx.bel; exact HRk.out w3 hbw)⟩; have z0 := cell_of hq3 0; have z1 := cell_of hq3 1; have z2 := cell_of hq3 2; have z3 := cell_of hq3 3; simp at z0 z1 z2 z3; clear hS3 hq3 m2)
              | (at_builtin; refine wpList_append_own_at _ rfl (.tmp 58) (.tmp 61) 48 rfl w.heap.size 37 i1 (.agg #[.int .i64 0, .slice none 0 0]) 2 32 Try.underlying48 hi1 hw0 hw1 hw2 rfl (by decide) _ ps.length (lc ps) rfl (World.ownsRow.alloc e4 _) ⟨w4.heap.size, 0, none⟩ 1 1 [.int .i64 tk, .slice a4 ln c4] rfl rfl (two_at _ _ _ _) two_one (by unfold maxLen; omega) (by omega) (by simp; omega) ?_; intro v5 w5 hown5 hgrow5 _ hat5; have H5 : Hid (Nx w w5 N b s3 v5 (ps ++ [⟨tk, .slice a4 ln c4, lk⟩]) (k + 1)) := H4.out.1.push H4.out.2 HB'.out.2.1 hown5 hgrow5 hat5; clear hown5 hgrow5 hat5 e4)
              | (go_at_call 22; refine (len_x w w.heap.size b s3 _ H5.out.bx).mono ?_; rintro e w6 ⟨rfl, rfl⟩; rw [H3.out.2.1]))
            exact ⟨⟨k + 1, s3, _, ins + 1, outs, by omega, by simp, by simp, by simp, H5.out, by have := HI.out; have := HS2.out; rw [H3.out.2.1]; omega, by omega, by rw [H3.out.2.2.1, sayL_snoc]; exact sub_snoc _ HX.out.2.2⟩, by simp [intOf]; omega⟩
          · have HG : Hid (s.say.length = s.n) := by have := HX.out.1.n; have := HX.out.2.1; show s.say.length = s.n; omega
            go_wp2_with (first
              | (go_at_call 11; refine (HP.out _).mono ?_; rintro e w' ⟨rfl, rfl⟩)
              | (go_at_call 13; refine (letter_any kk ak tk _ lk _ (HB'.out.1.below (below_alloc _ _)) HB'.out.2.1).mono ?_; rintro e w2 ⟨v2, rfl, ho2, hb2⟩; obtain ⟨a2, c2, rfl⟩ := owns_len ho2; have H2 : Hid _ := (HX.out.1.alloc _).below hb2; clear ho2 hb2)
              | (go_at_call 12; refine (post_fx w w.heap.size b s tk _ _ H2.out.bx HG.out).mono ?_; rintro e w3 ⟨rfl, hb3⟩; have H3 : Hid _ := H2.out.below hb3; clear hb3)
              | (go_at_call 22; refine (len_x w w.heap.size b s _ H3.out.bx).mono ?_; rintro e w3 ⟨rfl, rfl⟩; rw [HX.out.2.1]))
            exact ⟨⟨k + 1, s, ps, ins, outs, by omega, by simp, by simp, by simp, H3.out.mono (Nat.le_succ _), by rw [HX.out.2.1]; exact HI.out, by omega, HX.out.2.2⟩, by simp [intOf]; omega⟩
        · by_cases hin : 0 ≤ ak ∧ ak < sl
          · obtain ⟨i, rfl⟩ := Int.eq_ofNat_of_zero_le hin.1
            have hi : i < sl := by omega
            obtain ⟨⟨t', l'⟩, hget⟩ : ∃ y, s.say[i]? = some y := ⟨_, List.getElem?_eq_getElem (by rw [HX.out.2.1]; exact hi)⟩
            have HG : Hid (s.say[i]? = some (t', l')) := hget
            obtain ⟨sl2, hs2⟩ : ∃ x, x = sl - 1 := ⟨_, rfl⟩
            have HS2 : Hid (sl2 = sl - 1) := hs2
            have e1 : (ins : Int) - ((outs : Int) + 1) = (sl2 : Int) := by omega
            have e2 : sl2 ≤ N := by omega
            clear hs2 hget
            go_wp2_with (first
              | (go_at_call 11; refine (HP.out _).mono ?_; rintro e w' ⟨rfl, rfl⟩)
              | (go_at_call 15; refine (take_x w w.heap.size b i s t' l' _ (HX.out.1.alloc _).bx HG.out).mono ?_; rintro e w2 ⟨v2, rfl, ho2, hl2, s2, hS2, _⟩; obtain ⟨a2, c2, rfl⟩ := owns_len ho2; have H2 : Hid (Nx w w2 N b s2 (.slice ap ps.length cp) ps k ∧ s2.say.length = sl2 ∧ (∀ y ∈ s2.say, y ∈ sayL ps) ∧ OwnB w2 0 (.slice a2 l'.length c2) l' ∧ l'.length ≤ LB) := ⟨(HX.out.1.alloc _).step hS2, by rw [hS2.say, erase_len _ _ (by rw [HX.out.2.1]; exact hi), HX.out.2.1, HS2.out], by rw [hS2.say]; exact sub_erase _ HX.out.2.2, ho2.le (Nat.zero_le _), hl2⟩; clear hS2 ho2 hl2))
            obtain ⟨W, hW⟩ : ∃ W, w2.alloc (.cells #[.int .i64 t', .slice a2 l'.length c2] 37) = W := ⟨_, rfl⟩
            rw [hW]
            obtain ⟨m0, hbW, _⟩ := box1 hW
            have y0 := cell_of m0 0
            have y1 := cell_of m0 1
            simp at y0 y1
            have H3 : Hid (Nx w W N b s2 (.slice ap ps.length cp) ps k ∧ s2.say.length = sl2 ∧ (∀ y ∈ s2.say, y ∈ sayL ps) ∧ RB W (.slice a2 l'.length c2) l' ∧ l'.length ≤ LB) := ⟨H2.out.1.below hbW, H2.out.2.1, H2.out.2.2.1, (H2.out.2.2.2.1.below hbW).rb, H2.out.2.2.2.2⟩
            have HF : Hid (∃ (r : Nat) (p : Lt), r < ps.length ∧ ps[r]? = some p ∧ p.n = t' ∧ p.l = l') := by
              obtain ⟨r, p, h1, h2, h3, h4⟩ := sayL_mem (HX.out.2.2 _ (List.mem_of_getElem? HG.out))
              exact ⟨r, p, h1, h2, h3, h4⟩
            have hlw : w2.heap.size < W.heap.size := (Array.getElem?_eq_some_iff.1 m0).1
            clear H2 HX hW hbW m0 HG HP HB' HRk q0 q1 q2 q3
            go_loopw [14, 15] (fun uf i wr => ∃ (j : Nat) (f : Bool), j ≤ ps.length ∧ i = .int .i64 j ∧ uf = .bool f ∧ ((∃ (r : Nat) (p : Lt), r < j ∧ ps[r]? = some p ∧ p.n = t' ∧ p.l = l') → f = true) ∧ Below W.heap.size W wr) (fun _ i _ => ps.length - (intOf i).toNat)
            case atStart => exact ⟨0, false, Nat.zero_le _, rfl, rfl, fun ⟨r, p, h, _⟩ => (by omega), Below.refl _ _⟩
            case round =>
              obtain ⟨j, f, hj, rfl, rfl, hf, hb⟩ := hrel
              by_cases hjl : j < ps.length
              · obtain ⟨p, hp⟩ : ∃ p, ps[j]? = some p := ⟨_, List.getElem?_eq_getElem hjl⟩
                obtain ⟨gp, av', cv', rfl, _, _, _, c0, c1, ho, hlb⟩ := H3.out.1.mail.letter hp hb
                have x0 := (hb.cell (p := ⟨w2.heap.size, 0, none⟩) hlw).trans y0
                have x1 := (hb.cell (p := ⟨w2.heap.size, 1, none⟩) hlw).trans y1
                have hji : (j : Int) < (ps.length : Int) := by omega
                have HO : Hid (OwnB wr w.heap.size (.slice av' p.l.length cv') p.l ∧ p.l.length ≤ LB ∧ ps[j]? = some p) := ⟨ho, hlb, hp⟩
                have HFj : Hid ((∃ (r : Nat) (p : Lt), r < j ∧ ps[r]? = some p ∧ p.n = t' ∧ p.l = l') → f = true) := hf
                clear ho hlb hp hf
                have hnext : ∀ f' : Bool, (f = true → f' = true) → (p.n = t' ∧ p.l = l' → f' = true) → ((∃ (r : Nat) (p : Lt), r < j + 1 ∧ ps[r]? = some p ∧ p.n = t' ∧ p.l = l') → f' = true) := by
                  rintro f' h1 h2 ⟨r, p', hr, hp', e⟩
                  by_cases hrj : r < j
                  · exact h1 (HFj.out ⟨r, p', hrj, hp', e⟩)
                  · obtain rfl : r = j := by omega
                    rw [HO.out.2.2] at hp'
                    cases hp'
                    exact h2 e
                have HNx : Hid (∀ f' : Bool, (f = true → f' = true) → (p.n = t' ∧ p.l = l' → f' = true) → ((∃ (r : Nat) (p : Lt), r < j + 1 ∧ ps[r]? = some p ∧ p.n = t' ∧ p.l = l') → f' = true)) := hnext
                clear hnext HFj
                cases f with
                | true =>
                  go_upto_region 22 with fail
                  go_quiet (fail)
                  go_wp2
                  exact ⟨⟨j + 1, true, by omega, by simp, rfl, fun _ => rfl, below_drewN hb _⟩, by simp [intOf]; omega⟩
                | false =>
                  obtain ⟨pn, pv, pl'⟩ := p
                  simp only at c0 c1
                  by_cases hpt : pn = t'
                  · subst hpt
                    have HB : Hid (RB wr.drew (.slice av' pl'.length cv') pl' ∧ RB wr.drew (.slice a2 l'.length c2) l' ∧ pl'.length ≤ LB ∧ l'.length ≤ LB) := ⟨HO.out.1.rb.below (Below.refl _ _).drew, (H3.out.2.2.2.1.below hb).below (Below.refl _ _).drew, HO.out.2.1, H3.out.2.2.2.2⟩
                    go_upto_region 22 with fail
                    go_region_held3 (fun w' => w'.cell? ⟨gp, j * 2, none⟩ = some (.int .i64 pn) ∧ w'.cell? ⟨gp, j * 2 + 1, none⟩ = some (.slice av' pl'.length cv') ∧ w'.cell? ⟨w2.heap.size, 0, none⟩ = some (.int .i64 pn) ∧ w'.cell? ⟨w2.heap.size, 1, none⟩ = some (.slice a2 l'.length c2))
                      (first | exact ⟨c0, c1, x0, x1⟩ | exact keep4 (by assumption) (by assumption) | assumption)
                      (first | (go_at_call 17; refine (same_any _ _ pl' l' _ HB.out.1 HB.out.2.1 HB.out.2.2.1 HB.out.2.2.2).mono ?_; rintro e w5 ⟨rfl, hb5⟩))
                    go_wp2
                    exact ⟨⟨j + 1, decide (pl' = l'), by omega, by simp, rfl, HNx.out _ (fun e => by cases e) (fun e => decide_eq_true e.2), chainB hb.drew hb5⟩, by simp [intOf]; omega⟩
                  · have hne : (pn == t') = false := by simpa using hpt
                    go_upto_region 22 with fail
                    go_quiet (fail)
                    go_wp2
                    exact ⟨⟨j + 1, false, by omega, by simp, rfl, HNx.out _ id (fun e => absurd e.1 hpt), below_drewN hb _⟩, by simp [intOf]; omega⟩
              · obtain rfl : j = ps.length := by omega
                obtain rfl : f = true := hf HF.out
                have H4 : Hid (Nx w wr N b s2 (.slice ap ps.length cp) ps k) := H3.out.1.below hb
                clear hf hb
                go_wp2_with (go_at_call 22; refine (len_x w w.heap.size b s2 _ H4.out.bx).mono ?_; rintro e w6 ⟨rfl, rfl⟩; rw [H3.out.2.1])
                exact ⟨⟨k + 1, s2, ps, ins, outs + 1, by omega, by simp, by simp, by simp, H4.out.mono (Nat.le_succ _), by have := HI.out; have := HS2.out; rw [H3.out.2.1]; omega, by omega, H3.out.2.2.1⟩, by simp [intOf]; omega⟩
          · go_wp2_with (first
              | (go_at_call 11; refine (HP.out _).mono ?_; rintro e w' ⟨rfl, rfl⟩)
              | (go_at_call 15; refine (take_nx w w.heap.size b s _ _ (HX.out.1.alloc _).bx (by rw [HX.out.2.1]; exact hin)).mono ?_; rintro e w2 ⟨rfl, hb2⟩; have H2 : Hid (Nx w w2 N b s (.slice ap ps.length cp) ps k) := (HX.out.1.alloc _).below hb2; clear hb2))
            obtain ⟨W, hW⟩ : ∃ W, w2.alloc (.cells #[.int .i64 0, .slice none 0 0] 37) = W := ⟨_, rfl⟩
            rw [hW]
            have H3 : Hid (Nx w W N b s (.slice ap ps.length cp) ps k) := by rw [← hW]; exact H2.out.alloc _
            clear H2 hW HP HB' HRk q0 q1 q2 q3
            go_loopw [14, 15] (fun uf i wr => ∃ (j : Nat), j ≤ ps.length ∧ i = .int .i64 j ∧ uf = .bool true ∧ Below W.heap.size W wr) (fun _ i _ => ps.length - (intOf i).toNat)
            case atStart => exact ⟨0, Nat.zero_le _, rfl, rfl, Below.refl _ _⟩
            case round =>
              obtain ⟨j, hj, rfl, rfl, hb⟩ := hrel
              by_cases hjl : j < ps.length
              · have hji : (j : Int) < (ps.length : Int) := by omega
                go_upto_region 22 with fail
                go_quiet (fail)
                go_wp2
                exact ⟨⟨j + 1, by omega, by simp, rfl, below_drewN hb _⟩, by simp [intOf]; omega⟩
              · obtain rfl : j = ps.length := by omega
                have H4 : Hid (Nx w wr N b s (.slice ap ps.length cp) ps k) := H3.out.below hb
                clear hb
                go_wp2_with (go_at_call 22; refine (len_x w w.heap.size b s _ H4.out.bx).mono ?_; rintro e w6 ⟨rfl, rfl⟩; rw [HX.out.2.1])
                exact ⟨⟨k + 1, s, ps, ins, outs, by omega, by simp, by simp, by simp, H4.out.mono (Nat.le_succ _), by rw [HX.out.2.1]; exact HI.out, by omega, HX.out.2.2⟩, by simp [intOf]; omega⟩
        · by_cases hin : 0 ≤ ak ∧ ak < sl
          · obtain ⟨i, rfl⟩ := Int.eq_ofNat_of_zero_le hin.1
            have hi : i < sl := by omega
            obtain ⟨sl2, hs2⟩ : ∃ x, x = sl - 1 := ⟨_, rfl⟩
            have HS2 : Hid (sl2 = sl - 1) := hs2
            have e1 : (ins : Int) - ((outs : Int) + 1) = (sl2 : Int) := by omega
            have e2 : sl2 ≤ N := by omega
            clear hs2
            go_wp2_with (first
              | (go_at_call 11; refine (HP.out _).mono ?_; rintro e w' ⟨rfl, rfl⟩)
              | (go_at_call 18; refine (drop_x w w.heap.size b i s _ (HX.out.1.alloc _).bx (by rw [HX.out.2.1]; exact hi)).mono ?_; rintro e w2 ⟨rfl, s2, hS2, _⟩; have H2 : Hid (Nx w w2 N b s2 (.slice ap ps.length cp) ps k ∧ s2.say.length = sl2 ∧ ∀ y ∈ s2.say, y ∈ sayL ps) := ⟨(HX.out.1.alloc _).step hS2, by rw [hS2.say, erase_len _ _ (by rw [HX.out.2.1]; exact hi), HX.out.2.1, HS2.out], by rw [hS2.say]; exact sub_erase _ HX.out.2.2⟩; clear hS2)
              | (go_at_call 22; refine (len_x w w.heap.size b s2 _ H2.out.1.bx).mono ?_; rintro e w3 ⟨rfl, rfl⟩; rw [H2.out.2.1]))
            exact ⟨⟨k + 1, s2, ps, ins, outs + 1, by omega, by simp, by simp, by simp, H2.out.1.mono (Nat.le_succ _), by have := HI.out; have := HS2.out; rw [H2.out.2.1]; omega, by omega, H2.out.2.2⟩, by simp [intOf]; omega⟩
          · go_wp2_with (first
              | (go_at_call 11; refine (HP.out _).mono ?_; rintro e w' ⟨rfl, rfl⟩)
              | (go_at_call 18; refine (drop_nx w w.heap.size b s _ _ (HX.out.1.alloc _).bx (by rw [HX.out.2.1]; exact hin)).mono ?_; rintro e w2 ⟨rfl, rfl⟩)
              | (go_at_call 22; refine (len_x w w.heap.size b s _ (HX.out.1.alloc _).bx).mono ?_; rintro e w3 ⟨rfl, rfl⟩; rw [HX.out.2.1]))
            exact ⟨⟨k + 1, s, ps, ins, outs, by omega, by simp, by simp, by simp, (HX.out.1.alloc _).mono (Nat.le_succ _), by rw [HX.out.2.1]; exact HI.out, by omega, HX.out.2.2⟩, by simp [intOf]; omega⟩
        · by_cases hin : 0 ≤ ak ∧ ak < sl
          · obtain ⟨i, rfl⟩ := Int.eq_ofNat_of_zero_le hin.1
            have hi : i < sl := by omega
            obtain ⟨⟨t', l'⟩, hget⟩ : ∃ y, s.say[i]? = some y := ⟨_, List.getElem?_eq_getElem (by rw [HX.out.2.1]; exact hi)⟩
            by_cases hf : sl < N
            · have HG : Hid (s.say[i]? = some (t', l') ∧ s.say.length < s.n) := ⟨hget, by rw [HX.out.1.n, HX.out.2.1]; exact hf⟩
              clear hget
              obtain ⟨sl2, hs2⟩ : ∃ x, x = sl + 1 := ⟨_, rfl⟩
              have HS2 : Hid (sl2 = sl + 1) := hs2
              have e1 : (ins : Int) + 1 - (outs : Int) = (sl2 : Int) := by omega
              have e2 : sl2 ≤ N := by omega
              clear hs2
              go_wp2_with (first
              | (go_at_call 11; refine (HP.out _).mono ?_; rintro e w' ⟨rfl, rfl⟩)
              | (go_at_call 20; refine (double_x w w.heap.size b i s t' l' _ (HX.out.1.alloc _).bx HG.out.1 HG.out.2).mono ?_; rintro e w2 ⟨rfl, s2, hS2, _⟩; have H2 : Hid (Nx w w2 N b s2 (.slice ap ps.length cp) ps k ∧ s2.say.length = sl2 ∧ ∀ y ∈ s2.say, y ∈ sayL ps) := ⟨(HX.out.1.alloc _).step hS2, by rw [hS2.say, List.length_append, HX.out.2.1, HS2.out]; rfl, by rw [hS2.say]; exact sub_same _ HX.out.2.2 (List.mem_of_getElem? HG.out.1)⟩; clear hS2)
              | (go_at_call 22; refine (len_x w w.heap.size b s2 _ H2.out.1.bx).mono ?_; rintro e w3 ⟨rfl, rfl⟩; rw [H2.out.2.1]))
              exact ⟨⟨k + 1, s2, ps, ins + 1, outs, by omega, by simp, by simp, by simp, H2.out.1.mono (Nat.le_succ _), by have := HI.out; have := HS2.out; rw [H2.out.2.1]; omega, by omega, H2.out.2.2⟩, by simp [intOf]; omega⟩
            · have HG : Hid (i < s.say.length ∧ s.say.length = s.n) := ⟨by rw [HX.out.2.1]; exact hi, by rw [HX.out.1.n, HX.out.2.1]; omega⟩
              clear hget
              go_wp2_with (first
              | (go_at_call 11; refine (HP.out _).mono ?_; rintro e w' ⟨rfl, rfl⟩)
              | (go_at_call 20; refine (double_fx w w.heap.size b i s _ (HX.out.1.alloc _).bx HG.out.1 HG.out.2).mono ?_; rintro e w2 ⟨rfl, hb2⟩; have H2 : Hid _ := (HX.out.1.alloc _).below hb2; clear hb2)
              | (go_at_call 22; refine (len_x w w.heap.size b s _ H2.out.bx).mono ?_; rintro e w3 ⟨rfl, rfl⟩; rw [HX.out.2.1]))
              exact ⟨⟨k + 1, s, ps, ins, outs, by omega, by simp, by simp, by simp, H2.out.mono (Nat.le_succ _), by rw [HX.out.2.1]; exact HI.out, by omega, HX.out.2.2⟩, by simp [intOf]; omega⟩
          · go_wp2_with (first
              | (go_at_call 11; refine (HP.out _).mono ?_; rintro e w' ⟨rfl, rfl⟩)
              | (go_at_call 20; refine (double_nx w w.heap.size b s _ _ (HX.out.1.alloc _).bx (by rw [HX.out.2.1]; exact hin)).mono ?_; rintro e w2 ⟨rfl, rfl⟩)
              | (go_at_call 22; refine (len_x w w.heap.size b s _ (HX.out.1.alloc _).bx).mono ?_; rintro e w3 ⟨rfl, rfl⟩; rw [HX.out.2.1]))
            exact ⟨⟨k + 1, s, ps, ins, outs, by omega, by simp, by simp, by simp, (HX.out.1.alloc _).mono (Nat.le_succ _), by rw [HX.out.2.1]; exact HI.out, by omega, HX.out.2.2⟩, by simp [intOf]; omega⟩
      · have hkl : (len : Int) ≤ k := by omega
        go_wp2_with (go_at_call 10; refine (awake_any _).mono ?_; rintro e w11 ⟨rfl, hb11⟩)
        go_ret
        exact ⟨rfl, chainB HX.out.1.bx.bel hb11⟩
  · go_enter Try.func4, Try.ntmps4
    by_cases hs : n < 1
    · have hd : decide (n < 1) = true := decide_eq_true hs
      go_wp2_with (first
        | (go_at_call 8; refine (new_no n _ (by omega)).mono ?_; rintro e w1 ⟨rfl, rfl⟩)
        | (go_at_call 10; refine (awake_any _).mono ?_; rintro e w2 ⟨rfl, hb2⟩))
      go_ret
      exact ⟨rfl, hb2⟩
    · have hd : decide (n < 1) = false := decide_eq_false hs
      have hd2 : decide (64 < n) = true := decide_eq_true (by omega)
      go_wp2_with (first
        | (go_at_call 8; refine (new_no n _ (by omega)).mono ?_; rintro e w1 ⟨rfl, rfl⟩)
        | (go_at_call 10; refine (awake_any _).mono ?_; rintro e w2 ⟨rfl, hb2⟩))
      go_ret
      exact ⟨rfl, hb2⟩
end Go.Proofs.Ytminjmlneikllaa
