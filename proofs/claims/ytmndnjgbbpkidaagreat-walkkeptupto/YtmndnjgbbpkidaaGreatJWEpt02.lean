/- WalkKept. -/
import Derived.Test.YtmndnjgbbpkidaaGreatJWEpt01
namespace Go.Proofs.YtmndnjgbbpkidaaGreat
section
open Go.RowKit
attribute [local go_sem ↓ high] loadEn storeEn storeOu loadOu builden
attribute [local go_sem high] neqE guardE

set_option maxRecDepth 100000 in
set_option maxHeartbeats 16000000 in
theorem walk_WalkKept (a : Option Addr) (cap : Nat) (ops : List DOp) (v : Value) (es : List En) (aT : Option Addr) (steps : List ByteArray) (capT : Nat) (links : Int) (w : World) (row : RowD w a ops) (hlen : ops.length ≤ 1048576) (_ : ∀ x ∈ ops, x.ks.length ≤ 1048576) (hes : ArgE w v es) (hes2 : es.length ≤ 1048576) (rowT : RowS w aT steps) (hT : steps.length ≤ capT ∧ steps.length ≤ 1048576) (_ : (Lit.int .i64 links).wf = true) :
    Calls Tryz.prog 5 #[.slice a ops.length cap, v, .slice aT steps.length capT, .int .i64 links] w fun x w' => x = .returned (.bool true) ∧ Below w.heap.size w w' := by
  obtain ⟨n, hn⟩ : ∃ n, ops.length = n := ⟨_, rfl⟩
  have hnb : n < 1290000000000 := by omega
  obtain ⟨S, hS⟩ : ∃ S, runS ops = S := ⟨_, rfl⟩
  have HOf : Hid (Calls Tryz.prog 6 #[.slice a n cap] w fun x w2 => ∃ p q, x = .returned (.tuple #[.pointer (some ⟨p, 0, none⟩), .pointer (some ⟨q, 0, none⟩), .bool true]) ∧ Tw w w2 p q S S n (fun _ => False)) := by
    rw [← hn, ← hS]
    exact of_p a cap ops w row (by omega)
  obtain ⟨av, cv, rfl, -, -⟩ := id hes
  obtain ⟨ne, hne⟩ : ∃ n, es.length = n := ⟨_, rfl⟩
  rw [hne] at hes hes2
  have HE : Hid (∀ W, Below w.heap.size w W → ArgE W (.slice av ne cv) es) := fun W hb => hes.below hb
  have HCe : Hid (∀ W, Below w.heap.size w W → Calls Tryz.prog 8 #[.slice av ne cv] W fun e w' => ∃ a2 c2, e = .returned (.slice a2 ne c2) ∧ Row7 w' W.heap.size (.slice a2 ne c2) es ∧ Below W.heap.size W w') := fun W hb => by
    refine (copyE_any _ es W (hes.below hb)).mono ?_
    rintro x w' ⟨v', rfl, hr, hb'⟩
    obtain ⟨a2, c2, rfl⟩ := owns_len hr
    rw [hne] at hr ⊢
    exact ⟨a2, c2, rfl, hr, hb'⟩
  obtain ⟨nT, hnT⟩ : ∃ n, steps.length = n := ⟨_, rfl⟩
  have hnT2 : nT ≤ 1048576 := by omega
  have HT : Hid (∀ W, Below w.heap.size w W → RowS W aT steps) := fun W hb => rowT.below hb
  have HCt : Hid (∀ W, Below w.heap.size w W → Calls Tryz.prog 14 #[.slice aT nT capT] W fun e w' => ∃ a2 c2, e = .returned (.slice a2 nT c2) ∧ Own w' W.heap.size (.slice a2 nT c2) steps ∧ Below W.heap.size W w') := fun W hb => copyT_row aT nT capT steps W (rowT.below hb) hnT (by omega)
  obtain ⟨O, hO⟩ : ∃ O, stepsO (knF (firstsL es) S) steps false true links = O := ⟨_, rfl⟩
  obtain ⟨lo, hlo⟩ : ∃ l, O.used.length = l := ⟨_, rfl⟩
  have hlob : lo ≤ 1100000 := by have := stepsO_len (knF (firstsL es) S) steps false true links; rw [hO] at this; omega
  have HO : Hid (stepsO (knF (firstsL es) S) steps false true links = O ∧ O.used.length = lo ∧ es.length = ne ∧ steps.length = nT) := ⟨hO, hlo, hne, hnT⟩
  have HA : Hid (∀ w, Calls Tryz.prog 12 #[] w fun x w' => x = .returned (.bool true) ∧ Below w.heap.size w w') := awake14_p
  have bx := box9
  have onee := enOne_of
  rw [hn, hne, hnT]
  clear row hlen hS hn hne hes hO hlo rowT hT hnT
  go_enter Tryz.func5, Tryz.ntmps5
  go_wp2_with (first
    | (go_at_call 14; refine (HCt.out _ (chainB H1.out.below H2.out.2)).mono ?_; rintro r w3 ⟨a3, c3, rfl, hr, hb⟩; have H3 : Hid (Kl w1 w3 (.slice a2 ne c2) (.slice a3 nT c3) (es ++ List.replicate 0 padE) (steps ++ List.replicate 0 markB)) := (by rw [List.replicate_zero, List.append_nil, List.replicate_zero, List.append_nil]; exact ⟨chainB H2.out.2 hb, owns_below H2.out.1 hb, Own.le hr H2.out.2.size, fun b h1 h2 => by have := (World.ownsRow.lt H2.out.1 b h1).2; have := (World.ownsRow.lt hr b h2).1; omega⟩); clear hr hb)
    | (go_at_call 8; refine (HCe.out _ H1.out.below).mono ?_; rintro r w2 ⟨a2, c2, rfl, hr, hb⟩; have H2 : Hid (Row7 w2 w1.heap.size (.slice a2 ne c2) es ∧ Below w1.heap.size w1 w2) := ⟨hr, hb⟩; clear hr hb)
    | (go_at_call 6; refine HOf.out.mono ?_; rintro r w1 ⟨p, q, rfl, hl⟩; have H1 : Hid (Tw w w1 p q S S n (fun _ => False)) := hl; clear hl))
  clear H2 HCt HCe HOf
  go_loopw [12, 13, 14] (fun s12 s13 s14 wr => ∃ i : Nat, i ≤ 70 ∧ s14 = .int .i64 i ∧ ∃ ae Ne ce, s12 = .slice ae Ne ce ∧ ∃ sx Ns cs, s13 = .slice sx Ns cs ∧ Hid (Kl w1 wr (.slice ae Ne ce) (.slice sx Ns cs) (es ++ List.replicate i padE) (steps ++ List.replicate i markB))) (fun _ _ s14 _ => 70 - (intOf s14).toNat)
  case atStart => exact ⟨0, by omega, rfl, _, _, _, rfl, _, _, _, rfl, H3⟩
  case round =>
    clear H3
    obtain ⟨i, hi, rfl, ae, Ne, ce, rfl, sx, Ns, cs, rfl, HJ⟩ := hrel
    by_cases hlt : i < 70
    · have hltz : (i : Int) < 70 := by omega
      obtain ⟨a6, N6, c6, Z6, r6, hK6⟩ := HJ.out.pushE padE (by rw [List.length_append, List.length_replicate, HO.out.2.2.1]; omega)
      obtain ⟨a7, N7, c7, Z7, r7, hK7⟩ := hK6.pushT markB (by rw [List.length_append, List.length_replicate, HO.out.2.2.2]; omega)
      have r6' : ∀ ty, (Builtin.append_ #[23, 23] ty #[.slice ae Ne ce, .slice (some ⟨wr.heap.size, 0, none⟩) 1 1]).run Tryz.prog (wr.alloc (.cells padE.vals.toArray 52)) = .ok (.slice a6 N6 c6) Z6 := r6
      have on6 : (enOne #[(0, .agg #[.int .i64 (-3), .string ⟨#[]⟩, .bool false, .int .i64 0, .int .i64 0, .int .i64 0, .string ⟨#[]⟩])]).run Tryz.prog wr = .ok (.slice (some ⟨wr.heap.size, 0, none⟩) 1 1) (wr.alloc (.cells padE.vals.toArray 52)) := onee padE wr
      have r7' : ∀ ty, (Builtin.append_ #[46, 46] ty #[.slice sx Ns cs, .slice (some ⟨Z6.heap.size, 0, none⟩) 1 1]).run Tryz.prog (Z6.alloc (.cells #[.string ⟨#[109, 97, 114, 107]⟩] 9)) = .ok (.slice a7 N7 c7) Z7 := r7
      have H6 : Hid (Kl w1 Z7 (.slice a6 N6 c6) (.slice a7 N7 c7) (es ++ List.replicate (i + 1) padE) (steps ++ List.replicate (i + 1) markB)) := by
        show Kl _ _ _ _ _ _
        rw [List.replicate_succ', List.replicate_succ', ← List.append_assoc, ← List.append_assoc]; exact hK7
      clear HJ r6 r7 hK6 hK7
      go_wp2_with (first
        | (at_builtin; refine wpList_apR rfl (.tmp 35) (.tmp 38) 23 rfl _ _ (.slice a6 N6 c6) Z6 (by simp [Act.eval]) (by simp [Act.eval]) r6' ?_)
        | (at_builtin; refine wpList_apR rfl (.tmp 40) (.tmp 41) 46 rfl _ _ (.slice a7 N7 c7) Z7 (by simp [Act.eval]) (by simp [Act.eval]) r7' ?_))
      go_roundw
      case rel => exact ⟨i + 1, by omega, rfl, _, _, _, rfl, _, _, _, rfl, H6⟩
      case measure => simp [intOf]; omega
    · obtain rfl : i = 70 := by omega
      obtain ⟨wA, hwA⟩ : ∃ W, W = wr := ⟨_, rfl⟩
      subst hwA
      obtain ⟨P, hP⟩ : ∃ P, List.replicate 70 padE = P := ⟨_, rfl⟩
      obtain ⟨M, hM⟩ : ∃ M, List.replicate 70 markB = M := ⟨_, rfl⟩
      have HPM : Hid ((∀ i, i < 70 → P[i]? = some padE) ∧ (∀ i, i < 70 → M[i]? = some markB) ∧ P.length = 70 ∧ M.length = 70) := ⟨fun i hi => by rw [← hP, List.getElem?_replicate_of_lt hi], fun i hi => by rw [← hM, List.getElem?_replicate_of_lt hi], by rw [← hP, List.length_replicate], by rw [← hM, List.length_replicate]⟩
      rw [hP, hM] at HJ
      obtain ⟨hN1, hc1, ge, rfl⟩ := row7_form HJ.out.re (by rw [List.length_append, HPM.out.2.2.1]; omega)
      obtain ⟨hN2, hc2, gs, rfl⟩ := own_form HJ.out.rt (by rw [List.length_append, HPM.out.2.2.2]; omega)
      rw [List.length_append, HO.out.2.2.1, HPM.out.2.2.1] at hN1
      rw [List.length_append, HO.out.2.2.2, HPM.out.2.2.2] at hN2
      have HN : Hid (Ne = ne + 70 ∧ Ns = nT + 70) := ⟨hN1, hN2⟩
      have he1 : (ne : Int) ≤ (ce : Int) := by omega
      have hs1 : (nT : Int) ≤ (cs : Int) := by omega
      have HSt : Hid (∀ X, Below wA.heap.size wA X → Calls Tryz.prog 13 #[.pointer (some ⟨p, 0, none⟩), .slice (some ⟨ge, 0, none⟩) ne ce, .slice (some ⟨gs, 0, none⟩) nT cs, .bool false, .bool true, .int .i64 links] X fun r w' => ∃ a c, r = .returned (ouAgg O (.slice a lo c)) ∧ RowK w' X.heap.size (.slice a lo c) O.used ∧ Below X.heap.size X w') := fun X hb => by
        have hk := HJ.out.on hb
        obtain ⟨c, i1, i2, -, -⟩ := (H1.out.on' hk.below).ld.ex
        have hr2 := RdE.pre (rdE_row hk.re (by rw [List.length_append, HO.out.2.2.1, HPM.out.2.2.1]; omega))
        rw [HO.out.2.2.1] at hr2
        obtain ⟨a', c', ea, hrow⟩ := Own.row hk.rt
        have ea1 : some ⟨gs, 0, none⟩ = a' := by injection ea
        subst ea1
        have hg := (World.ownsRow.lt hk.rt gs rfl).2
        refine (steps_p p c S _ es (some ⟨gs, 0, none⟩) nT cs steps false true links X i1 i2 hr2 (RowS.pre hrow) HO.out.2.2.2 (by omega) (by omega) (fun b o eb => by cases eb; exact hg)).mono ?_
        rintro r w' ⟨uv, rfl, hr, hb'⟩
        rw [HO.out.1] at hr ⊢
        obtain ⟨a, c, rfl⟩ := owns_len hr
        rw [HO.out.2.1] at hr ⊢
        exact ⟨a, c, rfl, hr, hb'⟩
      clear hP hM hN1 hN2 hc1 hc2 hlt hi onee
      go_upto_region 11 with fail
      go_cut [15] from 43 to 53 (fun x wx => ∃ g a c, x = .pointer (some ⟨g, 0, none⟩) ∧ Hid (Bo wA wx g a lo c O))
      case first =>
        go_region_held3 (fun W => True) (exact trivial)
          (first | (go_at_call 13; first
            | ((with_reducible refine (HSt.out wA.drew (below_drewN (Below.refl _ _) 1)).mono ?_); rintro r w6 ⟨a6, c6, rfl, hr, hb⟩; have H6 : Hid (∃ g, w6.heap.size = g ∧ Bo wA (w6.alloc (.cells (ouVals O (.slice a6 lo c6)).toArray 35)) g a6 lo c6 O) := ⟨_, rfl, bo_new (chainB (below_drewN (Below.refl _ _) 1) hb) hr (Nat.le_refl _)⟩; clear hr hb)
            | ((with_reducible refine (HSt.out (wA.alloc (.cells #[.bool false, .int .i64 0, .string ⟨#[]⟩, .int .i64 0, .int .i64 0, .int .i64 0, .int .i64 0, .string ⟨#[]⟩, .slice none 0 0] 35)).drew (below_drewN (below_alloc _ _) 1)).mono ?_); rintro r w6 ⟨a6, c6, rfl, hr, hb⟩; have ho6 : w6.heap[wA.heap.size]? = some (.cells #[.bool false, .int .i64 0, .string ⟨#[]⟩, .int .i64 0, .int .i64 0, .int .i64 0, .int .i64 0, .string ⟨#[]⟩, .slice none 0 0] 35 (0, 0)) := hkeep (W := (wA.alloc (.cells #[.bool false, .int .i64 0, .string ⟨#[]⟩, .int .i64 0, .int .i64 0, .int .i64 0, .int .i64 0, .string ⟨#[]⟩, .slice none 0 0] 35)).drew) (heap_new wA (.cells #[.bool false, .int .i64 0, .string ⟨#[]⟩, .int .i64 0, .int .i64 0, .int .i64 0, .int .i64 0, .string ⟨#[]⟩, .slice none 0 0] 35)) hb; obtain ⟨X6, hX6⟩ : ∃ X, w6.setRow wA.heap.size (ouVals O (.slice a6 lo c6)).toArray = X := ⟨_, rfl⟩; have hst6 := ouSt_of (o := O) (a := a6) (n := lo) (c := c6) ho6 rfl hX6; have H6 : Hid (∃ g, wA.heap.size = g ∧ Bo wA X6 g a6 lo c6 O) := ⟨_, rfl, (by rw [← hX6]; exact bo_old (chainB (below_drewN (below_alloc _ _) 1) hb) hr (heap_lt_alloc wA (.cells #[.bool false, .int .i64 0, .string ⟨#[]⟩, .int .i64 0, .int .i64 0, .int .i64 0, .int .i64 0, .string ⟨#[]⟩, .slice none 0 0] 35)) (Nat.le_refl _) ho6)⟩; clear hr hb hX6 ho6)))
        all_goals (
          go_wp2
          go_meet
          obtain ⟨g, hg, hB⟩ := H6.out
          exact ⟨_, _, _, by rw [hg], hB⟩)
      case rest =>
        obtain ⟨g1, a1, c1, rfl, HB1⟩ := hcut
        obtain ⟨wC, hwC⟩ : ∃ W, W = wc := ⟨_, rfl⟩
        subst hwC
        have HK1 : Hid (Kl w1 wC (.slice (some ⟨ge, 0, none⟩) Ne ce) (.slice (some ⟨gs, 0, none⟩) Ns cs) (es ++ P) (steps ++ M)) := HJ.out.on HB1.out.bel
        have hB0 : Below wC.heap.size wC wC := Below.refl _ _
        go_wp2
        go_loopw [16] (fun s16 wk => ∃ i : Nat, i ≤ 70 ∧ s16 = .int .i64 i ∧ Hid (Below wC.heap.size wC wk)) (fun s16 _ => 70 - (intOf s16).toNat)
        case atStart => exact ⟨0, by omega, rfl, hB0⟩
        case round =>
          clear hB0
          obtain ⟨i, hi, rfl, HW⟩ := hrel
          by_cases hlt : i < 70
          · have hltz : (i : Int) < 70 := by omega
            have hK := HK1.out.on HW.out
            have hie : (es ++ P)[ne + i]? = some padE := by
              rw [List.getElem?_append_right (by rw [HO.out.2.2.1]; omega), HO.out.2.2.1, show ne + i - ne = i by omega]; exact HPM.out.1 i hlt
            have his : (steps ++ M)[nT + i]? = some markB := by
              rw [List.getElem?_append_right (by rw [HO.out.2.2.2]; omega), HO.out.2.2.2, show nT + i - nT = i by omega]; exact HPM.out.2.1 i hlt
            obtain ⟨m1, hm1⟩ : ∃ m, ne + i = m := ⟨_, rfl⟩
            obtain ⟨m2, hm2⟩ : ∃ m, nT + i = m := ⟨_, rfl⟩
            rw [hm1] at hie
            rw [hm2] at his
            have hwe : IntKind.i64.wrap ((ne : Int) + (i : Int)) = (m1 : Int) := by rw [show (ne : Int) + (i : Int) = (m1 : Int) by omega]; exact IntWalk.i64_in _ (by omega)
            have hws : IntKind.i64.wrap ((nT : Int) + (i : Int)) = (m2 : Int) := by rw [show (nT : Int) + (i : Int) = (m2 : Int) by omega]; exact IntWalk.i64_in _ (by omega)
            have hw1 : IntKind.i64.wrap ((i : Int) + 1) = ((i + 1 : Nat) : Int) := by
              rw [show ((i + 1 : Nat) : Int) = (i : Int) + 1 by omega]; exact IntWalk.i64_in _ (by omega)
            have hl1 : (m1 : Int) < (Ne : Int) := by have := HN.out.1; omega
            have hl2 : (m2 : Int) < (Ns : Int) := by have := HN.out.2; omega
            have hp1 : (0 : Int) ≤ (m1 : Int) := by omega
            have hp2 : (0 : Int) ≤ (m2 : Int) := by omega
            obtain ⟨g', hg', -, -, -, hce, -⟩ := owns_entry hK.re hie
            cases hg'
            have lE : (enLd (.pointer (some ⟨ge, m1 * 7, none⟩))).run Tryz.prog wr = .ok (.agg #[.int .i64 (-3), .string ⟨#[]⟩, .bool false, .int .i64 0, .int .i64 0, .int .i64 0, .string ⟨#[]⟩]) wr := enLd_at hce
            have lS : wr.cell? ⟨gs, m2, none⟩ = some (.string ⟨#[109, 97, 114, 107]⟩) := by
              obtain ⟨a', c', ea, hrow⟩ := Own.row hK.rt
              have ea1 : some ⟨gs, 0, none⟩ = a' := by injection ea
              subst ea1
              rcases hrow with h0 | ⟨b, off, eb, -, hc⟩
              · rw [h0] at his; simp at his
              · cases eb
                have := hc m2 _ his
                rw [Nat.zero_add] at this
                exact this
            have heq : eqEn ⟨-3, ⟨#[]⟩, false, 0, 0, 0, ⟨#[]⟩⟩ ⟨-3, ⟨#[]⟩, false, 0, 0, 0, ⟨#[]⟩⟩ = true := (eqEn_iff _ _).2 rfl
            clear hK hie his hm1 hm2 hce
            go_wp2
            go_roundw
            case rel => exact ⟨i + 1, by omega, rfl, HW⟩
            case measure => simp [intOf]; omega
          · obtain rfl : i = 70 := by omega
            have HKr : Hid (Kl w1 wr (.slice (some ⟨ge, 0, none⟩) Ne ce) (.slice (some ⟨gs, 0, none⟩) Ns cs) (es ++ P) (steps ++ M) ∧ Below w.heap.size w wr) := ⟨HK1.out.on HW.out, chainB H1.out.below (HK1.out.on HW.out).below⟩
            have HSE : Hid (Calls Tryz.prog 16 #[.slice (some ⟨ge, 0, none⟩) ne ce, .slice av ne cv] wr fun r w' => r = .returned (.bool true) ∧ Below wr.heap.size wr w') := by
              have hr2 := RdE.pre (rdE_row HKr.out.1.re (by rw [List.length_append, HO.out.2.2.1, HPM.out.2.2.1]; omega))
              rw [HO.out.2.2.1] at hr2
              exact sameE_rd _ _ es wr hr2 (rdE_arg (HE.out _ HKr.out.2))
            have HSS : Hid (∀ W, Below wr.heap.size wr W → Calls Tryz.prog 17 #[.slice (some ⟨gs, 0, none⟩) nT cs, .slice aT nT capT] W fun r w' => r = .returned (.bool true) ∧ Below W.heap.size W w') := fun W hb => by
              obtain ⟨a', c', ea, hrow⟩ := Own.row (HKr.out.1.on hb).rt
              have ea1 : some ⟨gs, 0, none⟩ = a' := by injection ea
              subst ea1
              have := same_any (some ⟨gs, 0, none⟩) aT steps cs capT W (RowS.pre hrow) (HT.out _ (chainB HKr.out.2 hb)) (by rw [HO.out.2.2.2]; omega)
              rw [HO.out.2.2.2] at this
              exact this
            go_upto_region 19 with (first
                    | (go_at_call 17; refine (HSS.out _ H4.out).mono ?_; rintro r w5 ⟨rfl, hb⟩; have H5 : Hid (Below wr.heap.size wr w5) := chainB H4.out hb; clear hb)
                    | (go_at_call 16; refine HSE.out.mono ?_; rintro r w4 ⟨rfl, hb⟩; have H4 : Hid (Below wr.heap.size wr w4) := hb; clear hb))
            have HB5 : Hid (Below wC.heap.size wC w5) := chainB HW.out H5.out
            have HSu : Hid (∀ X, Below w5.heap.size w5 X → Calls Tryz.prog 13 #[.pointer (some ⟨p, 0, none⟩), .slice (some ⟨ge, 0, none⟩) ne ce, .slice (some ⟨gs, 0, none⟩) nT cs, .bool false, .bool true, .int .i64 links] X fun r w' => ∃ a c, r = .returned (ouAgg O (.slice a lo c)) ∧ RowK w' X.heap.size (.slice a lo c) O.used ∧ Below X.heap.size X w') := fun X hb => HSt.out X (chainB HB1.out.bel (chainB HB5.out hb))
            clear HW HKr HSE HSS H4 H5 hlt hi
            go_cut [17] from 94 to 104 (fun x wx => ∃ g a c, x = .pointer (some ⟨g, 0, none⟩) ∧ Hid (Bo w5 wx g a lo c O))
            case first =>
              go_region_held3 (fun W => True) (exact trivial)
                (first | (go_at_call 13; first
                  | ((with_reducible refine (HSu.out w5.drew (below_drewN (Below.refl _ _) 1)).mono ?_); rintro r w6 ⟨a6, c6, rfl, hr, hb⟩; have H6 : Hid (∃ g, w6.heap.size = g ∧ Bo w5 (w6.alloc (.cells (ouVals O (.slice a6 lo c6)).toArray 35)) g a6 lo c6 O) := ⟨_, rfl, bo_new (chainB (below_drewN (Below.refl _ _) 1) hb) hr (Nat.le_refl _)⟩; clear hr hb)
                  | ((with_reducible refine (HSu.out (w5.alloc (.cells #[.bool false, .int .i64 0, .string ⟨#[]⟩, .int .i64 0, .int .i64 0, .int .i64 0, .int .i64 0, .string ⟨#[]⟩, .slice none 0 0] 35)).drew (below_drewN (below_alloc _ _) 1)).mono ?_); rintro r w6 ⟨a6, c6, rfl, hr, hb⟩; have ho6 : w6.heap[w5.heap.size]? = some (.cells #[.bool false, .int .i64 0, .string ⟨#[]⟩, .int .i64 0, .int .i64 0, .int .i64 0, .int .i64 0, .string ⟨#[]⟩, .slice none 0 0] 35 (0, 0)) := hkeep (W := (w5.alloc (.cells #[.bool false, .int .i64 0, .string ⟨#[]⟩, .int .i64 0, .int .i64 0, .int .i64 0, .int .i64 0, .string ⟨#[]⟩, .slice none 0 0] 35)).drew) (heap_new w5 (.cells #[.bool false, .int .i64 0, .string ⟨#[]⟩, .int .i64 0, .int .i64 0, .int .i64 0, .int .i64 0, .string ⟨#[]⟩, .slice none 0 0] 35)) hb; obtain ⟨X6, hX6⟩ : ∃ X, w6.setRow w5.heap.size (ouVals O (.slice a6 lo c6)).toArray = X := ⟨_, rfl⟩; have hst6 := ouSt_of (o := O) (a := a6) (n := lo) (c := c6) ho6 rfl hX6; have H6 : Hid (∃ g, w5.heap.size = g ∧ Bo w5 X6 g a6 lo c6 O) := ⟨_, rfl, (by rw [← hX6]; exact bo_old (chainB (below_drewN (below_alloc _ _) 1) hb) hr (heap_lt_alloc w5 (.cells #[.bool false, .int .i64 0, .string ⟨#[]⟩, .int .i64 0, .int .i64 0, .int .i64 0, .int .i64 0, .string ⟨#[]⟩, .slice none 0 0] 35)) (Nat.le_refl _) ho6)⟩; clear hr hb hX6 ho6)))
              all_goals (
                go_wp2
                go_meet
                obtain ⟨g, hg, hB⟩ := H6.out
                exact ⟨_, _, _, by rw [hg], hB⟩)
            case rest =>
              obtain ⟨g2, a2', c2', rfl, HB2⟩ := hcut
              obtain ⟨wD, hwD⟩ : ∃ W, W = wc := ⟨_, rfl⟩
              subst hwD
              have hBD : Below wC.heap.size wC wD := chainB HB5.out HB2.out.bel
              have HBo : Hid (Bo wA wD g1 a1 lo c1 O) := HB1.out.on hBD
              have HKD : Hid (Below w1.heap.size w1 wA ∧ Below w1.heap.size w1 wD) := ⟨HJ.out.below, chainB HK1.out.below hBD⟩
              have HAp : Hid (g1 < w5.heap.size ∧ (∀ b, (Value.slice a1 lo c1).ownBlock = some b → b < w5.heap.size)) := ⟨Nat.lt_of_lt_of_le (Array.getElem?_eq_some_iff.1 HB1.out.box).1 HB5.out.size, fun b hb => Nat.lt_of_lt_of_le (World.ownsRow.lt HB1.out.row b hb).2 HB5.out.size⟩
              have HL0 : Hid (Only (fun b => (Value.slice a1 lo c1).ownBlock = some b) wD wD ∧ ∃ M', M'.length = lo ∧ RowK wD wA.heap.size (.slice a1 lo c1) M') := ⟨Only.refl _ _, O.used, HO.out.2.1, HBo.out.row⟩
              clear HB1 HK1 HJ HSu HB5 hBD HSt he1 hs1
              go_wp2
              go_loopw [18] (fun s18 wk => ∃ i : Nat, i ≤ lo ∧ s18 = .int .i64 i ∧ Hid (Only (fun b => (Value.slice a1 lo c1).ownBlock = some b) wD wk ∧ ∃ M', M'.length = lo ∧ RowK wk wA.heap.size (.slice a1 lo c1) M')) (fun s18 _ => lo - (intOf s18).toNat)
              case atStart => exact ⟨0, Nat.zero_le _, rfl, HL0.out⟩
              case round =>
                clear HL0
                obtain ⟨i, hi, rfl, HW⟩ := hrel
                have hbx : wr.heap[g1]? = some (.cells (ouVals O (.slice a1 lo c1)).toArray 35 (0, 0)) := (HW.out.1.block g1 (Array.getElem?_eq_some_iff.1 HBo.out.box).1 HBo.out.ne).trans HBo.out.box
                have z8 := (ouCells hbx).2.2.2.2.2
                clear hbx
                by_cases hlt : i < lo
                · have hltz : (i : Int) < (lo : Int) := by omega
                  have hw1 : IntKind.i64.wrap ((i : Int) + 1) = ((i + 1 : Nat) : Int) := by
                    rw [show ((i + 1 : Nat) : Int) = (i : Int) + 1 by omega]; exact IntWalk.i64_in _ (by omega)
                  obtain ⟨hO, M', hM', hrow⟩ := HW.out
                  obtain ⟨k, hk⟩ : ∃ k, M'[i]? = some k := ⟨_, List.getElem?_eq_getElem (by rw [hM']; exact hlt)⟩
                  obtain ⟨g, hg, -, -, k0, k1, hfz⟩ := hrow.key hk
                  subst hg
                  have hrow' : Hid (Only (fun b => (Value.slice (some ⟨g, 0, none⟩) lo c1).ownBlock = some b) wD (put2 wr g (i * 2) ⟨12, ⟨#[]⟩⟩) ∧ ∃ M', M'.length = lo ∧ RowK (put2 wr g (i * 2) ⟨12, ⟨#[]⟩⟩) wA.heap.size (.slice (some ⟨g, 0, none⟩) lo c1) M') := by
                    refine ⟨hO.trans ((put2_only _ _ _ _).mono fun b hb => by subst hb; rfl), M'.set i ⟨12, ⟨#[]⟩⟩, by rw [List.length_set]; exact hM', ?_⟩
                    unfold RowK at hrow ⊢
                    rw [List.length_set, hM']
                    rw [hM'] at hrow
                    exact put2_row hrow hk
                  unfold put2 at hrow'
                  simp only at hrow'
                  clear hk hrow hM' hO HW
                  go_wp2
                  exact ⟨⟨i + 1, by omega, by simp, hrow'⟩, by simp [intOf]; omega⟩
                · obtain rfl : i = lo := by omega
                  have hltz : ¬ (i : Int) < (i : Int) := by omega
                  have HTw : Hid (Tw w wr p q S S n (fun _ => False)) := by
                    have h1 := (H1.out.on HKD.out.2).mono (G := fun b => (Value.slice a1 i c1).ownBlock = some b) (fun b hb => .inr ⟨Nat.le_trans HKD.out.1.size (World.ownsRow.lt HBo.out.row b hb).1, (World.ownsRow.lt HBo.out.row b hb).2⟩) (Nat.le_refl _)
                    exact (h1.own HW.out.1 fun b hb => Nat.le_trans H1.out.below.size (Nat.le_trans HKD.out.1.size (World.ownsRow.lt HBo.out.row b hb).1)).mono (fun b hb => hb.elim) (Nat.le_refl _)
                  have HBx : Hid (wr.heap[g2]? = some (.cells (ouVals O (.slice a2' i c2')).toArray 35 (0, 0)) ∧ RowK wr w5.heap.size (.slice a2' i c2') O.used) := ⟨(HW.out.1.block g2 (Array.getElem?_eq_some_iff.1 HB2.out.box).1 (fun e => by have := HAp.out.2 _ e; have := HB2.out.hg; omega)).trans HB2.out.box, owns_moved HB2.out.row fun b hb => HW.out.1.block b (World.ownsRow.lt HB2.out.row b hb).2 fun e => by have := HAp.out.2 _ e; have := (World.ownsRow.lt HB2.out.row b hb).1; omega⟩
                  have HRs : Hid (∀ W, Below wr.heap.size wr W → Calls Tryz.prog 15 #[.agg #[.pointer (some ⟨q, 0, none⟩), .slice av ne cv, .pointer none], .slice aT nT capT, .bool false, .bool true, .int .i64 links] W fun r w' => ∃ a c, r = .returned (ouAgg O (.slice a i c)) ∧ RowK w' W.heap.size (.slice a i c) O.used ∧ Below W.heap.size W w') := fun W hb => by
                    refine (tw_rsteps (HTw.out.on' hb) (by omega) (rdE_arg (HE.out _ (chainB HTw.out.below hb))) (cT := capT) (HT.out _ (chainB HTw.out.below hb)) HO.out.2.2.2 (by omega) false true links HO.out.1).mono ?_
                    rintro r w' ⟨uv, rfl, hr, hb'⟩
                    obtain ⟨a, c, rfl⟩ := owns_len hr
                    rw [HO.out.2.1] at hr ⊢
                    exact ⟨a, c, rfl, hr, hb'⟩
                  have HSo : Hid (∀ W a c B, Below wr.heap.size wr W → RowK W B (.slice a i c) O.used → Calls Tryz.prog 10 #[ouAgg O (.slice a2' i c2'), ouAgg O (.slice a i c)] W fun r w' => r = .returned (.bool true) ∧ Below W.heap.size W w') := fun W a c B hb hr => sameOut_yes O _ _ _ _ W (HBx.out.2.below hb) hr (by rw [HO.out.2.1]; omega)
                  have HLk : Hid (∀ W, Below wr.heap.size wr W → Calls Tryz.prog 11 #[.pointer (some ⟨p, 0, none⟩), .pointer (some ⟨q, 0, none⟩), .slice none 0 0] W fun r w' => r = .returned (.bool true) ∧ Below W.heap.size W w') := fun W hb => like_p w W p q S n _ (HTw.out.on' hb) (by omega) _ [] (like_nil _) (by simp)
                  have HBw : Hid (∀ W, Below wr.heap.size wr W → Below w.heap.size w W) := fun W hb => chainB HTw.out.below hb
                  have HS : Hid (∀ W, Below wr.heap.size wr W → (ouLd (.pointer (some ⟨g2, 0, none⟩))).run Tryz.prog W = .ok (ouAgg O (.slice a2' i c2')) W) := fun W hb => ouLd_of (hkeep HBx.out.1 hb)
                  have hD := below_drewN (Below.refl wr.heap.size wr) 1
                  have HD0 : Hid (Below wr.heap.size wr wr.drew) := hD
                  have k0 := HS.out wr.drew hD
                  go_upto_region 24 with fail
                  clear hD z8 hlt hltz HW HBo HB2 HKD HAp
                  go_region_held3 (fun W => (ouLd (.pointer (some ⟨g2, 0, none⟩))).run Tryz.prog W = .ok (ouAgg O (.slice a2' i c2')) W)
                    (with_reducible first | exact k0 | exact k6 | exact k7 | exact k8 | exact k9)
                    (first
                      | (go_at_call 12; refine (HA.out _).mono ?_; rintro r w9 ⟨rfl, hb⟩; have k9 := HS.out w9 (chainB HD8.out hb); have HZ : Hid (Below w.heap.size w w9) := HBw.out _ (chainB HD8.out hb); clear hb)
                      | (go_at_call 11; refine (HLk.out _ HD7.out).mono ?_; rintro r w8 ⟨rfl, hb⟩; have HD8 : Hid (Below wr.heap.size wr w8) := chainB HD7.out hb; have k8 := HS.out w8 HD8.out; clear hb)
                      | (go_at_call 10; refine (HSo.out _ _ _ _ HD6.out.1 HD6.out.2).mono ?_; rintro r w7 ⟨rfl, hb⟩; have HD7 : Hid (Below wr.heap.size wr w7) := chainB HD6.out.1 hb; have k7 := HS.out w7 HD7.out; clear hb)
                      | (go_at_call 15; refine (HRs.out _ HD0.out).mono ?_; rintro r w6 ⟨a6, c6, rfl, hr, hb⟩; have HD6 : Hid (Below wr.heap.size wr w6 ∧ RowK w6 wr.drew.heap.size (.slice a6 i c6) O.used) := ⟨chainB HD0.out hb, hr⟩; have k6 := HS.out w6 HD6.out.1; clear hb hr))
                  all_goals (
                    go_wp2
                    go_ret
                    exact ⟨rfl, HZ.out⟩)
end
end Go.Proofs.YtmndnjgbbpkidaaGreat
