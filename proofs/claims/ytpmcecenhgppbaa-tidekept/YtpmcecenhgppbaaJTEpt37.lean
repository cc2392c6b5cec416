/- The document's tide: Take of what counts, walked. -/
import Derived.Test.YtpmcecenhgppbaaJTEpt36
import Derived.Deep.CutRange
import Derived.Deep.CutBlock
namespace Go.Proofs.Ytpmcecenhgppbaa
section
open Go.RowKit Go.Shelf
attribute [local go_sem ↓ high] loadMsg storeMsg buildMsg storeAct loadAct buildAct
attribute [local go_sem high] run_store_complex eqC

theorem TdS.on {w w' W : World} {B t : Nat} {s s1 : Dt} {x : Hm} {vA : Value} {l : List Am} (h : TdS w w' B t s s1 x vA l) (hb : Below w'.heap.size w' W) : TdS w W B t s s1 x vA l := ⟨h.st.on hb, hkeep h.box hb, h.ls.below hb, h.mkk, h.acts.below hb, h.said, h.due, h.pot, h.few⟩
def heldD (w : World) (t : Nat) : Nat := match w.cell? ⟨t, 7, none⟩ with
  | some (.slice _ n _) => n
  | _ => 0
theorem heldD_of {w : World} {B t : Nat} {s : Dt} (h : IsD w B t s) : heldD w t = s.hs.length := by
  obtain ⟨a, cap, hv⟩ := owns_len h.held
  have c7 := h.cells.2.2.2.2.2.2.2.1
  rw [hv] at c7
  unfold heldD
  rw [c7]
attribute [irreducible] heldD
set_option maxRecDepth 100000 in
set_option maxHeartbeats 16000000 in
theorem take_yesD (t B : Nat) (s : Dt) (x : Hm) (w : World) (h : IsD w B t s) (hL : Lists w 0 x) (hd : s.say.due = none) (hf : (s.fs.length + s.hs.length + 1) * 56 ≤ 140737488351232) (hc : s.say.counts x.m = true) : Calls Try.prog 14 #[.pointer (some ⟨t, 0, none⟩), .agg x.arr] w fun e w' => TakeRD w B t s x.m e w' := by
  obtain ⟨W1, hW1⟩ : ∃ W1, w.alloc (.cells x.arr 45) = W1 := ⟨_, rfl⟩
  have b1 := boxB hW1
  have i1 := h.below b1.2
  have hL1 := hL.below b1.2
  have hgood : goodB x.m.re x.m.im = true := (counts_of hc).2.1
  have hmk := good_mk hgood
  have HH : Hid (IsD w B t s ∧ Below w.heap.size w W1 ∧ W1.heap[w.heap.size]? = some (.cells x.arr 45 (0, 0)) ∧ Lists W1 0 x ∧ Mk x.m.re x.m.im x.m.ep x.m.num ∧ s.say.counts x.m = true ∧ s.say.due = none ∧ (s.fs.length + s.hs.length + 1) * 56 ≤ 140737488351232) := ⟨h, b1.2, b1.1, hL1, hmk, hc, hd, hf⟩
  obtain ⟨g1, hg1⟩ : ∃ g, w.heap.size = g := ⟨_, rfl⟩
  rw [hg1] at b1
  obtain ⟨d0, d1, -, d3, -, -, -, -, -, -⟩ := i1.cells
  have m0 : W1.cell? ⟨g1, 0, none⟩ = some (.int .i64 x.m.kind) := cell_of b1.1 0
  have m1 : W1.cell? ⟨g1, 1, none⟩ = some (.int .i64 x.m.client) := cell_of b1.1 1
  have m2 : W1.cell? ⟨g1, 2, none⟩ = some (.int .i64 x.m.life) := cell_of b1.1 2
  have m4 : W1.cell? ⟨g1, 4, none⟩ = some (.complex .f64 x.m.re x.m.im) := cell_of b1.1 4
  have HP : Calls Try.prog 34 #[.complex .f64 x.m.re x.m.im] W1 fun e w' => e = .returned (.tuple #[.int .i64 x.m.ep, .int .i64 x.m.num, .bool true]) ∧ W1 = w' := (parts_any x.m.re x.m.im W1).mono fun e w' hq => by
    obtain ⟨rfl, rfl⟩ := hq
    rw [if_pos hgood, if_pos hgood, hgood]
    exact ⟨rfl, rfl⟩
  have hcc : (2 ≤ x.m.kind ∧ x.m.kind ≤ 4) ∧ x.m.client = s.client ∧ x.m.life = s.life ∧ s.e ≤ x.m.ep := by
    have := hc
    unfold Ts.counts at this
    simp only [Bool.and_eq_true, decide_eq_true_eq] at this
    exact ⟨this.1, this.2.1, this.2.2.1, this.2.2.2.2⟩
  obtain ⟨ep, hep⟩ : ∃ y, x.m.ep = y := ⟨_, rfl⟩
  obtain ⟨nu, hnu⟩ : ∃ y, x.m.num = y := ⟨_, rfl⟩
  obtain ⟨kd, hkd⟩ : ∃ y, x.m.kind = y := ⟨_, rfl⟩
  obtain ⟨cl, hcl⟩ : ∃ y, x.m.client = y := ⟨_, rfl⟩
  obtain ⟨lf, hlf⟩ : ∃ y, x.m.life = y := ⟨_, rfl⟩
  obtain ⟨sc, hsc⟩ : ∃ y, s.client = y := ⟨_, rfl⟩
  obtain ⟨sl, hsl⟩ : ∃ y, s.life = y := ⟨_, rfl⟩
  obtain ⟨se, hse⟩ : ∃ y, s.e = y := ⟨_, rfl⟩
  rw [hep, hnu] at HP
  rw [hkd, hcl, hlf, hsc, hsl, hse, hep] at hcc
  rw [hkd] at m0
  rw [hcl] at m1
  rw [hlf] at m2
  rw [hsc] at d0
  rw [hsl] at d1
  rw [hse] at d3
  have HV : Hid (x.m.ep = ep ∧ x.m.num = nu ∧ x.m.kind = kd ∧ s.e = se ∧ 2 ≤ kd ∧ kd ≤ 4 ∧ w.heap.size = g1) := ⟨hep, hnu, hkd, hse, hcc.1.1, hcc.1.2, hg1⟩
  have HP2 : Hid (Calls Try.prog 34 #[.complex .f64 x.m.re x.m.im] W1 fun e w' => e = .returned (.tuple #[.int .i64 ep, .int .i64 nu, .bool true]) ∧ W1 = w') := HP
  obtain ⟨X, hX⟩ : ∃ X, x.arr = X := ⟨_, rfl⟩
  have HX : Hid (x.arr = X) := hX
  rw [hX] at hW1
  rw [hX]
  obtain ⟨⟨k1, k2⟩, k3, k4, k6⟩ := hcc
  have k1' : ¬ kd < 2 := by omega
  have k2' : ¬ kd > 4 := by omega
  have k3b : (cl != sc) = false := by simp [k3]
  have k4b : (lf != sl) = false := by simp [k4]
  have k6' : ¬ ep < se := by omega
  clear h hL hL1 hmk hgood hc hd hf b1 i1 hX hep hnu hkd hcl hlf hsc hsl hse HP k1 k2 k3 k4 k6
  go_enter Try.func14, Try.ntmps14
  go_upto_region 2 with (go_at_call 34; refine HP2.out.mono ?_; rintro e w' ⟨rfl, rfl⟩)
  go_quiet (fail)
  obtain ⟨V, hV⟩ : ∃ V, W1.drewN nq = V := ⟨_, rfl⟩
  have HB : Hid (Below W1.heap.size W1 V) := by rw [← hV]; exact below_drewN (Below.refl _ _) _
  rw [hV]
  clear d0 d1 d3 m0 m1 m2 m4 hW1 hV
  have iV := HH.out.1.below (chainB HH.out.2.1 HB.out)
  have v3 : V.cell? ⟨t, 3, none⟩ = some (.int .i64 se) := by rw [iV.cells.2.2.2.1, HV.out.2.2.2.1]
  go_upto_if 61 with fail
  go_cut [8] from 56 to 78 (fun s8 wx => ∃ vA, s8 = vA ∧ Hid (∃ s1 l, TdS w wx B t s s1 x vA l))
  case first =>
    by_cases hlt : ep > se
    · have hd0 := iV.head
      have hd1 := heap_set hd0 3 (.int .i64 ep)
      have hd2 := heap_set hd1 4 (.int .i64 0)
      have hd3 := heap_set hd2 7 (.slice none 0 0)
      have hd4 := heap_set hd3 8 (.slice none 0 0)
      obtain ⟨V1, hV1⟩ : ∃ V1, V.setCell ⟨t, 3, none⟩ (.int .i64 ep) = V1 := ⟨_, rfl⟩
      rw [hV1] at hd1 hd2 hd3 hd4
      obtain ⟨V2, hV2⟩ : ∃ V2, V1.setCell ⟨t, 4, none⟩ (.int .i64 0) = V2 := ⟨_, rfl⟩
      rw [hV2] at hd2 hd3 hd4
      obtain ⟨V3, hV3⟩ : ∃ V3, V2.setCell ⟨t, 7, none⟩ (.slice none 0 0) = V3 := ⟨_, rfl⟩
      rw [hV3] at hd3 hd4
      obtain ⟨V4, hV4⟩ : ∃ V4, V3.setCell ⟨t, 8, none⟩ (.slice none 0 0) = V4 := ⟨_, rfl⟩
      rw [hV4] at hd4
      have f0 := free_of hd0 3
      have f1 := free_of hd1 4
      have f2 := free_of hd2 7
      have f3 := free_of hd3 8
      have c1 : V1.cell? ⟨t, 4, none⟩ = some (.int .i64 s.n) := cell_of hd1 4
      have c2 : V2.cell? ⟨t, 7, none⟩ = some s.hv := cell_of hd2 7
      have c3 : V3.cell? ⟨t, 8, none⟩ = some s.fv := cell_of hd3 8
      have ao := actOne_of #[.bool true, .bool false, .bool false, .bool false, .slice none 0 0, .int .i64 0, .slice none 0 0] rfl V4
      have hsz : w.heap.size ≤ V4.heap.size := by
        have o4 : V.heap.size = V4.heap.size := by rw [← hV4, ← hV3, ← hV2, ← hV1]; simp
        rw [← o4]; exact (chainB HH.out.2.1 HB.out).size
      have hone := acts_one (plain_l V4 w.heap.size allA rfl rfl) hsz
      obtain ⟨v3, W3, happ, hac, hon, -⟩ := acts_append (Acts.nil (V4.alloc (.cells (plainAm allA rfl rfl).arr 59)) w.heap.size) hone (by have := (below_alloc V4 (.cells (plainAm allA rfl rfl).arr 59)).size; omega) (by simp)
      have HE : Hid (TdS w W3 B t s { s with e := x.m.ep, n := 0, hv := .slice none 0 0, hs := [], fv := .slice none 0 0, fs := [] } x v3 ([] ++ [plainAm allA rfl rfl])) := by
        have hb := chainB HH.out.2.1 HB.out
        refine td_new HH.out.1 hb (hkeep HH.out.2.2.1 HB.out) (HH.out.2.2.2.1.below HB.out) HH.out.2.2.2.2.1 HH.out.2.2.2.2.2.1 (by rw [HV.out.1, HV.out.2.2.2.1]; exact hlt) ?_ ?_ hac hon
        · rw [hd4, HV.out.1]; rfl
        · rw [← hV4, ← hV3, ← hV2, ← hV1]; exact (((only1 _ t _ _).trans (only1 _ t _ _)).trans (only1 _ t _ _)).trans (only1 _ t _ _)
      have happ2 : ∀ ty, (Builtin.append_ #[41, 41] ty #[.slice none 0 0, .slice (some ⟨V4.heap.size, 0, none⟩) 1 1]).run Try.prog (V4.alloc (.cells #[.bool true, .bool false, .bool false, .bool false, .slice none 0 0, .int .i64 0, .slice none 0 0] 59)) = .ok v3 W3 := happ
      clear happ hac hon hone hsz hd0 hd1 hd2 hd3 hd4 iV
      go_wp2_with (at_builtin; refine wpList_append_run rfl (.tmp 75) (.tmp 77) 41 rfl _ _ v3 W3 rfl rfl happ2 ?_)
      go_meet
      exact ⟨v3, rfl, _, _, HE.out⟩
    · clear iV
      go_wp2_with fail
      go_meet
      exact ⟨_, rfl, s, [], td_same HH.out.1 (chainB HH.out.2.1 HB.out) (hkeep HH.out.2.2.1 HB.out) (HH.out.2.2.2.1.below HB.out) HH.out.2.2.2.2.1 HH.out.2.2.2.2.2.1 (by have := HV.out.1; have := HV.out.2.2.2.1; omega) HH.out.2.2.2.2.2.2.1⟩
  case rest =>
    obtain ⟨vA, hvA, hC⟩ := hcut
    subst hvA
    obtain ⟨s1, l, hT⟩ := hC.out
    have HTw : Hid (∀ W, Below wc.heap.size wc W → TdS w W B t s s1 x u8 l) := fun W hW => hT.on hW
    have i1 := hT.st.is
    obtain ⟨-, -, -, -, d4, -, d6, -, -, -⟩ := i1.cells
    have m0 : wc.cell? ⟨g1, 0, none⟩ = some (.int .i64 kd) := by rw [← HV.out.2.2.2.2.2.2, cell_of hT.box 0, ← HV.out.2.2.1]; rfl
    have m3 : wc.cell? ⟨g1, 3, none⟩ = some (.int .i64 x.m.seq) := by rw [← HV.out.2.2.2.2.2.2]; exact cell_of hT.box 3
    have ml : ∀ q, (msgLd (.pointer (some ⟨g1, 0, none⟩))).run Try.prog (wc.drewN q) = .ok (.agg X) (wc.drewN q) := fun q => by
      rw [← HV.out.2.2.2.2.2.2, ← HX.out]
      exact msgLd_of (hkeep hT.box (below_drewN (Below.refl _ _) q)) x.size
    obtain ⟨zq, hzq⟩ : ∃ y, x.m.seq = y := ⟨_, rfl⟩
    obtain ⟨sq, hsq⟩ : ∃ y, s1.seq = y := ⟨_, rfl⟩
    obtain ⟨n1, hn1⟩ : ∃ y, s1.n = y := ⟨_, rfl⟩
    rw [hzq] at m3
    rw [hsq] at d6
    rw [hn1] at d4
    have q0 : 0 ≤ sq := by rw [← hsq]; exact i1.ask0
    have n0 : 0 ≤ n1 := by rw [← hn1]; exact i1.n0
    have nb : n1 ≤ 1099511627776 := by rw [← hn1]; exact i1.n1
    have hnn : IntKind.i64.wrap (n1 + 1) = n1 + 1 := IntWalk.i64_in _ (by omega)
    have HS : Hid (x.m.seq = zq ∧ s1.seq = sq ∧ s1.n = n1 ∧ 0 ≤ s1.seq) := ⟨hzq, hsq, hn1, i1.ask0⟩
    have hk1 : s1.fs.length + 1 ≤ s.fs.length + s.hs.length + 1 := Nat.succ_le_succ (Nat.le_trans (Nat.le_add_right _ _) hT.pot)
    have hk2 : (s1.fs.length + 1) * 56 ≤ 140737488351232 := Nat.le_trans (Nat.mul_le_mul_right 56 hk1) HH.out.2.2.2.2.2.2.2
    have HK1 : Hid (s1.fs.length * 56 ≤ 140737488351232 ∧ (s1.fs.length + 1) * 56 ≤ 140737488351232) := ⟨Nat.le_trans (Nat.mul_le_mul_right 56 (Nat.le_succ _)) hk2, hk2⟩
    clear hk1 hk2
    have HUse : Hid (∀ W, Below wc.heap.size wc W → Calls Try.prog 35 #[.pointer (some ⟨t, 0, none⟩), .agg X, .int .i64 nu] W fun e w' => UseR W B t s1 x.m e w') := fun W hW => by
      rw [← HX.out, ← HV.out.2.1]
      exact use_d t B s1 x W (HTw.out W hW).st.is (HTw.out W hW).ls HK1.out.1
    have HApp : Hid (∀ W, Below wc.heap.size wc W → Calls Try.prog 37 #[.pointer (some ⟨t, 0, none⟩), .agg X, .int .i64 nu] W fun e w' => ApR W B t s1 x.m e w') := fun W hW => by
      rw [← HX.out, ← HV.out.2.1]
      exact apply_d t B s1 x W (HTw.out W hW).st.is (HTw.out W hW).ls (HTw.out W hW).mkk HK1.out.2
    have HHold : Hid (∀ W, Below wc.heap.size wc W → Good s1.e x.m → Calls Try.prog 36 #[.pointer (some ⟨t, 0, none⟩), .agg X] W fun e w' => HoR W B t s1 x.m e w') := fun W hW hG => by
      rw [← HX.out]
      exact hold_d t B s1 x W (HTw.out W hW).st.is (HTw.out W hW).ls hG
    have HMk : Hid (Mk x.m.re x.m.im s1.e x.m.num) := hT.mkk
    clear hC k1' k2' k3b k4b k6' v3 iV hT i1 hzq hsq hn1
    by_cases hR : (kd = 2 ∧ (sq = 0 ∨ zq ≠ sq)) ∨ (kd ≠ 2 ∧ nu ≤ n1)
    · have HM0 : Hid (s1.say.meet x.m = (s1.say, [])) := by
        rcases hR with ⟨h1, h2⟩ | ⟨h1, h2⟩
        · exact dmeet_a (by rw [HV.out.2.2.1]; exact h1) HS.out.2.2.2 (by rw [HS.out.1, HS.out.2.1]; exact h2)
        · exact dmeet_d (by rw [HV.out.2.2.1]; exact h1) (by rw [HV.out.2.1, HS.out.2.2.1]; exact h2)
      rcases hR with ⟨rfl, h2⟩ | ⟨h1, h2⟩
      · by_cases hs0 : sq = 0
        · have hs0b : (sq == 0) = true := beq_iff_eq.2 hs0
          clear h2 hs0
          go_upto_region 12 with fail
          go_quiet (fail)
          go_wp2
          go_ret
          exact td_ret (HTw.out _ (Below.refl _ _)) HM0.out (below_drewN (Below.refl _ _) _)
        · have hs0b : (sq == 0) = false := beq_eq_false_iff_ne.2 hs0
          have hseb : (zq != sq) = true := by
            rw [bne_iff_ne]
            rcases h2 with h2 | h2
            · exact absurd h2 hs0
            · exact h2
          clear h2 hs0
          go_upto_region 12 with fail
          go_quiet (fail)
          go_wp2
          go_ret
          exact td_ret (HTw.out _ (Below.refl _ _)) HM0.out (below_drewN (Below.refl _ _) _)
      · have hkb : (kd == 2) = false := beq_eq_false_iff_ne.2 h1
        clear h1
        go_upto_region 12 with fail
        go_quiet (fail)
        go_wp2
        go_ret
        exact td_ret (HTw.out _ (Below.refl _ _)) HM0.out (below_drewN (Below.refl _ _) _)
    · go_upto_block 0 with fail
      go_cut [8] from 79 to 154 (fun s8 wx => ∃ vA, s8 = vA ∧ Hid (∃ s2 l, TdM w wx B t s s2 x.m vA l))
      case first =>
        by_cases hk2 : kd = 2
        · have hs0 : sq ≠ 0 := fun h => hR (.inl ⟨hk2, .inl h⟩)
          have hse : zq = sq := Classical.byContradiction fun h => hR (.inl ⟨hk2, .inr h⟩)
          have hs0b : (sq == 0) = false := beq_eq_false_iff_ne.2 hs0
          have hseb : (zq != sq) = false := by simp [hse]
          have HM0 : Hid (s1.say.meet x.m = if x.m.num ≤ s1.n then (s1.say.used x.m, [s1.say.usedA x.m]) else (s1.say.holds x.m, [])) := dmeet_b (by rw [HV.out.2.2.1]; exact hk2) HS.out.2.2.2 (by rw [HS.out.2.1]; exact hs0) (by rw [HS.out.1, HS.out.2.1]; exact hse)
          by_cases hq : nu ≤ n1
          · have HM1 : Hid (s1.say.meet x.m = (s1.say.used x.m, [s1.say.usedA x.m])) := by
              have := HM0.out
              rw [if_pos (by rw [HV.out.2.1, HS.out.2.2.1]; exact hq)] at this; exact this
            clear hR hs0 hse
            subst hk2
            go_upto_region 12 with fail
            go_quiet (fail)
            have mln := ml nq
            clear ml
            go_wp2_with (first
              | (at_builtin; refine wpList_append_run rfl (.tmp 115) (.tmp 119) 41 rfl _ _ v3 W3 rfl rfl hr ?_)
              | (go_at_call 35; refine (HUse.out _ (below_drewN (Below.refl _ _) _)).mono ?_; rintro e w2 ⟨v, l2, rfl, hA, hl, s2, hS, hsay, -, -⟩; obtain ⟨v3, W3, hr, hM⟩ := td_meet (HTw.out _ (below_drewN (Below.refl _ _) _)) hS hA (by rw [HM1.out]; exact hl) (by rw [HM1.out]; exact hsay); have H3 : Hid (TdM w W3 B t s s2 x.m v3 (l ++ l2)) := hM; clear hA hl hS hsay hM))
            go_meet
            exact ⟨v3, rfl, s2, _, H3.out⟩
          · have HM1 : Hid (s1.say.meet x.m = (s1.say.holds x.m, [])) := by
              have := HM0.out
              rw [if_neg (by rw [HV.out.2.1, HS.out.2.2.1]; exact hq)] at this; exact this
            have HG : Hid (Good s1.e x.m) := ⟨HMk.out, .inl (by rw [HV.out.2.2.1]; exact hk2), fun _ => by rw [HS.out.1]; omega⟩
            clear hR hs0 hse
            subst hk2
            go_upto_region 12 with fail
            go_quiet (fail)
            have mln := ml nq
            clear ml
            go_wp2_with (go_at_call 36; refine (HHold.out _ (below_drewN (Below.refl _ _) _) HG.out).mono ?_; rintro e w2 ⟨rfl, s2, hS, hsay, -, -⟩; have H3 : Hid (TdM w w2 B t s s2 x.m u8 l) := td_hold (HTw.out _ (below_drewN (Below.refl _ _) _)) hS (by rw [HM1.out, hsay]); clear hS hsay)
            go_meet
            exact ⟨u8, rfl, s2, _, H3.out⟩
        · have hkb : (kd == 2) = false := beq_eq_false_iff_ne.2 hk2
          have hq : ¬ nu ≤ n1 := fun h => hR (.inr ⟨hk2, h⟩)
          have HM0 : Hid (s1.say.meet x.m = if x.m.kind = 4 ∨ x.m.num = s1.n + 1 then (s1.say.apply x.m, [actOf x.m]) else (s1.say.holds x.m, [])) := dmeet_e (by rw [HV.out.2.2.1]; exact hk2) (by rw [HV.out.2.1, HS.out.2.2.1]; exact hq) (by rw [HV.out.2.2.1]; exact ⟨HV.out.2.2.2.2.1, HV.out.2.2.2.2.2.1⟩)
          by_cases hk4 : kd = 4
          · have hk4b : (kd == 4) = true := beq_iff_eq.2 hk4
            have HM1 : Hid (s1.say.meet x.m = (s1.say.apply x.m, [actOf x.m])) := by
              have := HM0.out
              rw [if_pos (.inl (by rw [HV.out.2.2.1]; exact hk4))] at this; exact this
            clear hR hk2 hk4
            go_upto_region 12 with fail
            go_quiet (fail)
            have mln := ml nq
            clear ml
            go_wp2_with (first
              | (at_builtin; refine wpList_append_run rfl (.tmp 149) (.tmp 153) 41 rfl _ _ v3 W3 rfl rfl hr ?_)
              | (go_at_call 37; refine (HApp.out _ (below_drewN (Below.refl _ _) _)).mono ?_; rintro e w2 ⟨v, l2, rfl, hA, hl, s2, hS, hsay, -, -⟩; obtain ⟨v3, W3, hr, hM⟩ := td_meet (HTw.out _ (below_drewN (Below.refl _ _) _)) hS hA (by rw [HM1.out]; exact hl) (by rw [HM1.out]; exact hsay); have H3 : Hid (TdM w W3 B t s s2 x.m v3 (l ++ l2)) := hM; clear hA hl hS hsay hM))
            go_meet
            exact ⟨v3, rfl, s2, _, H3.out⟩
          · have hk4b : (kd == 4) = false := beq_eq_false_iff_ne.2 hk4
            by_cases hnx : nu = n1 + 1
            · have hnxb : (nu == n1 + 1) = true := beq_iff_eq.2 hnx
              have HM1 : Hid (s1.say.meet x.m = (s1.say.apply x.m, [actOf x.m])) := by
                have := HM0.out
                rw [if_pos (.inr (by rw [HV.out.2.1, HS.out.2.2.1]; exact hnx))] at this; exact this
              clear hR hk2 hk4 hnx
              go_upto_region 12 with fail
              go_quiet (fail)
              have mln := ml nq
              clear ml
              go_wp2_with (first
                | (at_builtin; refine wpList_append_run rfl (.tmp 149) (.tmp 153) 41 rfl _ _ v3 W3 rfl rfl hr ?_)
                | (go_at_call 37; refine (HApp.out _ (below_drewN (Below.refl _ _) _)).mono ?_; rintro e w2 ⟨v, l2, rfl, hA, hl, s2, hS, hsay, -, -⟩; obtain ⟨v3, W3, hr, hM⟩ := td_meet (HTw.out _ (below_drewN (Below.refl _ _) _)) hS hA (by rw [HM1.out]; exact hl) (by rw [HM1.out]; exact hsay); have H3 : Hid (TdM w W3 B t s s2 x.m v3 (l ++ l2)) := hM; clear hA hl hS hsay hM))
              go_meet
              exact ⟨v3, rfl, s2, _, H3.out⟩
            · have hnxb : (nu == n1 + 1) = false := beq_eq_false_iff_ne.2 hnx
              have HM1 : Hid (s1.say.meet x.m = (s1.say.holds x.m, [])) := by
                have := HM0.out
                rw [if_neg (by rw [HV.out.2.1, HS.out.2.2.1, HV.out.2.2.1]; omega)] at this; exact this
              have HG : Hid (Good s1.e x.m) := ⟨HMk.out, .inr (by rw [HV.out.2.2.1]; have := HV.out.2.2.2.2; omega), fun h => by rw [HV.out.2.2.1] at h; omega⟩
              clear hR hk2 hk4 hnx
              go_upto_region 12 with fail
              go_quiet (fail)
              have mln := ml nq
              clear ml
              go_wp2_with (go_at_call 36; refine (HHold.out _ (below_drewN (Below.refl _ _) _) HG.out).mono ?_; rintro e w2 ⟨rfl, s2, hS, hsay, -, -⟩; have H3 : Hid (TdM w w2 B t s s2 x.m u8 l) := td_hold (HTw.out _ (below_drewN (Below.refl _ _) _)) hS (by rw [HM1.out, hsay]); clear hS hsay)
              go_meet
              exact ⟨u8, rfl, s2, _, H3.out⟩
      case rest =>
        clear d4 d6 m0 m3 ml hR hnn
        go_wp2
        go_loopw [8] (fun s8 wr => ∃ vA, s8 = vA ∧ Hid (∃ s2 l, TdM w wr B t s s2 x.m vA l)) (fun _ wr => heldD wr t)
        case atStart => exact hcut
        case round =>
          obtain ⟨vA, hvA, hC⟩ := hrel
          have hvB := hvA.symm
          subst hvB
          obtain ⟨s2, l2, hM⟩ := hC.out
          have HM : Hid (TdM w wr B t s s2 x.m vA l2) := hM
          have htr := tried_d t B s2 wr hM.st.is (Nat.le_trans (Nat.mul_le_mul_right 56 hM.pot) HH.out.2.2.2.2.2.2.2)
          cases hd2 : s2.say.due with
          | none =>
            have HD2 : Hid (s2.say.due = none) := hd2
            have HTr : Hid (Calls Try.prog 38 #[.pointer (some ⟨t, 0, none⟩)] wr fun e w' => e = .returned (.tuple #[.slice none 0 0, .bool false]) ∧ Below wr.heap.size wr w') := htr.mono fun e w' hq => by
              rcases hq with ⟨-, he, hb⟩ | ⟨i, z, v, l, hz, hd, -⟩
              · exact ⟨he, hb⟩
              · rw [hd2] at hd; cases hd
            clear htr hC hM hd2
            go_wp2_with (go_at_call 38; refine HTr.out.mono ?_; rintro e w4 ⟨rfl, hb4⟩; have H4 : Hid (Below wr.heap.size wr w4) := hb4; clear hb4)
            go_ret
            exact td_done HM.out HD2.out H4.out
          | some i2 =>
            have HTr : Hid (Calls Try.prog 38 #[.pointer (some ⟨t, 0, none⟩)] wr fun e w' => ∃ v, e = .returned (.tuple #[v, .bool true]) ∧ ∃ v3 W3 s3 l4, (∀ ty, (Builtin.append_ #[41, 41] ty #[vA, v]).run Try.prog w' = .ok v3 W3) ∧ TdM w W3 B t s s3 x.m v3 l4 ∧ s3.hs.length < s2.hs.length) := htr.mono fun e w' hq => by
              rcases hq with ⟨hd, -⟩ | ⟨i, z, v, l, hz, hd, he, hA, hc, s3, hS, hsay⟩
              · rw [hd2] at hd; cases hd
              · obtain ⟨v3, W3, hr, hM3, hlt3⟩ := td_next hM hz hd hS hA hc hsay
                exact ⟨v, he, v3, W3, s3, _, hr, hM3, hlt3⟩
            clear htr hC hM hd2
            go_wp2_with (first
              | (at_builtin; refine wpList_append_run rfl (.tmp 163) (.tmp 164) 41 rfl _ _ v3 W3 rfl rfl hr ?_)
              | (go_at_call 38; refine HTr.out.mono ?_; rintro e w4 ⟨v, rfl, v3, W3, s3, l4, hr, hM3, hlt3⟩; have H4 : Hid (TdM w W3 B t s s3 x.m v3 l4 ∧ s3.hs.length < s2.hs.length) := ⟨hM3, hlt3⟩; clear hM3 hlt3))
            exact ⟨⟨v3, rfl, s3, l4, H4.out.1⟩, by rw [heldD_of H4.out.1.st.is, heldD_of HM.out.st.is]; exact H4.out.2⟩
theorem take_d (t B : Nat) (s : Dt) (x : Hm) (w : World) (h : IsD w B t s) (hL : Lists w 0 x) (hd : s.say.due = none) (hf : (s.fs.length + s.hs.length + 1) * 56 ≤ 140737488351232) : Calls Try.prog 14 #[.pointer (some ⟨t, 0, none⟩), .agg x.arr] w fun e w' => TakeRD w B t s x.m e w' := by
  cases hc : s.say.counts x.m with
  | true => exact take_yesD t B s x w h hL hd hf hc
  | false =>
    refine (take_noD t B s x w h hc).mono ?_
    rintro e w' ⟨rfl, hb⟩
    have ht : s.say.take x.m = (s.say, []) := by
      unfold Ts.take
      rw [hc]; rfl
    exact ⟨_, [], rfl, Acts.nil _ _, by rw [ht]; rfl, s, SD.stay h hb, by rw [ht]⟩
end
end Go.Proofs.Ytpmcecenhgppbaa
