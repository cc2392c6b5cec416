/- The chapter's own table: Grant. -/
import Derived.Test.YtaofhjckliobpaaVrE
namespace Go.Proofs.Ytaofhjckliobpaa
open Go.RowKit Go.Shelf
attribute [local go_sem high] eqK neqK guardK run_store_complex

theorem RBr.nil {w w' : World} {B t : Nat} {s s' : Vt} (h : SW w w' B t s s') (r : Vs) (hr : s'.say = r) : RBr w w' B t s (.slice none 0 0) (r, []) :=
  ⟨s', h, hr, [], ⟨⟨none, 0, rfl, .inl ⟨rfl, rfl⟩⟩, fun b hb => by cases hb⟩, rfl, fun b hb => by cases hb⟩
theorem RBr.pre {w W w' : World} {B t : Nat} {s s1 : Vt} {v : Value} {r : Vs × List Bs} (hS : SW w W B t s s1) (he : part s1.a = part s.a) (h : RBr W w' B t s1 v r) : RBr w w' B t s v r := by
  obtain ⟨s', k1, k2, k3⟩ := h
  exact ⟨s', hS.trans k1, k2, by rw [← he]; exact k3⟩
set_option maxHeartbeats 4000000 in
theorem rgrant_p (t B : Nat) (s : Vt) (k : Ky) (ver : Int) (w : World) (h : IsW w B t s) (hks : s.ks.length ≤ s.mp) (hq1 : 1 ≤ s.mq) :
    Calls Try.prog 18 #[.pointer (some ⟨t, 0, none⟩), k.agg, .int .i64 ver] w fun e w' => ∃ v', e = .returned v' ∧ RBr w w' B t s v' (s.say.grant k ver) := by
  obtain ⟨i1, hi1, hw0, hw1, hw2⟩ := info_parts Try.infoKy
  unfold Ky.agg
  obtain ⟨W0, hW0⟩ : ∃ W, w.alloc (.cells #[.int .i64 k.d, .string k.nm] 36) = W := ⟨_, rfl⟩
  obtain ⟨bx, bb⟩ := box_new (wr := w) (k := k)
  rw [hW0] at bx bb
  have hhol := rholds_p t B s k W0 (h.below bb)
  unfold Ky.agg at hhol
  obtain ⟨b0, b1, -⟩ := bx.cells
  have H : Hid (IsW w B t s ∧ Below w.heap.size w W0 ∧ BoxK W0 w.heap.size k ∧ s.ks.length ≤ s.mp ∧ 1 ≤ s.mq) := ⟨h, bb, bx, hks, hq1⟩
  obtain ⟨had, hhad⟩ : ∃ b, inK s.ks k = b := ⟨_, rfl⟩
  rw [hhad] at hhol
  have HHad : Hid (inK s.ks k = had) := hhad
  clear h bx bb hks hhad
  go_enter Try.func18, Try.ntmps18
  go_upto_region 2 with (go_at_call 15; refine hhol.mono ?_; rintro e w1 ⟨rfl, hb1⟩)
  have hwo := rwithout_p t B s k w1 (H.out.1.below (chainB H.out.2.1 hb1))
  unfold Ky.agg at hwo
  have HB1 : Hid (Below W0.heap.size W0 w1) := hb1
  have b0' := (hb1.cell (cellLt b0)).trans b0
  have b1' := (hb1.cell (cellLt b1)).trans b1
  clear hhol hb1 b0 b1 hW0
  go_upto_region 3 with (go_at_call 38; refine hwo.mono ?_; rintro e w2 ⟨rfl, s1, hS1, hs1⟩)
  have hb01 := chainB H.out.2.1 HB1.out
  have hS := SW.pre hb01 H.out.1 hS1
  have hbx := hS1.box (H.out.2.2.1.below HB1.out) (fun e => by have := (H.out.1.lt (.inl e)).2; omega)
  have hk1 : s1.ks = dropK s.ks k := by have := congrArg Vs.ks hs1; exact this
  have hmp : s1.mp = s.mp := by have := congrArg Vs.mp hs1; exact this
  have hmq : s1.mq = s.mq := by have := congrArg Vs.mq hs1; exact this
  have hea : part s1.a = part s.a := by have := congrArg Vs.e hs1; exact this
  obtain ⟨pa, pc, hp⟩ := owns_len hS.is.rk
  obtain ⟨L, hL⟩ : ∃ L, s1.ks.length = L := ⟨_, rfl⟩
  rw [hL] at hp
  have hL32 : L ≤ 32 := by rw [← hL, hk1]; have := dropK_le s.ks k; have := H.out.2.2.2.1; have := H.out.1.lp; omega
  have HLe : Hid (had = true → L + 1 ≤ s1.mp) := fun e => by
    rw [← hL, hk1, hmp]
    have := dropK_lt ((inK_iff _ _).1 (HHad.out.trans e))
    have := H.out.2.2.2.1
    omega
  obtain ⟨-, c1, -, -, -, cf⟩ := hS.is.cells
  rw [hp] at c1
  clear b0' b1'
  obtain ⟨b0, b1, -⟩ := hbx.cells
  have cf1 := cf 2
  have hlt : t < w2.heap.size := cellLt c1
  have hlw : w.heap.size < w2.heap.size := cellLt b0
  have HQ : Hid (w2.ownsRow B 36 2 (.slice pa L pc) L (kc s1.ks) ∧ B ≤ w2.heap.size) := by
    have hr : w2.ownsRow B 36 2 s1.pv s1.ks.length (kc s1.ks) := hS.is.rk
    rw [hp, hL] at hr
    exact ⟨hr, by have := hS.is.bt; omega⟩
  have HS : Hid (SW w w2 B t s s1 ∧ s1.pv = .slice pa L pc ∧ s1.ks.length = L ∧ s1.say = { s.say with ks := dropK s.ks k } ∧ part s1.a = part s.a) := ⟨hS, hp, hL, hs1, hea⟩
  have HK : Hid (s1.ks = dropK s.ks k ∧ s1.mp = s.mp ∧ s1.mq = s.mq) := ⟨hk1, hmp, hmq⟩
  clear hS hbx hk1 hmp hmq hea hp hL cf hs1 hS1 hwo hb01
  go_region_law (refine step_append_own_at rfl (.tmp 19) (.tmp 21) 31 rfl B 36 i1 (.agg #[.int .i64 0, .string ⟨#[]⟩]) 2 24 Try.underlying31 hi1 hw0 hw1 hw2 rfl (by decide) (.slice pa L pc) L (kc s1.ks) (by simp [Act.eval]) (World.ownsRow.alloc (by exact HQ.out.1) _) ⟨w2.heap.size, 0, none⟩ 1 1 k.vals (by simp [Act.eval]) rfl (two_at _ _ _ _) (ky_one _) (by unfold maxLen; omega) (by omega) (by have := HQ.out.2; simp; omega) ?_; intro v2 w3 hown2 hgrow2 hat2; obtain ⟨d1, d3, HE⟩ := rgrant_app HS.out.1.is HS.out.2.1 HS.out.2.2.1 hown2 hgrow2 hat2 (by omega); obtain ⟨g2, c2, rfl⟩ := owns_form hown2; clear hown2 hgrow2 hat2)
  all_goals
    obtain ⟨W2, hW2⟩ : ∃ W2, w3.setCell ⟨t, 2, none⟩ (.slice (some ⟨g2, 0, none⟩) (L + 1) c2) = W2 := ⟨_, rfl⟩
    rw [hW2] at HE ⊢
    have h2 := HS.out.1.trans HE.out
    obtain ⟨-, x1, -, x3, -, xf⟩ := h2.is.cells
    simp only at x1 x3
    obtain ⟨mp, hmp⟩ : ∃ mp, s1.mp = mp := ⟨_, rfl⟩
    rw [hmp] at x3
    have hmp32 : mp ≤ 32 := by rw [← hmp]; exact h2.is.lp
    have HP : Hid (s1.mp = mp) := hmp
    have HT : Hid (SW w W2 B t s { s1 with pv := .slice (some ⟨g2, 0, none⟩) (L + 1) c2, ks := s1.ks ++ [k] }) := h2
    clear d1 d3 b0 b1 c1 cf1 HE h2 hW2 hmp HQ hlw hlt
    obtain ⟨N, hN⟩ : ∃ N, L + 1 = N := ⟨_, rfl⟩
    have HN : Hid (L + 1 = N) := hN
    rw [hN] at x1 HT ⊢
    have hN33 : N ≤ 33 := by omega
    clear hN
    have HF0 : Hid (N ≤ mp → ∀ w', Below W2.heap.size W2 w' → RBr w w' B t s (.slice none 0 0) (s.say.grant k ver)) := fun hle w' hb => by
      have hT := HT.out.on hb
      have e : s.say.grant k ver = ({ s.say with ks := dropK s.ks k ++ [k] }, []) := by
        unfold Vs.grant
        rw [if_pos]
        · rfl
        show (dropK s.ks k ++ [k]).length ≤ s.mp
        rw [← HK.out.1, List.length_append, HS.out.2.2.1, ← HK.out.2.1, HP.out]
        have := HN.out
        simp only [List.length_singleton]; omega
      rw [e]
      refine RBr.nil hT _ ?_
      have := HS.out.2.2.2.1
      show ({ s1.say with ks := s1.ks ++ [k] } : Vs) = _
      rw [this, HK.out.1]
    cases had with
    | true =>
      have hle : N ≤ mp := by rw [← HN.out, ← HP.out]; exact HLe.out rfl
      go_upto_region 4 with fail
      go_quiet (fail)
      go_wp2
      go_ret
      exact ⟨_, rfl, HF0.out hle _ (below_drewN (Below.refl _ _) _)⟩
    | false =>
      by_cases hle : N ≤ mp
      · have hld : (N : Int) ≤ (mp : Int) := by omega
        go_upto_region 4 with fail
        go_quiet (fail)
        go_wp2
        go_ret
        exact ⟨_, rfl, HF0.out hle _ (below_drewN (Below.refl _ _) _)⟩
      · have hld : ¬ (N : Int) ≤ (mp : Int) := by omega
        clear HF0
        go_upto_region 4 with fail
        go_quiet (fail)
        obtain ⟨W4, hW4⟩ : ∃ W4, W2.drewN nq = W4 := ⟨_, rfl⟩
        rw [hW4]
        have hb4 : Below W2.heap.size W2 W4 := by rw [← hW4]; exact below_drewN (Below.refl _ _) _
        have h4 := HT.out.on hb4
        have y1 := (hb4.cell (cellLt x1)).trans x1
        clear hW4 hb4 x1 x3 xf
        obtain ⟨o, l, hol⟩ : ∃ o l, s1.ks ++ [k] = o :: l := by
          cases hc : s1.ks with
          | nil => exact ⟨k, [], rfl⟩
          | cons a m => exact ⟨a, m ++ [k], rfl⟩
        have hrk : RowK W4 B (.slice (some ⟨g2, 0, none⟩) N c2) (o :: l) := by rw [← hol]; exact h4.is.rk
        obtain ⟨g', e', -, -, z0, z1, -⟩ := hrk.key (i := 0) (p := o) rfl
        cases e'
        simp only [Nat.zero_mul, Nat.zero_add] at z0 z1
        obtain ⟨W5, hW5⟩ : ∃ W, W4.alloc (.cells #[.int .i64 o.d, .string o.nm] 36) = W := ⟨_, rfl⟩
        obtain ⟨ox, ob⟩ := box_new (wr := W4) (k := o)
        rw [hW5] at ox ob
        have h5 := h4.on ob
        have hdrop2 := rwithout_p t B _ o W5 h5.is
        unfold Ky.agg at hdrop2
        obtain ⟨o0, o1, -⟩ := ox.cells
        have HA : Hid (SW w W5 B t s { s1 with pv := .slice (some ⟨g2, 0, none⟩) N c2, ks := s1.ks ++ [k] } ∧ BoxK W5 W4.heap.size o ∧ s1.ks ++ [k] = o :: l ∧ ∀ q, (Vt.wr { s1 with pv := .slice (some ⟨g2, 0, none⟩) N c2, ks := s1.ks ++ [k] } t q) → q < W4.heap.size) := ⟨h5, ox, hol, fun q hq => (h4.is.lt (.inl hq)).2⟩
        clear h4 h5 ox ob hol hrk
        go_upto_region 8 with (go_at_call 38; refine hdrop2.mono ?_; rintro e w6 ⟨rfl, s3, hS3, hs3⟩)
        have h6 := HA.out.1.trans hS3
        have hbx := hS3.box HA.out.2.1 (fun e => by have := HA.out.2.2.2 _ e; omega)
        clear o0 o1
        obtain ⟨o0, o1, -⟩ := hbx.cells
        obtain ⟨W7, hW7⟩ : ∃ W, w6.alloc (.cells #[.int .i64 o.d, .string o.nm] 36) = W := ⟨_, rfl⟩
        obtain ⟨nx, nb⟩ := box_new (wr := w6) (k := o)
        rw [hW7] at nx nb
        have h7 := h6.on nb
        have hks3 : s3.say = { s.say with ks := dropK (o :: l) o } := by
          rw [hs3]
          show ({ s1.say with ks := dropK (s1.ks ++ [k]) o } : Vs) = _
          rw [HS.out.2.2.2.1, HA.out.2.2.1]
        have hmq3 : s3.mq = s.mq := by have := congrArg Vs.mq hks3; exact this
        have hea3 : part s3.a = part s.a := by have := congrArg Vs.e hks3; exact this
        have hB6 : B ≤ w6.heap.size := by have := h6.is.bt; have := h6.is.tt.lt; omega
        have htell := rbroken_p t B s3 (.slice (some ⟨w6.heap.size, 0, none⟩) 1 1) [o] ver W7 h7.is (by rw [hmq3]; exact hq1) B (owns_whole (xs := kc [o]) hB6 nx rfl (by unfold maxLen; omega)) (by simp [LK])
        have HF : Hid (∀ v' w8, RBr W7 w8 B t s3 v' (s3.say.tell (srtK [o]) ver) → RBr w w8 B t s v' (s.say.grant k ver)) := fun v' w8 hT => by
          have hT' := hT.pre h7 hea3
          have e : s.say.grant k ver = Vs.tell { s.say with ks := dropK (o :: l) o } [o] ver := by
            have ho : dropK s.say.ks k ++ [k] = o :: l := by rw [← HA.out.2.2.1, HK.out.1]; rfl
            unfold Vs.grant
            rw [if_neg]
            · rw [ho]
            show ¬ (dropK s.ks k ++ [k]).length ≤ s.mp
            rw [← HK.out.1, List.length_append, HS.out.2.2.1, ← HK.out.2.1, HP.out]
            have := HN.out
            simp only [List.length_singleton]; omega
          rw [e, ← hks3]; exact hT'
        clear h6 hbx nx nb h7 hks3 hmq3 hea3 hB6 hS3 hs3
        go_wp2_with (go_at_call 39; refine htell.mono ?_; rintro x w8 ⟨v', rfl, hT8⟩; have hfin := HF.out v' w8 hT8; obtain ⟨s8, -, -, hb8⟩ := hT8; obtain ⟨av, cv, rfl⟩ := hb8.form; clear hb8)
        go_ret
        exact ⟨_, rfl, hfin⟩
end Go.Proofs.Ytaofhjckliobpaa
