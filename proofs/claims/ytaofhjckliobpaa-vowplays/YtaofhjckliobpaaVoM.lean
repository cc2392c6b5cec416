/- Grant. -/
import Derived.Test.YtaofhjckliobpaaVoK
namespace Go.Proofs.Ytaofhjckliobpaa
open Go.RowKit Go.Shelf
attribute [local go_sem high] eqK neqK guardK run_store_complex

theorem grant_app {W w2 : World} {B t L : Nat} {s : Vt} {k : Ky} {v2 V : Value} {o : Obj} (h : IsV W B t s) (hV : s.pv = V) (hL : s.ks.length = L) (hown : w2.ownsRow B 36 2 v2 (L + 1) (kc s.ks ++ k.vals)) (hgrow : (W.drew.alloc o).grownBy w2 V.ownBlock) (hat : v2.ownBlock = V.ownBlock ∨ v2.ownBlock = some (W.drew.alloc o).heap.size) (hl : L + 1 ≤ 33) :
    w2.cell? ⟨t, 1, none⟩ = some V ∧ w2.frozen? ⟨t, 1, none⟩ = false ∧ Hid (SV W (w2.setCell ⟨t, 1, none⟩ v2) B t s { s with pv := v2, ks := s.ks ++ [k] }) := by
  subst hV hL
  have hO : Only (fun q => s.pv.ownBlock = some q) W w2 :=
    ⟨hgrow.os, hgrow.tape, hgrow.output, Nat.le_trans (by simp) hgrow.size, fun k hk hn => (hgrow.block k (by simp; omega) (fun e => hn e.symm)).trans (Below.heap_alloc W.drew _ _ hk)⟩
  have e1 := (hO.block t h.tt.lt fun e => h.p_t e rfl).trans h.head
  refine ⟨by rw [cell_of e1]; rfl, free_of e1 1, h.putP hO v2 (s.ks ++ [k]) ?_ (by rw [List.length_append]; exact hl) fun q hq => ?_⟩
  · show World.ownsRow _ _ _ _ _ _ _
    rw [List.length_append, kc_app]
    have : kc [k] = k.vals := by unfold kc; simp
    rw [this]; exact hown
  · rcases hat with e | e
    · exact .inl (by rw [← e]; exact hq)
    · rw [e] at hq
      simp at hq
      exact .inr (by omega)
theorem TellR.pre {w W w' : World} {B t : Nat} {s s1 : Vt} {X : Nat → Prop} {v : Value} {r : Vs × List Bs} (hS : SV w W B t s s1) (he : part s1.a = part s.a) (h : TellR W w' B t s1 X v r) (hX : ∀ k, X k → w.heap.size ≤ k) : TellR w w' B t s (fun _ => False) v r := by
  obtain ⟨bs', s', Bq, k1, k2, k3, k4, k5, k6, k7⟩ := h
  exact ⟨bs', s', Bq, k1, k2, Nat.le_trans hS.only.size k3, k4, k5, (((hS.st X).trans k6).sv fun k hk => .inr (hX k hk)).st _, fun b hb => by rw [← he]; exact k7 b hb⟩
theorem SV.box {w w' : World} {B t g : Nat} {s s' : Vt} {k : Ky} (h : SV w w' B t s s') (hb : BoxK w g k) (hg : ¬ s.wr t g) : BoxK w' g k := (h.only.block g (Array.getElem?_eq_some_iff.1 hb).1 hg).trans hb
theorem grant_nil {w w' : World} {B t : Nat} {s s' : Vt} (h : SV w w' B t s s') (r : Vs) (hr : s'.say = r) : TellR w w' B t s (fun _ => False) (.slice none 0 0) (r, []) :=
  ⟨[], s', w'.heap.size, ⟨World.ownsRow_nil _ _ _ _, fun b hb => by cases hb⟩, fun k hk => (h.is.lt hk).2, h.only.size, rfl, hr, h.st _, fun b hb => by cases hb⟩
set_option maxHeartbeats 4000000 in
theorem grant_p (t B : Nat) (s : Vt) (k : Ky) (ver : Int) (w : World) (h : IsV w B t s) (hks : s.ks.length ≤ s.mp) (hq1 : 1 ≤ s.mq) :
    Calls Try.prog 17 #[.pointer (some ⟨t, 0, none⟩), k.agg, .int .i64 ver] w fun e w' => ∃ v', e = .returned v' ∧ TellR w w' B t s (fun _ => False) v' (s.say.grant k ver) := by
  obtain ⟨i1, hi1, hw0, hw1, hw2⟩ := info_parts Try.infoKy
  unfold Ky.agg
  obtain ⟨W0, hW0⟩ : ∃ W, w.alloc (.cells #[.int .i64 k.d, .string k.nm] 36) = W := ⟨_, rfl⟩
  obtain ⟨bx, bb⟩ := box_new (wr := w) (k := k)
  rw [hW0] at bx bb
  have hdrop := drop_p t B s k W0 (h.below bb)
  unfold Ky.agg at hdrop
  obtain ⟨b0, b1, -⟩ := bx.cells
  have H : Hid (IsV w B t s ∧ Below w.heap.size w W0 ∧ BoxK W0 w.heap.size k ∧ s.ks.length ≤ s.mp ∧ 1 ≤ s.mq) := ⟨h, bb, bx, hks, hq1⟩
  clear h bx bb hks
  go_enter Try.func17, Try.ntmps17
  go_upto_region 2 with (go_at_call 36; refine hdrop.mono ?_; rintro e w1 ⟨rfl, s1, hS1, hs1⟩)
  have hS := SV.pre H.out.2.1 H.out.1 hS1
  have hbx := hS1.box H.out.2.2.1 (fun e => by have := (H.out.1.lt (.inl e)).2; omega)
  have hk1 : s1.ks = dropK s.ks k := by have := congrArg Vs.ks hs1; exact this
  have hmp : s1.mp = s.mp := by have := congrArg Vs.mp hs1; exact this
  have hmq : s1.mq = s.mq := by have := congrArg Vs.mq hs1; exact this
  have hea : part s1.a = part s.a := by have := congrArg Vs.e hs1; exact this
  obtain ⟨pa, pc, hp⟩ := owns_len hS.is.rk
  obtain ⟨L, hL⟩ : ∃ L, s1.ks.length = L := ⟨_, rfl⟩
  rw [hL] at hp
  have hL32 : L ≤ 32 := by rw [← hL, hk1]; have := dropK_le s.ks k; have := H.out.2.2.2.1; have := H.out.1.lp; omega
  obtain ⟨-, c1, -, -, -, cf⟩ := hS.is.cells
  rw [hp] at c1
  clear b0 b1
  obtain ⟨b0, b1, -⟩ := hbx.cells
  have cf1 := cf 1
  have hlt : t < w1.heap.size := cellLt c1
  have hlw : w.heap.size < w1.heap.size := cellLt b0
  have HQ : Hid (w1.ownsRow B 36 2 (.slice pa L pc) L (kc s1.ks) ∧ B ≤ w1.heap.size) := by
    have hr : w1.ownsRow B 36 2 s1.pv s1.ks.length (kc s1.ks) := hS.is.rk
    rw [hp, hL] at hr
    exact ⟨hr, by have := hS.is.bt; omega⟩
  have HS : Hid (SV w w1 B t s s1 ∧ s1.pv = .slice pa L pc ∧ s1.ks.length = L ∧ s1.say = { s.say with ks := dropK s.ks k } ∧ part s1.a = part s.a) := ⟨hS, hp, hL, hs1, hea⟩
  have HK : Hid (s1.ks = dropK s.ks k ∧ s1.mp = s.mp ∧ s1.mq = s.mq) := ⟨hk1, hmp, hmq⟩
  clear hS hbx hk1 hmp hmq hea hp hL cf hs1 hS1 hdrop hW0
  go_region_law (refine step_append_own_at rfl (.tmp 15) (.tmp 17) 31 rfl B 36 i1 (.agg #[.int .i64 0, .string ⟨#[]⟩]) 2 24 Try.underlying31 hi1 hw0 hw1 hw2 rfl (by decide) (.slice pa L pc) L (kc s1.ks) (by simp [Act.eval]) (World.ownsRow.alloc (by exact HQ.out.1) _) ⟨w1.heap.size, 0, none⟩ 1 1 k.vals (by simp [Act.eval]) rfl (two_at _ _ _ _) (ky_one _) (by unfold maxLen; omega) (by omega) (by have := HQ.out.2; simp; omega) ?_; intro v2 w2 hown2 hgrow2 hat2; obtain ⟨d1, d3, HE⟩ := grant_app HS.out.1.is HS.out.2.1 HS.out.2.2.1 hown2 hgrow2 hat2 (by omega); obtain ⟨g2, c2, rfl⟩ := owns_form hown2; clear hown2 hgrow2 hat2)
  all_goals
    obtain ⟨W2, hW2⟩ : ∃ W2, w2.setCell ⟨t, 1, none⟩ (.slice (some ⟨g2, 0, none⟩) (L + 1) c2) = W2 := ⟨_, rfl⟩
    rw [hW2] at HE ⊢
    have h2 := HS.out.1.trans HE.out
    obtain ⟨-, x1, -, x3, -, xf⟩ := h2.is.cells
    simp only at x1 x3
    obtain ⟨mp, hmp⟩ : ∃ mp, s1.mp = mp := ⟨_, rfl⟩
    rw [hmp] at x3
    have hmp32 : mp ≤ 32 := by rw [← hmp]; exact h2.is.lp
    have HP : Hid (s1.mp = mp) := hmp
    have HT : Hid (SV w W2 B t s { s1 with pv := .slice (some ⟨g2, 0, none⟩) (L + 1) c2, ks := s1.ks ++ [k] }) := h2
    clear d1 d3 b0 b1 c1 cf1 HE h2 hW2 hmp HQ hlw hlt
    obtain ⟨N, hN⟩ : ∃ N, L + 1 = N := ⟨_, rfl⟩
    have HN : Hid (L + 1 = N) := hN
    rw [hN] at x1 HT ⊢
    have hN33 : N ≤ 33 := by omega
    clear hN
    by_cases hle : N ≤ mp
    · have hld : (N : Int) ≤ (mp : Int) := by omega
      have HF : Hid (∀ w', Below W2.heap.size W2 w' → TellR w w' B t s (fun _ => False) (.slice none 0 0) (s.say.grant k ver)) := fun w' hb => by
        have hT := HT.out.on hb
        have e : s.say.grant k ver = ({ s.say with ks := dropK s.ks k ++ [k] }, []) := by
          unfold Vs.grant
          rw [if_pos]
          · rfl
          show (dropK s.ks k ++ [k]).length ≤ s.mp
          rw [← HK.out.1, List.length_append, HS.out.2.2.1, ← HK.out.2.1, HP.out]
          have := HN.out
          simp only [List.length_singleton]; omega
        rw [e]
        refine grant_nil hT _ ?_
        have := HS.out.2.2.2.1
        show ({ s1.say with ks := s1.ks ++ [k] } : Vs) = _
        rw [this, HK.out.1]
      go_upto_region 3 with fail
      go_quiet (fail)
      go_wp2
      go_ret
      exact ⟨_, rfl, HF.out _ (below_drewN (Below.refl _ _) _)⟩
    · have hld : ¬ (N : Int) ≤ (mp : Int) := by omega
      go_upto_region 3 with fail
      go_quiet (fail)
      obtain ⟨W4, hW4⟩ : ∃ W4, W2.drewN nq = W4 := ⟨_, rfl⟩
      rw [hW4]
      have hb4 : Below W2.heap.size W2 W4 := by rw [← hW4]; exact below_drewN (Below.refl _ _) _
      have h4 := HT.out.on hb4
      have y1 := (hb4.cell (cellLt x1)).trans x1
      clear hW4 hb4 x1 x3 xf
      obtain ⟨o, l, hol⟩ : ∃ o l, s1.ks ++ [k] = o :: l := by
        cases hc : s1.ks with
        | nil => exact ⟨k, [], rfl⟩
        | cons a m => exact ⟨a, m ++ [k], rfl⟩
      have hrk : RowK W4 B (.slice (some ⟨g2, 0, none⟩) N c2) (o :: l) := by rw [← hol]; exact h4.is.rk
      obtain ⟨g', e', -, -, z0, z1, -⟩ := hrk.key (i := 0) (p := o) rfl
      cases e'
      simp only [Nat.zero_mul, Nat.zero_add] at z0 z1
      obtain ⟨W5, hW5⟩ : ∃ W, W4.alloc (.cells #[.int .i64 o.d, .string o.nm] 36) = W := ⟨_, rfl⟩
      obtain ⟨ox, ob⟩ := box_new (wr := W4) (k := o)
      rw [hW5] at ox ob
      have h5 := h4.on ob
      have hdrop2 := drop_p t B _ o W5 h5.is
      unfold Ky.agg at hdrop2
      obtain ⟨o0, o1, -⟩ := ox.cells
      have HA : Hid (SV w W5 B t s { s1 with pv := .slice (some ⟨g2, 0, none⟩) N c2, ks := s1.ks ++ [k] } ∧ BoxK W5 W4.heap.size o ∧ s1.ks ++ [k] = o :: l ∧ ∀ q, (Vt.wr { s1 with pv := .slice (some ⟨g2, 0, none⟩) N c2, ks := s1.ks ++ [k] } t q) → q < W4.heap.size) := ⟨h5, ox, hol, fun q hq => (h4.is.lt (.inl hq)).2⟩
      clear h4 h5 ox ob hol hrk
      go_upto_region 7 with (go_at_call 36; refine hdrop2.mono ?_; rintro e w6 ⟨rfl, s3, hS3, hs3⟩)
      have h6 := HA.out.1.trans hS3
      have hbx := hS3.box HA.out.2.1 (fun e => by have := HA.out.2.2.2 _ e; omega)
      clear o0 o1
      obtain ⟨o0, o1, -⟩ := hbx.cells
      obtain ⟨W7, hW7⟩ : ∃ W, w6.alloc (.cells #[.int .i64 o.d, .string o.nm] 36) = W := ⟨_, rfl⟩
      obtain ⟨nx, nb⟩ := box_new (wr := w6) (k := o)
      rw [hW7] at nx nb
      have h7 := h6.on nb
      have hks3 : s3.say = { s.say with ks := dropK (o :: l) o } := by
        rw [hs3]
        show ({ s1.say with ks := dropK (s1.ks ++ [k]) o } : Vs) = _
        rw [HS.out.2.2.2.1, HA.out.2.2.1]
      have hmq3 : s3.mq = s.mq := by have := congrArg Vs.mq hks3; exact this
      have hea3 : part s3.a = part s.a := by have := congrArg Vs.e hks3; exact this
      have hw6 : w.heap.size ≤ w6.heap.size := h6.only.size
      have hB6 : B ≤ w6.heap.size := by have := h6.is.bt; have := h6.is.tt.lt; omega
      have htell := tell_p t B s3 (some ⟨w6.heap.size, 0, none⟩) 1 1 [o] ver W7 h7.is (by rw [hmq3]; exact hq1) (owns_whole (xs := kc [o]) hB6 nx rfl (by unfold maxLen; omega)) (by simp [LK]) (fun q hq e => by
        have e1 : w6.heap.size = q := Option.some.inj hq
        have := (h6.is.rk.lt e).2
        omega)
      have HF : Hid (∀ v' w8, TellR W7 w8 B t s3 (fun q => (Value.slice (some ⟨w6.heap.size, 0, none⟩) 1 1).ownBlock = some q) v' (s3.say.tell [o] ver) → TellR w w8 B t s (fun _ => False) v' (s.say.grant k ver)) := fun v' w8 hT => by
        have hT' := hT.pre h7 hea3 (fun q hq => by have e1 : w6.heap.size = q := Option.some.inj hq; omega)
        have e : s.say.grant k ver = Vs.tell { s.say with ks := dropK (o :: l) o } [o] ver := by
          have ho : dropK s.say.ks k ++ [k] = o :: l := by rw [← HA.out.2.2.1, HK.out.1]; rfl
          unfold Vs.grant
          rw [if_neg]
          · rw [ho]
          show ¬ (dropK s.ks k ++ [k]).length ≤ s.mp
          rw [← HK.out.1, List.length_append, HS.out.2.2.1, ← HK.out.2.1, HP.out]
          have := HN.out
          simp only [List.length_singleton]; omega
        rw [e, ← hks3]; exact hT'
      clear h6 hbx nx nb h7 hks3 hmq3 hea3 hw6 hB6 hS3 hs3
      go_wp2_with (go_at_call 37; refine htell.mono ?_; rintro x w8 ⟨v', rfl, hT8⟩; have hfin := HF.out v' w8 hT8; obtain ⟨bs8, s8, Bq8, hb8, -⟩ := hT8; obtain ⟨av, cv, rfl⟩ := owns_len hb8.row; clear hb8)
      go_ret
      exact ⟨_, rfl, hfin⟩
end Go.Proofs.Ytaofhjckliobpaa
