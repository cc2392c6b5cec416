/- tell: a break made, where the queue is full. -/
import Derived.Test.YtaofhjckliobpaaVoJ
namespace Go.Proofs.Ytaofhjckliobpaa
open Go.RowKit Go.Shelf
attribute [local go_sem high] eqK neqK guardK run_store_complex

/-- behind the stores of a full queue -/
theorem full_mid {w W3 W4 : World} {B t : Nat} {s : Vt} {c d : Nat} {ver : Int} {va : Option Addr} {vn vc : Nat} {ks : List Ky} (h1 : SV w W3 B t s { s with a := c, b := d }) (hbx : BoxB W3 w.heap.size ⟨c, d, ver, false, va, vn, vc, ks⟩)
    (hW : (((W3.setCell ⟨t, 1, none⟩ (.slice none 0 0)).setCell ⟨t, 2, none⟩ (.slice none 0 0)).setCell ⟨w.heap.size, 2, none⟩ (.bool true)).setCell ⟨w.heap.size, 3, none⟩ (.slice none 0 0) = W4) :
    SV w W4 B t s ⟨c, d, .slice none 0 0, [], .slice none 0 0, [], s.mp, s.mq⟩ ∧ BoxB W4 w.heap.size ⟨c, d, ver, true, none, 0, 0, []⟩ := by
  subst hW
  have hA := h1.is.putP (Only.refl _ W3) (.slice none 0 0) [] (World.ownsRow_nil _ _ _ _) (Nat.zero_le _) (fun k hk => by cases hk)
  have hB := hA.is.putQ (Only.refl _ _) (.slice none 0 0) [] (World.ownsRow_nil _ _ _ _) (Nat.zero_le _) (fun k hk => by cases hk) (fun b hb => by cases hb) (fun _ => False) (fun b hb => by cases hb)
  have hC := (h1.trans hA).trans (hB.sv (fun _ h => h.elim))
  have hg : w.heap.size ≠ t := Tag.ne (⟨_, _, hbx⟩ : Tag W3 w.heap.size 57) h1.is.tt (by decide)
  have hbx2 : BoxB ((W3.setCell ⟨t, 1, none⟩ (.slice none 0 0)).setCell ⟨t, 2, none⟩ (.slice none 0 0)) w.heap.size ⟨c, d, ver, false, va, vn, vc, ks⟩ := (heap_set_ne hg).trans ((heap_set_ne hg).trans hbx)
  refine ⟨⟨hC.is.moved fun k hk => ?_, ⟨hC.only.os, hC.only.tape, hC.only.output, Nat.le_trans hC.only.size (by simp [World.setCell]), fun k hk hs => ?_⟩, hC.nwr, hC.nblk⟩, ?_⟩
  · have hkt : k = t := by
      rcases hk with (hk | hk | hk) | ⟨b, hb, -⟩
      · exact hk
      · cases hk
      · cases hk
      · cases hb
    subst hkt
    rw [heap_set_ne (Ne.symm hg), heap_set_ne (Ne.symm hg)]
  · rw [heap_set_ne (by omega), heap_set_ne (by omega)]
    exact hC.only.block k hk hs
  · exact (heap_set (heap_set hbx2 2 _) 3 _).trans rfl
set_option maxHeartbeats 4000000 in
theorem tell_full (t B : Nat) (s : Vt) (va : Option Addr) (vn vc : Nat) (ks : List Ky) (ver : Int) (w : World) (h : IsV w B t s) (hm : part s.b < 1099511627776) (hf : s.bs.length = s.mq) (hq1 : 1 ≤ s.mq) (hk : RowK w B (.slice va vn vc) ks) (hl : ks.length * 24 ≤ LK) (hne : ∀ k, (Value.slice va vn vc).ownBlock = some k → ¬ s.pv.ownBlock = some k) :
    Calls Try.prog 37 #[.pointer (some ⟨t, 0, none⟩), .slice va vn vc, .int .i64 ver] w fun e w' => ∃ v', e = .returned v' ∧ TellR w w' B t s (fun _ => False) v' (s.say.tell ks ver) := by
  obtain ⟨c0, -, -, -, -, cf⟩ := h.cells
  obtain ⟨c, d, vc', vd, hnext⟩ := next_yes s.a s.b h.mkk.good hm
  obtain ⟨i1, hi1, hw0, hw1, hw2⟩ := info_parts Try.infoBr
  have hM : Mk c d (part s.a) (part s.b + 1) := ⟨vc', vd, h.mkk.e0, h.mkk.e1, by have := h.mkk.n0; omega, by omega⟩
  have cf0 := cf 0
  have HN : Hid (∀ (w : World), Calls Try.prog 31 #[.complex .f64 s.a s.b] w fun e w' => e = .returned (.tuple #[.complex .f64 c d, .int .i64 0]) ∧ w' = w) := hnext
  have H : Hid (IsV w B t s ∧ RowK w B (.slice va vn vc) ks ∧ ks.length * 24 ≤ LK ∧ (∀ k, (Value.slice va vn vc).ownBlock = some k → ¬ s.pv.ownBlock = some k) ∧ part s.b < 1099511627776 ∧ Mk c d (part s.a) (part s.b + 1) ∧ s.bs.length = s.mq) := ⟨h, hk, hl, hne, hm, hM, hf⟩
  clear hnext vc' vd cf hm hl hne hM hk
  go_enter Try.func37, Try.ntmps37
  go_upto_region 7 with (go_at_call 31; refine (HN.out _).mono ?_; rintro e w' ⟨rfl, rfl⟩)
  obtain ⟨W, hW⟩ : ∃ W, (w'.setCell ⟨t, 0, none⟩ (.complex .f64 c d)).alloc (.cells #[.complex .f64 c d, .int .i64 ver, .bool false, .slice va vn vc] 57) = W := ⟨_, rfl⟩
  rw [hW]
  obtain ⟨hS, hB, hK⟩ := tell_mid H.out.1 H.out.2.2.2.2.2.1 hW H.out.2.1
  clear hW c0 cf0
  have h1 := hS.is
  obtain ⟨-, c1, c2, -, c4, cf⟩ := h1.cells
  obtain ⟨pa, pc, hp⟩ := owns_len h.rk
  have c1' : W.cell? ⟨t, 1, none⟩ = some (.slice pa s.ks.length pc) := by rw [← hp]; exact c1
  obtain ⟨qa, qc, hq⟩ := owns_len h.rb
  have c2' : W.cell? ⟨t, 2, none⟩ = some (.slice qa s.bs.length qc) := by rw [← hq]; exact c2
  obtain ⟨L, hL⟩ : ∃ L, s.bs.length = L := ⟨_, rfl⟩
  obtain ⟨mq, hmq⟩ : ∃ mq, s.mq = mq := ⟨_, rfl⟩
  have c4' : W.cell? ⟨t, 4, none⟩ = some (.int .i64 mq) := by rw [← hmq]; exact c4
  have hlq := h.lq
  rw [hL] at c2' hf
  rw [hmq] at hf hlq hq1
  have hdq : ((L : Int) == (mq : Int)) = true := by rw [hf]; simp
  have HX : Hid (SV w' W B t s { s with a := c, b := d } ∧ BoxB W w'.heap.size ⟨c, d, ver, false, va, vn, vc, ks⟩ ∧ RowK W B (.slice va vn vc) ks ∧ s.qv = .slice qa L qc ∧ s.bs.length = L ∧ s.mq = mq) := ⟨hS, hB, hK, by rw [hq, hL], hL, hmq⟩
  obtain ⟨b0, b1, b2, b3, bf⟩ := hB.cells
  simp only at b0 b1 b2 b3
  have hbt : w'.heap.size ≠ t := fun e => by have := H.out.1.tt.lt; omega
  clear h hS hB hK h1 c1 c2 c4 hq hL hmq hp
  go_quiet (fail)
  obtain ⟨W3, hW3⟩ : ∃ W3, W.drewN nq = W3 := ⟨_, rfl⟩
  rw [hW3]
  have hb3 : Below W.heap.size W W3 := by rw [← hW3]; exact below_drewN (Below.refl _ _) _
  have HY : Hid (SV w' W3 B t s { s with a := c, b := d } ∧ BoxB W3 w'.heap.size ⟨c, d, ver, false, va, vn, vc, ks⟩) := ⟨HX.out.1.on hb3, HX.out.2.1.below hb3⟩
  have d1 := (hb3.cell (cellLt c1')).trans c1'
  have d2 := (hb3.cell (cellLt c2')).trans c2'
  have hltW : t < W.heap.size := cellLt c2'
  have hltB : w'.heap.size < W.heap.size := cellLt b0
  have df := fun i => (hb3.frozen (p := ⟨t, i, none⟩) hltW).trans (cf i)
  have ef := fun i => (hb3.frozen (p := ⟨w'.heap.size, i, none⟩) hltB).trans (bf i)
  have e0 := (hb3.cell (cellLt b0)).trans b0
  have e1 := (hb3.cell (cellLt b1)).trans b1
  have e2 := (hb3.cell (cellLt b2)).trans b2
  have e3 := (hb3.cell (cellLt b3)).trans b3
  have hbt' : t ≠ w'.heap.size := Ne.symm hbt
  clear hW3 hb3 b0 b1 b2 b3 c1' c2' c4' cf bf hltW hltB
  go_upto_region 10 with fail
  obtain ⟨W4, hW4⟩ : ∃ W4, (((W3.setCell ⟨t, 1, none⟩ (.slice none 0 0)).setCell ⟨t, 2, none⟩ (.slice none 0 0)).setCell ⟨w'.heap.size, 2, none⟩ (.bool true)).setCell ⟨w'.heap.size, 3, none⟩ (.slice none 0 0) = W4 := ⟨_, rfl⟩
  rw [hW4]
  obtain ⟨hS4, hB4⟩ := full_mid HY.out.1 HY.out.2 hW4
  clear hW4 d1 d2 df ef e0 e1 e2 e3
  obtain ⟨-, -, d2, -, -, df⟩ := hS4.is.cells
  obtain ⟨e0, e1, e2, e3, -⟩ := hB4.cells
  simp only at e0 e1 e2 e3 d2
  have hlt : t < W4.heap.size := cellLt d2
  have HZ : Hid (SV w' W4 B t s ⟨c, d, .slice none 0 0, [], .slice none 0 0, [], s.mp, s.mq⟩ ∧ BoxB W4 w'.heap.size ⟨c, d, ver, true, none, 0, 0, []⟩ ∧ B ≤ W4.heap.size ∧ 1 ≤ s.mq) := ⟨hS4, hB4, by have := hS4.is.bt; omega, by rw [HX.out.2.2.2.2.2]; exact hq1⟩
  have HM : Hid (RowK W4 B (.slice none 0 0) [] ∧ ([] : List Ky).length * 24 ≤ LK ∧ Mk c d (part c) (part d) ∧ ∀ k, (Value.slice none 0 0).ownBlock = some k → (Value.slice none 0 0).ownBlock ≠ some k) := ⟨World.ownsRow_nil _ _ _ _, by simp, by have hm := H.out.2.2.2.2.2.1; rw [hm.pa, hm.pb]; exact hm, fun k hk => by cases hk⟩
  have HR : Hid ((⟨c, d, .slice none 0 0, [], .slice none 0 0, [⟨c, d, ver, true, none, 0, 0, []⟩], s.mp, s.mq⟩ : Vt).say = (s.say.tell ks ver).1 ∧ [(⟨c, d, ver, true, none, 0, 0, []⟩ : Br).say] = (s.say.tell ks ver).2 ∧ Mk c d (part s.a) (part d)) := by
    have hm := H.out.2.2.2.2.2.1
    have e : s.say.tell ks ver = ({ s.say with n := s.say.n + 1, ks := [], q := [⟨s.say.n + 1, ver, true, []⟩] }, [⟨s.say.n + 1, ver, true, []⟩]) := by
      unfold Vs.tell
      rw [if_pos (show s.say.n < MX from H.out.2.2.2.2.1), if_pos]
      show (s.bs.map Br.say).length = s.mq
      rw [List.length_map]
      exact H.out.2.2.2.2.2.2
    rw [e]
    refine ⟨?_, ?_, ?_⟩
    · show Vs.mk (part c) (part d) [] [Bs.mk (part d) ver true []] s.mp s.mq = Vs.mk (part s.a) (part s.b + 1) [] [Bs.mk (part s.b + 1) ver true []] s.mp s.mq
      rw [hm.pa, hm.pb]
    · show [Bs.mk (part d) ver true []] = [Bs.mk (part s.b + 1) ver true []]
      rw [hm.pb]
    · rw [hm.pb]; exact hm
  clear hS4 hB4
  go_region_law (refine step_append_own_at rfl (.tmp 53) (.tmp 55) 40 rfl B 57 i1 (.agg #[.complex .f64 0 0, .int .i64 0, .bool false, .slice none 0 0]) 4 56 Try.underlying40 hi1 hw0 hw1 hw2 rfl (by decide) (.slice none 0 0) 0 (bc []) (by simp [Act.eval]) (World.ownsRow.alloc (World.ownsRow_nil _ _ _ _) _) ⟨W4.heap.size, 0, none⟩ 1 1 (Br.vals ⟨c, d, ver, true, none, 0, 0, []⟩) (by simp [Act.eval]) rfl (four_at _ _ _ _ _ _) (br_one _) (by unfold maxLen; omega) (by omega) (by have := HZ.out.2.2.1; simp; omega) ?_; intro v4 w4 hown4 hgrow4 hat4; obtain ⟨d1, d3, HE⟩ := tell_fin (X := fun _ => False) (HZ.out.1.st _) rfl rfl HZ.out.2.1 (fun e => by cases e) hown4 hgrow4 hat4 (by have := HZ.out.2.2.2; simp only; omega) HM.out (fun k hk => by cases hk); obtain ⟨g4, c4, rfl⟩ := owns_form hown4; clear hown4 hgrow4 hat4)
  all_goals
    obtain ⟨W5, hW5⟩ : ∃ W5, w4.setCell ⟨t, 2, none⟩ (.slice (some ⟨g4, 0, none⟩) 1 c4) = W5 := ⟨_, rfl⟩
    rw [hW5]
    have HE' : Hid (ST w' W5 B t s ⟨c, d, .slice none 0 0, [], .slice (some ⟨g4, 0, none⟩) 1 c4, [⟨c, d, ver, true, none, 0, 0, []⟩], s.mp, s.mq⟩ (fun _ => False) ∧ BoxB W5 w'.heap.size ⟨c, d, ver, true, none, 0, 0, []⟩) := by rw [← hW5]; exact HE.out
    obtain ⟨x0, x1, x2, x3, -⟩ := HE'.out.2.cells
    have hcop := copied_p _ _ B _ (tell_row HE'.out.1.is (m := ⟨c, d, ver, true, none, 0, 0, []⟩) (by simp)) (by simp) (fun b hb => by rw [List.mem_singleton.1 hb]; simp)
    simp only at x0 x1 x2 x3 hcop
    have HF : Hid (∀ v' bs' w7, Brs w7 _ v' bs' → _ → _ → TellR w' w7 B t s (fun _ => False) v' (s.say.tell ks ver)) := fun v' bs' w7 hb hc hbl => tell_ret HE'.out.1 HR.out.1 HR.out.2.1 HR.out.2.2 hb hc hbl
    clear hW5 d1 d3 e0 e1 e2 e3 d2 df HE HE'
    go_wp2_with (go_at_call 49; refine hcop.mono ?_; rintro x w7 ⟨v', rfl, bs', hb7, hc7, hl7⟩; have hfin := HF.out v' bs' w7 hb7 hc7 hl7; obtain ⟨av, cv, rfl⟩ := owns_len hb7.row)
    go_ret
    exact ⟨_, rfl, hfin⟩
/-- tell, as the chapter says it -/
theorem tell_p (t B : Nat) (s : Vt) (va : Option Addr) (vn vc : Nat) (ks : List Ky) (ver : Int) (w : World) (h : IsV w B t s) (hq : 1 ≤ s.mq) (hk : RowK w B (.slice va vn vc) ks) (hl : ks.length * 24 ≤ LK) (hne : ∀ k, (Value.slice va vn vc).ownBlock = some k → ¬ s.pv.ownBlock = some k) :
    Calls Try.prog 37 #[.pointer (some ⟨t, 0, none⟩), .slice va vn vc, .int .i64 ver] w fun e w' => ∃ v', e = .returned v' ∧ TellR w w' B t s (fun k => (Value.slice va vn vc).ownBlock = some k) v' (s.say.tell ks ver) := by
  by_cases hm : part s.b < 1099511627776
  · by_cases hf : s.bs.length = s.mq
    · refine (tell_full t B s va vn vc ks ver w h hm hf hq hk hl hne).mono ?_
      rintro e w' ⟨v', rfl, bs', s', Bq, k1, k2, k3, k4, k5, k6, k7⟩
      exact ⟨v', rfl, bs', s', Bq, k1, k2, k3, k4, k5, ⟨k6.is, k6.only, k6.nwr, fun k hk => by
        rcases k6.nblk k hk with e | e | e
        · exact .inl e
        · exact .inr (.inl e)
        · exact e.elim⟩, k7⟩
    · exact tell_room t B s va vn vc ks ver w h hm (by have := h.lb; omega) hk hl hne
  · exact tell_no t B s _ ks ver _ w h hm
end Go.Proofs.Ytaofhjckliobpaa
