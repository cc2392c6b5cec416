/- tell: a break made, where the mark has a next one. -/
import Derived.Test.YtaofhjckliobpaaVoI
namespace Go.Proofs.Ytaofhjckliobpaa
open Go.RowKit Go.Shelf
attribute [local go_sem high] eqK neqK guardK run_store_complex

/-- the break's box behind the mark's store -/
theorem tell_mid {w W : World} {B t : Nat} {s : Vt} {c d : Nat} {ver : Int} {va : Option Addr} {vn vc : Nat} {ks : List Ky} (h : IsV w B t s) (hm : Mk c d (part s.a) (part s.b + 1)) (hW : (w.setCell ⟨t, 0, none⟩ (.complex .f64 c d)).alloc (.cells #[.complex .f64 c d, .int .i64 ver, .bool false, .slice va vn vc] 57) = W) (hk : RowK w B (.slice va vn vc) ks) :
    SV w W B t s { s with a := c, b := d } ∧ BoxB W w.heap.size ⟨c, d, ver, false, va, vn, vc, ks⟩ ∧ RowK W B (.slice va vn vc) ks := by
  subst hW
  have h1 := h.putM hm
  have hz : (w.setCell ⟨t, 0, none⟩ (.complex .f64 c d)).heap.size = w.heap.size := by simp [World.setCell]
  refine ⟨h1.on (below_alloc _ _), ?_, ?_⟩
  · have := heap_new (w.setCell ⟨t, 0, none⟩ (.complex .f64 c d)) (.cells #[.complex .f64 c d, .int .i64 ver, .bool false, .slice va vn vc] 57)
    rw [hz] at this; exact this
  · exact (hk.moved fun k e => heap_set_ne ((Tag.own hk e).ne h.tt (by decide))).below (below_alloc _ _)
theorem four_at (w : World) (x y z u : Value) (t : TypeId) : ∀ j v, [x, y, z, u][j]? = some v → (w.alloc (.cells #[x, y, z, u] t)).cell? ((⟨w.heap.size, 0, none⟩ : Addr).add j) = some v := by
  intro j v hv
  match j, hv with
  | 0, hv => simp at hv; subst hv; simp [Addr.add]
  | 1, hv => simp at hv; subst hv; simp [Addr.add]
  | 2, hv => simp at hv; subst hv; simp [Addr.add]
  | 3, hv => simp at hv; subst hv; simp [Addr.add]
/-- behind the queue's append -/
theorem tell_app {W w2 : World} {B t : Nat} {s : Vt} {m : Br} {v2 : Value} {o : Obj} {X : Nat → Prop} (h : IsV W B t s) (hown : w2.ownsRow B 57 4 v2 (s.bs.length + 1) (bc s.bs ++ m.vals)) (hgrow : (W.drew.alloc o).grownBy w2 s.qv.ownBlock) (hat : v2.ownBlock = s.qv.ownBlock ∨ v2.ownBlock = some (W.drew.alloc o).heap.size)
    (hl : s.bs.length + 1 ≤ s.mq) (hm : RowK W B m.v m.ks ∧ m.ks.length * 24 ≤ LK ∧ Mk m.a m.b (part s.a) (part m.b) ∧ ∀ k, m.v.ownBlock = some k → s.pv.ownBlock ≠ some k) (hX : ∀ k, m.v.ownBlock = some k → X k) :
    w2.cell? ⟨t, 2, none⟩ = some s.qv ∧ (∀ i, w2.frozen? ⟨t, i, none⟩ = false) ∧ Hid (ST W (w2.setCell ⟨t, 2, none⟩ v2) B t s { s with qv := v2, bs := s.bs ++ [m] } X) ∧ (∀ k cs T, W.heap[k]? = some (.cells cs T (0, 0)) → T ≠ 57 ∨ s.qv.ownBlock ≠ some k → w2.heap[k]? = some (.cells cs T (0, 0))) := by
  have hO : Only (fun q => s.qv.ownBlock = some q) W w2 :=
    ⟨hgrow.os, hgrow.tape, hgrow.output, Nat.le_trans (by simp) hgrow.size, fun k hk hn => (hgrow.block k (by simp; omega) (fun e => hn e.symm)).trans (Below.heap_alloc W.drew _ _ hk)⟩
  have e1 := (hO.block t h.tt.lt fun e => h.q_t e rfl).trans h.head
  refine ⟨by rw [cell_of e1]; rfl, free_of e1, ?_, fun k cs T hk hne => ?_⟩
  · refine h.putQ hO v2 (s.bs ++ [m]) ?_ (by rw [List.length_append]; exact hl) (fun k hk => ?_) (fun b hb => ?_) X fun b hb => ?_
    · show World.ownsRow _ _ _ _ _ _ _
      rw [List.length_append, bc_app]
      have : bc [m] = m.vals := by unfold bc; simp
      rw [this]; exact hown
    · rcases hat with e | e
      · exact .inl (by rw [← e]; exact hk)
      · rw [e] at hk
        simp at hk
        exact .inr (by omega)
    · rcases List.mem_append.1 hb with hb | hb
      · exact h.each b hb
      · rw [List.mem_singleton.1 hb]; exact hm
    · rcases List.mem_append.1 hb with hb | hb
      · exact .inl hb
      · rw [List.mem_singleton.1 hb]; exact .inr hX
  · have hlt := (Array.getElem?_eq_some_iff.1 hk).1
    refine (hO.block k hlt fun e => ?_).trans hk
    rcases hne with h1 | h1
    · exact Tag.ne (⟨_, _, hk⟩ : Tag W k T) (h.tq e) h1 rfl
    · exact h1 e
theorem tell_fin {w W w2 : World} {B t gm L : Nat} {s s1 : Vt} {m : Br} {v2 V : Value} {o : Obj} {X : Nat → Prop} (hS : ST w W B t s s1 X) (hV : s1.qv = V) (hL : s1.bs.length = L) (hbx : BoxB W gm m) (hgm : s1.qv.ownBlock ≠ some gm) (hown : w2.ownsRow B 57 4 v2 (L + 1) (bc s1.bs ++ m.vals)) (hgrow : (W.drew.alloc o).grownBy w2 V.ownBlock) (hat : v2.ownBlock = V.ownBlock ∨ v2.ownBlock = some (W.drew.alloc o).heap.size)
    (hl : L + 1 ≤ s1.mq) (hm : RowK W B m.v m.ks ∧ m.ks.length * 24 ≤ LK ∧ Mk m.a m.b (part s1.a) (part m.b) ∧ ∀ k, m.v.ownBlock = some k → s1.pv.ownBlock ≠ some k) (hX : ∀ k, m.v.ownBlock = some k → X k) :
    w2.cell? ⟨t, 2, none⟩ = some V ∧ w2.frozen? ⟨t, 2, none⟩ = false ∧ Hid (ST w (w2.setCell ⟨t, 2, none⟩ v2) B t s { s1 with qv := v2, bs := s1.bs ++ [m] } X ∧ BoxB (w2.setCell ⟨t, 2, none⟩ v2) gm m) := by
  subst hV hL
  obtain ⟨c, f, hT, hk⟩ := tell_app hS.is hown hgrow hat hl hm hX
  refine ⟨c, f 2, hS.trans hT.out, ?_⟩
  have e := hk gm _ _ hbx (.inr hgm)
  have hne : gm ≠ t := Tag.ne (⟨_, _, hbx⟩ : Tag W gm 57) hS.is.tt (by decide)
  exact (heap_set_ne hne).trans e
/-- behind copied -/
theorem tell_ret {w w5 w7 : World} {B t : Nat} {s s2 : Vt} {m : Br} {v' : Value} {bs' : List Br} {X : Nat → Prop} {r : Vs × List Bs} (hS : ST w w5 B t s s2 X) (hs : s2.say = r.1) (hr : [m.say] = r.2) (hm : Mk m.a m.b (part s.a) (part m.b))
    (hb : Brs w7 (w5.alloc (.cells #[.complex .f64 m.a m.b, .int .i64 m.ver, .bool m.all, .slice m.va m.vn m.vc] 57)).heap.size v' bs') (hc : bs'.map Br.core = [m].map Br.core) (hbl : Below (w5.alloc (.cells #[.complex .f64 m.a m.b, .int .i64 m.ver, .bool m.all, .slice m.va m.vn m.vc] 57)).heap.size (w5.alloc (.cells #[.complex .f64 m.a m.b, .int .i64 m.ver, .bool m.all, .slice m.va m.vn m.vc] 57)) w7) : TellR w w7 B t s X v' r := by
  have hS' := hS.on (chainB (below_alloc _ _) hbl)
  refine ⟨bs', s2, _, hb, fun k hk => Nat.lt_of_lt_of_le (hS.is.lt hk).2 (below_alloc _ _).size, Nat.le_trans hS.only.size (below_alloc _ _).size, by rw [say_cores hc]; exact hr, hs, hS', fun b hb' => ?_⟩
  have : b.core ∈ [m].map Br.core := by rw [← hc]; exact List.mem_map_of_mem hb'
  have e : b.core = m.core := by simpa using this
  unfold Br.core at e
  simp only [Prod.mk.injEq] at e
  rw [e.1, e.2.1]; exact hm
theorem tell_row {w5 : World} {B t : Nat} {s2 : Vt} {m : Br} (h : IsV w5 B t s2) (hm : m ∈ s2.bs) : Brs (w5.alloc (.cells #[.complex .f64 m.a m.b, .int .i64 m.ver, .bool m.all, .slice m.va m.vn m.vc] 57)) B (.slice (some ⟨w5.heap.size, 0, none⟩) 1 1) [m] := by
  refine ⟨owns_whole (xs := bc [m]) (by have := h.bt; have := h.tt.lt; omega) (heap_new _ _) rfl (by unfold maxLen; omega), fun b hb => ?_⟩
  rw [List.mem_singleton.1 hb]
  exact (h.each m hm).1.below (below_alloc _ _)
set_option maxHeartbeats 4000000 in
theorem tell_room (t B : Nat) (s : Vt) (va : Option Addr) (vn vc : Nat) (ks : List Ky) (ver : Int) (w : World) (h : IsV w B t s) (hm : part s.b < 1099511627776) (hf : s.bs.length < s.mq) (hk : RowK w B (.slice va vn vc) ks) (hl : ks.length * 24 ≤ LK) (hne : ∀ k, (Value.slice va vn vc).ownBlock = some k → ¬ s.pv.ownBlock = some k) :
    Calls Try.prog 37 #[.pointer (some ⟨t, 0, none⟩), .slice va vn vc, .int .i64 ver] w fun e w' => ∃ v', e = .returned v' ∧ TellR w w' B t s (fun k => (Value.slice va vn vc).ownBlock = some k) v' (s.say.tell ks ver) := by
  obtain ⟨c0, -, -, -, -, cf⟩ := h.cells
  obtain ⟨c, d, vc', vd, hnext⟩ := next_yes s.a s.b h.mkk.good hm
  obtain ⟨i1, hi1, hw0, hw1, hw2⟩ := info_parts Try.infoBr
  have hM : Mk c d (part s.a) (part s.b + 1) := ⟨vc', vd, h.mkk.e0, h.mkk.e1, by have := h.mkk.n0; omega, by omega⟩
  have cf0 := cf 0
  have HN : Hid (∀ (w : World), Calls Try.prog 31 #[.complex .f64 s.a s.b] w fun e w' => e = .returned (.tuple #[.complex .f64 c d, .int .i64 0]) ∧ w' = w) := hnext
  have H : Hid (IsV w B t s ∧ RowK w B (.slice va vn vc) ks ∧ ks.length * 24 ≤ LK ∧ (∀ k, (Value.slice va vn vc).ownBlock = some k → ¬ s.pv.ownBlock = some k) ∧ part s.b < 1099511627776 ∧ Mk c d (part s.a) (part s.b + 1) ∧ s.bs.length < s.mq) := ⟨h, hk, hl, hne, hm, hM, hf⟩
  clear hnext vc' vd cf hm hl hne hM hk
  go_enter Try.func37, Try.ntmps37
  go_upto_region 7 with (go_at_call 31; refine (HN.out _).mono ?_; rintro e w' ⟨rfl, rfl⟩)
  obtain ⟨W, hW⟩ : ∃ W, (w'.setCell ⟨t, 0, none⟩ (.complex .f64 c d)).alloc (.cells #[.complex .f64 c d, .int .i64 ver, .bool false, .slice va vn vc] 57) = W := ⟨_, rfl⟩
  rw [hW]
  obtain ⟨hS, hB, hK⟩ := tell_mid H.out.1 H.out.2.2.2.2.2.1 hW H.out.2.1
  clear hW c0 cf0
  have h1 := hS.is
  obtain ⟨-, -, c2, -, c4, cf⟩ := h1.cells
  obtain ⟨qa, qc, hq⟩ := owns_len h.rb
  have c2' : W.cell? ⟨t, 2, none⟩ = some (.slice qa s.bs.length qc) := by rw [← hq]; exact c2
  obtain ⟨L, hL⟩ : ∃ L, s.bs.length = L := ⟨_, rfl⟩
  obtain ⟨mq, hmq⟩ : ∃ mq, s.mq = mq := ⟨_, rfl⟩
  have c4' : W.cell? ⟨t, 4, none⟩ = some (.int .i64 mq) := by rw [← hmq]; exact c4
  have hlq := h.lq
  rw [hL] at c2' hf
  rw [hmq] at hf hlq
  have hdq : ((L : Int) == (mq : Int)) = false := beq_eq_false_iff_ne.2 (by omega)
  have HX : Hid (SV w' W B t s { s with a := c, b := d } ∧ BoxB W w'.heap.size ⟨c, d, ver, false, va, vn, vc, ks⟩ ∧ RowK W B (.slice va vn vc) ks ∧ s.qv = .slice qa L qc ∧ s.bs.length = L ∧ s.mq = mq) := ⟨hS, hB, hK, by rw [hq, hL], hL, hmq⟩
  obtain ⟨b0, b1, b2, b3, -⟩ := hB.cells
  clear h hS hB hK h1 c2 c4 hq hL hmq
  go_quiet (fail)
  go_upto_region 10 with fail
  obtain ⟨W3, hW3⟩ : ∃ W3, W.drewN nq = W3 := ⟨_, rfl⟩
  rw [hW3]
  have hb3 : Below W.heap.size W W3 := by rw [← hW3]; exact below_drewN (Below.refl _ _) _
  have HY : Hid (SV w' W3 B t s { s with a := c, b := d } ∧ BoxB W3 w'.heap.size ⟨c, d, ver, false, va, vn, vc, ks⟩ ∧ RowK W3 B (.slice va vn vc) ks) := ⟨HX.out.1.on hb3, HX.out.2.1.below hb3, HX.out.2.2.1.below hb3⟩
  have d2 := (hb3.cell (cellLt c2')).trans c2'
  have hltW : t < W.heap.size := cellLt c2'
  have df := fun i => (hb3.frozen (p := ⟨t, i, none⟩) hltW).trans (cf i)
  clear hltW
  have e0 := (hb3.cell (cellLt b0)).trans b0
  have e1 := (hb3.cell (cellLt b1)).trans b1
  have e2 := (hb3.cell (cellLt b2)).trans b2
  have e3 := (hb3.cell (cellLt b3)).trans b3
  have hbt : w'.heap.size < W3.heap.size := cellLt e0
  have hlt : t < W3.heap.size := cellLt d2
  clear hW3 hb3 b0 b1 b2 b3 c2' c4' cf
  simp only at e0 e1 e2 e3
  have HQ : Hid (W3.ownsRow B 57 4 (.slice qa L qc) L (bc s.bs) ∧ B ≤ W3.heap.size) := by
    have h3 := HY.out.1.is
    have hr := h3.rb
    have hr' : W3.ownsRow B 57 4 s.qv s.bs.length (bc s.bs) := hr
    rw [HX.out.2.2.2.1, HX.out.2.2.2.2.1] at hr'
    exact ⟨hr', by have := h3.bt; have := h3.tt.lt; omega⟩
  have HG : Hid (s.qv.ownBlock ≠ some w'.heap.size) := fun e => by have := (H.out.1.rb.lt e).2; omega
  have HM : Hid (RowK W3 B (.slice va vn vc) ks ∧ ks.length * 24 ≤ LK ∧ Mk c d (part c) (part d) ∧ ∀ k, (Value.slice va vn vc).ownBlock = some k → s.pv.ownBlock ≠ some k) := ⟨HY.out.2.2, H.out.2.2.1, by have hm := H.out.2.2.2.2.2.1; rw [hm.pa, hm.pb]; exact hm, H.out.2.2.2.1⟩
  have HR : Hid ((⟨c, d, s.pv, s.ks, .slice none 0 0, s.bs ++ [⟨c, d, ver, false, va, vn, vc, ks⟩], s.mp, s.mq⟩ : Vt).say = (s.say.tell ks ver).1 ∧ [(⟨c, d, ver, false, va, vn, vc, ks⟩ : Br).say] = (s.say.tell ks ver).2 ∧ Mk c d (part s.a) (part d)) := by
    have hm := H.out.2.2.2.2.2.1
    have e : s.say.tell ks ver = ({ s.say with n := s.say.n + 1, q := s.say.q ++ [⟨s.say.n + 1, ver, false, ks⟩] }, [⟨s.say.n + 1, ver, false, ks⟩]) := by
      unfold Vs.tell
      rw [if_pos (show s.say.n < MX from H.out.2.2.2.2.1), if_neg]
      show ¬ (s.bs.map Br.say).length = s.mq
      rw [List.length_map]
      have := H.out.2.2.2.2.2.2
      omega
    rw [e]
    refine ⟨?_, ?_, ?_⟩
    · show Vs.mk (part c) (part d) s.ks ((s.bs ++ [_]).map Br.say) s.mp s.mq = Vs.mk (part s.a) (part s.b + 1) s.ks (s.bs.map Br.say ++ [_]) s.mp s.mq
      rw [hm.pa, hm.pb, List.map_append]
      show Vs.mk _ _ _ (_ ++ [Bs.mk (part d) ver false ks]) _ _ = _
      rw [hm.pb]; rfl
    · show [Bs.mk (part d) ver false ks] = [Bs.mk (part s.b + 1) ver false ks]
      rw [hm.pb]
    · rw [hm.pb]; exact hm
  go_region_law (refine step_append_own_at rfl (.tmp 53) (.tmp 55) 40 rfl B 57 i1 (.agg #[.complex .f64 0 0, .int .i64 0, .bool false, .slice none 0 0]) 4 56 Try.underlying40 hi1 hw0 hw1 hw2 rfl (by decide) (.slice qa L qc) L (bc s.bs) (by simp [Act.eval]) (World.ownsRow.alloc (by exact HQ.out.1) _) ⟨W3.heap.size, 0, none⟩ 1 1 (Br.vals ⟨c, d, ver, false, va, vn, vc, ks⟩) (by simp [Act.eval]) rfl (four_at _ _ _ _ _ _) (br_one _) (by unfold maxLen; omega) (by omega) (by have := HQ.out.2; simp; omega) ?_; intro v4 w4 hown4 hgrow4 hat4; obtain ⟨d1, d3, HE⟩ := tell_fin (X := fun k => (Value.slice va vn vc).ownBlock = some k) (HY.out.1.st _) HX.out.2.2.2.1 HX.out.2.2.2.2.1 HY.out.2.1 (fun e => HG.out e) hown4 hgrow4 hat4 (by have := HX.out.2.2.2.2.2; simp only; omega) HM.out (fun k hk => hk); obtain ⟨g4, c4, rfl⟩ := owns_form hown4; clear hown4 hgrow4 hat4)
  all_goals
    obtain ⟨W5, hW5⟩ : ∃ W5, w4.setCell ⟨t, 2, none⟩ (.slice (some ⟨g4, 0, none⟩) (L + 1) c4) = W5 := ⟨_, rfl⟩
    rw [hW5] at HE ⊢
    obtain ⟨x0, x1, x2, x3, -⟩ := HE.out.2.cells
    have hcop := copied_p _ _ B _ (tell_row HE.out.1.is (m := ⟨c, d, ver, false, va, vn, vc, ks⟩) (by simp)) (by simp) (fun b hb => by rw [List.mem_singleton.1 hb]; exact H.out.2.2.1)
    simp only at x0 x1 x2 x3 hcop
    have HF : Hid (∀ v' bs' w7, Brs w7 _ v' bs' → _ → _ → TellR w' w7 B t s (fun k => (Value.slice va vn vc).ownBlock = some k) v' (s.say.tell ks ver)) := fun v' bs' w7 hb hc hbl => tell_ret HE.out.1 HR.out.1 HR.out.2.1 HR.out.2.2 hb hc hbl
    clear hW5 d1 d3 e0 e1 e2 e3 d2 df HE
    go_wp2_with (go_at_call 49; refine hcop.mono ?_; rintro x w7 ⟨v', rfl, bs', hb7, hc7, hl7⟩; have hfin := HF.out v' bs' w7 hb7 hc7 hl7; obtain ⟨av, cv, rfl⟩ := owns_len hb7.row)
    go_ret
    exact ⟨_, rfl, hfin⟩
end Go.Proofs.Ytaofhjckliobpaa
