/- The chapter's own table: broken. -/
import Derived.Test.YtaofhjckliobpaaVrD
namespace Go.Proofs.Ytaofhjckliobpaa
open Go.RowKit Go.Shelf
attribute [local go_sem high] eqK neqK guardK run_store_complex

/-- what a call that makes breaks leaves -/
def RBr (w w' : World) (B t : Nat) (s : Vt) (v' : Value) (r : Vs × List Bs) : Prop := ∃ s', SW w w' B t s s' ∧ s'.say = r.1 ∧ Rd w' v' r.2 (part s.a)
theorem IsW.bw {w : World} {B t : Nat} {s : Vt} (h : IsW w B t s) : B ≤ w.heap.size := by have := h.bt; have := h.tt.lt; omega
set_option maxHeartbeats 4000000 in
theorem rbroken_no (t B : Nat) (s : Vt) (v : Value) (ks : List Ky) (ver : Int) (w : World) (h : IsW w B t s) (hm : ¬ part s.b < MX) (hv : ∃ a n c, v = .slice a n c) :
    Calls Try.prog 39 #[.pointer (some ⟨t, 0, none⟩), v, .int .i64 ver] w fun e w' => ∃ v', e = .returned v' ∧ RBr w w' B t s v' (s.say.tell (srtK ks) ver) := by
  obtain ⟨a, n, c, rfl⟩ := hv
  have hnext := rnext_end h.mkk hm
  obtain ⟨c0, c1, -, -, -, cf⟩ := h.cells
  have cf2 := cf 2
  have HF : Hid (RBr w (w.setCell ⟨t, 2, none⟩ (.slice none 0 0)) B t s (.slice none 0 0) (s.say.tell (srtK ks) ver)) := by
    have hS := h.putP (Only.refl _ w) (.slice none 0 0) [] (World.ownsRow_nil _ _ _ _) (by simp) (fun k hk => by cases hk)
    refine ⟨_, hS, ?_, ?_⟩
    · unfold Vs.tell
      rw [if_neg (show ¬ s.say.n < MX from hm)]; rfl
    · unfold Vs.tell
      rw [if_neg (show ¬ s.say.n < MX from hm)]
      exact ⟨[], ⟨⟨none, 0, rfl, .inl ⟨rfl, rfl⟩⟩, fun b hb => by cases hb⟩, rfl, fun b hb => by cases hb⟩
  clear h cf
  go_enter Try.func39, Try.ntmps39
  go_wp2_with (go_at_call 55; refine (hnext _).mono ?_; rintro e w' ⟨rfl, hw'⟩; rw [hw'])
  go_ret
  exact ⟨_, rfl, HF.out⟩
/-- the answer of one break, whose keys are the table's -/
theorem rtell_ret {w w5 : World} {B t : Nat} {s s2 : Vt} {m : Br} {r : Vs × List Bs} (hS : SW w w5 B t s s2) (hs : s2.say = r.1) (hr : [m.say] = r.2) (hm : Mk m.a m.b (part s.a) (part m.b)) (hmem : m ∈ s2.bs) : RBr w (w5.alloc (.cells #[.complex .f64 m.a m.b, .int .i64 m.ver, .bool m.all, .slice m.va m.vn m.vc] 57)) B t s (.slice (some ⟨w5.heap.size, 0, none⟩) 1 1) r := by
  refine ⟨s2, hS.on (below_alloc _ _), hs, [m], ⟨⟨_, _, rfl, .inr ⟨w5.heap.size, 0, rfl, by simp, fun j u hu => ?_⟩⟩, fun b hb => ?_⟩, hr, fun b hb => by rw [List.mem_singleton.1 hb]; exact hm⟩
  · rw [Nat.zero_add]
    have e : bc [m] = [.complex .f64 m.a m.b, .int .i64 m.ver, .bool m.all, .slice m.va m.vn m.vc] := by unfold bc; simp [Br.vals, Br.v]
    rw [e] at hu
    have := four_at w5 _ _ _ _ 57 j u hu
    rw [add_plain', Nat.zero_add] at this
    exact this
  · rw [List.mem_singleton.1 hb]
    exact ⟨((hS.is.each m hmem).1.below (below_alloc _ _)).rd, (hS.is.each m hmem).2.1⟩
set_option maxHeartbeats 4000000 in
theorem rbroken_room (t B : Nat) (s : Vt) (a : Option Addr) (n c : Nat) (ks : List Ky) (ver : Int) (w : World) (h : IsW w B t s) (hm : part s.b < MX) (hf : s.bs.length < s.mq) (base : Nat) (hk : RowK w base (.slice a n c) ks) (hl : ks.length * 24 ≤ LK) :
    Calls Try.prog 39 #[.pointer (some ⟨t, 0, none⟩), .slice a n c, .int .i64 ver] w fun e w' => ∃ v', e = .returned v' ∧ RBr w w' B t s v' (s.say.tell (srtK ks) ver) := by
  obtain ⟨i1, hi1, hw0, hw1, hw2⟩ := info_parts Try.infoBr
  obtain ⟨nc, nd, hMn, hnext⟩ := rnext_mk h.mkk hm
  obtain ⟨c0, -, -, -, -, cf⟩ := h.cells
  have cf3 := cf 3
  have hS1 := h.putM hMn
  have hk1 : RowK (w.setCell ⟨t, 3, none⟩ (.complex .f64 nc nd)) base (.slice a n c) ks := hk.moved fun k e => heap_set_ne ((Tag.own hk e).ne h.tt (by decide))
  have hsrt := rsorted_any (.slice a n c) ks _ hk1.rd hl
  obtain ⟨W1, hW1⟩ : ∃ W, w.setCell ⟨t, 3, none⟩ (.complex .f64 nc nd) = W := ⟨_, rfl⟩
  rw [hW1] at hS1 hsrt
  have HS1 : Hid (SW w W1 B t s { s with a := nc, b := nd }) := hS1
  have HH : Hid (IsW w B t s ∧ Mk nc nd (part s.a) (part s.b + 1) ∧ part s.b < MX ∧ s.bs.length < s.mq ∧ ks.length * 24 ≤ LK) := ⟨h, hMn, hm, hf, hl⟩
  clear h hS1 cf hk hk1 hf hm hl
  go_enter Try.func39, Try.ntmps39
  go_upto_region 6 with (go_at_call 55; refine (hnext _).mono ?_; rintro e w' ⟨rfl, hw'⟩; rw [hw'])
  clear hW1 c0 cf3 hnext
  go_upto_region 7 with (go_at_call 56; refine hsrt.mono ?_; rintro e w2 ⟨v6, rfl, hr6, hb2⟩; obtain ⟨va, vc, h6⟩ := owns_len hr6; obtain ⟨vn, hvn⟩ : ∃ k, (srtK ks).length = k := ⟨_, rfl⟩; rw [hvn] at h6; subst h6; have HR6 : Hid (RowK w2 W1.heap.size (.slice va vn vc) (srtK ks) ∧ Below W1.heap.size W1 w2) := ⟨hr6, hb2⟩; clear hr6 hb2 hvn)
  obtain ⟨W, hW⟩ : ∃ W, w2.alloc (.cells #[.complex .f64 nc nd, .int .i64 ver, .bool false, .slice va vn vc] 57) = W := ⟨_, rfl⟩
  rw [hW]
  have hbW : Below w2.heap.size w2 W := by rw [← hW]; exact below_alloc _ _
  have hB : BoxB W w2.heap.size ⟨nc, nd, ver, false, va, vn, vc, srtK ks⟩ := by rw [← hW]; exact heap_new _ _
  have hS := HS1.out.on (chainB HR6.out.2 hbW)
  have hK : RowK W W1.heap.size (.slice va vn vc) (srtK ks) := HR6.out.1.below hbW
  have h1 := hS.is
  obtain ⟨-, -, c2, -, c4, cf⟩ := h1.cells
  obtain ⟨qa, qc, hq⟩ := owns_len HH.out.1.rb
  have c2' : W.cell? ⟨t, 4, none⟩ = some (.slice qa s.bs.length qc) := by rw [← hq]; exact c2
  obtain ⟨L, hL⟩ : ∃ L, s.bs.length = L := ⟨_, rfl⟩
  obtain ⟨mq, hmq⟩ : ∃ mq, s.mq = mq := ⟨_, rfl⟩
  have c4' : W.cell? ⟨t, 1, none⟩ = some (.int .i64 mq) := by rw [← hmq]; exact c4
  have hlq := HH.out.1.lq
  have hf := HH.out.2.2.2.1
  rw [hL] at c2' hf
  rw [hmq] at hf hlq
  have hdq : ¬ (mq : Int) ≤ (L : Int) := by omega
  have HX : Hid (SW w W B t s { s with a := nc, b := nd } ∧ BoxB W w2.heap.size ⟨nc, nd, ver, false, va, vn, vc, srtK ks⟩ ∧ RowK W W1.heap.size (.slice va vn vc) (srtK ks) ∧ s.qv = .slice qa L qc ∧ s.bs.length = L ∧ s.mq = mq ∧ w.heap.size ≤ W1.heap.size ∧ W1.heap.size ≤ w2.heap.size) := ⟨hS, hB, hK, by rw [hq, hL], hL, hmq, HS1.out.only.size, HR6.out.2.size⟩
  obtain ⟨b0, b1, b2, b3, -⟩ := hB.cells
  clear hS hB hK h1 c2 c4 hq hL hmq hW hbW
  go_quiet (fail)
  go_upto_region 11 with fail
  obtain ⟨W3, hW3⟩ : ∃ W3, W.drewN nq = W3 := ⟨_, rfl⟩
  rw [hW3]
  have hb3 : Below W.heap.size W W3 := by rw [← hW3]; exact below_drewN (Below.refl _ _) _
  have HY : Hid (SW w W3 B t s { s with a := nc, b := nd } ∧ BoxB W3 w2.heap.size ⟨nc, nd, ver, false, va, vn, vc, srtK ks⟩ ∧ RowK W3 W1.heap.size (.slice va vn vc) (srtK ks)) := ⟨HX.out.1.on hb3, HX.out.2.1.below hb3, HX.out.2.2.1.below hb3⟩
  have d2 := (hb3.cell (cellLt c2')).trans c2'
  have hltW : t < W.heap.size := cellLt c2'
  have df := fun i => (hb3.frozen (p := ⟨t, i, none⟩) hltW).trans (cf i)
  clear hltW
  have e0 := (hb3.cell (cellLt b0)).trans b0
  have e1 := (hb3.cell (cellLt b1)).trans b1
  have e2 := (hb3.cell (cellLt b2)).trans b2
  have e3 := (hb3.cell (cellLt b3)).trans b3
  have hbt : w2.heap.size < W3.heap.size := cellLt e0
  have hlt : t < W3.heap.size := cellLt d2
  clear hW3 hb3 b0 b1 b2 b3 c2' c4' cf
  simp only at e0 e1 e2 e3
  have HQ : Hid (W3.ownsRow B 57 4 (.slice qa L qc) L (bc s.bs) ∧ B ≤ W3.heap.size) := by
    have h3 := HY.out.1.is
    have hr' : W3.ownsRow B 57 4 s.qv s.bs.length (bc s.bs) := h3.rb
    rw [HX.out.2.2.2.1, HX.out.2.2.2.2.1] at hr'
    exact ⟨hr', h3.bw⟩
  have HG : Hid (s.qv.ownBlock ≠ some w2.heap.size) := fun e => by have := (HH.out.1.rb.lt e).2; have := HX.out.2.2.2.2.2.2; omega
  have HM : Hid (RowK W3 B (.slice va vn vc) (srtK ks) ∧ (srtK ks).length * 24 ≤ LK ∧ Mk nc nd (part nc) (part nd) ∧ ∀ k, (Value.slice va vn vc).ownBlock = some k → s.pv.ownBlock ≠ some k) := by
    refine ⟨owns_le HY.out.2.2 (Nat.le_trans HH.out.1.bw HX.out.2.2.2.2.2.2.1), ?_, ?_, fun k hk e => ?_⟩
    · have := srtK_len ks; have := HH.out.2.2.2.2; omega
    · have hm := HH.out.2.1; rw [hm.pa, hm.pb]; exact hm
    · have := (HY.out.2.2.lt hk).1; have := (HH.out.1.rk.lt e).2; have := HX.out.2.2.2.2.2.2; omega
  have HR : Hid ((⟨nc, nd, s.pv, s.ks, .slice none 0 0, s.bs ++ [⟨nc, nd, ver, false, va, vn, vc, srtK ks⟩], s.mp, s.mq⟩ : Vt).say = (s.say.tell (srtK ks) ver).1 ∧ [(⟨nc, nd, ver, false, va, vn, vc, srtK ks⟩ : Br).say] = (s.say.tell (srtK ks) ver).2 ∧ Mk nc nd (part s.a) (part nd)) := by
    have hm := HH.out.2.1
    have e : s.say.tell (srtK ks) ver = ({ s.say with n := s.say.n + 1, q := s.say.q ++ [⟨s.say.n + 1, ver, false, srtK ks⟩] }, [⟨s.say.n + 1, ver, false, srtK ks⟩]) := by
      unfold Vs.tell
      rw [if_pos (show s.say.n < MX from HH.out.2.2.1), if_neg]
      show ¬ (s.bs.map Br.say).length = s.mq
      rw [List.length_map]
      have := HH.out.2.2.2.1
      omega
    rw [e]
    refine ⟨?_, ?_, ?_⟩
    · show Vs.mk (part nc) (part nd) s.ks ((s.bs ++ [_]).map Br.say) s.mp s.mq = Vs.mk (part s.a) (part s.b + 1) s.ks (s.bs.map Br.say ++ [_]) s.mp s.mq
      rw [hm.pa, hm.pb, List.map_append]
      show Vs.mk _ _ _ (_ ++ [Bs.mk (part nd) ver false (srtK ks)]) _ _ = _
      rw [hm.pb]; rfl
    · show [Bs.mk (part nd) ver false (srtK ks)] = [Bs.mk (part s.b + 1) ver false (srtK ks)]
      rw [hm.pb]
    · rw [hm.pb]; exact hm
  go_region_law (refine step_append_own_at rfl (.tmp 55) (.tmp 57) 40 rfl B 57 i1 (.agg #[.complex .f64 0 0, .int .i64 0, .bool false, .slice none 0 0]) 4 56 Try.underlying40 hi1 hw0 hw1 hw2 rfl (by decide) (.slice qa L qc) L (bc s.bs) (by simp [Act.eval]) (World.ownsRow.alloc (by exact HQ.out.1) _) ⟨W3.heap.size, 0, none⟩ 1 1 (Br.vals ⟨nc, nd, ver, false, va, vn, vc, srtK ks⟩) (by simp [Act.eval]) rfl (four_at _ _ _ _ _ _) (br_one _) (by unfold maxLen; omega) (by omega) (by have := HQ.out.2; simp; omega) ?_; intro v4 w4 hown4 hgrow4 hat4; obtain ⟨d1, d3, HE⟩ := rtell_fin (X := fun k => (Value.slice va vn vc).ownBlock = some k) (HY.out.1.st _) HX.out.2.2.2.1 HX.out.2.2.2.2.1 HY.out.2.1 (fun e => HG.out e) hown4 hgrow4 hat4 (by have := HX.out.2.2.2.2.2.1; simp only; omega) HM.out (fun k hk => hk); obtain ⟨g4, c4, rfl⟩ := owns_form hown4; clear hown4 hgrow4 hat4)
  all_goals
    obtain ⟨W5, hW5⟩ : ∃ W5, w4.setCell ⟨t, 4, none⟩ (.slice (some ⟨g4, 0, none⟩) (L + 1) c4) = W5 := ⟨_, rfl⟩
    rw [hW5] at HE ⊢
    obtain ⟨x0, x1, x2, x3, -⟩ := HE.out.2.cells
    have HF : Hid (RBr w (W5.alloc (.cells #[.complex .f64 nc nd, .int .i64 ver, .bool false, .slice va vn vc] 57)) B t s (.slice (some ⟨W5.heap.size, 0, none⟩) 1 1) (s.say.tell (srtK ks) ver)) := by
      refine rtell_ret (m := ⟨nc, nd, ver, false, va, vn, vc, srtK ks⟩) (HE.out.1.sv fun k hk => .inr ?_) HR.out.1 HR.out.2.1 HR.out.2.2 (by simp)
      have := (HY.out.2.2.lt hk).1; have := HX.out.2.2.2.2.2.2.1; omega
    simp only at x0 x1 x2 x3
    clear hW5 d1 d3 e0 e1 e2 e3 d2 df HE
    go_wp2
    go_ret
    exact ⟨_, rfl, HF.out⟩
/-- behind the stores of a full queue -/
theorem rfull_mid {w W3 W4 : World} {B t gb : Nat} {s : Vt} {c d : Nat} {ver : Int} {va : Option Addr} {vn vc : Nat} {ks : List Ky} (h1 : SW w W3 B t s { s with a := c, b := d }) (hbx : BoxB W3 gb ⟨c, d, ver, false, va, vn, vc, ks⟩) (hgb : w.heap.size ≤ gb)
    (hW : (((((W3.setCell ⟨t, 2, none⟩ (.slice none 0 0)).setCell ⟨t, 4, none⟩ (.slice none 0 0)).setCell ⟨gb, 0, none⟩ (.complex .f64 c d)).setCell ⟨gb, 1, none⟩ (.int .i64 ver)).setCell ⟨gb, 2, none⟩ (.bool true)).setCell ⟨gb, 3, none⟩ (.slice none 0 0) = W4) :
    SW w W4 B t s ⟨c, d, .slice none 0 0, [], .slice none 0 0, [], s.mp, s.mq⟩ ∧ BoxB W4 gb ⟨c, d, ver, true, none, 0, 0, []⟩ := by
  have hA := h1.is.putP (Only.refl _ W3) (.slice none 0 0) [] (World.ownsRow_nil _ _ _ _) (Nat.zero_le _) (fun k hk => by cases hk)
  have hB := hA.is.putQ (Only.refl _ _) (.slice none 0 0) [] (World.ownsRow_nil _ _ _ _) (Nat.zero_le _) (fun k hk => by cases hk) (fun b hb => by cases hb) (fun _ => False) (fun b hb => by cases hb)
  have hC := (h1.trans hA).trans (hB.sv (fun _ h => h.elim))
  have hg : gb ≠ t := Tag.ne (⟨_, _, hbx⟩ : Tag W3 gb 57) h1.is.tt (by decide)
  have hbx2 : ((W3.setCell ⟨t, 2, none⟩ (.slice none 0 0)).setCell ⟨t, 4, none⟩ (.slice none 0 0)).heap[gb]? = some (.cells #[.complex .f64 c d, .int .i64 ver, .bool false, .slice va vn vc] 57 (0, 0)) := (heap_set_ne hg).trans ((heap_set_ne hg).trans hbx)
  obtain ⟨W5, hW5⟩ : ∃ W5, (W3.setCell ⟨t, 2, none⟩ (.slice none 0 0)).setCell ⟨t, 4, none⟩ (.slice none 0 0) = W5 := ⟨_, rfl⟩
  rw [hW5] at hW hC hbx2
  have hO : Only (· = gb) W5 W4 := by
    rw [← hW]
    exact (((only1 _ gb _ _).trans (only1 _ gb _ _)).trans (only1 _ gb _ _)).trans (only1 _ gb _ _)
  refine ⟨⟨hC.is.moved fun k hk => ?_, ⟨hO.os.trans hC.only.os, hO.tape.trans hC.only.tape, hO.output.trans hC.only.output, Nat.le_trans hC.only.size hO.size, fun k hk hs => ?_⟩, hC.nwr, hC.nblk⟩, ?_⟩
  · have hkt : k = t := by
      rcases hk with (hk | hk | hk) | ⟨b, hb, -⟩
      · exact hk
      · cases hk
      · cases hk
      · cases hb
    subst hkt
    exact hO.block _ hC.is.tt.lt (Ne.symm hg)
  · exact (hO.block k (Nat.lt_of_lt_of_le hk hC.only.size) (by omega)).trans (hC.only.block k hk hs)
  · rw [← hW]
    have := heap_set (heap_set (heap_set (heap_set hbx2 0 (.complex .f64 c d)) 1 (.int .i64 ver)) 2 (.bool true)) 3 (.slice none 0 0)
    exact this.trans rfl
set_option maxHeartbeats 4000000 in
theorem rbroken_full (t B : Nat) (s : Vt) (a : Option Addr) (n c : Nat) (ks : List Ky) (ver : Int) (w : World) (h : IsW w B t s) (hm : part s.b < MX) (hf : s.bs.length = s.mq) (hq1 : 1 ≤ s.mq) (base : Nat) (hk : RowK w base (.slice a n c) ks) (hl : ks.length * 24 ≤ LK) :
    Calls Try.prog 39 #[.pointer (some ⟨t, 0, none⟩), .slice a n c, .int .i64 ver] w fun e w' => ∃ v', e = .returned v' ∧ RBr w w' B t s v' (s.say.tell (srtK ks) ver) := by
  obtain ⟨i1, hi1, hw0, hw1, hw2⟩ := info_parts Try.infoBr
  obtain ⟨nc, nd, hMn, hnext⟩ := rnext_mk h.mkk hm
  obtain ⟨c0, -, -, -, -, cf⟩ := h.cells
  have cf3 := cf 3
  have hS1 := h.putM hMn
  have hk1 : RowK (w.setCell ⟨t, 3, none⟩ (.complex .f64 nc nd)) base (.slice a n c) ks := hk.moved fun k e => heap_set_ne ((Tag.own hk e).ne h.tt (by decide))
  have hsrt := rsorted_any (.slice a n c) ks _ hk1.rd hl
  obtain ⟨W1, hW1⟩ : ∃ W, w.setCell ⟨t, 3, none⟩ (.complex .f64 nc nd) = W := ⟨_, rfl⟩
  rw [hW1] at hS1 hsrt
  have HS1 : Hid (SW w W1 B t s { s with a := nc, b := nd }) := hS1
  have HH : Hid (IsW w B t s ∧ Mk nc nd (part s.a) (part s.b + 1) ∧ part s.b < MX ∧ s.bs.length = s.mq ∧ ks.length * 24 ≤ LK) := ⟨h, hMn, hm, hf, hl⟩
  clear h hS1 cf hk hk1 hf hm hl
  go_enter Try.func39, Try.ntmps39
  go_upto_region 6 with (go_at_call 55; refine (hnext _).mono ?_; rintro e w' ⟨rfl, hw'⟩; rw [hw'])
  clear hW1 c0 cf3 hnext
  go_upto_region 7 with (go_at_call 56; refine hsrt.mono ?_; rintro e w2 ⟨v6, rfl, hr6, hb2⟩; obtain ⟨va, vc, h6⟩ := owns_len hr6; obtain ⟨vn, hvn⟩ : ∃ k, (srtK ks).length = k := ⟨_, rfl⟩; rw [hvn] at h6; subst h6; have HR6 : Hid (RowK w2 W1.heap.size (.slice va vn vc) (srtK ks) ∧ Below W1.heap.size W1 w2) := ⟨hr6, hb2⟩; clear hr6 hb2 hvn)
  obtain ⟨W, hW⟩ : ∃ W, w2.alloc (.cells #[.complex .f64 nc nd, .int .i64 ver, .bool false, .slice va vn vc] 57) = W := ⟨_, rfl⟩
  rw [hW]
  have hbW : Below w2.heap.size w2 W := by rw [← hW]; exact below_alloc _ _
  have hB : BoxB W w2.heap.size ⟨nc, nd, ver, false, va, vn, vc, srtK ks⟩ := by rw [← hW]; exact heap_new _ _
  have hS := HS1.out.on (chainB HR6.out.2 hbW)
  have hK : RowK W W1.heap.size (.slice va vn vc) (srtK ks) := HR6.out.1.below hbW
  have h1 := hS.is
  obtain ⟨-, c1, c2, -, c4, cf⟩ := h1.cells
  obtain ⟨pa, pc, hp⟩ := owns_len HH.out.1.rk
  have c1' : W.cell? ⟨t, 2, none⟩ = some (.slice pa s.ks.length pc) := by rw [← hp]; exact c1
  obtain ⟨qa, qc, hq⟩ := owns_len HH.out.1.rb
  have c2' : W.cell? ⟨t, 4, none⟩ = some (.slice qa s.bs.length qc) := by rw [← hq]; exact c2
  obtain ⟨L, hL⟩ : ∃ L, s.bs.length = L := ⟨_, rfl⟩
  obtain ⟨mq, hmq⟩ : ∃ mq, s.mq = mq := ⟨_, rfl⟩
  have c4' : W.cell? ⟨t, 1, none⟩ = some (.int .i64 mq) := by rw [← hmq]; exact c4
  have hlq := HH.out.1.lq
  have hf := HH.out.2.2.2.1
  rw [hL] at c2' hf
  rw [hmq] at hf hlq
  have hdq : (mq : Int) ≤ (L : Int) := by omega
  have HX : Hid (SW w W B t s { s with a := nc, b := nd } ∧ BoxB W w2.heap.size ⟨nc, nd, ver, false, va, vn, vc, srtK ks⟩ ∧ RowK W W1.heap.size (.slice va vn vc) (srtK ks) ∧ s.qv = .slice qa L qc ∧ s.bs.length = L ∧ s.mq = mq ∧ w.heap.size ≤ W1.heap.size ∧ W1.heap.size ≤ w2.heap.size) := ⟨hS, hB, hK, by rw [hq, hL], hL, hmq, HS1.out.only.size, HR6.out.2.size⟩
  obtain ⟨b0, b1, b2, b3, bf⟩ := hB.cells
  simp only at b0 b1 b2 b3
  have hbt : w2.heap.size ≠ t := fun e => by have := HH.out.1.tt.lt; have := HX.out.2.2.2.2.2.2; omega
  have hbt' : t ≠ w2.heap.size := Ne.symm hbt
  clear hS hB hK h1 c1 c2 c4 hq hL hmq hp hW hbW
  go_quiet (fail)
  obtain ⟨W3, hW3⟩ : ∃ W3, W.drewN nq = W3 := ⟨_, rfl⟩
  rw [hW3]
  have hb3 : Below W.heap.size W W3 := by rw [← hW3]; exact below_drewN (Below.refl _ _) _
  have HY : Hid (SW w W3 B t s { s with a := nc, b := nd } ∧ BoxB W3 w2.heap.size ⟨nc, nd, ver, false, va, vn, vc, srtK ks⟩) := ⟨HX.out.1.on hb3, HX.out.2.1.below hb3⟩
  have d1 := (hb3.cell (cellLt c1')).trans c1'
  have d2 := (hb3.cell (cellLt c2')).trans c2'
  have hltW : t < W.heap.size := cellLt c2'
  have hltB : w2.heap.size < W.heap.size := cellLt b0
  have df := fun i => (hb3.frozen (p := ⟨t, i, none⟩) hltW).trans (cf i)
  have ef := fun i => (hb3.frozen (p := ⟨w2.heap.size, i, none⟩) hltB).trans (bf i)
  have e0 := (hb3.cell (cellLt b0)).trans b0
  have e1 := (hb3.cell (cellLt b1)).trans b1
  have e2 := (hb3.cell (cellLt b2)).trans b2
  have e3 := (hb3.cell (cellLt b3)).trans b3
  clear hW3 hb3 b0 b1 b2 b3 c1' c2' c4' cf bf hltW hltB
  go_upto_region 11 with fail
  obtain ⟨W4, hW4⟩ : ∃ W4, (((((W3.setCell ⟨t, 2, none⟩ (.slice none 0 0)).setCell ⟨t, 4, none⟩ (.slice none 0 0)).setCell ⟨w2.heap.size, 0, none⟩ (.complex .f64 nc nd)).setCell ⟨w2.heap.size, 1, none⟩ (.int .i64 ver)).setCell ⟨w2.heap.size, 2, none⟩ (.bool true)).setCell ⟨w2.heap.size, 3, none⟩ (.slice none 0 0) = W4 := ⟨_, rfl⟩
  rw [hW4]
  obtain ⟨hS4, hB4⟩ := rfull_mid HY.out.1 HY.out.2 (Nat.le_trans HX.out.2.2.2.2.2.2.1 HX.out.2.2.2.2.2.2.2) hW4
  clear hW4 d1 d2 df ef e0 e1 e2 e3
  obtain ⟨-, -, d2, -, -, df⟩ := hS4.is.cells
  obtain ⟨e0, e1, e2, e3, -⟩ := hB4.cells
  simp only at e0 e1 e2 e3 d2
  have hlt : t < W4.heap.size := cellLt d2
  have HZ : Hid (SW w W4 B t s ⟨nc, nd, .slice none 0 0, [], .slice none 0 0, [], s.mp, s.mq⟩ ∧ BoxB W4 w2.heap.size ⟨nc, nd, ver, true, none, 0, 0, []⟩ ∧ B ≤ W4.heap.size ∧ 1 ≤ s.mq) := ⟨hS4, hB4, hS4.is.bw, hq1⟩
  have HM : Hid (RowK W4 B (.slice none 0 0) [] ∧ ([] : List Ky).length * 24 ≤ LK ∧ Mk nc nd (part nc) (part nd) ∧ ∀ k, (Value.slice none 0 0).ownBlock = some k → (Value.slice none 0 0).ownBlock ≠ some k) := ⟨World.ownsRow_nil _ _ _ _, by simp, by have hm := HH.out.2.1; rw [hm.pa, hm.pb]; exact hm, fun k hk => by cases hk⟩
  have HR : Hid ((⟨nc, nd, .slice none 0 0, [], .slice none 0 0, [⟨nc, nd, ver, true, none, 0, 0, []⟩], s.mp, s.mq⟩ : Vt).say = (s.say.tell (srtK ks) ver).1 ∧ [(⟨nc, nd, ver, true, none, 0, 0, []⟩ : Br).say] = (s.say.tell (srtK ks) ver).2 ∧ Mk nc nd (part s.a) (part nd)) := by
    have hm := HH.out.2.1
    have e : s.say.tell (srtK ks) ver = ({ s.say with n := s.say.n + 1, ks := [], q := [⟨s.say.n + 1, ver, true, []⟩] }, [⟨s.say.n + 1, ver, true, []⟩]) := by
      unfold Vs.tell
      rw [if_pos (show s.say.n < MX from HH.out.2.2.1), if_pos]
      show (s.bs.map Br.say).length = s.mq
      rw [List.length_map]
      exact HH.out.2.2.2.1
    rw [e]
    refine ⟨?_, ?_, ?_⟩
    · show Vs.mk (part nc) (part nd) [] [Bs.mk (part nd) ver true []] s.mp s.mq = Vs.mk (part s.a) (part s.b + 1) [] [Bs.mk (part s.b + 1) ver true []] s.mp s.mq
      rw [hm.pa, hm.pb]
    · show [Bs.mk (part nd) ver true []] = [Bs.mk (part s.b + 1) ver true []]
      rw [hm.pb]
    · rw [hm.pb]; exact hm
  clear hS4 hB4
  go_region_law (refine step_append_own_at rfl (.tmp 55) (.tmp 57) 40 rfl B 57 i1 (.agg #[.complex .f64 0 0, .int .i64 0, .bool false, .slice none 0 0]) 4 56 Try.underlying40 hi1 hw0 hw1 hw2 rfl (by decide) (.slice none 0 0) 0 (bc []) (by simp [Act.eval]) (World.ownsRow.alloc (World.ownsRow_nil _ _ _ _) _) ⟨W4.heap.size, 0, none⟩ 1 1 (Br.vals ⟨nc, nd, ver, true, none, 0, 0, []⟩) (by simp [Act.eval]) rfl (four_at _ _ _ _ _ _) (br_one _) (by unfold maxLen; omega) (by omega) (by have := HZ.out.2.2.1; simp; omega) ?_; intro v4 w4 hown4 hgrow4 hat4; obtain ⟨d1, d3, HE⟩ := rtell_fin (X := fun _ => False) (HZ.out.1.st _) rfl rfl HZ.out.2.1 (fun e => by cases e) hown4 hgrow4 hat4 (by have := HZ.out.2.2.2; simp only; omega) HM.out (fun k hk => by cases hk); obtain ⟨g4, c4, rfl⟩ := owns_form hown4; clear hown4 hgrow4 hat4)
  all_goals
    obtain ⟨W5, hW5⟩ : ∃ W5, w4.setCell ⟨t, 4, none⟩ (.slice (some ⟨g4, 0, none⟩) 1 c4) = W5 := ⟨_, rfl⟩
    rw [hW5]
    have HE' : Hid (SX w W5 B t s ⟨nc, nd, .slice none 0 0, [], .slice (some ⟨g4, 0, none⟩) 1 c4, [⟨nc, nd, ver, true, none, 0, 0, []⟩], s.mp, s.mq⟩ (fun _ => False) ∧ BoxB W5 w2.heap.size ⟨nc, nd, ver, true, none, 0, 0, []⟩) := by rw [← hW5]; exact HE.out
    obtain ⟨x0, x1, x2, x3, -⟩ := HE'.out.2.cells
    have HF : Hid (RBr w (W5.alloc (.cells #[.complex .f64 nc nd, .int .i64 ver, .bool true, .slice none 0 0] 57)) B t s (.slice (some ⟨W5.heap.size, 0, none⟩) 1 1) (s.say.tell (srtK ks) ver)) := rtell_ret (m := ⟨nc, nd, ver, true, none, 0, 0, []⟩) (HE'.out.1.sv fun k hk => hk.elim) HR.out.1 HR.out.2.1 HR.out.2.2 (by simp)
    simp only at x0 x1 x2 x3
    clear hW5 d1 d3 e0 e1 e2 e3 d2 df HE HE'
    go_wp2
    go_ret
    exact ⟨_, rfl, HF.out⟩
theorem rbroken_p (t B : Nat) (s : Vt) (v : Value) (ks : List Ky) (ver : Int) (w : World) (h : IsW w B t s) (hq1 : 1 ≤ s.mq) (base : Nat) (hk : RowK w base v ks) (hl : ks.length * 24 ≤ LK) :
    Calls Try.prog 39 #[.pointer (some ⟨t, 0, none⟩), v, .int .i64 ver] w fun e w' => ∃ v', e = .returned v' ∧ RBr w w' B t s v' (s.say.tell (srtK ks) ver) := by
  obtain ⟨a, c, rfl⟩ := owns_len hk
  by_cases hm : part s.b < MX
  · by_cases hf : s.bs.length = s.mq
    · exact rbroken_full t B s a _ c ks ver w h hm hf hq1 base hk hl
    · exact rbroken_room t B s a _ c ks ver w h hm (by have := h.lb; omega) base hk hl
  · exact rbroken_no t B s _ ks ver w h hm ⟨_, _, _, rfl⟩
end Go.Proofs.Ytaofhjckliobpaa
