/- The document's tree: does, OpSetattr. -/
import Derived.Test.YtjelggpkeogebaaTrY
namespace Go.Proofs.Ytjelggpkeogebaa
open Go.RowKit
attribute [local go_sem high] eqK neqK eqE neqE eqN neqN guardK guardE guardN

/-- a node's mode set -/
theorem set_end {w : World} {t i g n cap : Nat} {s : Tr} {e : En} (h : IsT w t s) (hv : s.v = .slice (some ⟨g, 0, none⟩) n cap) (hn : n = s.es.length) (he : s.es[i]? = some e) (m : Int) : TS w (w.setCell ⟨g, i * 7 + 5, none⟩ (.int .i64 m)) t s { s with es := s.es.set i { e with mode := m } } := by
  have hr := h.row
  have hg : Tag w g 56 := h.tv (by rw [hv]; rfl)
  rw [hv, ← hn] at hr
  refine ⟨⟨(heap_set_ne (h.tt.ne hg (by decide))).trans h.head, ?_, ?_⟩, (only1 w g _ _).mono fun x hx => .inr ?_, .inl rfl⟩
  · show (w.setCell _ _).ownsRow 0 _ 7 s.v (s.es.set i { e with mode := m }).length (ec (s.es.set i { e with mode := m }))
    rw [List.length_set, hv, ← hn, ← ec_set5 s.es i e m he]
    exact (hr.stored (i * 7 + 5) (.int .i64 m)).1
  · show (s.es.set i { e with mode := m }).length ≤ 47
    rw [List.length_set]; exact h.lim
  · rw [hv, hx]; rfl

set_option maxRecDepth 20000 in
set_option maxHeartbeats 16000000 in
theorem does_set (M : Nms) (hM : NmsOK M) (t : Nat) (s : Tr) (od : Int) (onm : ByteArray) (odst : Int) (onew : ByteArray) (omode : Int) (otg : ByteArray) (w : World) (h : IsT w t s) :
    Calls Try.prog 36 #[.pointer (some ⟨t, 0, none⟩), .agg (Opn.arr ⟨11, od, onm, odst, onew, omode, otg⟩)] w fun e w' => e = .returned (.int .i64 (doesE M s ⟨11, od, onm, odst, onew, omode, otg⟩)) ∧ Left w w' t s (doesE M s ⟨11, od, onm, odst, onew, omode, otg⟩) (doesL s ⟨11, od, onm, odst, onew, omode, otg⟩) (doesN s ⟨11, od, onm, odst, onew, omode, otg⟩) := by
  have H : Hid (IsT w t s) := h
  obtain ⟨E, hE⟩ : ∃ x, doesE M s ⟨11, od, onm, odst, onew, omode, otg⟩ = x := ⟨_, rfl⟩
  have HE : Hid (doesE M s ⟨11, od, onm, odst, onew, omode, otg⟩ = E) := hE
  obtain ⟨EL, hEL⟩ : ∃ x, doesL s ⟨11, od, onm, odst, onew, omode, otg⟩ = x := ⟨_, rfl⟩
  have HEL : Hid (EL = setM s.es od onm omode) := by show _ = _; rw [← hEL]; unfold doesL; simp
  obtain ⟨EN, hEN⟩ : ∃ x, doesN s ⟨11, od, onm, odst, onew, omode, otg⟩ = x := ⟨_, rfl⟩
  have HEN : Hid (EN = s.next) := by show _ = _; rw [← hEN]; unfold doesN; simp
  rw [hE, hEL, hEN]
  obtain ⟨N1, hN1⟩ : ∃ x, namedE M s.es od onm = x := ⟨_, rfl⟩
  have HN1 : Hid ((∀ w, IsT w t s → Calls Try.prog 59 #[.pointer (some ⟨t, 0, none⟩), .int .i64 od, .string onm] w fun e w' => e = .returned (.int .i64 N1) ∧ Below w.heap.size w w') ∧ namedE M s.es od onm = N1) := ⟨by intro w hw; rw [← hN1]; exact named_any M hM t s od onm w hw, hN1⟩
  clear hE hEL hEN hN1 h hM
  simp only [Opn.arr]
  go_enter Try.func36, Try.ntmps36
  go_upto_region 2 with fail
  obtain ⟨W, hW⟩ : ∃ W, (w.alloc (.cells #[.int .i64 11, .int .i64 od, .string onm, .int .i64 odst, .string onew, .int .i64 omode, .string otg] 38)).alloc (.cells #[.int .i64 od, .string onm] 52) = W := ⟨_, rfl⟩
  rw [hW]
  obtain ⟨m0, m1, hbW, -⟩ := boxes2 hW
  have HW : Hid (OV W w.heap.size ⟨11, od, onm, odst, onew, omode, otg⟩ ∧ IsT W t s ∧ Below w.heap.size w W) := ⟨⟨m0, m1⟩, H.out.below hbW, hbW⟩
  obtain ⟨⟨q0, q1, q2, q3, q4, q5, q6⟩, q7, q8⟩ := HW.out.1.cells
  simp only at q0 q1 q2 q3 q4 q5 q6 q7 q8
  clear hW m0 m1 hbW
  by_cases hz : N1 = 0
  · subst hz
    cases hbm : badM omode with
    | true =>
      have HE0 : Hid (E = 1) := by
        show _ = _
        rw [← HE.out]; unfold doesE; simp [HN1.out.2, hbm]
      rcases (by unfold badM at hbm; simpa using hbm : omode < 0 ∨ 511 < omode) with hm | hm
      · have hd : decide (omode < 0) = true := decide_eq_true hm
        clear hbm
        go_wp2_with (go_at_call 59; refine (HN1.out.1 _ HW.out.2.1).mono ?_; rintro x w1 ⟨rfl, hb1⟩; have H1 : Hid (OV w1 w.heap.size ⟨11, od, onm, odst, onew, omode, otg⟩ ∧ IsT w1 t s ∧ Below w.heap.size w w1) := ⟨HW.out.1.below hb1, HW.out.2.1.below hb1, chainB HW.out.2.2 hb1⟩; obtain ⟨⟨r0, r1, r2, r3, r4, r5, r6⟩, r7, r8⟩ := H1.out.1.cells; clear hb1 q0 q1 q2 q3 q4 q5 q6 q7 q8)
        go_ret
        exact ⟨by rw [HE0.out]; rfl, Left.no (by rw [HE0.out]; decide) H1.out.2.2⟩
      · have hd : decide (omode < 0) = false := decide_eq_false (by omega)
        have hd2 : decide (511 < omode) = true := decide_eq_true hm
        clear hbm
        go_wp2_with (go_at_call 59; refine (HN1.out.1 _ HW.out.2.1).mono ?_; rintro x w1 ⟨rfl, hb1⟩; have H1 : Hid (OV w1 w.heap.size ⟨11, od, onm, odst, onew, omode, otg⟩ ∧ IsT w1 t s ∧ Below w.heap.size w w1) := ⟨HW.out.1.below hb1, HW.out.2.1.below hb1, chainB HW.out.2.2 hb1⟩; obtain ⟨⟨r0, r1, r2, r3, r4, r5, r6⟩, r7, r8⟩ := H1.out.1.cells; clear hb1 q0 q1 q2 q3 q4 q5 q6 q7 q8)
        go_ret
        exact ⟨by rw [HE0.out]; rfl, Left.no (by rw [HE0.out]; decide) H1.out.2.2⟩
    | false =>
      have hmm : ¬ (omode < 0) ∧ ¬ (511 < omode) := by unfold badM at hbm; simpa using hbm
      have hd : decide (omode < 0) = false := decide_eq_false hmm.1
      have hd2 : decide (511 < omode) = false := decide_eq_false hmm.2
      cases hq : atI s.es od onm with
      | none =>
        have HA : Hid _ := atN t s od onm hq
        have HE0 : Hid (E = 40) := by
          show _ = _
          rw [← HE.out]; unfold doesE; simp [HN1.out.2, hbm, atE_none hq]
        clear hbm hq
        go_wp2_with (first
          | (go_at_call 59; refine (HN1.out.1 _ HW.out.2.1).mono ?_; rintro x w1 ⟨rfl, hb1⟩; have H1 : Hid (OV w1 w.heap.size ⟨11, od, onm, odst, onew, omode, otg⟩ ∧ IsT w1 t s ∧ Below w.heap.size w w1) := ⟨HW.out.1.below hb1, HW.out.2.1.below hb1, chainB HW.out.2.2 hb1⟩; obtain ⟨⟨r0, r1, r2, r3, r4, r5, r6⟩, r7, r8⟩ := H1.out.1.cells; clear hb1 q0 q1 q2 q3 q4 q5 q6 q7 q8)
          | (go_at_call 63; refine (HA.out _ H1.out.2.1).mono ?_; rintro x w2 ⟨rfl, hb2⟩))
        go_ret
        exact ⟨by rw [HE0.out]; rfl, Left.no (by rw [HE0.out]; decide) (chainB H1.out.2.2 hb2)⟩
      | some i =>
        have HA : Hid _ := atS t s od onm i hq
        obtain ⟨e, he, -, -⟩ := atI_lt hq
        have HE0 : Hid (E = 0 ∧ EL = s.es.set i { e with mode := omode }) := by
          refine ⟨?_, ?_⟩
          · rw [← HE.out]; unfold doesE; simp [HN1.out.2, hbm, atE_some hq he]
          · rw [HEL.out]; unfold setM; simp only [hq, he]
        have HEI : Hid (s.es[i]? = some e) := he
        clear hbm hq he
        go_upto_region 35 with (first
          | (go_at_call 59; refine (HN1.out.1 _ HW.out.2.1).mono ?_; rintro x w1 ⟨rfl, hb1⟩; have H1 : Hid (OV w1 w.heap.size ⟨11, od, onm, odst, onew, omode, otg⟩ ∧ IsT w1 t s ∧ Below w.heap.size w w1) := ⟨HW.out.1.below hb1, HW.out.2.1.below hb1, chainB HW.out.2.2 hb1⟩; obtain ⟨⟨r0, r1, r2, r3, r4, r5, r6⟩, r7, r8⟩ := H1.out.1.cells; clear hb1 q0 q1 q2 q3 q4 q5 q6 q7 q8)
          | (go_at_call 63; refine (HA.out _ H1.out.2.1).mono ?_; rintro x w2 ⟨rfl, hb2⟩; have H2 : Hid (OV w2 w.heap.size ⟨11, od, onm, odst, onew, omode, otg⟩ ∧ IsT w2 t s ∧ Below w.heap.size w w2) := ⟨H1.out.1.below hb2, H1.out.2.1.below hb2, chainB H1.out.2.2 hb2⟩))
        obtain ⟨g, n, cap, hv, hnl, hin, hn47, hg, ct, hc, hfz⟩ := H2.out.2.1.entry HEI.out
        obtain ⟨⟨r0', r1', r2', r3', r4', r5', r6'⟩, r7', r8'⟩ := H2.out.1.cells
        have x5 := hc.c5
        have hf5 := hfz (i * 7 + 5)
        have hii : (i : Int) < (n : Int) := by omega
        have ht : Tag w2 g 56 := H2.out.2.1.tv (by rw [hv]; rfl)
        have hne1 : t ≠ g := H2.out.2.1.tt.ne ht (by decide)
        have hne2 : w.heap.size ≠ g := Tag.ne (⟨_, _, H2.out.1.a⟩ : Tag w2 w.heap.size 38) ht (by decide)
        have HT : Hid (TS w2 (w2.setCell ⟨g, i * 7 + 5, none⟩ (.int .i64 omode)) t s { s with es := s.es.set i { e with mode := omode } }) := set_end H2.out.2.1 hv hnl HEI.out omode
        clear hnl hv hc hfz hb2 r0' r1' r2' r3' r4' r6' r7' r8'
        go_region_held3 (fun w' => w'.cell? ⟨t, 0, none⟩ = some (.slice (some ⟨g, 0, none⟩) n cap) ∧ w'.cell? ⟨w.heap.size, 5, none⟩ = some (.int .i64 omode))
          (first | exact ⟨ct, r5'⟩ | exact ⟨(cell_ne' hne1).trans ct, (cell_ne' hne2).trans r5'⟩ | assumption)
          (first | fail)
        go_wp2
        go_ret
        exact ⟨by rw [HE0.out.1]; rfl, by rw [HE0.out.2, HEN.out]; exact Left.yes HE0.out.1 ⟨s.v, (HT.out.le H2.out.2.2).on (Below.refl _ _).drew⟩⟩
  · have HE0 : Hid (E = N1 ∧ N1 ≠ 0) := by
      refine ⟨?_, hz⟩
      rw [← HE.out]; unfold doesE; simp only [HN1.out.2]; rw [if_neg (by decide), if_pos hz]
    have hzb : (N1 != 0) = true := by simpa using hz
    clear hz
    go_wp2_with (go_at_call 59; refine (HN1.out.1 _ HW.out.2.1).mono ?_; rintro x w1 ⟨rfl, hb1⟩)
    go_ret
    exact ⟨by rw [HE0.out.1]; rfl, Left.no (by rw [HE0.out.1]; exact HE0.out.2) (chainB HW.out.2.2 hb1)⟩

theorem does_any (M : Nms) (hM : NmsOK M) (t : Nat) (s : Tr) (o : Opn) (w : World) (h : IsT w t s) (hnx : -9223372036854775808 ≤ s.next ∧ s.next < 9223372036854775807)
    (hroom : ∀ i e, atI s.es o.dir o.nm = some i → s.es[i]? = some e → (goneL (if (otherE s.es i o.dst o.new).isSome then goneL s.es o.dst o.new else s.es) o.dir o.nm).length + 1 ≤ 47) :
    Calls Try.prog 36 #[.pointer (some ⟨t, 0, none⟩), .agg o.arr] w fun e w' => e = .returned (.int .i64 (doesE M s o)) ∧ Left w w' t s (doesE M s o) (doesL s o) (doesN s o) := by
  by_cases hk : o.kind = 11
  · obtain ⟨ok, od, onm, odst, onew, omode, otg⟩ := o
    simp only at hk
    subst hk
    exact does_set M hM t s od onm odst onew omode otg w h
  · exact does_pre M hM t s o w h hnx hroom hk
end Go.Proofs.Ytjelggpkeogebaa
