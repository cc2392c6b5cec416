/- The document's tree: named, does. -/
import Derived.Test.YtjelggpkeogebaaTrX
namespace Go.Proofs.Ytjelggpkeogebaa
open Go.RowKit
attribute [local go_sem high] eqK neqK eqE neqE eqN neqN guardK guardE guardN

structure NmsOK (M : Nms) : Prop where
  check : ∀ s w, Calls Try.prog 25 #[.string s] w fun e w' => e = .returned (.int .i64 (M.chk s)) ∧ w' = w
  target : ∀ s w, Calls Try.prog 24 #[.string s] w fun e w' => ∃ v a b, e = .returned (.tuple #[v, .bool a, .bool b, .int .i64 (M.tgt s)]) ∧ Below w.heap.size w w'
theorem named_any (M : Nms) (hM : NmsOK M) (t : Nat) (s : Tr) (d : Int) (nm : ByteArray) (w : World) (h : IsT w t s) :
    Calls Try.prog 59 #[.pointer (some ⟨t, 0, none⟩), .int .i64 d, .string nm] w fun e w' => e = .returned (.int .i64 (namedE M s.es d nm)) ∧ Below w.heap.size w w' := by
  obtain ⟨D, hD⟩ : ∃ x, dirE s.es d = x := ⟨_, rfl⟩
  have HD : Hid (∀ w, IsT w t s → Calls Try.prog 26 #[.pointer (some ⟨t, 0, none⟩), .int .i64 d] w fun e w' => e = .returned (.int .i64 D) ∧ Below w.heap.size w w') := by
    intro w hw; rw [← hD]; exact dir_any t s d w hw
  have HM : Hid (NmsOK M) := hM
  have H : Hid (IsT w t s) := h
  unfold namedE
  rw [hD]
  clear hD hM h
  by_cases hz : D = 0
  · subst hz
    rw [if_pos rfl]
    go_enter Try.func59, Try.ntmps59
    go_wp2_with (first
      | (go_at_call 26; refine (HD.out _ H.out).mono ?_; rintro e w1 ⟨rfl, hb1⟩)
      | (go_at_call 25; refine (HM.out.check nm _).mono ?_; rintro e w2 ⟨rfl, rfl⟩))
    go_ret
    exact ⟨rfl, hb1⟩
  · rw [if_neg hz]
    have hzb : (D != 0) = true := by simpa using hz
    go_enter Try.func59, Try.ntmps59
    go_wp2_with (go_at_call 26; refine (HD.out _ H.out).mono ?_; rintro e w1 ⟨rfl, hb1⟩)
    go_ret
    exact ⟨rfl, hb1⟩

/-- the variables of does -/
structure OV (wr : World) (k : Nat) (o : Opn) : Prop where
  a : wr.heap[k]? = some (.cells o.arr 38 (0, 0))
  b : wr.heap[k + 1]? = some (.cells #[.int .i64 o.dir, .string o.nm] 52 (0, 0))
theorem OV.below {wr w' : World} {k : Nat} {o : Opn} (r : OV wr k o) (hb : Below wr.heap.size wr w') : OV w' k o := ⟨hkeep r.a hb, hkeep r.b hb⟩
theorem OV.cells {wr : World} {k : Nat} {o : Opn} (r : OV wr k o) : (wr.cell? ⟨k, 0, none⟩ = some (.int .i64 o.kind) ∧ wr.cell? ⟨k, 1, none⟩ = some (.int .i64 o.dir) ∧ wr.cell? ⟨k, 2, none⟩ = some (.string o.nm) ∧ wr.cell? ⟨k, 3, none⟩ = some (.int .i64 o.dst) ∧ wr.cell? ⟨k, 4, none⟩ = some (.string o.new) ∧ wr.cell? ⟨k, 5, none⟩ = some (.int .i64 o.mode) ∧ wr.cell? ⟨k, 6, none⟩ = some (.string o.tg)) ∧ wr.cell? ⟨k + 1, 0, none⟩ = some (.int .i64 o.dir) ∧ wr.cell? ⟨k + 1, 1, none⟩ = some (.string o.nm) :=
  ⟨⟨by rw [cell_of r.a]; rfl, by rw [cell_of r.a]; rfl, by rw [cell_of r.a]; rfl, by rw [cell_of r.a]; rfl, by rw [cell_of r.a]; rfl, by rw [cell_of r.a]; rfl, by rw [cell_of r.a]; rfl⟩, by rw [cell_of r.b]; rfl, by rw [cell_of r.b]; rfl⟩
theorem Left.le {w0 w w' : World} {t : Nat} {s : Tr} {E : Int} {es' : List En} {next' : Int} (h : Left w w' t s E es' next') (hb : Below w0.heap.size w0 w) : Left w0 w' t s E es' next' :=
  ⟨fun k => chainB hb (h.1 k), fun k => by obtain ⟨v', hv⟩ := h.2 k; exact ⟨v', hv.le hb⟩⟩

set_option maxRecDepth 20000 in
set_option maxHeartbeats 16000000 in
theorem does_pre (M : Nms) (hM : NmsOK M) (t : Nat) (s : Tr) (o : Opn) (w : World) (h : IsT w t s) (hnx : -9223372036854775808 ≤ s.next ∧ s.next < 9223372036854775807)
    (hroom : ∀ i e, atI s.es o.dir o.nm = some i → s.es[i]? = some e → (goneL (if (otherE s.es i o.dst o.new).isSome then goneL s.es o.dst o.new else s.es) o.dir o.nm).length + 1 ≤ 47) (hk : o.kind ≠ 11) :
    Calls Try.prog 36 #[.pointer (some ⟨t, 0, none⟩), .agg o.arr] w fun e w' => e = .returned (.int .i64 (doesE M s o)) ∧ Left w w' t s (doesE M s o) (doesL s o) (doesN s o) := by
  have H : Hid (IsT w t s) := h
  have HM : Hid (NmsOK M) := hM
  obtain ⟨E, hE⟩ : ∃ x, doesE M s o = x := ⟨_, rfl⟩
  have HE : Hid (doesE M s o = E) := hE
  obtain ⟨EL, hEL⟩ : ∃ x, doesL s o = x := ⟨_, rfl⟩
  have HEL : Hid (doesL s o = EL) := hEL
  obtain ⟨EN, hEN⟩ : ∃ x, doesN s o = x := ⟨_, rfl⟩
  have HEN : Hid (doesN s o = EN) := hEN
  rw [hE, hEL, hEN]
  obtain ⟨N1, hN1⟩ : ∃ x, namedE M s.es o.dir o.nm = x := ⟨_, rfl⟩
  have HN1 : Hid ((∀ w, IsT w t s → Calls Try.prog 59 #[.pointer (some ⟨t, 0, none⟩), .int .i64 o.dir, .string o.nm] w fun e w' => e = .returned (.int .i64 N1) ∧ Below w.heap.size w w') ∧ namedE M s.es o.dir o.nm = N1) := ⟨by intro w hw; rw [← hN1]; exact named_any M hM t s o.dir o.nm w hw, hN1⟩
  have HR : Hid (∀ i e, atI s.es o.dir o.nm = some i → s.es[i]? = some e → (goneL (if (otherE s.es i o.dst o.new).isSome then goneL s.es o.dst o.new else s.es) o.dir o.nm).length + 1 ≤ 47) := hroom
  clear hE hEL hEN hN1 h hM hroom
  obtain ⟨ok, od, onm, odst, onew, omode, otg⟩ := o
  simp only [Opn.arr] at *
  go_enter Try.func36, Try.ntmps36
  go_upto_region 2 with fail
  obtain ⟨W, hW⟩ : ∃ W, (w.alloc (.cells #[.int .i64 ok, .int .i64 od, .string onm, .int .i64 odst, .string onew, .int .i64 omode, .string otg] 38)).alloc (.cells #[.int .i64 od, .string onm] 52) = W := ⟨_, rfl⟩
  rw [hW]
  obtain ⟨m0, m1, hbW, -⟩ := boxes2 hW
  have HW : Hid (OV W w.heap.size ⟨ok, od, onm, odst, onew, omode, otg⟩ ∧ IsT W t s ∧ Below w.heap.size w W) := ⟨⟨m0, m1⟩, H.out.below hbW, hbW⟩
  obtain ⟨⟨q0, q1, q2, q3, q4, q5, q6⟩, q7, q8⟩ := HW.out.1.cells
  simp only at q0 q1 q2 q3 q4 q5 q6 q7 q8
  clear hW m0 m1 hbW
  by_cases hkr : ok < 5 ∨ 11 < ok
  · have HE0 : Hid (E = 1) := by
      show _ = _
      rw [← HE.out]; unfold doesE; rw [if_pos hkr]
    by_cases h5 : ok < 5
    · have hd : decide (ok < 5) = true := decide_eq_true h5
      clear hkr
      go_wp2_with fail
      go_ret
      exact ⟨by rw [HE0.out]; rfl, Left.no (by rw [HE0.out]; decide) HW.out.2.2⟩
    · have hd : decide (ok < 5) = false := decide_eq_false h5
      have hd2 : decide (11 < ok) = true := decide_eq_true (by omega)
      clear hkr
      go_wp2_with fail
      go_ret
      exact ⟨by rw [HE0.out]; rfl, Left.no (by rw [HE0.out]; decide) HW.out.2.2⟩
  · by_cases hz : N1 = 0
    · subst hz
      rcases (show ok = 5 ∨ ok = 6 ∨ ok = 7 ∨ ok = 8 ∨ ok = 9 ∨ ok = 10 by omega) with rfl | rfl | rfl | rfl | rfl | rfl
      · clear hkr hk
        cases hbm : badM omode with
        | true =>
          have HE0 : Hid (E = 1) := by
            show _ = _
            rw [← HE.out]; unfold doesE; simp [HN1.out.2, hbm]
          rcases (by unfold badM at hbm; simpa using hbm : omode < 0 ∨ 511 < omode) with hm | hm
          · have hd : decide (omode < 0) = true := decide_eq_true hm
            clear hbm
            go_wp2_with (go_at_call 59; refine (HN1.out.1 _ HW.out.2.1).mono ?_; rintro x w1 ⟨rfl, hb1⟩; have H1 : Hid (OV w1 w.heap.size ⟨5, od, onm, odst, onew, omode, otg⟩ ∧ IsT w1 t s ∧ Below w.heap.size w w1) := ⟨HW.out.1.below hb1, HW.out.2.1.below hb1, chainB HW.out.2.2 hb1⟩; obtain ⟨⟨r0, r1, r2, r3, r4, r5, r6⟩, r7, r8⟩ := H1.out.1.cells; clear hb1 q0 q1 q2 q3 q4 q5 q6 q7 q8)
            go_ret
            exact ⟨by rw [HE0.out]; rfl, Left.no (by rw [HE0.out]; decide) H1.out.2.2⟩
          · have hd : decide (omode < 0) = false := decide_eq_false (by omega)
            have hd2 : decide (511 < omode) = true := decide_eq_true hm
            clear hbm
            go_wp2_with (go_at_call 59; refine (HN1.out.1 _ HW.out.2.1).mono ?_; rintro x w1 ⟨rfl, hb1⟩; have H1 : Hid (OV w1 w.heap.size ⟨5, od, onm, odst, onew, omode, otg⟩ ∧ IsT w1 t s ∧ Below w.heap.size w w1) := ⟨HW.out.1.below hb1, HW.out.2.1.below hb1, chainB HW.out.2.2 hb1⟩; obtain ⟨⟨r0, r1, r2, r3, r4, r5, r6⟩, r7, r8⟩ := H1.out.1.cells; clear hb1 q0 q1 q2 q3 q4 q5 q6 q7 q8)
            go_ret
            exact ⟨by rw [HE0.out]; rfl, Left.no (by rw [HE0.out]; decide) H1.out.2.2⟩
        | false =>
          have HE0 : Hid (E = madeE s.es od onm) := by
            show _ = _
            rw [← HE.out]; unfold doesE; simp [HN1.out.2, hbm]
          have HL0 : Hid (EL = s.es ++ [⟨od, onm, false, s.next, 2, omode, ⟨#[]⟩⟩] ∧ EN = s.next + 1) := by
            show _ ∧ _
            rw [← HEL.out, ← HEN.out]; unfold doesL doesN; simp
          have hmm : ¬ (omode < 0) ∧ ¬ (511 < omode) := by unfold badM at hbm; simpa using hbm
          have hd : decide (omode < 0) = false := decide_eq_false hmm.1
          have hd2 : decide (511 < omode) = false := decide_eq_false hmm.2
          clear hbm
          go_wp2_with (first
            | (go_at_call 59; refine (HN1.out.1 _ HW.out.2.1).mono ?_; rintro x w1 ⟨rfl, hb1⟩; have H1 : Hid (OV w1 w.heap.size ⟨5, od, onm, odst, onew, omode, otg⟩ ∧ IsT w1 t s ∧ Below w.heap.size w w1) := ⟨HW.out.1.below hb1, HW.out.2.1.below hb1, chainB HW.out.2.2 hb1⟩; obtain ⟨⟨r0, r1, r2, r3, r4, r5, r6⟩, r7, r8⟩ := H1.out.1.cells; clear hb1 q0 q1 q2 q3 q4 q5 q6 q7 q8)
            | (go_at_call 60; refine (made_any t s od onm 2 omode ⟨#[]⟩ _ H1.out.2.1 hnx).mono ?_; rintro x w2 ⟨rfl, hL2⟩))
          go_ret
          exact ⟨by rw [HE0.out]; rfl, by rw [HE0.out, HL0.out.1, HL0.out.2]; exact hL2.le H1.out.2.2⟩
      · clear hkr hk
        cases hbm : badM omode with
        | true =>
          have HE0 : Hid (E = 1) := by
            show _ = _
            rw [← HE.out]; unfold doesE; simp [HN1.out.2, hbm]
          rcases (by unfold badM at hbm; simpa using hbm : omode < 0 ∨ 511 < omode) with hm | hm
          · have hd : decide (omode < 0) = true := decide_eq_true hm
            clear hbm
            go_wp2_with (go_at_call 59; refine (HN1.out.1 _ HW.out.2.1).mono ?_; rintro x w1 ⟨rfl, hb1⟩; have H1 : Hid (OV w1 w.heap.size ⟨6, od, onm, odst, onew, omode, otg⟩ ∧ IsT w1 t s ∧ Below w.heap.size w w1) := ⟨HW.out.1.below hb1, HW.out.2.1.below hb1, chainB HW.out.2.2 hb1⟩; obtain ⟨⟨r0, r1, r2, r3, r4, r5, r6⟩, r7, r8⟩ := H1.out.1.cells; clear hb1 q0 q1 q2 q3 q4 q5 q6 q7 q8)
            go_ret
            exact ⟨by rw [HE0.out]; rfl, Left.no (by rw [HE0.out]; decide) H1.out.2.2⟩
          · have hd : decide (omode < 0) = false := decide_eq_false (by omega)
            have hd2 : decide (511 < omode) = true := decide_eq_true hm
            clear hbm
            go_wp2_with (go_at_call 59; refine (HN1.out.1 _ HW.out.2.1).mono ?_; rintro x w1 ⟨rfl, hb1⟩; have H1 : Hid (OV w1 w.heap.size ⟨6, od, onm, odst, onew, omode, otg⟩ ∧ IsT w1 t s ∧ Below w.heap.size w w1) := ⟨HW.out.1.below hb1, HW.out.2.1.below hb1, chainB HW.out.2.2 hb1⟩; obtain ⟨⟨r0, r1, r2, r3, r4, r5, r6⟩, r7, r8⟩ := H1.out.1.cells; clear hb1 q0 q1 q2 q3 q4 q5 q6 q7 q8)
            go_ret
            exact ⟨by rw [HE0.out]; rfl, Left.no (by rw [HE0.out]; decide) H1.out.2.2⟩
        | false =>
          have HE0 : Hid (E = madeE s.es od onm) := by
            show _ = _
            rw [← HE.out]; unfold doesE; simp [HN1.out.2, hbm]
          have HL0 : Hid (EL = s.es ++ [⟨od, onm, false, s.next, 1, omode, ⟨#[]⟩⟩] ∧ EN = s.next + 1) := by
            show _ ∧ _
            rw [← HEL.out, ← HEN.out]; unfold doesL doesN; simp
          have hmm : ¬ (omode < 0) ∧ ¬ (511 < omode) := by unfold badM at hbm; simpa using hbm
          have hd : decide (omode < 0) = false := decide_eq_false hmm.1
          have hd2 : decide (511 < omode) = false := decide_eq_false hmm.2
          clear hbm
          go_wp2_with (first
            | (go_at_call 59; refine (HN1.out.1 _ HW.out.2.1).mono ?_; rintro x w1 ⟨rfl, hb1⟩; have H1 : Hid (OV w1 w.heap.size ⟨6, od, onm, odst, onew, omode, otg⟩ ∧ IsT w1 t s ∧ Below w.heap.size w w1) := ⟨HW.out.1.below hb1, HW.out.2.1.below hb1, chainB HW.out.2.2 hb1⟩; obtain ⟨⟨r0, r1, r2, r3, r4, r5, r6⟩, r7, r8⟩ := H1.out.1.cells; clear hb1 q0 q1 q2 q3 q4 q5 q6 q7 q8)
            | (go_at_call 60; refine (made_any t s od onm 1 omode ⟨#[]⟩ _ H1.out.2.1 hnx).mono ?_; rintro x w2 ⟨rfl, hL2⟩))
          go_ret
          exact ⟨by rw [HE0.out]; rfl, by rw [HE0.out, HL0.out.1, HL0.out.2]; exact hL2.le H1.out.2.2⟩
      · clear hkr hk
        by_cases htg : M.tgt otg = 0
        · have HE0 : Hid (E = madeE s.es od onm) := by
            show _ = _
            rw [← HE.out]; unfold doesE; simp [HN1.out.2, htg]
          have HL0 : Hid (EL = s.es ++ [⟨od, onm, false, s.next, 3, 0, otg⟩] ∧ EN = s.next + 1) := by
            show _ ∧ _
            rw [← HEL.out, ← HEN.out]; unfold doesL doesN; simp
          have HT : Hid (M.tgt otg = 0) := htg
          clear htg
          go_wp2_with (first
            | (go_at_call 59; refine (HN1.out.1 _ HW.out.2.1).mono ?_; rintro x w1 ⟨rfl, hb1⟩; have H1 : Hid (OV w1 w.heap.size ⟨7, od, onm, odst, onew, omode, otg⟩ ∧ IsT w1 t s ∧ Below w.heap.size w w1) := ⟨HW.out.1.below hb1, HW.out.2.1.below hb1, chainB HW.out.2.2 hb1⟩; obtain ⟨⟨r0, r1, r2, r3, r4, r5, r6⟩, r7, r8⟩ := H1.out.1.cells; clear hb1 q0 q1 q2 q3 q4 q5 q6 q7 q8)
            | (go_at_call 24; refine (HM.out.target otg _).mono ?_; rintro x w2 ⟨v2, a2, b2, rfl, hb2⟩; rw [HT.out]; have H2 : Hid (IsT w2 t s ∧ Below w.heap.size w w2) := ⟨H1.out.2.1.below hb2, chainB H1.out.2.2 hb2⟩; obtain ⟨⟨r0, r1, r2, r3, r4, r5, r6⟩, r7, r8⟩ := (H1.out.1.below hb2).cells; clear hb2)
            | (go_at_call 60; refine (made_any t s od onm 3 0 otg _ H2.out.1 hnx).mono ?_; rintro x w3 ⟨rfl, hL3⟩))
          all_goals
            go_ret
            exact ⟨by rw [HE0.out]; rfl, by rw [HE0.out, HL0.out.1, HL0.out.2]; exact hL3.le H2.out.2⟩
        · obtain ⟨TG, hTG⟩ : ∃ x, M.tgt otg = x := ⟨_, rfl⟩
          have HE0 : Hid (E = TG ∧ TG ≠ 0) := by
            refine ⟨?_, by rw [← hTG]; exact htg⟩
            rw [← HE.out]; unfold doesE; simp [HN1.out.2, hTG]
            intro e; rw [hTG] at htg; exact absurd e htg
          have HT : Hid (M.tgt otg = TG) := hTG
          have htb : (TG != 0) = true := by rw [← hTG]; simpa using htg
          clear htg hTG
          go_wp2_with (first
            | (go_at_call 59; refine (HN1.out.1 _ HW.out.2.1).mono ?_; rintro x w1 ⟨rfl, hb1⟩; have H1 : Hid (OV w1 w.heap.size ⟨7, od, onm, odst, onew, omode, otg⟩ ∧ IsT w1 t s ∧ Below w.heap.size w w1) := ⟨HW.out.1.below hb1, HW.out.2.1.below hb1, chainB HW.out.2.2 hb1⟩; obtain ⟨⟨r0, r1, r2, r3, r4, r5, r6⟩, r7, r8⟩ := H1.out.1.cells; clear hb1 q0 q1 q2 q3 q4 q5 q6 q7 q8)
            | (go_at_call 24; refine (HM.out.target otg _).mono ?_; rintro x w2 ⟨v2, a2, b2, rfl, hb2⟩; rw [HT.out]))
          all_goals
            go_ret
            exact ⟨by rw [HE0.out.1]; rfl, Left.no (by rw [HE0.out.1]; exact HE0.out.2) (chainB H1.out.2.2 hb2)⟩
      · clear hkr hk
        have HE0 : Hid (E = removedE s.es od onm false) := by
          show _ = _
          rw [← HE.out]; unfold doesE; simp [HN1.out.2]
        have HL0 : Hid (EL = goneL s.es od onm ∧ EN = s.next) := by
          show _ ∧ _
          rw [← HEL.out, ← HEN.out]; unfold doesL doesN; simp
        go_wp2_with (first
          | (go_at_call 59; refine (HN1.out.1 _ HW.out.2.1).mono ?_; rintro x w1 ⟨rfl, hb1⟩; have H1 : Hid (OV w1 w.heap.size ⟨8, od, onm, odst, onew, omode, otg⟩ ∧ IsT w1 t s ∧ Below w.heap.size w w1) := ⟨HW.out.1.below hb1, HW.out.2.1.below hb1, chainB HW.out.2.2 hb1⟩; obtain ⟨⟨r0, r1, r2, r3, r4, r5, r6⟩, r7, r8⟩ := H1.out.1.cells; clear hb1 q0 q1 q2 q3 q4 q5 q6 q7 q8)
          | (go_at_call 61; refine (removed_any t s od onm false _ H1.out.2.1).mono ?_; rintro x w2 ⟨rfl, hL2⟩))
        all_goals
          go_ret
          exact ⟨by rw [HE0.out]; rfl, by rw [HE0.out, HL0.out.1, HL0.out.2]; exact hL2.le H1.out.2.2⟩
      · clear hkr hk
        have HE0 : Hid (E = removedE s.es od onm true) := by
          show _ = _
          rw [← HE.out]; unfold doesE; simp [HN1.out.2]
        have HL0 : Hid (EL = goneL s.es od onm ∧ EN = s.next) := by
          show _ ∧ _
          rw [← HEL.out, ← HEN.out]; unfold doesL doesN; simp
        go_wp2_with (first
          | (go_at_call 59; refine (HN1.out.1 _ HW.out.2.1).mono ?_; rintro x w1 ⟨rfl, hb1⟩; have H1 : Hid (OV w1 w.heap.size ⟨9, od, onm, odst, onew, omode, otg⟩ ∧ IsT w1 t s ∧ Below w.heap.size w w1) := ⟨HW.out.1.below hb1, HW.out.2.1.below hb1, chainB HW.out.2.2 hb1⟩; obtain ⟨⟨r0, r1, r2, r3, r4, r5, r6⟩, r7, r8⟩ := H1.out.1.cells; clear hb1 q0 q1 q2 q3 q4 q5 q6 q7 q8)
          | (go_at_call 61; refine (removed_any t s od onm true _ H1.out.2.1).mono ?_; rintro x w2 ⟨rfl, hL2⟩))
        all_goals
          go_ret
          exact ⟨by rw [HE0.out]; rfl, by rw [HE0.out, HL0.out.1, HL0.out.2]; exact hL2.le H1.out.2.2⟩
      · clear hkr hk
        obtain ⟨N2, hN2⟩ : ∃ x, namedE M s.es odst onew = x := ⟨_, rfl⟩
        have HN2 : Hid ((∀ w, IsT w t s → Calls Try.prog 59 #[.pointer (some ⟨t, 0, none⟩), .int .i64 odst, .string onew] w fun e w' => e = .returned (.int .i64 N2) ∧ Below w.heap.size w w') ∧ namedE M s.es odst onew = N2) := ⟨by intro w hw; rw [← hN2]; exact named_any M HM.out t s odst onew w hw, hN2⟩
        clear hN2
        have HL0 : Hid (EL = renamedL s.es od onm odst onew ∧ EN = s.next) := by
          show _ ∧ _
          rw [← HEL.out, ← HEN.out]; unfold doesL doesN; simp
        by_cases hz : N2 = 0
        · subst hz
          have HE0 : Hid (E = renamedE s.es od onm odst onew) := by
            show _ = _
            rw [← HE.out]; unfold doesE; simp [HN1.out.2, HN2.out.2]
          go_wp2_with (first
            | (go_at_call 59; have _q := H1; refine (HN2.out.1 _ H1.out.2.1).mono ?_; rintro x w2 ⟨rfl, hb2⟩; have H2 : Hid (IsT w2 t s ∧ Below w.heap.size w w2) := ⟨H1.out.2.1.below hb2, chainB H1.out.2.2 hb2⟩; obtain ⟨⟨r0, r1, r2, r3, r4, r5, r6⟩, r7, r8⟩ := (H1.out.1.below hb2).cells; clear hb2)
            | (go_at_call 59; refine (HN1.out.1 _ HW.out.2.1).mono ?_; rintro x w1 ⟨rfl, hb1⟩; have H1 : Hid (OV w1 w.heap.size ⟨10, od, onm, odst, onew, omode, otg⟩ ∧ IsT w1 t s ∧ Below w.heap.size w w1) := ⟨HW.out.1.below hb1, HW.out.2.1.below hb1, chainB HW.out.2.2 hb1⟩; obtain ⟨⟨r0, r1, r2, r3, r4, r5, r6⟩, r7, r8⟩ := H1.out.1.cells; clear hb1 q0 q1 q2 q3 q4 q5 q6 q7 q8)
            | (go_at_call 62; refine (renamed_any t s od onm odst onew _ H2.out.1 HR.out).mono ?_; rintro x w3 ⟨rfl, hL3⟩))
          all_goals
            go_ret
            exact ⟨by rw [HE0.out]; rfl, by rw [HE0.out, HL0.out.1, HL0.out.2]; exact hL3.le H2.out.2⟩
        · have HE0 : Hid (E = N2 ∧ N2 ≠ 0) := by
            refine ⟨?_, hz⟩
            rw [← HE.out]; unfold doesE; simp [HN1.out.2, HN2.out.2, hz]
          have hzb : (N2 != 0) = true := by simpa using hz
          clear hz
          go_wp2_with (first
            | (go_at_call 59; have _q := H1; refine (HN2.out.1 _ H1.out.2.1).mono ?_; rintro x w2 ⟨rfl, hb2⟩)
            | (go_at_call 59; refine (HN1.out.1 _ HW.out.2.1).mono ?_; rintro x w1 ⟨rfl, hb1⟩; have H1 : Hid (OV w1 w.heap.size ⟨10, od, onm, odst, onew, omode, otg⟩ ∧ IsT w1 t s ∧ Below w.heap.size w w1) := ⟨HW.out.1.below hb1, HW.out.2.1.below hb1, chainB HW.out.2.2 hb1⟩; obtain ⟨⟨r0, r1, r2, r3, r4, r5, r6⟩, r7, r8⟩ := H1.out.1.cells; clear hb1 q0 q1 q2 q3 q4 q5 q6 q7 q8))
          all_goals
            go_ret
            exact ⟨by rw [HE0.out.1]; rfl, Left.no (by rw [HE0.out.1]; exact HE0.out.2) (chainB H1.out.2.2 hb2)⟩
    · have HE0 : Hid (E = N1 ∧ N1 ≠ 0) := by
        refine ⟨?_, hz⟩
        rw [← HE.out]; unfold doesE; simp only [HN1.out.2]; rw [if_neg hkr, if_pos hz]
      have hzb : (N1 != 0) = true := by simpa using hz
      have hd : decide (ok < 5) = false := decide_eq_false (by omega)
      have hd2 : decide (11 < ok) = false := decide_eq_false (by omega)
      clear hz hkr
      go_wp2_with (go_at_call 59; refine (HN1.out.1 _ HW.out.2.1).mono ?_; rintro x w1 ⟨rfl, hb1⟩)
      go_ret
      exact ⟨by rw [HE0.out.1]; rfl, Left.no (by rw [HE0.out.1]; exact HE0.out.2) (chainB HW.out.2.2 hb1)⟩
end Go.Proofs.Ytjelggpkeogebaa
