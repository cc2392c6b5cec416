/- The program's tree: there, unlink, rmdir, setattr. -/
import Derived.Test.YtppbbddlbfgpfaaJWUps15
namespace Go.Proofs.Ytppbbddlbfgpfaa
section
open Go.RowKit
attribute [local go_sem high] eqK' neqK' eqE neqE eqN neqN guardK guardE guardN

def thereE (M : Nms) (es : List En) (d : Int) (nm : ByteArray) : Int := if namedE M es d nm ≠ 0 then namedE M es d nm else if (atE es d nm).isSome then 0 else 40
set_option maxHeartbeats 4000000 in
theorem there_q (M : Nms) (hM : NmsP M) (t : Nat) (s : Tr) (o : Opn) (hneg : ∀ e ∈ s.es, e.neg = false) : ∃ (e : En) (E : Int), E = thereE M s.es o.dir o.nm ∧ (E = 0 → atE s.es o.dir o.nm = some e) ∧ Hid (∀ w, IsP w t s → Calls Try.prog 79 #[.pointer (some ⟨t, 0, none⟩), .agg o.arr] w fun x w' => x = .returned (.tuple #[.agg #[.int .i64 e.d, .string e.nm, .bool e.neg, .int .i64 e.id, .int .i64 e.kind, .int .i64 e.mode, .string e.tg], .int .i64 E]) ∧ Below w.heap.size w w') := by
  obtain ⟨e, E, hE, hnow, HL⟩ := Look_q M hM t s o.dir o.nm
  obtain ⟨T, hT⟩ : ∃ x, thereE M s.es o.dir o.nm = x := ⟨_, rfl⟩
  have HT : Hid (T = if E ≠ 0 then E else if e.neg then 40 else 0) := by
    show _ = _
    rw [← hT]
    unfold thereE
    rw [← hE]
    by_cases hz : E = 0
    · simp only [hz, ne_eq, not_true_eq_false, if_false]
      rw [hnow hz, nowE_at]
      cases hq : atE s.es o.dir o.nm with
      | none => rfl
      | some f => rw [hneg f (atE_key hq).1]; rfl
    · simp [hz]
  refine ⟨e, T, hT.symm, fun hz => ?_, fun w hw => ?_⟩
  · rw [← hT] at hz
    unfold thereE at hz
    rw [← hE] at hz
    by_cases hz' : E = 0
    · simp only [hz', ne_eq, not_true_eq_false, if_false] at hz
      rw [hnow hz', nowE_at]
      cases hq : atE s.es o.dir o.nm with
      | none => rw [hq] at hz; simp at hz
      | some f => rfl
    · simp [hz'] at hz
  · have H : Hid (IsP w t s) := hw
    clear hw hM hE hnow hT hneg
    obtain ⟨ok, od, onm, odst, onew, omode, otg⟩ := o
    simp only [Opn.arr] at *
    go_enter Try.func79, Try.ntmps79
    go_upto_region 1 with fail
    obtain ⟨W, hW⟩ : ∃ W, (w.alloc (.cells #[.int .i64 ok, .int .i64 od, .string onm, .int .i64 odst, .string onew, .int .i64 omode, .string otg] 65)).alloc (.cells #[.int .i64 0, .string ⟨#[]⟩, .bool false, .int .i64 0, .int .i64 0, .int .i64 0, .string ⟨#[]⟩] 42) = W := ⟨_, rfl⟩
    rw [hW]
    obtain ⟨m0, m1, hbW, hzW⟩ := boxes2 hW
    have q1 := cell_of m0 1
    have q2 := cell_of m0 2
    simp at q1 q2
    have HW : Hid (W.heap[w.heap.size + 1]? = some (.cells zeroEn.vals.toArray 42 (0, 0)) ∧ W.heap.size = w.heap.size + 1 + 1 ∧ Below w.heap.size w W) := ⟨m1, hzW, hbW⟩
    clear hW m0 m1 hzW
    have hfin : ∀ (w1 : World) (T : Int), Below W.heap.size W w1 → (put7 w1 (w.heap.size + 1) e).heap[w.heap.size + 1]? = some (.cells e.vals.toArray 42 (0, 0)) ∧ Below w.heap.size w (put7 w1 (w.heap.size + 1) e) := fun w1 T hb => ⟨put7_heap e (hkeep HW.out.1 hb), (put7_only _ _ _).below (chainB HW.out.2.2 hb) (chainB HW.out.2.2 hb).size (fun k hk => by omega)⟩
    have HFin : Hid (∀ (w1 : World), Below W.heap.size W w1 → (put7 w1 (w.heap.size + 1) e).heap[w.heap.size + 1]? = some (.cells e.vals.toArray 42 (0, 0)) ∧ Below w.heap.size w (put7 w1 (w.heap.size + 1) e)) := fun w1 hb => hfin w1 0 hb
    clear hfin
    by_cases hz : E = 0
    · subst hz
      cases hn : e.neg with
      | true =>
        have HT2 : Hid (T = 40) := by show _ = _; rw [HT.out]; simp [hn]
        go_wp2_with (go_at_call 11; refine (HL.out _ (H.out.below HW.out.2.2)).mono ?_; rintro x w1 ⟨rfl, hb1⟩; have hz := cells7_of (hkeep HW.out.1 hb1); have zf := free_of (hkeep HW.out.1 hb1); have z0 := hz.c0; have z1 := hz.c1; have z2 := hz.c2; have z3 := hz.c3; have z4 := hz.c4; have z5 := hz.c5; have z6 := hz.c6; simp only [Nat.zero_add] at z1 z2 z3 z4 z5 z6; have hlw : w.heap.size + 1 < w1.heap.size := (by have := hb1.size; have := HW.out.2.1; omega); have HP : Hid _ := HFin.out w1 hb1; clear hz)
        rw [← hn]
        refine bodyPost_ret (ret_entry2 (e := e) rfl _ _ _ rfl (hkeep HP.out.1 (below_alloc _ _))) rfl ?_
        exact ⟨by rw [HT2.out]; rfl, chainB HP.out.2 (below_alloc _ _)⟩
      | false =>
        have HT2 : Hid (T = 0) := by show _ = _; rw [HT.out]; simp [hn]
        go_wp2_with (go_at_call 11; refine (HL.out _ (H.out.below HW.out.2.2)).mono ?_; rintro x w1 ⟨rfl, hb1⟩; have hz := cells7_of (hkeep HW.out.1 hb1); have zf := free_of (hkeep HW.out.1 hb1); have z0 := hz.c0; have z1 := hz.c1; have z2 := hz.c2; have z3 := hz.c3; have z4 := hz.c4; have z5 := hz.c5; have z6 := hz.c6; simp only [Nat.zero_add] at z1 z2 z3 z4 z5 z6; have hlw : w.heap.size + 1 < w1.heap.size := (by have := hb1.size; have := HW.out.2.1; omega); have HP : Hid _ := HFin.out w1 hb1; clear hz)
        rw [← hn]
        refine bodyPost_ret (ret_entry2 (e := e) rfl _ _ _ rfl (hkeep HP.out.1 (below_alloc _ _))) rfl ?_
        exact ⟨by rw [HT2.out]; rfl, chainB HP.out.2 (below_alloc _ _)⟩
    · have hzb : (E == 0) = false := by simpa using hz
      have HT2 : Hid (T = E) := by show _ = _; rw [HT.out]; simp [hz]
      clear hz
      go_wp2_with (go_at_call 11; refine (HL.out _ (H.out.below HW.out.2.2)).mono ?_; rintro x w1 ⟨rfl, hb1⟩; have hz := cells7_of (hkeep HW.out.1 hb1); have zf := free_of (hkeep HW.out.1 hb1); have z0 := hz.c0; have z1 := hz.c1; have z2 := hz.c2; have z3 := hz.c3; have z4 := hz.c4; have z5 := hz.c5; have z6 := hz.c6; simp only [Nat.zero_add] at z1 z2 z3 z4 z5 z6; have hlw : w.heap.size + 1 < w1.heap.size := (by have := hb1.size; have := HW.out.2.1; omega); have HP : Hid _ := HFin.out w1 hb1; clear hz)
      refine bodyPost_ret (ret_entry2 (e := e) rfl _ _ _ rfl (hkeep HP.out.1 (below_alloc _ _))) rfl ?_
      exact ⟨by rw [HT2.out]; rfl, chainB HP.out.2 (below_alloc _ _)⟩
end
section
open Go.RowKit
attribute [local go_sem high] eqK' neqK' eqE neqE eqN neqN guardK guardE guardN

theorem there_does {M : Nms} {s : Tr} {o : Opn} {dir : Bool} (hk : o.kind = 8 ∧ dir = false ∨ o.kind = 9 ∧ dir = true) : doesE M s o = (if thereE M s.es o.dir o.nm ≠ 0 then thereE M s.es o.dir o.nm else removedE s.es o.dir o.nm dir) ∧ tellL s o = [goneEn o.dir o.nm] := by
  unfold doesE tellL thereE removedE
  rcases hk with ⟨h1, rfl⟩ | ⟨h1, rfl⟩
  · refine ⟨?_, by simp [h1]⟩
    by_cases hn : namedE M s.es o.dir o.nm = 0
    · cases hq : atE s.es o.dir o.nm <;> simp [h1, hn]
    · simp [h1, hn]
  · refine ⟨?_, by simp [h1]⟩
    by_cases hn : namedE M s.es o.dir o.nm = 0
    · cases hq : atE s.es o.dir o.nm <;> simp [h1, hn]
    · simp [h1, hn]

set_option maxHeartbeats 4000000 in
theorem unlink_p (M : Nms) (hM : NmsP M) (t : Nat) (s : Tr) (o : Opn) (w : World) (h : IsP w t s) (hneg : ∀ e ∈ s.es, e.neg = false) (hk : o.kind = 8) :
    Calls Try.prog 60 #[.pointer (some ⟨t, 0, none⟩), .agg o.arr] w fun e w' => MutR w w' e (doesE M s o) (tellL s o) := by
  obtain ⟨h1, h2⟩ := there_does (M := M) (s := s) (o := o) (.inl ⟨hk, rfl⟩)
  obtain ⟨e, E, hE, hat, HL⟩ := there_q M hM t s o hneg
  obtain ⟨A, hA⟩ : ∃ x, doesE M s o = x := ⟨_, rfl⟩
  have HA : Hid (A = if E ≠ 0 then E else if e.kind = 1 then 43 else 0) := by
    show _ = _
    rw [← hA, h1, ← hE]
    by_cases hz : E = 0
    · simp only [hz, ne_eq, not_true_eq_false, if_false]
      unfold removedE
      rw [hat hz]
      by_cases hk1 : e.kind = 1 <;> simp [hk1]
    · simp [hz]
  have HK : Hid (E = 0 → e.d = o.dir ∧ e.nm = o.nm) := fun hz => (atE_key (hat hz)).2
  have H : Hid (IsP w t s) := h
  rw [hA, h2]
  clear h1 h2 h hneg hM hE hA hat hk
  obtain ⟨ok, od, onm, odst, onew, omode, otg⟩ := o
  simp only [Opn.arr] at *
  go_enter Try.func60, Try.ntmps60
  by_cases hz : E = 0
  · subst hz
    obtain ⟨k1, k2⟩ := HK.out (by simp)
    by_cases hk1 : e.kind = 1
    · have HA2 : Hid (A = 43) := by show _ = _; rw [HA.out]; simp [hk1]
      go_wp2_with (go_at_call 79; refine (HL.out _ (H.out.below (below_alloc _ _))).mono ?_; rintro x w1 ⟨rfl, hb1⟩)
      go_ret2
      exact MutR.no (by rw [HA2.out]; decide) (by rw [HA2.out]; rfl) (chainB (chainB (below_alloc _ _) hb1) (below_alloc _ _))
    · have hkb : (e.kind == 1) = false := by simpa using hk1
      have HA2 : Hid (A = 0) := by show _ = _; rw [HA.out]; simp [hk1]
      have HG : Hid (∀ w, Calls Try.prog 44 #[.agg #[.int .i64 od, .string onm]] w fun x w' => x = .returned (.agg #[.int .i64 od, .string onm, .bool true, .int .i64 0, .int .i64 0, .int .i64 0, .string ⟨#[]⟩]) ∧ Below w.heap.size w w') := fun w => gone_p od onm w
      clear hk1
      go_wp2_with (first
        | (go_at_call 79; refine (HL.out _ (H.out.below (below_alloc _ _))).mono ?_; rintro x w1 ⟨rfl, hb1⟩)
        | (go_at_call 44; refine (HG.out _).mono ?_; rintro x w2 ⟨rfl, hb2⟩))
      go_ret2
      rw [HA2.out]
      exact MutR.one (x := goneEn od onm) rfl (chainB (chainB (chainB (below_alloc _ _) hb1) (below_alloc _ _)) hb2)
  · have hzb : (E != 0) = true := by simpa using hz
    have HA2 : Hid (A = E ∧ E ≠ 0) := ⟨by rw [HA.out]; simp [hz], hz⟩
    clear hz
    go_wp2_with (go_at_call 79; refine (HL.out _ (H.out.below (below_alloc _ _))).mono ?_; rintro x w1 ⟨rfl, hb1⟩)
    go_ret2
    exact MutR.no (by rw [HA2.out.1]; exact HA2.out.2) (by rw [HA2.out.1]; rfl) (chainB (chainB (below_alloc _ _) hb1) (below_alloc _ _))

set_option maxHeartbeats 4000000 in
theorem rmdir_p (M : Nms) (hM : NmsP M) (t : Nat) (s : Tr) (o : Opn) (w : World) (h : IsP w t s) (wf : WF M s.es s.next) (hk : o.kind = 9) :
    Calls Try.prog 61 #[.pointer (some ⟨t, 0, none⟩), .agg o.arr] w fun e w' => MutR w w' e (doesE M s o) (tellL s o) := by
  obtain ⟨h1, h2⟩ := there_does (M := M) (s := s) (o := o) (.inr ⟨hk, rfl⟩)
  obtain ⟨e, E, hE, hat, HL⟩ := there_q M hM t s o wf.neg
  obtain ⟨A, hA⟩ : ∃ x, doesE M s o = x := ⟨_, rfl⟩
  obtain ⟨D, hD⟩ : ∃ x, dirE s.es e.id = x := ⟨_, rfl⟩
  have hlist := fun w hw => list_p t s e.id w hw
  rw [hD] at hlist
  obtain ⟨LL, hLL⟩ : ∃ x, listR s.es e.id = x := ⟨_, rfl⟩
  rw [hLL] at hlist
  have HLi : Hid (∀ w, IsP w t s → Calls Try.prog 18 #[.pointer (some ⟨t, 0, none⟩), .int .i64 e.id] w fun x w' => ∃ v', x = .returned (.tuple #[v', .int .i64 D]) ∧ Row7 w' w.heap.size v' LL ∧ Below w.heap.size w w') := hlist
  have HA : Hid (A = if E ≠ 0 then E else if D ≠ 0 then D else if 0 < LL.length then 44 else 0) := by
    show _ = _
    rw [← hA, h1, ← hE]
    by_cases hz : E = 0
    · simp only [hz, ne_eq, not_true_eq_false, if_false]
      have he := (atE_key (hat hz)).1
      unfold removedE
      rw [hat hz, ← hLL, ← hD]
      unfold listR
      have hd : dirE s.es e.id = if e.kind = 1 then 0 else 42 := by unfold dirE; rw [wf.node he]
      rw [hd]
      by_cases hk1 : e.kind = 1
      · simp [hk1, listL_names]
      · simp [hk1]
    · simp [hz]
  have HK : Hid (E = 0 → e.d = o.dir ∧ e.nm = o.nm) := fun hz => (atE_key (hat hz)).2
  have H : Hid (IsP w t s) := h
  rw [hA, h2]
  clear h1 h2 h hM hE hA hat hk wf hD hLL hlist
  obtain ⟨ok, od, onm, odst, onew, omode, otg⟩ := o
  simp only [Opn.arr] at *
  go_enter Try.func61, Try.ntmps61
  by_cases hz : E = 0
  · subst hz
    have HKk : Hid (e.d = od ∧ e.nm = onm) := HK.out (by simp)
    by_cases hD0 : D = 0
    · subst hD0
      by_cases hl : 0 < LL.length
      · have HA2 : Hid (A = 44) := by show _ = _; rw [HA.out]; simp [hl]
        have hli : (0 : Int) < (LL.length : Int) := by omega
        go_wp2_with (first
          | (go_at_call 79; refine (HL.out _ (H.out.below (below_alloc _ _))).mono ?_; rintro x w1 ⟨rfl, hb1⟩)
          | (go_at_call 18; refine (HLi.out _ (H.out.below (chainB (chainB (below_alloc _ _) hb1) (below_alloc _ _)))).mono ?_; rintro x w2 ⟨v2, rfl, hr2, hb2⟩; obtain ⟨a2, c2, rfl⟩ := owns_len hr2))
        go_ret2
        exact MutR.no (by rw [HA2.out]; decide) (by rw [HA2.out]; rfl) (chainB (chainB (chainB (below_alloc _ _) hb1) (below_alloc _ _)) hb2)
      · have HA2 : Hid (A = 0) := by show _ = _; rw [HA.out]; simp [hl]
        have hli : ¬ (0 : Int) < (LL.length : Int) := by omega
        have HG : Hid (∀ w, Calls Try.prog 44 #[.agg #[.int .i64 e.d, .string e.nm]] w fun x w' => x = .returned (.agg #[.int .i64 e.d, .string e.nm, .bool true, .int .i64 0, .int .i64 0, .int .i64 0, .string ⟨#[]⟩]) ∧ Below w.heap.size w w') := fun w => gone_p e.d e.nm w
        go_wp2_with (first
          | (go_at_call 79; refine (HL.out _ (H.out.below (below_alloc _ _))).mono ?_; rintro x w1 ⟨rfl, hb1⟩)
          | (go_at_call 18; refine (HLi.out _ (H.out.below (chainB (chainB (below_alloc _ _) hb1) (below_alloc _ _)))).mono ?_; rintro x w2 ⟨v2, rfl, hr2, hb2⟩; obtain ⟨a2, c2, rfl⟩ := owns_len hr2; have hbb := cells7_of (e := e) (hkeep (heap_new w1 _) hb2); have y0 := hbb.c0; have y1 := hbb.c1; simp only [Nat.zero_add] at y1; clear hbb)
          | (go_at_call 44; refine (HG.out _).mono ?_; rintro x w3 ⟨rfl, hb3⟩))
        go_ret2
        rw [HA2.out, ← HKk.out.1, ← HKk.out.2]
        exact MutR.one (x := goneEn e.d e.nm) rfl (chainB (chainB (chainB (chainB (below_alloc _ _) hb1) (below_alloc _ _)) hb2) hb3)
    · have hDb : (D != 0) = true := by simpa using hD0
      have HA2 : Hid (A = D ∧ D ≠ 0) := ⟨by rw [HA.out]; simp [hD0], hD0⟩
      clear hD0
      go_wp2_with (first
        | (go_at_call 79; refine (HL.out _ (H.out.below (below_alloc _ _))).mono ?_; rintro x w1 ⟨rfl, hb1⟩)
        | (go_at_call 18; refine (HLi.out _ (H.out.below (chainB (chainB (below_alloc _ _) hb1) (below_alloc _ _)))).mono ?_; rintro x w2 ⟨v2, rfl, hr2, hb2⟩; obtain ⟨a2, c2, rfl⟩ := owns_len hr2))
      go_ret2
      exact MutR.no (by rw [HA2.out.1]; exact HA2.out.2) (by rw [HA2.out.1]; rfl) (chainB (chainB (chainB (below_alloc _ _) hb1) (below_alloc _ _)) hb2)
  · have hzb : (E != 0) = true := by simpa using hz
    have HA2 : Hid (A = E ∧ E ≠ 0) := ⟨by rw [HA.out]; simp [hz], hz⟩
    clear hz
    go_wp2_with (go_at_call 79; refine (HL.out _ (H.out.below (below_alloc _ _))).mono ?_; rintro x w1 ⟨rfl, hb1⟩)
    go_ret2
    exact MutR.no (by rw [HA2.out.1]; exact HA2.out.2) (by rw [HA2.out.1]; rfl) (chainB (chainB (below_alloc _ _) hb1) (below_alloc _ _))

theorem set_does {M : Nms} {s : Tr} {o : Opn} (hneg : ∀ e ∈ s.es, e.neg = false) (hk : o.kind = 11) : doesE M s o = (if namedE M s.es o.dir o.nm ≠ 0 then namedE M s.es o.dir o.nm else if badM o.mode then 1 else if (nowE s.es o.dir o.nm).neg then 40 else 0) ∧ ((nowE s.es o.dir o.nm).neg = false → tellL s o = [{ nowE s.es o.dir o.nm with mode := o.mode }]) := by
  unfold doesE tellL
  rw [nowE_at]
  cases hq : atE s.es o.dir o.nm with
  | none => refine ⟨?_, fun h => by cases h⟩; by_cases hn : namedE M s.es o.dir o.nm = 0 <;> simp [hk, hn]
  | some f =>
    have := hneg f (atE_key hq).1
    refine ⟨?_, fun _ => by simp [hk]⟩
    by_cases hn : namedE M s.es o.dir o.nm = 0 <;> simp [hk, hn, this]
set_option maxHeartbeats 4000000 in
theorem setattr_p (M : Nms) (hM : NmsP M) (t : Nat) (s : Tr) (o : Opn) (w : World) (h : IsP w t s) (hneg : ∀ e ∈ s.es, e.neg = false) (hk : o.kind = 11) :
    Calls Try.prog 63 #[.pointer (some ⟨t, 0, none⟩), .agg o.arr] w fun e w' => MutR w w' e (doesE M s o) (tellL s o) := by
  obtain ⟨h1, h2⟩ := set_does (M := M) (s := s) (o := o) hneg hk
  obtain ⟨e, E, hE, hnow, HL⟩ := Look_q M hM t s o.dir o.nm
  obtain ⟨A, hA⟩ : ∃ x, doesE M s o = x := ⟨_, rfl⟩
  obtain ⟨TL, hTL⟩ : ∃ x, tellL s o = x := ⟨_, rfl⟩
  have HA : Hid (A = if E ≠ 0 then E else if badM o.mode then 1 else if e.neg then 40 else 0) := by
    show _ = _
    rw [← hA, h1, ← hE]
    by_cases hz : E = 0
    · simp only [hz, ne_eq, not_true_eq_false, if_false]; rw [hnow hz]
    · simp [hz]
  have HTL : Hid (E = 0 → e.neg = false → TL = [{ e with mode := o.mode }]) := fun hz hn => by rw [← hTL]; rw [hnow hz] at hn ⊢; exact h2 hn
  have H : Hid (IsP w t s) := h
  rw [hA, hTL]
  clear h1 h2 h hneg hM hE hA hnow hk hTL
  obtain ⟨ok, od, onm, odst, onew, omode, otg⟩ := o
  simp only [Opn.arr] at *
  go_enter Try.func63, Try.ntmps63
  by_cases hz : E = 0
  · subst hz
    cases hb : badM omode with
    | true =>
      have HP : Hid (∀ w, Calls Try.prog 82 #[.int .i64 omode] w fun e w' => e = .returned (.bool false) ∧ w' = w) := fun w => by have := permitted_p omode w; rw [hb] at this; exact this
      have HA2 : Hid (A = 1) := by show _ = _; rw [HA.out]; simp [hb]
      go_wp2_with (first
        | (go_at_call 11; refine (HL.out _ (H.out.below (below_alloc _ _))).mono ?_; rintro x w1 ⟨rfl, hb1⟩; have y5 := (hb1.cell (p := ⟨w.heap.size, 5, none⟩) (by simp)).trans (by rw [cell_of (heap_new _ _)]; rfl : _ = some (.int .i64 omode)); have hlw : w.heap.size < w1.heap.size := cellLt y5)
        | (go_at_call 82; refine (HP.out _).mono ?_; rintro x w2 ⟨rfl, rfl⟩))
      go_ret2
      exact MutR.no (by rw [HA2.out]; decide) (by rw [HA2.out]; rfl) (chainB (chainB (below_alloc _ _) hb1) (below_alloc _ _))
    | false =>
      have HP : Hid (∀ w, Calls Try.prog 82 #[.int .i64 omode] w fun e w' => e = .returned (.bool true) ∧ w' = w) := fun w => by have := permitted_p omode w; rw [hb] at this; exact this
      cases hn : e.neg with
      | true =>
        have HA2 : Hid (A = 40) := by show _ = _; rw [HA.out]; simp [hb, hn]
        go_wp2_with (first
          | (go_at_call 11; refine (HL.out _ (H.out.below (below_alloc _ _))).mono ?_; rintro x w1 ⟨rfl, hb1⟩; have y5 := (hb1.cell (p := ⟨w.heap.size, 5, none⟩) (by simp)).trans (by rw [cell_of (heap_new _ _)]; rfl : _ = some (.int .i64 omode)); have hlw : w.heap.size < w1.heap.size := cellLt y5)
          | (go_at_call 82; refine (HP.out _).mono ?_; rintro x w2 ⟨rfl, rfl⟩))
        go_ret2
        exact MutR.no (by rw [HA2.out]; decide) (by rw [HA2.out]; rfl) (chainB (chainB (below_alloc _ _) hb1) (below_alloc _ _))
      | false =>
        have HA2 : Hid (A = 0 ∧ TL = [⟨e.d, e.nm, false, e.id, e.kind, omode, e.tg⟩]) := ⟨by rw [HA.out]; simp [hb, hn], by rw [HTL.out (by simp) hn, ← hn]⟩
        go_wp2_with (first
          | (go_at_call 11; refine (HL.out _ (H.out.below (below_alloc _ _))).mono ?_; rintro x w1 ⟨rfl, hb1⟩; have y5 := (hb1.cell (p := ⟨w.heap.size, 5, none⟩) (by simp)).trans (by rw [cell_of (heap_new _ _)]; rfl : _ = some (.int .i64 omode)); have hlw : w.heap.size < w1.heap.size := cellLt y5)
          | (go_at_call 82; refine (HP.out _).mono ?_; rintro x w2 ⟨rfl, rfl⟩))
        go_ret2
        rw [HA2.out.1, HA2.out.2]
        exact MutR.one (x := ⟨e.d, e.nm, false, e.id, e.kind, omode, e.tg⟩) (by simp) (chainB (chainB (below_alloc _ _) hb1) (below_alloc _ _))
  · have hzb : (E != 0) = true := by simpa using hz
    have HA2 : Hid (A = E ∧ E ≠ 0) := ⟨by rw [HA.out]; simp [hz], hz⟩
    clear hz
    go_wp2_with (go_at_call 11; refine (HL.out _ (H.out.below (below_alloc _ _))).mono ?_; rintro x w1 ⟨rfl, hb1⟩)
    go_ret2
    exact MutR.no (by rw [HA2.out.1]; exact HA2.out.2) (by rw [HA2.out.1]; rfl) (chainB (chainB (below_alloc _ _) hb1) (below_alloc _ _))
end
end Go.Proofs.Ytppbbddlbfgpfaa
