/- The program's tree: unlink, rmdir, setattr. -/
import Derived.Test.YtppbbddlbfgpfaaJWOme16
namespace Go.Proofs.Ytppbbddlbfgpfaa
section
open Go.RowKit
attribute [local go_sem high] eqK' neqK' eqE neqE eqN neqN guardK guardE guardN

theorem there_does {M : Nms} {s : Tr} {o : Opn} {dir : Bool} (hk : o.kind = 8 ∧ dir = false ∨ o.kind = 9 ∧ dir = true) : doesE M s o = (if thereE M s.es o.dir o.nm ≠ 0 then thereE M s.es o.dir o.nm else removedE s.es o.dir o.nm dir) ∧ tellL s o = [goneEn o.dir o.nm] := by
  unfold doesE tellL thereE removedE
  rcases hk with ⟨h1, rfl⟩ | ⟨h1, rfl⟩
  · refine ⟨?_, by simp [h1]⟩
    by_cases hn : namedE M s.es o.dir o.nm = 0
    · cases hq : atE s.es o.dir o.nm <;> simp [h1, hn]
    · simp [h1, hn]
  · refine ⟨?_, by simp [h1]⟩
    by_cases hn : namedE M s.es o.dir o.nm = 0
    · cases hq : atE s.es o.dir o.nm <;> simp [h1, hn]
    · simp [h1, hn]

set_option maxHeartbeats 4000000 in
theorem unlink_p (M : Nms) (hM : NmsP M) (t : Nat) (s : Tr) (o : Opn) (w : World) (h : IsP w t s) (hneg : ∀ e ∈ s.es, e.neg = false) (hk : o.kind = 8) :
    Calls Try.prog 60 #[.pointer (some ⟨t, 0, none⟩), .agg o.arr] w fun e w' => MutR w w' e (doesE M s o) (tellL s o) := by
  obtain ⟨h1, h2⟩ := there_does (M := M) (s := s) (o := o) (.inl ⟨hk, rfl⟩)
  obtain ⟨e, E, hE, hat, HL⟩ := there_q M hM t s o hneg
  obtain ⟨A, hA⟩ : ∃ x, doesE M s o = x := ⟨_, rfl⟩
  have HA : Hid (A = if E ≠ 0 then E else if e.kind = 1 then 43 else 0) := by
    show _ = _
    rw [← hA, h1, ← hE]
    by_cases hz : E = 0
    · simp only [hz, ne_eq, not_true_eq_false, if_false]
      unfold removedE
      rw [hat hz]
      by_cases hk1 : e.kind = 1 <;> simp [hk1]
    · simp [hz]
  have HK : Hid (E = 0 → e.d = o.dir ∧ e.nm = o.nm) := fun hz => (atE_key (hat hz)).2
  have H : Hid (IsP w t s) := h
  rw [hA, h2]
  clear h1 h2 h hneg hM hE hA hat hk
  obtain ⟨ok, od, onm, odst, onew, omode, otg⟩ := o
  simp only [Opn.arr] at *
  go_enter Try.func60, Try.ntmps60
  by_cases hz : E = 0
  · subst hz
    obtain ⟨k1, k2⟩ := HK.out (by simp)
    by_cases hk1 : e.kind = 1
    · have HA2 : Hid (A = 43) := by show _ = _; rw [HA.out]; simp [hk1]
      go_wp2_with (go_at_call 79; refine (HL.out _ (H.out.below (below_alloc _ _))).mono ?_; rintro x w1 ⟨rfl, hb1⟩)
      go_ret2
      exact MutR.no (by rw [HA2.out]; decide) (by rw [HA2.out]; rfl) (chainB (chainB (below_alloc _ _) hb1) (below_alloc _ _))
    · have hkb : (e.kind == 1) = false := by simpa using hk1
      have HA2 : Hid (A = 0) := by show _ = _; rw [HA.out]; simp [hk1]
      have HG : Hid (∀ w, Calls Try.prog 44 #[.agg #[.int .i64 od, .string onm]] w fun x w' => x = .returned (.agg #[.int .i64 od, .string onm, .bool true, .int .i64 0, .int .i64 0, .int .i64 0, .string ⟨#[]⟩]) ∧ Below w.heap.size w w') := fun w => gone_p od onm w
      clear hk1
      go_wp2_with (first
        | (go_at_call 79; refine (HL.out _ (H.out.below (below_alloc _ _))).mono ?_; rintro x w1 ⟨rfl, hb1⟩)
        | (go_at_call 44; refine (HG.out _).mono ?_; rintro x w2 ⟨rfl, hb2⟩))
      go_ret2
      rw [HA2.out]
      exact MutR.one (x := goneEn od onm) rfl (chainB (chainB (chainB (below_alloc _ _) hb1) (below_alloc _ _)) hb2)
  · have hzb : (E != 0) = true := by simpa using hz
    have HA2 : Hid (A = E ∧ E ≠ 0) := ⟨by rw [HA.out]; simp [hz], hz⟩
    clear hz
    go_wp2_with (go_at_call 79; refine (HL.out _ (H.out.below (below_alloc _ _))).mono ?_; rintro x w1 ⟨rfl, hb1⟩)
    go_ret2
    exact MutR.no (by rw [HA2.out.1]; exact HA2.out.2) (by rw [HA2.out.1]; rfl) (chainB (chainB (below_alloc _ _) hb1) (below_alloc _ _))

set_option maxHeartbeats 4000000 in
theorem rmdir_p (M : Nms) (hM : NmsP M) (t : Nat) (s : Tr) (o : Opn) (w : World) (h : IsP w t s) (wf : WF M s.es s.next) (hk : o.kind = 9) :
    Calls Try.prog 61 #[.pointer (some ⟨t, 0, none⟩), .agg o.arr] w fun e w' => MutR w w' e (doesE M s o) (tellL s o) := by
  obtain ⟨h1, h2⟩ := there_does (M := M) (s := s) (o := o) (.inr ⟨hk, rfl⟩)
  obtain ⟨e, E, hE, hat, HL⟩ := there_q M hM t s o wf.neg
  obtain ⟨A, hA⟩ : ∃ x, doesE M s o = x := ⟨_, rfl⟩
  obtain ⟨D, hD⟩ : ∃ x, dirE s.es e.id = x := ⟨_, rfl⟩
  have hlist := fun w hw => list_p t s e.id w hw
  rw [hD] at hlist
  obtain ⟨LL, hLL⟩ : ∃ x, listR s.es e.id = x := ⟨_, rfl⟩
  rw [hLL] at hlist
  have HLi : Hid (∀ w, IsP w t s → Calls Try.prog 18 #[.pointer (some ⟨t, 0, none⟩), .int .i64 e.id] w fun x w' => ∃ v', x = .returned (.tuple #[v', .int .i64 D]) ∧ Row7 w' w.heap.size v' LL ∧ Below w.heap.size w w') := hlist
  have HA : Hid (A = if E ≠ 0 then E else if D ≠ 0 then D else if 0 < LL.length then 44 else 0) := by
    show _ = _
    rw [← hA, h1, ← hE]
    by_cases hz : E = 0
    · simp only [hz, ne_eq, not_true_eq_false, if_false]
      have he := (atE_key (hat hz)).1
      unfold removedE
      rw [hat hz, ← hLL, ← hD]
      unfold listR
      have hd : dirE s.es e.id = if e.kind = 1 then 0 else 42 := by unfold dirE; rw [wf.node he]
      rw [hd]
      by_cases hk1 : e.kind = 1
      · simp [hk1, listL_names]
      · simp [hk1]
    · simp [hz]
  have HK : Hid (E = 0 → e.d = o.dir ∧ e.nm = o.nm) := fun hz => (atE_key (hat hz)).2
  have H : Hid (IsP w t s) := h
  rw [hA, h2]
  clear h1 h2 h hM hE hA hat hk wf hD hLL hlist
  obtain ⟨ok, od, onm, odst, onew, omode, otg⟩ := o
  simp only [Opn.arr] at *
  go_enter Try.func61, Try.ntmps61
  by_cases hz : E = 0
  · subst hz
    have HKk : Hid (e.d = od ∧ e.nm = onm) := HK.out (by simp)
    by_cases hD0 : D = 0
    · subst hD0
      by_cases hl : 0 < LL.length
      · have HA2 : Hid (A = 44) := by show _ = _; rw [HA.out]; simp [hl]
        have hli : (0 : Int) < (LL.length : Int) := by omega
        go_wp2_with (first
          | (go_at_call 79; refine (HL.out _ (H.out.below (below_alloc _ _))).mono ?_; rintro x w1 ⟨rfl, hb1⟩)
          | (go_at_call 18; refine (HLi.out _ (H.out.below (chainB (chainB (below_alloc _ _) hb1) (below_alloc _ _)))).mono ?_; rintro x w2 ⟨v2, rfl, hr2, hb2⟩; obtain ⟨a2, c2, rfl⟩ := owns_len hr2))
        go_ret2
        exact MutR.no (by rw [HA2.out]; decide) (by rw [HA2.out]; rfl) (chainB (chainB (chainB (below_alloc _ _) hb1) (below_alloc _ _)) hb2)
      · have HA2 : Hid (A = 0) := by show _ = _; rw [HA.out]; simp [hl]
        have hli : ¬ (0 : Int) < (LL.length : Int) := by omega
        have HG : Hid (∀ w, Calls Try.prog 44 #[.agg #[.int .i64 e.d, .string e.nm]] w fun x w' => x = .returned (.agg #[.int .i64 e.d, .string e.nm, .bool true, .int .i64 0, .int .i64 0, .int .i64 0, .string ⟨#[]⟩]) ∧ Below w.heap.size w w') := fun w => gone_p e.d e.nm w
        go_wp2_with (first
          | (go_at_call 79; refine (HL.out _ (H.out.below (below_alloc _ _))).mono ?_; rintro x w1 ⟨rfl, hb1⟩)
          | (go_at_call 18; refine (HLi.out _ (H.out.below (chainB (chainB (below_alloc _ _) hb1) (below_alloc _ _)))).mono ?_; rintro x w2 ⟨v2, rfl, hr2, hb2⟩; obtain ⟨a2, c2, rfl⟩ := owns_len hr2; have hbb := cells7_of (e := e) (hkeep (heap_new w1 _) hb2); have y0 := hbb.c0; have y1 := hbb.c1; simp only [Nat.zero_add] at y1; clear hbb)
          | (go_at_call 44; refine (HG.out _).mono ?_; rintro x w3 ⟨rfl, hb3⟩))
        go_ret2
        rw [HA2.out, ← HKk.out.1, ← HKk.out.2]
        exact MutR.one (x := goneEn e.d e.nm) rfl (chainB (chainB (chainB (chainB (below_alloc _ _) hb1) (below_alloc _ _)) hb2) hb3)
    · have hDb : (D != 0) = true := by simpa using hD0
      have HA2 : Hid (A = D ∧ D ≠ 0) := ⟨by rw [HA.out]; simp [hD0], hD0⟩
      clear hD0
      go_wp2_with (first
        | (go_at_call 79; refine (HL.out _ (H.out.below (below_alloc _ _))).mono ?_; rintro x w1 ⟨rfl, hb1⟩)
        | (go_at_call 18; refine (HLi.out _ (H.out.below (chainB (chainB (below_alloc _ _) hb1) (below_alloc _ _)))).mono ?_; rintro x w2 ⟨v2, rfl, hr2, hb2⟩; obtain ⟨a2, c2, rfl⟩ := owns_len hr2))
      go_ret2
      exact MutR.no (by rw [HA2.out.1]; exact HA2.out.2) (by rw [HA2.out.1]; rfl) (chainB (chainB (chainB (below_alloc _ _) hb1) (below_alloc _ _)) hb2)
  · have hzb : (E != 0) = true := by simpa using hz
    have HA2 : Hid (A = E ∧ E ≠ 0) := ⟨by rw [HA.out]; simp [hz], hz⟩
    clear hz
    go_wp2_with (go_at_call 79; refine (HL.out _ (H.out.below (below_alloc _ _))).mono ?_; rintro x w1 ⟨rfl, hb1⟩)
    go_ret2
    exact MutR.no (by rw [HA2.out.1]; exact HA2.out.2) (by rw [HA2.out.1]; rfl) (chainB (chainB (below_alloc _ _) hb1) (below_alloc _ _))

theorem set_does {M : Nms} {s : Tr} {o : Opn} (hneg : ∀ e ∈ s.es, e.neg = false) (hk : o.kind = 11) : doesE M s o = (if namedE M s.es o.dir o.nm ≠ 0 then namedE M s.es o.dir o.nm else if badM o.mode then 1 else if (nowE s.es o.dir o.nm).neg then 40 else 0) ∧ ((nowE s.es o.dir o.nm).neg = false → tellL s o = [{ nowE s.es o.dir o.nm with mode := o.mode }]) := by
  unfold doesE tellL
  rw [nowE_at]
  cases hq : atE s.es o.dir o.nm with
  | none => refine ⟨?_, fun h => by cases h⟩; by_cases hn : namedE M s.es o.dir o.nm = 0 <;> simp [hk, hn]
  | some f =>
    have := hneg f (atE_key hq).1
    refine ⟨?_, fun _ => by simp [hk]⟩
    by_cases hn : namedE M s.es o.dir o.nm = 0 <;> simp [hk, hn, this]
set_option maxHeartbeats 4000000 in
theorem setattr_p (M : Nms) (hM : NmsP M) (t : Nat) (s : Tr) (o : Opn) (w : World) (h : IsP w t s) (hneg : ∀ e ∈ s.es, e.neg = false) (hk : o.kind = 11) :
    Calls Try.prog 63 #[.pointer (some ⟨t, 0, none⟩), .agg o.arr] w fun e w' => MutR w w' e (doesE M s o) (tellL s o) := by
  obtain ⟨h1, h2⟩ := set_does (M := M) (s := s) (o := o) hneg hk
  obtain ⟨e, E, hE, hnow, HL⟩ := Look_q M hM t s o.dir o.nm
  obtain ⟨A, hA⟩ : ∃ x, doesE M s o = x := ⟨_, rfl⟩
  obtain ⟨TL, hTL⟩ : ∃ x, tellL s o = x := ⟨_, rfl⟩
  have HA : Hid (A = if E ≠ 0 then E else if badM o.mode then 1 else if e.neg then 40 else 0) := by
    show _ = _
    rw [← hA, h1, ← hE]
    by_cases hz : E = 0
    · simp only [hz, ne_eq, not_true_eq_false, if_false]; rw [hnow hz]
    · simp [hz]
  have HTL : Hid (E = 0 → e.neg = false → TL = [{ e with mode := o.mode }]) := fun hz hn => by rw [← hTL]; rw [hnow hz] at hn ⊢; exact h2 hn
  have H : Hid (IsP w t s) := h
  rw [hA, hTL]
  clear h1 h2 h hneg hM hE hA hnow hk hTL
  obtain ⟨ok, od, onm, odst, onew, omode, otg⟩ := o
  simp only [Opn.arr] at *
  go_enter Try.func63, Try.ntmps63
  by_cases hz : E = 0
  · subst hz
    cases hb : badM omode with
    | true =>
      have HP : Hid (∀ w, Calls Try.prog 82 #[.int .i64 omode] w fun e w' => e = .returned (.bool false) ∧ w' = w) := fun w => by have := permitted_p omode w; rw [hb] at this; exact this
      have HA2 : Hid (A = 1) := by show _ = _; rw [HA.out]; simp [hb]
      go_wp2_with (first
        | (go_at_call 11; refine (HL.out _ (H.out.below (below_alloc _ _))).mono ?_; rintro x w1 ⟨rfl, hb1⟩; have y5 := (hb1.cell (p := ⟨w.heap.size, 5, none⟩) (by simp)).trans (by rw [cell_of (heap_new _ _)]; rfl : _ = some (.int .i64 omode)); have hlw : w.heap.size < w1.heap.size := cellLt y5)
        | (go_at_call 82; refine (HP.out _).mono ?_; rintro x w2 ⟨rfl, rfl⟩))
      go_ret2
      exact MutR.no (by rw [HA2.out]; decide) (by rw [HA2.out]; rfl) (chainB (chainB (below_alloc _ _) hb1) (below_alloc _ _))
    | false =>
      have HP : Hid (∀ w, Calls Try.prog 82 #[.int .i64 omode] w fun e w' => e = .returned (.bool true) ∧ w' = w) := fun w => by have := permitted_p omode w; rw [hb] at this; exact this
      cases hn : e.neg with
      | true =>
        have HA2 : Hid (A = 40) := by show _ = _; rw [HA.out]; simp [hb, hn]
        go_wp2_with (first
          | (go_at_call 11; refine (HL.out _ (H.out.below (below_alloc _ _))).mono ?_; rintro x w1 ⟨rfl, hb1⟩; have y5 := (hb1.cell (p := ⟨w.heap.size, 5, none⟩) (by simp)).trans (by rw [cell_of (heap_new _ _)]; rfl : _ = some (.int .i64 omode)); have hlw : w.heap.size < w1.heap.size := cellLt y5)
          | (go_at_call 82; refine (HP.out _).mono ?_; rintro x w2 ⟨rfl, rfl⟩))
        go_ret2
        exact MutR.no (by rw [HA2.out]; decide) (by rw [HA2.out]; rfl) (chainB (chainB (below_alloc _ _) hb1) (below_alloc _ _))
      | false =>
        have HA2 : Hid (A = 0 ∧ TL = [⟨e.d, e.nm, false, e.id, e.kind, omode, e.tg⟩]) := ⟨by rw [HA.out]; simp [hb, hn], by rw [HTL.out (by simp) hn, ← hn]⟩
        go_wp2_with (first
          | (go_at_call 11; refine (HL.out _ (H.out.below (below_alloc _ _))).mono ?_; rintro x w1 ⟨rfl, hb1⟩; have y5 := (hb1.cell (p := ⟨w.heap.size, 5, none⟩) (by simp)).trans (by rw [cell_of (heap_new _ _)]; rfl : _ = some (.int .i64 omode)); have hlw : w.heap.size < w1.heap.size := cellLt y5)
          | (go_at_call 82; refine (HP.out _).mono ?_; rintro x w2 ⟨rfl, rfl⟩))
        go_ret2
        rw [HA2.out.1, HA2.out.2]
        exact MutR.one (x := ⟨e.d, e.nm, false, e.id, e.kind, omode, e.tg⟩) (by simp) (chainB (chainB (below_alloc _ _) hb1) (below_alloc _ _))
  · have hzb : (E != 0) = true := by simpa using hz
    have HA2 : Hid (A = E ∧ E ≠ 0) := ⟨by rw [HA.out]; simp [hz], hz⟩
    clear hz
    go_wp2_with (go_at_call 11; refine (HL.out _ (H.out.below (below_alloc _ _))).mono ?_; rintro x w1 ⟨rfl, hb1⟩)
    go_ret2
    exact MutR.no (by rw [HA2.out.1]; exact HA2.out.2) (by rw [HA2.out.1]; rfl) (chainB (chainB (below_alloc _ _) hb1) (below_alloc _ _))
end
section
open Go.RowKit
attribute [local go_sem high] eqK' neqK' eqE neqE eqN neqN guardK guardE guardN

def yieldsE (es : List En) (f : En) (dir : Bool) : Int :=
  if f.neg then 0 else if dir = true ∧ dirE es f.id ≠ 0 then 42 else if dir = false ∧ dirE es f.id = 0 then 43 else if 0 < (listR es f.id).length then 44 else 0
set_option maxHeartbeats 4000000 in
theorem yields_p (t : Nat) (s : Tr) (f : En) (dir : Bool) (w : World) (h : IsP w t s) :
    Calls Try.prog 81 #[.pointer (some ⟨t, 0, none⟩), .agg #[.int .i64 f.d, .string f.nm, .bool f.neg, .int .i64 f.id, .int .i64 f.kind, .int .i64 f.mode, .string f.tg], .bool dir] w fun e w' => e = .returned (.int .i64 (yieldsE s.es f dir)) ∧ Below w.heap.size w w' := by
  have hlist := fun w hw => list_p t s f.id w hw
  unfold yieldsE
  obtain ⟨D, hD⟩ : ∃ x, dirE s.es f.id = x := ⟨_, rfl⟩
  obtain ⟨LL, hLL⟩ : ∃ x, listR s.es f.id = x := ⟨_, rfl⟩
  rw [hD, hLL] at hlist ⊢
  have HLi : Hid (∀ w, IsP w t s → Calls Try.prog 18 #[.pointer (some ⟨t, 0, none⟩), .int .i64 f.id] w fun x w' => ∃ v', x = .returned (.tuple #[v', .int .i64 D]) ∧ Row7 w' w.heap.size v' LL ∧ Below w.heap.size w w') := hlist
  have H : Hid (IsP w t s) := h
  clear hlist hD hLL h
  cases hn : f.neg with
  | true =>
    simp only [if_true]
    go_enter Try.func81, Try.ntmps81
    go_wp2
    go_ret
    exact ⟨rfl, below_alloc _ _⟩
  | false =>
    simp only [Bool.false_eq_true, if_false]
    obtain ⟨A, hA⟩ : ∃ x, (if dir = true ∧ D ≠ 0 then (42 : Int) else if dir = false ∧ D = 0 then 43 else if 0 < LL.length then 44 else 0) = x := ⟨_, rfl⟩
    have HA : Hid (A = if dir = true ∧ D ≠ 0 then (42 : Int) else if dir = false ∧ D = 0 then 43 else if 0 < LL.length then 44 else 0) := hA.symm
    rw [hA]
    clear hA
    by_cases hD0 : D = 0
    · subst hD0
      cases dir with
      | false =>
        have HA2 : Hid (A = 43) := by show _ = _; rw [HA.out]; simp
        go_enter Try.func81, Try.ntmps81
        go_wp2_with (go_at_call 18; refine (HLi.out _ (H.out.below (below_alloc _ _))).mono ?_; rintro x w2 ⟨v2, rfl, hr2, hb2⟩; obtain ⟨a2, c2, rfl⟩ := owns_len hr2)
        go_ret
        exact ⟨by rw [HA2.out]; rfl, chainB (below_alloc _ _) hb2⟩
      | true =>
        by_cases hl : 0 < LL.length
        · have HA2 : Hid (A = 44) := by show _ = _; rw [HA.out]; simp [hl]
          have hli : (0 : Int) < (LL.length : Int) := by omega
          go_enter Try.func81, Try.ntmps81
          go_wp2_with (go_at_call 18; refine (HLi.out _ (H.out.below (below_alloc _ _))).mono ?_; rintro x w2 ⟨v2, rfl, hr2, hb2⟩; obtain ⟨a2, c2, rfl⟩ := owns_len hr2)
          go_ret
          exact ⟨by rw [HA2.out]; rfl, chainB (below_alloc _ _) hb2⟩
        · have HA2 : Hid (A = 0) := by show _ = _; rw [HA.out]; simp [hl]
          have hli : ¬ (0 : Int) < (LL.length : Int) := by omega
          go_enter Try.func81, Try.ntmps81
          go_wp2_with (go_at_call 18; refine (HLi.out _ (H.out.below (below_alloc _ _))).mono ?_; rintro x w2 ⟨v2, rfl, hr2, hb2⟩; obtain ⟨a2, c2, rfl⟩ := owns_len hr2)
          go_ret
          exact ⟨by rw [HA2.out]; rfl, chainB (below_alloc _ _) hb2⟩
    · have hDb : (D != 0) = true := by simpa using hD0
      have hDe : (D == 0) = false := by simpa using hD0
      cases dir with
      | true =>
        have HA2 : Hid (A = 42) := by show _ = _; rw [HA.out]; simp [hD0]
        clear hD0
        go_enter Try.func81, Try.ntmps81
        go_wp2_with (go_at_call 18; refine (HLi.out _ (H.out.below (below_alloc _ _))).mono ?_; rintro x w2 ⟨v2, rfl, hr2, hb2⟩; obtain ⟨a2, c2, rfl⟩ := owns_len hr2)
        go_ret
        exact ⟨by rw [HA2.out]; rfl, chainB (below_alloc _ _) hb2⟩
      | false =>
        by_cases hl : 0 < LL.length
        · have HA2 : Hid (A = 44) := by show _ = _; rw [HA.out]; simp [hl, hD0]
          have hli : (0 : Int) < (LL.length : Int) := by omega
          clear hD0
          go_enter Try.func81, Try.ntmps81
          go_wp2_with (go_at_call 18; refine (HLi.out _ (H.out.below (below_alloc _ _))).mono ?_; rintro x w2 ⟨v2, rfl, hr2, hb2⟩; obtain ⟨a2, c2, rfl⟩ := owns_len hr2)
          go_ret
          exact ⟨by rw [HA2.out]; rfl, chainB (below_alloc _ _) hb2⟩
        · have HA2 : Hid (A = 0) := by show _ = _; rw [HA.out]; simp [hl, hD0]
          have hli : ¬ (0 : Int) < (LL.length : Int) := by omega
          clear hD0
          go_enter Try.func81, Try.ntmps81
          go_wp2_with (go_at_call 18; refine (HLi.out _ (H.out.below (below_alloc _ _))).mono ?_; rintro x w2 ⟨v2, rfl, hr2, hb2⟩; obtain ⟨a2, c2, rfl⟩ := owns_len hr2)
          go_ret
          exact ⟨by rw [HA2.out]; rfl, chainB (below_alloc _ _) hb2⟩

theorem nowE_key (es : List En) (d : Int) (nm : ByteArray) : (nowE es d nm).d = d ∧ (nowE es d nm).nm = nm := by
  rw [nowE_at]
  cases hq : atE es d nm with
  | none => exact ⟨rfl, rfl⟩
  | some e => exact (atE_key hq).2
theorem ren_does {M : Nms} {s : Tr} {o : Opn} (wf : WF M s.es s.next) (hk : o.kind = 10) :
    doesE M s o = (if namedE M s.es o.dir o.nm ≠ 0 then namedE M s.es o.dir o.nm else if namedE M s.es o.dst o.new ≠ 0 then namedE M s.es o.dst o.new else if (nowE s.es o.dir o.nm).neg then 40
      else if insideF s.es (s.es.length + 1) o.dst (nowE s.es o.dir o.nm).id then 45 else if eqKy o.dir o.nm o.dst o.new then 0 else yieldsE s.es (nowE s.es o.dst o.new) ((nowE s.es o.dir o.nm).kind == 1))
    ∧ ((nowE s.es o.dir o.nm).neg = false → tellL s o = if eqKy o.dir o.nm o.dst o.new then [nowE s.es o.dir o.nm] else if lessK o.dir o.nm o.dst o.new then [goneEn o.dir o.nm, movedEn (nowE s.es o.dir o.nm) o.dst o.new] else [movedEn (nowE s.es o.dir o.nm) o.dst o.new, goneEn o.dir o.nm]) := by
  have hky : eqKy o.dir o.nm o.dst o.new = decide (o.dst = o.dir ∧ o.new = o.nm) := by
    unfold eqKy
    by_cases h : o.dst = o.dir ∧ o.new = o.nm
    · rw [decide_eq_true h, decide_eq_true ⟨h.1.symm, h.2.symm⟩]
    · rw [decide_eq_false h, decide_eq_false fun k => h ⟨k.1.symm, k.2.symm⟩]
  rw [hky]
  constructor
  · unfold doesE
    rw [if_neg (by omega)]
    by_cases hn : namedE M s.es o.dir o.nm = 0
    · simp only [hn, ne_eq, not_true_eq_false, if_false]
      rw [if_neg (by omega), if_neg (by omega), if_neg (by omega), if_neg (by omega), if_pos hk]
      by_cases hn2 : namedE M s.es o.dst o.new = 0
      · simp only [hn2, not_true_eq_false, if_false]
        rw [renamedE_at, nowE_at]
        cases hq : atE s.es o.dir o.nm with
        | none => rfl
        | some e =>
          obtain ⟨he, h1, h2⟩ := atE_key hq
          have hid := wf.ids e he
          simp only [wf.neg e he, Bool.false_eq_true, if_false]
          rw [insideF_within (fun e he => by have := wf.ids e he; omega) (by omega)]
          cases hw : withinF s.es (s.es.length + 1) o.dst e.id with
          | true =>
            have hk1 : e.kind = 1 := by
              rcases within_dir (wf.hangs (named_ok hn2).1) wf.ided (fun e he => wf.ne1 he) hw with h3 | ⟨f, hf, h3, h4⟩
              · exact absurd h3 (wf.ne1 he)
              · obtain rfl := wf.ided f hf e he h3; exact h4
            simp [hk1]
          | false =>
            simp only [Bool.false_eq_true, and_false, if_false, decide_eq_true_eq]
            by_cases hs : o.dst = o.dir ∧ o.new = o.nm
            · rw [if_pos hs, if_pos hs]; rfl
            · rw [if_neg hs, if_neg hs]
              unfold renErr yieldsE
              rw [nowE_at]
              cases hf : atE s.es o.dst o.new with
              | none => rfl
              | some f =>
                obtain ⟨hfm, _⟩ := atE_key hf
                have hd : dirE s.es f.id = if f.kind = 1 then 0 else 42 := by unfold dirE; rw [wf.node hfm]
                simp only [wf.neg f hfm, Bool.false_eq_true, if_false]
                unfold listR
                rw [hd]
                by_cases k1 : f.kind = 1 <;> by_cases k2 : e.kind = 1 <;> simp [k1, k2, listL_names]
      · simp [hn2]
    · simp [hn]
  · intro hneg
    unfold tellL
    rw [nowE_at] at hneg ⊢
    cases hq : atE s.es o.dir o.nm with
    | none => rw [hq] at hneg; cases hneg
    | some e => simp [hk]
end
end Go.Proofs.Ytppbbddlbfgpfaa
