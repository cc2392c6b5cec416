/- The program's tree: yields, rename. -/
import Derived.Test.YtppbbddlbfgpfaaJWUps16
namespace Go.Proofs.Ytppbbddlbfgpfaa
section
open Go.RowKit
attribute [local go_sem high] eqK' neqK' eqE neqE eqN neqN guardK guardE guardN

def yieldsE (es : List En) (f : En) (dir : Bool) : Int :=
  if f.neg then 0 else if dir = true ∧ dirE es f.id ≠ 0 then 42 else if dir = false ∧ dirE es f.id = 0 then 43 else if 0 < (listR es f.id).length then 44 else 0
set_option maxHeartbeats 4000000 in
theorem yields_p (t : Nat) (s : Tr) (f : En) (dir : Bool) (w : World) (h : IsP w t s) :
    Calls Try.prog 81 #[.pointer (some ⟨t, 0, none⟩), .agg #[.int .i64 f.d, .string f.nm, .bool f.neg, .int .i64 f.id, .int .i64 f.kind, .int .i64 f.mode, .string f.tg], .bool dir] w fun e w' => e = .returned (.int .i64 (yieldsE s.es f dir)) ∧ Below w.heap.size w w' := by
  have hlist := fun w hw => list_p t s f.id w hw
  unfold yieldsE
  obtain ⟨D, hD⟩ : ∃ x, dirE s.es f.id = x := ⟨_, rfl⟩
  obtain ⟨LL, hLL⟩ : ∃ x, listR s.es f.id = x := ⟨_, rfl⟩
  rw [hD, hLL] at hlist ⊢
  have HLi : Hid (∀ w, IsP w t s → Calls Try.prog 18 #[.pointer (some ⟨t, 0, none⟩), .int .i64 f.id] w fun x w' => ∃ v', x = .returned (.tuple #[v', .int .i64 D]) ∧ Row7 w' w.heap.size v' LL ∧ Below w.heap.size w w') := hlist
  have H : Hid (IsP w t s) := h
  clear hlist hD hLL h
  cases hn : f.neg with
  | true =>
    simp only [if_true]
    go_enter Try.func81, Try.ntmps81
    go_wp2
    go_ret
    exact ⟨rfl, below_alloc _ _⟩
  | false =>
    simp only [Bool.false_eq_true, if_false]
    obtain ⟨A, hA⟩ : ∃ x, (if dir = true ∧ D ≠ 0 then (42 : Int) else if dir = false ∧ D = 0 then 43 else if 0 < LL.length then 44 else 0) = x := ⟨_, rfl⟩
    have HA : Hid (A = if dir = true ∧ D ≠ 0 then (42 : Int) else if dir = false ∧ D = 0 then 43 else if 0 < LL.length then 44 else 0) := hA.symm
    rw [hA]
    clear hA
    by_cases hD0 : D = 0
    · subst hD0
      cases dir with
      | false =>
        have HA2 : Hid (A = 43) := by show _ = _; rw [HA.out]; simp
        go_enter Try.func81, Try.ntmps81
        go_wp2_with (go_at_call 18; refine (HLi.out _ (H.out.below (below_alloc _ _))).mono ?_; rintro x w2 ⟨v2, rfl, hr2, hb2⟩; obtain ⟨a2, c2, rfl⟩ := owns_len hr2)
        go_ret
        exact ⟨by rw [HA2.out]; rfl, chainB (below_alloc _ _) hb2⟩
      | true =>
        by_cases hl : 0 < LL.length
        · have HA2 : Hid (A = 44) := by show _ = _; rw [HA.out]; simp [hl]
          have hli : (0 : Int) < (LL.length : Int) := by omega
          go_enter Try.func81, Try.ntmps81
          go_wp2_with (go_at_call 18; refine (HLi.out _ (H.out.below (below_alloc _ _))).mono ?_; rintro x w2 ⟨v2, rfl, hr2, hb2⟩; obtain ⟨a2, c2, rfl⟩ := owns_len hr2)
          go_ret
          exact ⟨by rw [HA2.out]; rfl, chainB (below_alloc _ _) hb2⟩
        · have HA2 : Hid (A = 0) := by show _ = _; rw [HA.out]; simp [hl]
          have hli : ¬ (0 : Int) < (LL.length : Int) := by omega
          go_enter Try.func81, Try.ntmps81
          go_wp2_with (go_at_call 18; refine (HLi.out _ (H.out.below (below_alloc _ _))).mono ?_; rintro x w2 ⟨v2, rfl, hr2, hb2⟩; obtain ⟨a2, c2, rfl⟩ := owns_len hr2)
          go_ret
          exact ⟨by rw [HA2.out]; rfl, chainB (below_alloc _ _) hb2⟩
    · have hDb : (D != 0) = true := by simpa using hD0
      have hDe : (D == 0) = false := by simpa using hD0
      cases dir with
      | true =>
        have HA2 : Hid (A = 42) := by show _ = _; rw [HA.out]; simp [hD0]
        clear hD0
        go_enter Try.func81, Try.ntmps81
        go_wp2_with (go_at_call 18; refine (HLi.out _ (H.out.below (below_alloc _ _))).mono ?_; rintro x w2 ⟨v2, rfl, hr2, hb2⟩; obtain ⟨a2, c2, rfl⟩ := owns_len hr2)
        go_ret
        exact ⟨by rw [HA2.out]; rfl, chainB (below_alloc _ _) hb2⟩
      | false =>
        by_cases hl : 0 < LL.length
        · have HA2 : Hid (A = 44) := by show _ = _; rw [HA.out]; simp [hl, hD0]
          have hli : (0 : Int) < (LL.length : Int) := by omega
          clear hD0
          go_enter Try.func81, Try.ntmps81
          go_wp2_with (go_at_call 18; refine (HLi.out _ (H.out.below (below_alloc _ _))).mono ?_; rintro x w2 ⟨v2, rfl, hr2, hb2⟩; obtain ⟨a2, c2, rfl⟩ := owns_len hr2)
          go_ret
          exact ⟨by rw [HA2.out]; rfl, chainB (below_alloc _ _) hb2⟩
        · have HA2 : Hid (A = 0) := by show _ = _; rw [HA.out]; simp [hl, hD0]
          have hli : ¬ (0 : Int) < (LL.length : Int) := by omega
          clear hD0
          go_enter Try.func81, Try.ntmps81
          go_wp2_with (go_at_call 18; refine (HLi.out _ (H.out.below (below_alloc _ _))).mono ?_; rintro x w2 ⟨v2, rfl, hr2, hb2⟩; obtain ⟨a2, c2, rfl⟩ := owns_len hr2)
          go_ret
          exact ⟨by rw [HA2.out]; rfl, chainB (below_alloc _ _) hb2⟩

theorem nowE_key (es : List En) (d : Int) (nm : ByteArray) : (nowE es d nm).d = d ∧ (nowE es d nm).nm = nm := by
  rw [nowE_at]
  cases hq : atE es d nm with
  | none => exact ⟨rfl, rfl⟩
  | some e => exact (atE_key hq).2
theorem ren_does {M : Nms} {s : Tr} {o : Opn} (wf : WF M s.es s.next) (hk : o.kind = 10) :
    doesE M s o = (if namedE M s.es o.dir o.nm ≠ 0 then namedE M s.es o.dir o.nm else if namedE M s.es o.dst o.new ≠ 0 then namedE M s.es o.dst o.new else if (nowE s.es o.dir o.nm).neg then 40
      else if insideF s.es (s.es.length + 1) o.dst (nowE s.es o.dir o.nm).id then 45 else if eqKy o.dir o.nm o.dst o.new then 0 else yieldsE s.es (nowE s.es o.dst o.new) ((nowE s.es o.dir o.nm).kind == 1))
    ∧ ((nowE s.es o.dir o.nm).neg = false → tellL s o = if eqKy o.dir o.nm o.dst o.new then [nowE s.es o.dir o.nm] else if lessK o.dir o.nm o.dst o.new then [goneEn o.dir o.nm, movedEn (nowE s.es o.dir o.nm) o.dst o.new] else [movedEn (nowE s.es o.dir o.nm) o.dst o.new, goneEn o.dir o.nm]) := by
  have hky : eqKy o.dir o.nm o.dst o.new = decide (o.dst = o.dir ∧ o.new = o.nm) := by
    unfold eqKy
    by_cases h : o.dst = o.dir ∧ o.new = o.nm
    · rw [decide_eq_true h, decide_eq_true ⟨h.1.symm, h.2.symm⟩]
    · rw [decide_eq_false h, decide_eq_false fun k => h ⟨k.1.symm, k.2.symm⟩]
  rw [hky]
  constructor
  · unfold doesE
    rw [if_neg (by omega)]
    by_cases hn : namedE M s.es o.dir o.nm = 0
    · simp only [hn, ne_eq, not_true_eq_false, if_false]
      rw [if_neg (by omega), if_neg (by omega), if_neg (by omega), if_neg (by omega), if_pos hk]
      by_cases hn2 : namedE M s.es o.dst o.new = 0
      · simp only [hn2, not_true_eq_false, if_false]
        rw [renamedE_at, nowE_at]
        cases hq : atE s.es o.dir o.nm with
        | none => rfl
        | some e =>
          obtain ⟨he, h1, h2⟩ := atE_key hq
          have hid := wf.ids e he
          simp only [wf.neg e he, Bool.false_eq_true, if_false]
          rw [insideF_within (fun e he => by have := wf.ids e he; omega) (by omega)]
          cases hw : withinF s.es (s.es.length + 1) o.dst e.id with
          | true =>
            have hk1 : e.kind = 1 := by
              rcases within_dir (wf.hangs (named_ok hn2).1) wf.ided (fun e he => wf.ne1 he) hw with h3 | ⟨f, hf, h3, h4⟩
              · exact absurd h3 (wf.ne1 he)
              · obtain rfl := wf.ided f hf e he h3; exact h4
            simp [hk1]
          | false =>
            simp only [Bool.false_eq_true, and_false, if_false, decide_eq_true_eq]
            by_cases hs : o.dst = o.dir ∧ o.new = o.nm
            · rw [if_pos hs, if_pos hs]; rfl
            · rw [if_neg hs, if_neg hs]
              unfold renErr yieldsE
              rw [nowE_at]
              cases hf : atE s.es o.dst o.new with
              | none => rfl
              | some f =>
                obtain ⟨hfm, _⟩ := atE_key hf
                have hd : dirE s.es f.id = if f.kind = 1 then 0 else 42 := by unfold dirE; rw [wf.node hfm]
                simp only [wf.neg f hfm, Bool.false_eq_true, if_false]
                unfold listR
                rw [hd]
                by_cases k1 : f.kind = 1 <;> by_cases k2 : e.kind = 1 <;> simp [k1, k2, listL_names]
      · simp [hn2]
    · simp [hn]
  · intro hneg
    unfold tellL
    rw [nowE_at] at hneg ⊢
    cases hq : atE s.es o.dir o.nm with
    | none => rw [hq] at hneg; cases hneg
    | some e => simp [hk]
end
end Go.Proofs.Ytppbbddlbfgpfaa
