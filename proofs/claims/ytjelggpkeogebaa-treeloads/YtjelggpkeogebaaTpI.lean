/- The program's tree: there, unlink, rmdir, setattr. -/
import Derived.Test.YtjelggpkeogebaaTpH
namespace Go.Proofs.Ytjelggpkeogebaa
open Go.RowKit
attribute [local go_sem high] eqK' neqK' eqE neqE eqN neqN guardK guardE guardN

def thereE (M : Nms) (es : List En) (d : Int) (nm : ByteArray) : Int := if namedE M es d nm ≠ 0 then namedE M es d nm else if (atE es d nm).isSome then 0 else 40
set_option maxHeartbeats 4000000 in
theorem there_q (M : Nms) (hM : NmsP M) (t : Nat) (s : Tr) (o : Opn) (hneg : ∀ e ∈ s.es, e.neg = false) : ∃ (e : En) (E : Int), E = thereE M s.es o.dir o.nm ∧ (E = 0 → atE s.es o.dir o.nm = some e) ∧ Hid (∀ w, IsP w t s → Calls Try.prog 74 #[.pointer (some ⟨t, 0, none⟩), .agg o.arr] w fun x w' => x = .returned (.tuple #[.agg #[.int .i64 e.d, .string e.nm, .bool e.neg, .int .i64 e.id, .int .i64 e.kind, .int .i64 e.mode, .string e.tg], .int .i64 E]) ∧ Below w.heap.size w w') := by
  obtain ⟨e, E, hE, hnow, HL⟩ := Look_q M hM t s o.dir o.nm
  obtain ⟨T, hT⟩ : ∃ x, thereE M s.es o.dir o.nm = x := ⟨_, rfl⟩
  have HT : Hid (T = if E ≠ 0 then E else if e.neg then 40 else 0) := by
    show _ = _
    rw [← hT]
    unfold thereE
    rw [← hE]
    by_cases hz : E = 0
    · simp only [hz, ne_eq, not_true_eq_false, if_false]
      rw [hnow hz, nowE_at]
      cases hq : atE s.es o.dir o.nm with
      | none => rfl
      | some f => rw [hneg f (atE_key hq).1]; rfl
    · simp [hz]
  refine ⟨e, T, hT.symm, fun hz => ?_, fun w hw => ?_⟩
  · rw [← hT] at hz
    unfold thereE at hz
    rw [← hE] at hz
    by_cases hz' : E = 0
    · simp only [hz', ne_eq, not_true_eq_false, if_false] at hz
      rw [hnow hz', nowE_at]
      cases hq : atE s.es o.dir o.nm with
      | none => rw [hq] at hz; simp at hz
      | some f => rfl
    · simp [hz'] at hz
  · have H : Hid (IsP w t s) := hw
    clear hw hM hE hnow hT hneg
    obtain ⟨ok, od, onm, odst, onew, omode, otg⟩ := o
    simp only [Opn.arr] at *
    go_enter Try.func74, Try.ntmps74
    go_upto_region 1 with fail
    obtain ⟨W, hW⟩ : ∃ W, (w.alloc (.cells #[.int .i64 ok, .int .i64 od, .string onm, .int .i64 odst, .string onew, .int .i64 omode, .string otg] 38)).alloc (.cells #[.int .i64 0, .string ⟨#[]⟩, .bool false, .int .i64 0, .int .i64 0, .int .i64 0, .string ⟨#[]⟩] 56) = W := ⟨_, rfl⟩
    rw [hW]
    obtain ⟨m0, m1, hbW, hzW⟩ := boxes2 hW
    have q1 := cell_of m0 1
    have q2 := cell_of m0 2
    simp at q1 q2
    have HW : Hid (W.heap[w.heap.size + 1]? = some (.cells zeroEn.vals.toArray 56 (0, 0)) ∧ W.heap.size = w.heap.size + 1 + 1 ∧ Below w.heap.size w W) := ⟨m1, hzW, hbW⟩
    clear hW m0 m1 hzW
    have hfin : ∀ (w1 : World) (T : Int), Below W.heap.size W w1 → (put7 w1 (w.heap.size + 1) e).heap[w.heap.size + 1]? = some (.cells e.vals.toArray 56 (0, 0)) ∧ Below w.heap.size w (put7 w1 (w.heap.size + 1) e) := fun w1 T hb => ⟨put7_heap e (hkeep HW.out.1 hb), (put7_only _ _ _).below (chainB HW.out.2.2 hb) (chainB HW.out.2.2 hb).size (fun k hk => by omega)⟩
    have HFin : Hid (∀ (w1 : World), Below W.heap.size W w1 → (put7 w1 (w.heap.size + 1) e).heap[w.heap.size + 1]? = some (.cells e.vals.toArray 56 (0, 0)) ∧ Below w.heap.size w (put7 w1 (w.heap.size + 1) e)) := fun w1 hb => hfin w1 0 hb
    clear hfin
    by_cases hz : E = 0
    · subst hz
      cases hn : e.neg with
      | true =>
        have HT2 : Hid (T = 40) := by show _ = _; rw [HT.out]; simp [hn]
        go_wp2_with (go_at_call 30; refine (HL.out _ (H.out.below HW.out.2.2)).mono ?_; rintro x w1 ⟨rfl, hb1⟩; have hz := cells7_of (hkeep HW.out.1 hb1); have zf := free_of (hkeep HW.out.1 hb1); have z0 := hz.c0; have z1 := hz.c1; have z2 := hz.c2; have z3 := hz.c3; have z4 := hz.c4; have z5 := hz.c5; have z6 := hz.c6; simp only [Nat.zero_add] at z1 z2 z3 z4 z5 z6; have hlw : w.heap.size + 1 < w1.heap.size := (by have := hb1.size; have := HW.out.2.1; omega); have HP : Hid _ := HFin.out w1 hb1; clear hz)
        rw [← hn]
        refine bodyPost_ret (ret_entry2 (e := e) rfl _ _ _ rfl (hkeep HP.out.1 (below_alloc _ _))) rfl ?_
        exact ⟨by rw [HT2.out]; rfl, chainB HP.out.2 (below_alloc _ _)⟩
      | false =>
        have HT2 : Hid (T = 0) := by show _ = _; rw [HT.out]; simp [hn]
        go_wp2_with (go_at_call 30; refine (HL.out _ (H.out.below HW.out.2.2)).mono ?_; rintro x w1 ⟨rfl, hb1⟩; have hz := cells7_of (hkeep HW.out.1 hb1); have zf := free_of (hkeep HW.out.1 hb1); have z0 := hz.c0; have z1 := hz.c1; have z2 := hz.c2; have z3 := hz.c3; have z4 := hz.c4; have z5 := hz.c5; have z6 := hz.c6; simp only [Nat.zero_add] at z1 z2 z3 z4 z5 z6; have hlw : w.heap.size + 1 < w1.heap.size := (by have := hb1.size; have := HW.out.2.1; omega); have HP : Hid _ := HFin.out w1 hb1; clear hz)
        rw [← hn]
        refine bodyPost_ret (ret_entry2 (e := e) rfl _ _ _ rfl (hkeep HP.out.1 (below_alloc _ _))) rfl ?_
        exact ⟨by rw [HT2.out]; rfl, chainB HP.out.2 (below_alloc _ _)⟩
    · have hzb : (E == 0) = false := by simpa using hz
      have HT2 : Hid (T = E) := by show _ = _; rw [HT.out]; simp [hz]
      clear hz
      go_wp2_with (go_at_call 30; refine (HL.out _ (H.out.below HW.out.2.2)).mono ?_; rintro x w1 ⟨rfl, hb1⟩; have hz := cells7_of (hkeep HW.out.1 hb1); have zf := free_of (hkeep HW.out.1 hb1); have z0 := hz.c0; have z1 := hz.c1; have z2 := hz.c2; have z3 := hz.c3; have z4 := hz.c4; have z5 := hz.c5; have z6 := hz.c6; simp only [Nat.zero_add] at z1 z2 z3 z4 z5 z6; have hlw : w.heap.size + 1 < w1.heap.size := (by have := hb1.size; have := HW.out.2.1; omega); have HP : Hid _ := HFin.out w1 hb1; clear hz)
      refine bodyPost_ret (ret_entry2 (e := e) rfl _ _ _ rfl (hkeep HP.out.1 (below_alloc _ _))) rfl ?_
      exact ⟨by rw [HT2.out]; rfl, chainB HP.out.2 (below_alloc _ _)⟩
end Go.Proofs.Ytjelggpkeogebaa
