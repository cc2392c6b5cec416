/- The document's tree: Look, Find; lists of entries compared. -/
import Derived.Test.YtjkgafbknjpjbaaTrZ
namespace Go.Proofs.Ytjkgafbknjpjbaa
open Go.RowKit
attribute [local go_sem high] eqK neqK eqE neqE eqN neqN guardK guardE guardN

set_option maxRecDepth 20000 in
set_option maxHeartbeats 1000000 in
theorem look_any (M : Nms) (hM : NmsOK M) (t : Nat) (s : Tr) (d : Int) (nm : ByteArray) (w : World) (h : IsT w t s) :
    Calls Try.prog 13 #[.pointer (some ⟨t, 0, none⟩), .int .i64 d, .string nm] w fun e w' => e = .returned (lookV M s.es d nm) ∧ Below w.heap.size w w' := by
  obtain ⟨N1, hN1⟩ : ∃ x, namedE M s.es d nm = x := ⟨_, rfl⟩
  have HN1 : Hid (∀ w, IsT w t s → Calls Try.prog 36 #[.pointer (some ⟨t, 0, none⟩), .int .i64 d, .string nm] w fun e w' => e = .returned (.int .i64 N1) ∧ Below w.heap.size w w') := by intro w hw; rw [← hN1]; exact named_any M hM t s d nm w hw
  have H : Hid (IsT w t s) := h
  unfold lookV
  rw [hN1]
  obtain ⟨e, hE⟩ : ∃ x, nowE s.es d nm = x := ⟨_, rfl⟩
  have HE : Hid (∀ w, IsT w t s → Calls Try.prog 37 #[.pointer (some ⟨t, 0, none⟩), .agg #[.int .i64 d, .string nm]] w fun x w' => x = .returned e.agg ∧ Below w.heap.size w w') := by intro w hw; rw [← hE]; exact now_any t s d nm w hw
  unfold En.agg at HE
  rw [hE]
  clear hN1 hM h hE
  by_cases hz : N1 = 0
  · subst hz
    rw [if_pos rfl]
    go_enter Try.func13, Try.ntmps13
    go_wp2_with (first
      | (go_at_call 36; refine (HN1.out _ (H.out.below (below_alloc _ _))).mono ?_; rintro x w1 ⟨rfl, hb1⟩; have hw := chainB (below_alloc _ _) hb1; have m1 := hkeep (heap_new w (.cells #[.int .i64 0, .string ⟨#[]⟩, .bool false, .int .i64 0, .int .i64 0, .int .i64 0, .string ⟨#[]⟩] 35)) hb1)
      | (go_at_call 37; refine (HE.out _ (H.out.below hw)).mono ?_; rintro x w2 ⟨rfl, hb2⟩; have m2 : w2.heap[w.heap.size]? = some (.cells zeroEn.vals.toArray 35 (0, 0)) := hkeep m1 hb2; have hz := cells7_of m2; have zf := free_of m2; have z0 := hz.c0; have z1 := hz.c1; have z2 := hz.c2; have z3 := hz.c3; have z4 := hz.c4; have z5 := hz.c5; have z6 := hz.c6; simp only [Nat.zero_add] at z1 z2 z3 z4 z5 z6; have HP : Hid ((put7 w2 w.heap.size e).heap[w.heap.size]? = some (.cells e.vals.toArray 35 (0, 0)) ∧ Below w.heap.size w (put7 w2 w.heap.size e)) := ⟨put7_heap e m2, (put7_only _ _ _).below (chainB hw hb2) (chainB hw hb2).size (fun k hk => by omega)⟩; clear hz m2 m1))
    refine bodyPost_ret (ret_entry2 (e := e) rfl _ _ _ rfl HP.out.1) rfl ?_
    exact ⟨rfl, HP.out.2⟩
  · rw [if_neg hz]
    have hzb : (N1 != 0) = true := by simpa using hz
    go_enter Try.func13, Try.ntmps13
    go_wp2_with (go_at_call 36; refine (HN1.out _ (H.out.below (below_alloc _ _))).mono ?_; rintro x w1 ⟨rfl, hb1⟩; have hw := chainB (below_alloc _ _) hb1; have m2 : w1.heap[w.heap.size]? = some (.cells zeroEn.vals.toArray 35 (0, 0)) := hkeep (heap_new w (.cells #[.int .i64 0, .string ⟨#[]⟩, .bool false, .int .i64 0, .int .i64 0, .int .i64 0, .string ⟨#[]⟩] 35)) hb1; have hz := cells7_of m2; have zf := free_of m2; have z0 := hz.c0; have z1 := hz.c1; have z2 := hz.c2; have z3 := hz.c3; have z4 := hz.c4; have z5 := hz.c5; have z6 := hz.c6; simp only [Nat.zero_add] at z1 z2 z3 z4 z5 z6; have HP : Hid ((put7 w1 w.heap.size zeroEn).heap[w.heap.size]? = some (.cells zeroEn.vals.toArray 35 (0, 0)) ∧ Below w.heap.size w (put7 w1 w.heap.size zeroEn)) := ⟨put7_heap zeroEn m2, (put7_only _ _ _).below hw hw.size (fun k hk => by omega)⟩; clear hz m2)
    refine bodyPost_ret (ret_entry2 (e := zeroEn) rfl _ _ _ rfl HP.out.1) rfl ?_
    exact ⟨rfl, HP.out.2⟩

end Go.Proofs.Ytjkgafbknjpjbaa
