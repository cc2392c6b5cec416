/- The document's tree: Look, Find; lists of entries compared. -/
import Derived.Test.YtmacicpeimlloaaTrZ
namespace Go.Proofs.Ytmacicpeimlloaa
section
open Go.RowKit
attribute [local go_sem high] eqK neqK eqE neqE eqN neqN guardK guardE guardN

set_option maxRecDepth 20000 in
set_option maxHeartbeats 1000000 in
theorem look_any (M : Nms) (hM : NmsOK M) (t : Nat) (s : Tr) (d : Int) (nm : ByteArray) (w : World) (h : IsT w t s) :
    Calls Try.prog 8 #[.pointer (some ⟨t, 0, none⟩), .int .i64 d, .string nm] w fun e w' => e = .returned (lookV M s.es d nm) ∧ Below w.heap.size w w' := by
  obtain ⟨N1, hN1⟩ : ∃ x, namedE M s.es d nm = x := ⟨_, rfl⟩
  have HN1 : Hid (∀ w, IsT w t s → Calls Try.prog 31 #[.pointer (some ⟨t, 0, none⟩), .int .i64 d, .string nm] w fun e w' => e = .returned (.int .i64 N1) ∧ Below w.heap.size w w') := by intro w hw; rw [← hN1]; exact named_any M hM t s d nm w hw
  have H : Hid (IsT w t s) := h
  unfold lookV
  rw [hN1]
  obtain ⟨e, hE⟩ : ∃ x, nowE s.es d nm = x := ⟨_, rfl⟩
  have HE : Hid (∀ w, IsT w t s → Calls Try.prog 32 #[.pointer (some ⟨t, 0, none⟩), .agg #[.int .i64 d, .string nm]] w fun x w' => x = .returned e.agg ∧ Below w.heap.size w w') := by intro w hw; rw [← hE]; exact now_any t s d nm w hw
  unfold En.agg at HE
  rw [hE]
  clear hN1 hM h hE
  by_cases hz : N1 = 0
  · subst hz
    rw [if_pos rfl]
    go_enter Try.func8, Try.ntmps8
    go_wp2_with (first
      | (go_at_call 31; refine (HN1.out _ (H.out.below (below_alloc _ _))).mono ?_; rintro x w1 ⟨rfl, hb1⟩; have hw := chainB (below_alloc _ _) hb1; have m1 := hkeep (heap_new w (.cells #[.int .i64 0, .string ⟨#[]⟩, .bool false, .int .i64 0, .int .i64 0, .int .i64 0, .string ⟨#[]⟩] 32)) hb1)
      | (go_at_call 32; refine (HE.out _ (H.out.below hw)).mono ?_; rintro x w2 ⟨rfl, hb2⟩; have m2 : w2.heap[w.heap.size]? = some (.cells zeroEn.vals.toArray 32 (0, 0)) := hkeep m1 hb2; have hz := cells7_of m2; have zf := free_of m2; have z0 := hz.c0; have z1 := hz.c1; have z2 := hz.c2; have z3 := hz.c3; have z4 := hz.c4; have z5 := hz.c5; have z6 := hz.c6; simp only [Nat.zero_add] at z1 z2 z3 z4 z5 z6; have HP : Hid ((put7 w2 w.heap.size e).heap[w.heap.size]? = some (.cells e.vals.toArray 32 (0, 0)) ∧ Below w.heap.size w (put7 w2 w.heap.size e)) := ⟨put7_heap e m2, (put7_only _ _ _).below (chainB hw hb2) (chainB hw hb2).size (fun k hk => by omega)⟩; clear hz m2 m1))
    refine bodyPost_ret (ret_entry2 (e := e) rfl _ _ _ rfl HP.out.1) rfl ?_
    exact ⟨rfl, HP.out.2⟩
  · rw [if_neg hz]
    have hzb : (N1 != 0) = true := by simpa using hz
    go_enter Try.func8, Try.ntmps8
    go_wp2_with (go_at_call 31; refine (HN1.out _ (H.out.below (below_alloc _ _))).mono ?_; rintro x w1 ⟨rfl, hb1⟩; have hw := chainB (below_alloc _ _) hb1; have m2 : w1.heap[w.heap.size]? = some (.cells zeroEn.vals.toArray 32 (0, 0)) := hkeep (heap_new w (.cells #[.int .i64 0, .string ⟨#[]⟩, .bool false, .int .i64 0, .int .i64 0, .int .i64 0, .string ⟨#[]⟩] 32)) hb1; have hz := cells7_of m2; have zf := free_of m2; have z0 := hz.c0; have z1 := hz.c1; have z2 := hz.c2; have z3 := hz.c3; have z4 := hz.c4; have z5 := hz.c5; have z6 := hz.c6; simp only [Nat.zero_add] at z1 z2 z3 z4 z5 z6; have HP : Hid ((put7 w1 w.heap.size zeroEn).heap[w.heap.size]? = some (.cells zeroEn.vals.toArray 32 (0, 0)) ∧ Below w.heap.size w (put7 w1 w.heap.size zeroEn)) := ⟨put7_heap zeroEn m2, (put7_only _ _ _).below hw hw.size (fun k hk => by omega)⟩; clear hz m2)
    refine bodyPost_ret (ret_entry2 (e := zeroEn) rfl _ _ _ rfl HP.out.1) rfl ?_
    exact ⟨rfl, HP.out.2⟩
end
section
open Go.RowKit
attribute [local go_sem high] eqK neqK eqE neqE eqN neqN guardK guardE guardN

set_option maxRecDepth 20000 in
set_option maxHeartbeats 1000000 in
theorem less_any (d : Int) (nm : ByteArray) (d2 : Int) (nm2 : ByteArray) (w : World) :
    Calls Try.prog 45 #[.agg #[.int .i64 d, .string nm], .agg #[.int .i64 d2, .string nm2]] w fun e w' => e = .returned (.bool (lessK d nm d2 nm2)) ∧ Below w.heap.size w w' := by
  have hbx := boxes2 (w := w) (c1 := #[.int .i64 d, .string nm]) (c2 := #[.int .i64 d2, .string nm2]) (t1 := 28) (t2 := 28) rfl
  obtain ⟨B, hB⟩ : ∃ x, lessK d nm d2 nm2 = x := ⟨_, rfl⟩
  have HB : Hid (lessK d nm d2 nm2 = B) := hB
  rw [hB]
  clear hB
  go_enter Try.func45, Try.ntmps45
  go_upto_region 1 with fail
  obtain ⟨W, hW⟩ : ∃ W, (w.alloc (.cells #[.int .i64 d, .string nm] 28)).alloc (.cells #[.int .i64 d2, .string nm2] 28) = W := ⟨_, rfl⟩
  rw [hW] at hbx ⊢
  have k0 := cell_of hbx.1 0
  have k1 := cell_of hbx.1 1
  have k2 := cell_of hbx.2.1 0
  have k3 := cell_of hbx.2.1 1
  simp at k0 k1 k2 k3
  have HW : Hid (Below w.heap.size w W) := hbx.2.2.1
  clear hW hbx
  by_cases h1 : d < d2
  · have hd : decide (d < d2) = true := decide_eq_true h1
    have HQ : Hid (B = true) := by show _ = _; rw [← HB.out]; unfold lessK; rw [hd]; rfl
    go_wp2
    go_ret
    exact ⟨by rw [HQ.out]; rfl, HW.out⟩
  · have hd : decide (d < d2) = false := decide_eq_false h1
    by_cases h2 : d = d2
    · subst h2
      have HQ : Hid (B = Op.bytesLess nm.toList nm2.toList) := by show _ = _; rw [← HB.out]; unfold lessK; rw [hd]; simp
      go_wp2
      go_ret
      exact ⟨by rw [HQ.out]; rfl, HW.out⟩
    · have hd2 : (d == d2) = false := by simpa using h2
      have HQ : Hid (B = false) := by show _ = _; rw [← HB.out]; unfold lessK; rw [hd, decide_eq_false h2]; rfl
      go_wp2
      go_ret
      exact ⟨by rw [HQ.out]; rfl, HW.out⟩

theorem find_zero {w w1 : World} (hb1 : Below (w.alloc (.cells #[.int .i64 0, .string ⟨#[]⟩, .bool false, .int .i64 0, .int .i64 0, .int .i64 0, .string ⟨#[]⟩] 32)).heap.size (w.alloc (.cells #[.int .i64 0, .string ⟨#[]⟩, .bool false, .int .i64 0, .int .i64 0, .int .i64 0, .string ⟨#[]⟩] 32)) w1) (o : Obj) :
    (w1.alloc o).heap[w.heap.size]? = some (.cells zeroEn.vals.toArray 32 (0, 0)) ∧ Below w.heap.size w (w1.alloc o) :=
  ⟨hkeep (hkeep (heap_new w _) hb1) (below_alloc _ _), chainB (chainB (below_alloc _ _) hb1) (below_alloc _ _)⟩
theorem find_put {w W : World} (h : W.heap[w.heap.size]? = some (.cells zeroEn.vals.toArray 32 (0, 0)) ∧ Below w.heap.size w W) (e : En) : (put7 W w.heap.size e).heap[w.heap.size]? = some (.cells e.vals.toArray 32 (0, 0)) ∧ Below w.heap.size w (put7 W w.heap.size e) :=
  ⟨put7_heap e h.1, (put7_only _ _ _).below h.2 h.2.size (fun k hk => by omega)⟩
set_option maxRecDepth 20000 in
set_option maxHeartbeats 1000000 in
theorem find_any (t : Nat) (s : Tr) (id : Int) (w : World) (h : IsT w t s) :
    Calls Try.prog 12 #[.pointer (some ⟨t, 0, none⟩), .int .i64 id] w fun e w' => e = .returned (findV s.es id) ∧ Below w.heap.size w w' := by
  have H : Hid (IsT w t s) := h
  unfold findV
  by_cases h1 : id = 1
  · subst h1
    rw [if_pos rfl]
    clear h
    go_enter Try.func12, Try.ntmps12
    go_wp2
    refine bodyPost_ret (ret_entry2 (e := zeroEn) rfl _ _ _ rfl (heap_new _ _)) rfl ?_
    exact ⟨rfl, below_alloc _ _⟩
  · rw [if_neg h1]
    have h1b : (id == 1) = false := by simpa using h1
    have hN := fun w (h : IsT w t s) => node_any t s id w h
    unfold nodeV at hN
    cases hq : nodeE s.es id with
    | none =>
      rw [hq] at hN
      have HN : Hid (∀ w, IsT w t s → Calls Try.prog 36 #[.pointer (some ⟨t, 0, none⟩), .int .i64 id] w fun e w' => e = .returned (.tuple #[zeroEn.agg, .bool false]) ∧ Below w.heap.size w w') := hN
      unfold En.agg at HN
      clear hN hq h
      go_enter Try.func12, Try.ntmps12
      go_wp2_with (go_at_call 36; refine (HN.out _ (H.out.below (below_alloc _ _))).mono ?_; rintro e w1 ⟨rfl, hb1⟩; have hF := find_zero hb1 (.cells #[.int .i64 zeroEn.d, .string zeroEn.nm, .bool zeroEn.neg, .int .i64 zeroEn.id, .int .i64 zeroEn.kind, .int .i64 zeroEn.mode, .string zeroEn.tg] 32); have HF : Hid _ := find_put hF zeroEn; have hz := cells7_of hF.1; have zf := free_of hF.1; have z0 := hz.c0; have z1 := hz.c1; have z2 := hz.c2; have z3 := hz.c3; have z4 := hz.c4; have z5 := hz.c5; have z6 := hz.c6; simp only [Nat.zero_add] at z1 z2 z3 z4 z5 z6; clear hF hz)
      refine bodyPost_ret (ret_entry2 (e := zeroEn) rfl _ _ _ rfl HF.out.1) rfl ?_
      exact ⟨rfl, HF.out.2⟩
    | some e =>
      rw [hq] at hN
      have HN : Hid (∀ w, IsT w t s → Calls Try.prog 36 #[.pointer (some ⟨t, 0, none⟩), .int .i64 id] w fun x w' => x = .returned (.tuple #[e.agg, .bool true]) ∧ Below w.heap.size w w') := hN
      unfold En.agg at HN
      clear hN hq h
      go_enter Try.func12, Try.ntmps12
      go_wp2_with (go_at_call 36; refine (HN.out _ (H.out.below (below_alloc _ _))).mono ?_; rintro x w1 ⟨rfl, hb1⟩; have hF := find_zero hb1 (.cells #[.int .i64 e.d, .string e.nm, .bool e.neg, .int .i64 e.id, .int .i64 e.kind, .int .i64 e.mode, .string e.tg] 32); have HF : Hid _ := find_put hF e; have hz := cells7_of hF.1; have zf := free_of hF.1; have z0 := hz.c0; have z1 := hz.c1; have z2 := hz.c2; have z3 := hz.c3; have z4 := hz.c4; have z5 := hz.c5; have z6 := hz.c6; simp only [Nat.zero_add] at z1 z2 z3 z4 z5 z6; clear hF hz)
      refine bodyPost_ret (ret_entry2 (e := e) rfl _ _ _ rfl HF.out.1) rfl ?_
      exact ⟨rfl, HF.out.2⟩
end
end Go.Proofs.Ytmacicpeimlloaa
