/- The document's tree: Less, Find; keys compared. -/
import Derived.Test.YtjkgafbknjpjbaaTsA
namespace Go.Proofs.Ytjkgafbknjpjbaa
open Go.RowKit
attribute [local go_sem high] eqK neqK eqE neqE eqN neqN guardK guardE guardN

set_option maxRecDepth 20000 in
set_option maxHeartbeats 1000000 in
theorem less_any (d : Int) (nm : ByteArray) (d2 : Int) (nm2 : ByteArray) (w : World) :
    Calls Try.prog 48 #[.agg #[.int .i64 d, .string nm], .agg #[.int .i64 d2, .string nm2]] w fun e w' => e = .returned (.bool (lessK d nm d2 nm2)) ∧ Below w.heap.size w w' := by
  have hbx := boxes2 (w := w) (c1 := #[.int .i64 d, .string nm]) (c2 := #[.int .i64 d2, .string nm2]) (t1 := 31) (t2 := 31) rfl
  obtain ⟨B, hB⟩ : ∃ x, lessK d nm d2 nm2 = x := ⟨_, rfl⟩
  have HB : Hid (lessK d nm d2 nm2 = B) := hB
  rw [hB]
  clear hB
  go_enter Try.func48, Try.ntmps48
  go_upto_region 1 with fail
  obtain ⟨W, hW⟩ : ∃ W, (w.alloc (.cells #[.int .i64 d, .string nm] 31)).alloc (.cells #[.int .i64 d2, .string nm2] 31) = W := ⟨_, rfl⟩
  rw [hW] at hbx ⊢
  have k0 := cell_of hbx.1 0
  have k1 := cell_of hbx.1 1
  have k2 := cell_of hbx.2.1 0
  have k3 := cell_of hbx.2.1 1
  simp at k0 k1 k2 k3
  have HW : Hid (Below w.heap.size w W) := hbx.2.2.1
  clear hW hbx
  by_cases h1 : d < d2
  · have hd : decide (d < d2) = true := decide_eq_true h1
    have HQ : Hid (B = true) := by show _ = _; rw [← HB.out]; unfold lessK; rw [hd]; rfl
    go_wp2
    go_ret
    exact ⟨by rw [HQ.out]; rfl, HW.out⟩
  · have hd : decide (d < d2) = false := decide_eq_false h1
    by_cases h2 : d = d2
    · subst h2
      have HQ : Hid (B = Op.bytesLess nm.toList nm2.toList) := by show _ = _; rw [← HB.out]; unfold lessK; rw [hd]; simp
      go_wp2
      go_ret
      exact ⟨by rw [HQ.out]; rfl, HW.out⟩
    · have hd2 : (d == d2) = false := by simpa using h2
      have HQ : Hid (B = false) := by show _ = _; rw [← HB.out]; unfold lessK; rw [hd, decide_eq_false h2]; rfl
      go_wp2
      go_ret
      exact ⟨by rw [HQ.out]; rfl, HW.out⟩

theorem find_zero {w w1 : World} (hb1 : Below (w.alloc (.cells #[.int .i64 0, .string ⟨#[]⟩, .bool false, .int .i64 0, .int .i64 0, .int .i64 0, .string ⟨#[]⟩] 35)).heap.size (w.alloc (.cells #[.int .i64 0, .string ⟨#[]⟩, .bool false, .int .i64 0, .int .i64 0, .int .i64 0, .string ⟨#[]⟩] 35)) w1) (o : Obj) :
    (w1.alloc o).heap[w.heap.size]? = some (.cells zeroEn.vals.toArray 35 (0, 0)) ∧ Below w.heap.size w (w1.alloc o) :=
  ⟨hkeep (hkeep (heap_new w _) hb1) (below_alloc _ _), chainB (chainB (below_alloc _ _) hb1) (below_alloc _ _)⟩
theorem find_put {w W : World} (h : W.heap[w.heap.size]? = some (.cells zeroEn.vals.toArray 35 (0, 0)) ∧ Below w.heap.size w W) (e : En) : (put7 W w.heap.size e).heap[w.heap.size]? = some (.cells e.vals.toArray 35 (0, 0)) ∧ Below w.heap.size w (put7 W w.heap.size e) :=
  ⟨put7_heap e h.1, (put7_only _ _ _).below h.2 h.2.size (fun k hk => by omega)⟩
set_option maxRecDepth 20000 in
set_option maxHeartbeats 1000000 in
theorem find_any (t : Nat) (s : Tr) (id : Int) (w : World) (h : IsT w t s) :
    Calls Try.prog 17 #[.pointer (some ⟨t, 0, none⟩), .int .i64 id] w fun e w' => e = .returned (findV s.es id) ∧ Below w.heap.size w w' := by
  have H : Hid (IsT w t s) := h
  unfold findV
  by_cases h1 : id = 1
  · subst h1
    rw [if_pos rfl]
    clear h
    go_enter Try.func17, Try.ntmps17
    go_wp2
    refine bodyPost_ret (ret_entry2 (e := zeroEn) rfl _ _ _ rfl (heap_new _ _)) rfl ?_
    exact ⟨rfl, below_alloc _ _⟩
  · rw [if_neg h1]
    have h1b : (id == 1) = false := by simpa using h1
    have hN := fun w (h : IsT w t s) => node_any t s id w h
    unfold nodeV at hN
    cases hq : nodeE s.es id with
    | none =>
      rw [hq] at hN
      have HN : Hid (∀ w, IsT w t s → Calls Try.prog 41 #[.pointer (some ⟨t, 0, none⟩), .int .i64 id] w fun e w' => e = .returned (.tuple #[zeroEn.agg, .bool false]) ∧ Below w.heap.size w w') := hN
      unfold En.agg at HN
      clear hN hq h
      go_enter Try.func17, Try.ntmps17
      go_wp2_with (go_at_call 41; refine (HN.out _ (H.out.below (below_alloc _ _))).mono ?_; rintro e w1 ⟨rfl, hb1⟩; have hF := find_zero hb1 (.cells #[.int .i64 zeroEn.d, .string zeroEn.nm, .bool zeroEn.neg, .int .i64 zeroEn.id, .int .i64 zeroEn.kind, .int .i64 zeroEn.mode, .string zeroEn.tg] 35); have HF : Hid _ := find_put hF zeroEn; have hz := cells7_of hF.1; have zf := free_of hF.1; have z0 := hz.c0; have z1 := hz.c1; have z2 := hz.c2; have z3 := hz.c3; have z4 := hz.c4; have z5 := hz.c5; have z6 := hz.c6; simp only [Nat.zero_add] at z1 z2 z3 z4 z5 z6; clear hF hz)
      refine bodyPost_ret (ret_entry2 (e := zeroEn) rfl _ _ _ rfl HF.out.1) rfl ?_
      exact ⟨rfl, HF.out.2⟩
    | some e =>
      rw [hq] at hN
      have HN : Hid (∀ w, IsT w t s → Calls Try.prog 41 #[.pointer (some ⟨t, 0, none⟩), .int .i64 id] w fun x w' => x = .returned (.tuple #[e.agg, .bool true]) ∧ Below w.heap.size w w') := hN
      unfold En.agg at HN
      clear hN hq h
      go_enter Try.func17, Try.ntmps17
      go_wp2_with (go_at_call 41; refine (HN.out _ (H.out.below (below_alloc _ _))).mono ?_; rintro x w1 ⟨rfl, hb1⟩; have hF := find_zero hb1 (.cells #[.int .i64 e.d, .string e.nm, .bool e.neg, .int .i64 e.id, .int .i64 e.kind, .int .i64 e.mode, .string e.tg] 35); have HF : Hid _ := find_put hF e; have hz := cells7_of hF.1; have zf := free_of hF.1; have z0 := hz.c0; have z1 := hz.c1; have z2 := hz.c2; have z3 := hz.c3; have z4 := hz.c4; have z5 := hz.c5; have z6 := hz.c6; simp only [Nat.zero_add] at z1 z2 z3 z4 z5 z6; clear hF hz)
      refine bodyPost_ret (ret_entry2 (e := e) rfl _ _ _ rfl HF.out.1) rfl ?_
      exact ⟨rfl, HF.out.2⟩
end Go.Proofs.Ytjkgafbknjpjbaa
