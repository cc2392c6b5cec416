/- The document's tree: Look, Find; lists of entries compared. -/
import Derived.Test.YtjelggpkeogebaaTrZ
namespace Go.Proofs.Ytjelggpkeogebaa
section
open Go.RowKit
attribute [local go_sem high] eqK neqK eqE neqE eqN neqN guardK guardE guardN
end
section
open Go.RowKit
attribute [local go_sem high] eqK neqK eqE neqE eqN neqN guardK guardE guardN

set_option maxRecDepth 20000 in
set_option maxHeartbeats 1000000 in
theorem less_any (d : Int) (nm : ByteArray) (d2 : Int) (nm2 : ByteArray) (w : World) :
    Calls Try.prog 27 #[.agg #[.int .i64 d, .string nm], .agg #[.int .i64 d2, .string nm2]] w fun e w' => e = .returned (.bool (lessK d nm d2 nm2)) ∧ Below w.heap.size w w' := by
  have hbx := boxes2 (w := w) (c1 := #[.int .i64 d, .string nm]) (c2 := #[.int .i64 d2, .string nm2]) (t1 := 52) (t2 := 52) rfl
  obtain ⟨B, hB⟩ : ∃ x, lessK d nm d2 nm2 = x := ⟨_, rfl⟩
  have HB : Hid (lessK d nm d2 nm2 = B) := hB
  rw [hB]
  clear hB
  go_enter Try.func27, Try.ntmps27
  go_upto_region 1 with fail
  obtain ⟨W, hW⟩ : ∃ W, (w.alloc (.cells #[.int .i64 d, .string nm] 52)).alloc (.cells #[.int .i64 d2, .string nm2] 52) = W := ⟨_, rfl⟩
  rw [hW] at hbx ⊢
  have k0 := cell_of hbx.1 0
  have k1 := cell_of hbx.1 1
  have k2 := cell_of hbx.2.1 0
  have k3 := cell_of hbx.2.1 1
  simp at k0 k1 k2 k3
  have HW : Hid (Below w.heap.size w W) := hbx.2.2.1
  clear hW hbx
  by_cases h1 : d < d2
  · have hd : decide (d < d2) = true := decide_eq_true h1
    have HQ : Hid (B = true) := by show _ = _; rw [← HB.out]; unfold lessK; rw [hd]; rfl
    go_wp2
    go_ret
    exact ⟨by rw [HQ.out]; rfl, HW.out⟩
  · have hd : decide (d < d2) = false := decide_eq_false h1
    by_cases h2 : d = d2
    · subst h2
      have HQ : Hid (B = Op.bytesLess nm.toList nm2.toList) := by show _ = _; rw [← HB.out]; unfold lessK; rw [hd]; simp
      go_wp2
      go_ret
      exact ⟨by rw [HQ.out]; rfl, HW.out⟩
    · have hd2 : (d == d2) = false := by simpa using h2
      have HQ : Hid (B = false) := by show _ = _; rw [← HB.out]; unfold lessK; rw [hd, decide_eq_false h2]; rfl
      go_wp2
      go_ret
      exact ⟨by rw [HQ.out]; rfl, HW.out⟩

theorem find_zero {w w1 : World} (hb1 : Below (w.alloc (.cells #[.int .i64 0, .string ⟨#[]⟩, .bool false, .int .i64 0, .int .i64 0, .int .i64 0, .string ⟨#[]⟩] 56)).heap.size (w.alloc (.cells #[.int .i64 0, .string ⟨#[]⟩, .bool false, .int .i64 0, .int .i64 0, .int .i64 0, .string ⟨#[]⟩] 56)) w1) (o : Obj) :
    (w1.alloc o).heap[w.heap.size]? = some (.cells zeroEn.vals.toArray 56 (0, 0)) ∧ Below w.heap.size w (w1.alloc o) :=
  ⟨hkeep (hkeep (heap_new w _) hb1) (below_alloc _ _), chainB (chainB (below_alloc _ _) hb1) (below_alloc _ _)⟩
theorem find_put {w W : World} (h : W.heap[w.heap.size]? = some (.cells zeroEn.vals.toArray 56 (0, 0)) ∧ Below w.heap.size w W) (e : En) : (put7 W w.heap.size e).heap[w.heap.size]? = some (.cells e.vals.toArray 56 (0, 0)) ∧ Below w.heap.size w (put7 W w.heap.size e) :=
  ⟨put7_heap e h.1, (put7_only _ _ _).below h.2 h.2.size (fun k hk => by omega)⟩
end
end Go.Proofs.Ytjelggpkeogebaa
