/- The document's tree: New, Dump; its names. -/
import Derived.Test.YtmacicpeimlloaaTsF
import Derived.Test.YtmacicpeimlloaaTrZ
import Derived.Test.YtmacicpeimlloaaNmU
import Derived.Test.YtmacicpeimlloaaTpQ
namespace Go.Proofs.Ytmacicpeimlloaa
open Go.RowKit
attribute [local go_sem high] eqK neqK eqE neqE eqN neqN guardK guardE guardN

theorem nmsD : NmsOK Mn := ⟨fun s w => rcheck_any s w, fun s w => (rtarget_any s w).mono fun _ _ ⟨v, he, _, hb⟩ => ⟨v, _, _, he, hb⟩⟩
theorem newD_any (w : World) : Calls Try.prog 29 #[] w fun e w' => e = .returned (.pointer (some ⟨w.heap.size, 0, none⟩)) ∧ IsT w' w.heap.size ⟨.slice none 0 0, [], 0, 2⟩ ∧ Below w.heap.size w w' := by
  go_enter Try.func29, Try.ntmps29
  go_wp2
  go_ret
  exact ⟨rfl, ⟨heap_new _ _, World.ownsRow_nil _ _ _ _, Nat.zero_le _⟩, below_alloc _ _⟩
theorem dumpD_any (t : Nat) (s : Tr) (w : World) (h : IsT w t s) (ha : Apart s.es) : Calls Try.prog 38 #[.pointer (some ⟨t, 0, none⟩)] w fun e w' => ∃ v', e = .returned v' ∧ Row7 w' w.heap.size v' (srt s.es) ∧ Below w.heap.size w w' := by
  obtain ⟨c0, _, _, _⟩ := h.cells
  have HS : Hid (Calls Try.prog 35 #[s.v] w fun e w' => ∃ v', e = .returned v' ∧ Row7 w' w.heap.size v' (srt s.es) ∧ Below w.heap.size w w') := (sorted_any s.v s.es 0 w h.row (by have := h.lim; omega)).mono fun e w' ⟨v', m, he, hr, hs, hb⟩ => ⟨v', he, by
    have hm : srt s.es = m := (hs.2 ha).srt hs.1
    rw [hm]; exact hr, hb⟩
  clear h ha
  go_enter Try.func38, Try.ntmps38
  go_wp2_with (go_at_call 35; refine HS.out.mono ?_; rintro x w1 ⟨v1, rfl, hr1, hb1⟩)
  go_ret
  exact ⟨v1, rfl, hr1, hb1⟩
end Go.Proofs.Ytmacicpeimlloaa
