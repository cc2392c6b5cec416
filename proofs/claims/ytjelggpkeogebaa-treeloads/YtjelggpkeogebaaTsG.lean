/- The document's tree: New, Dump; its names. -/
import Derived.Test.YtjelggpkeogebaaTsF
import Derived.Test.YtjelggpkeogebaaTrZ
import Derived.Test.YtjelggpkeogebaaNmU
import Derived.Test.YtjelggpkeogebaaTpQ
namespace Go.Proofs.Ytjelggpkeogebaa
open Go.RowKit
attribute [local go_sem high] eqK neqK eqE neqE eqN neqN guardK guardE guardN

theorem nmsD : NmsOK Mn := ⟨fun s w => rcheck_any s w, fun s w => (rtarget_any s w).mono fun _ _ ⟨v, he, _, hb⟩ => ⟨v, _, _, he, hb⟩⟩
theorem dumpD_any (t : Nat) (s : Tr) (w : World) (h : IsT w t s) (ha : Apart s.es) : Calls Try.prog 32 #[.pointer (some ⟨t, 0, none⟩)] w fun e w' => ∃ v', e = .returned v' ∧ Row7 w' w.heap.size v' (srt s.es) ∧ Below w.heap.size w w' := by
  obtain ⟨c0, _, _, _⟩ := h.cells
  have HS : Hid (Calls Try.prog 48 #[s.v] w fun e w' => ∃ v', e = .returned v' ∧ Row7 w' w.heap.size v' (srt s.es) ∧ Below w.heap.size w w') := (sorted_any s.v s.es 0 w h.row (by have := h.lim; omega)).mono fun e w' ⟨v', m, he, hr, hs, hb⟩ => ⟨v', he, by
    have hm : srt s.es = m := (hs.2 ha).srt hs.1
    rw [hm]; exact hr, hb⟩
  clear h ha
  go_enter Try.func32, Try.ntmps32
  go_wp2_with (go_at_call 48; refine HS.out.mono ?_; rintro x w1 ⟨v1, rfl, hr1, hb1⟩)
  go_ret
  exact ⟨v1, rfl, hr1, hb1⟩
end Go.Proofs.Ytjelggpkeogebaa
