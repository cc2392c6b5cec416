/- The program's tree: Next. -/
import Derived.Test.YtjelggpkeogebaaTpA
namespace Go.Proofs.Ytjelggpkeogebaa
open Go.RowKit

theorem next_p (t : Nat) (s : Tr) (w : World) (h : IsP w t s) : Calls Try.prog 18 #[.pointer (some ⟨t, 0, none⟩)] w fun e w' => e = .returned (.int .i64 s.next) ∧ w' = w := by
  obtain ⟨c0, c1, c2, _⟩ := h.cells
  clear h
  go_enter Try.func18, Try.ntmps18
  go_wp2
  go_ret
  exact ⟨rfl, rfl⟩
end Go.Proofs.Ytjelggpkeogebaa
