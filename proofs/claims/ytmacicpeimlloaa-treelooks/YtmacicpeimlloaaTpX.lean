/- The program's tree: Next. -/
import Derived.Test.YtmacicpeimlloaaTpA
namespace Go.Proofs.Ytmacicpeimlloaa
open Go.RowKit

theorem next_p (t : Nat) (s : Tr) (w : World) (h : IsP w t s) : Calls Try.prog 26 #[.pointer (some ⟨t, 0, none⟩)] w fun e w' => e = .returned (.int .i64 s.next) ∧ w' = w := by
  obtain ⟨c0, c1, c2, _⟩ := h.cells
  clear h
  go_enter Try.func26, Try.ntmps26
  go_wp2
  go_ret
  exact ⟨rfl, rfl⟩
end Go.Proofs.Ytmacicpeimlloaa
