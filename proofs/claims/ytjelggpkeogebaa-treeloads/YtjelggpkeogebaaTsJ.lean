/- Both trees behind a script. -/
import Derived.Test.YtjelggpkeogebaaTsI
import Derived.Test.YtjelggpkeogebaaTpX
namespace Go.Proofs.Ytjelggpkeogebaa
open Go.RowKit
attribute [local go_sem high] eqK' neqK' eqE neqE eqN neqN guardK guardE guardN

theorem sameK_yes {v v' : Value} {l : List Ky} {B B' : Nat} {w : World} (h : RowK w B v l) (h' : RowK w B' v' l) (hl : l.length ≤ 1000000000) :
    Calls Try.prog 13 #[v, v'] w fun e w' => e = .returned (.bool true) ∧ Below w.heap.size w w' := by
  have := sameK_any v v' l l B B' w h h' hl hl
  rw [(sameKs_iff l l).2 rfl] at this
  exact this
theorem told_few {M : Nms} {s : Tr} (o : Opn) : (toldE M s o).length ≤ 1000000000 := by
  unfold toldE tellL
  split
  · repeat' split
    all_goals simp
  · simp
theorem toldK_few {M : Nms} {s : Tr} (o : Opn) : (toldK M s o).length ≤ 1000000000 := by
  unfold toldK keysL
  split
  · repeat' split
    all_goals simp
  · simp
end Go.Proofs.Ytjelggpkeogebaa
