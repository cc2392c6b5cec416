/- What package name answers, for the tree. -/
import Derived.Test.YtjelggpkeogebaaTpO
import Derived.Test.YtjelggpkeogebaaNmT
namespace Go.Proofs.Ytjelggpkeogebaa
open Go.RowKit

def Mn : Nms := ⟨chkE, fun s => cutE s (fullB s)⟩
theorem nmsP : NmsP Mn := ⟨fun s w => check_any s w, fun s w => (target_any s w).mono fun _ _ ⟨v, he, _, hb⟩ => ⟨v, _, _, he, hb⟩⟩
end Go.Proofs.Ytjelggpkeogebaa
