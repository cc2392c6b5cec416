/- A scope whose goto jumps forward, once. -/
import Derived.Test.YtihjhaafmdobmaaWqA
import Derived.ScopeJumps
import Derived.WalkMore
namespace Go.Proofs.Ytihjhaafmdobmaa
open Go.RowKit Go.Lib

/-- as Q; by a goto to l: what stands behind the label -/
def Fwd (P : Program) (l : Nat) (rest : Code) (Q : Exit → Act → World → Prop) : Exit → Act → World → Prop := Exit.jump l (fun a w => rest.wp P (Exit.noGoto Q) a w) Q
theorem fwd_goto {P : Program} {l : Nat} {rest : Code} {Q : Exit → Act → World → Prop} {a : Act} {w : World} (h : rest.wp P (Exit.noGoto Q) a w) : Fwd P l rest Q (.goto l) a w := ⟨rfl, h⟩
theorem fwd_ret {P : Program} {l : Nat} {rest : Code} {Q : Exit → Act → World → Prop} {a : Act} {w : World} (h : Q .ret a w) : Fwd P l rest Q .ret a w := h
theorem wp_scope_once {P : Program} {a : Act} {w : World} {Q : Exit → Act → World → Prop} {c rest : Code} (l : Nat) (hf : findLabel c l = some rest) (first : c.wp P (Fwd P l rest Q) a w) : (Code.scope c).wp P Q a w := by
  refine wp_scope_jumps l _ (fun _ _ => 0) hf first fun a w hJ => ?_
  intro b k cs
  obtain ⟨e, a1, w1, hq, harr⟩ := hJ b k cs
  refine ⟨e, a1, w1, ?_, harr⟩
  cases e with
  | goto l' => exact hq.elim
  | normal => exact hq
  | exit id => exact hq
  | ret => exact hq
  | panic ch => exact hq
  | outgrown => exact hq
end Go.Proofs.Ytihjhaafmdobmaa
