/-
  No cell of these rows narrows 'for every input' (looked for: loops, veiled, ifaces, maps, wideKeys, modest, calm, conditions, laid).
  DERIVED. THE GIVEN ROWS OF THIS SEAT. 6 by the template 'for every input the law returns true; each argument reads behind the call as it read before'; 0 by the template 'total and deterministic' (their statements: YtlabophmfdfigaaTotals.lean).
  GIVEN WITH THE SEED: the statements are not yours to turn. If you find one false, say at which input.
  Laid BY PROGRAM, IN A SANDBOX (cutbox-rows.mjs): the forced cells as the released guide's own fill.sh prints them over the translation 4de3545ad8722a2c… (all of the seat's roots in one cut). By AI agents, Wed Nov 11 2026. No macro, syntax, notation, axiom, sorry.
-/
import Derived.Test.YtlabophmfdfigaaChecked
import GoSem.Claim
import GoSem.ClaimJoined
import GoSem.ClaimMapViews
import Derived.JoinedTies
import Derived.KernelRfl
namespace Go.Proofs.Ytlabophmfdfigaa
/- THE CELL 'sum', in the pinned program and in every row, IS THE sha256 OF THE DUMP (.gsa) THAT YtlabophmfdfigaaProg.lean LOADS. Nothing in Lean hashes anything: it is a label: what it is worth is what the hold of that sum in a sandbox is worth. -/
noncomputable def Try.pinned : Pinned := { name := "ytlabophmfdfigaa", sum := "4de3545ad8722a2c7c6eb5df5ae9d13eb03078bbf6af7c27dcb06a86cd8017ba", checked := Try.checked }
namespace Rows
def none {H : Type} : Left H := { results := [], args := [] }

/-- 'vistalaw12.DentPlays': WHATEVER THE INPUT: true; the input reads as it did. -/
def dentPlaysSpec : ChangeSpec := { name := "dentPlays", fn := fun _ => fun
  | [d] => { results := [.lit (.bool true)], args := [d] }
  | _ => none }
def dentPlaysRow : OpenClaim := { program := "ytlabophmfdfigaa", sum := "4de3545ad8722a2c7c6eb5df5ae9d13eb03078bbf6af7c27dcb06a86cd8017ba", func := "vista/vistalaw12.DentPlays", spec := "dentPlays", unfollowed := true, recurses := true, apart := false }
def DentPlaysSaid : Prop := dentPlaysRow.holds Try.pinned (OpenSpec.ofChange dentPlaysSpec)

/-- ITS FALSE NEIGHBOUR: 'it returns false'. Refute it at one input. -/
def dentPlaysWrong : ChangeSpec := { name := "dentPlays", fn := fun _ => fun
  | [d] => { results := [.lit (.bool false)], args := [d] }
  | _ => none }
def DentPlaysWrongFalsely : Prop := dentPlaysRow.holds Try.pinned (OpenSpec.ofChange dentPlaysWrong)

/-- 'vistalaw12.DentSteps': WHATEVER THE INPUT: true; the input reads as it did. -/
def dentStepsSpec : ChangeSpec := { name := "dentSteps", fn := fun _ => fun
  | [d1, d2] => { results := [.lit (.bool true)], args := [d1, d2] }
  | _ => none }
def dentStepsRow : OpenClaim := { program := "ytlabophmfdfigaa", sum := "4de3545ad8722a2c7c6eb5df5ae9d13eb03078bbf6af7c27dcb06a86cd8017ba", func := "vista/vistalaw12.DentSteps", spec := "dentSteps", unfollowed := true, recurses := true, apart := false }
def DentStepsSaid : Prop := dentStepsRow.holds Try.pinned (OpenSpec.ofChange dentStepsSpec)

/-- ITS FALSE NEIGHBOUR: 'it returns false'. Refute it at one input. -/
def dentStepsWrong : ChangeSpec := { name := "dentSteps", fn := fun _ => fun
  | [d1, d2] => { results := [.lit (.bool false)], args := [d1, d2] }
  | _ => none }
def DentStepsWrongFalsely : Prop := dentStepsRow.holds Try.pinned (OpenSpec.ofChange dentStepsWrong)

/-- 'vistalaw12.DentUses': WHATEVER THE INPUT: true; the input reads as it did. -/
def dentUsesSpec : ChangeSpec := { name := "dentUses", fn := fun _ => fun
  | [d1, d2, d3] => { results := [.lit (.bool true)], args := [d1, d2, d3] }
  | _ => none }
def dentUsesRow : OpenClaim := { program := "ytlabophmfdfigaa", sum := "4de3545ad8722a2c7c6eb5df5ae9d13eb03078bbf6af7c27dcb06a86cd8017ba", func := "vista/vistalaw12.DentUses", spec := "dentUses", unfollowed := true, recurses := true, apart := false }
def DentUsesSaid : Prop := dentUsesRow.holds Try.pinned (OpenSpec.ofChange dentUsesSpec)

/-- ITS FALSE NEIGHBOUR: 'it returns false'. Refute it at one input. -/
def dentUsesWrong : ChangeSpec := { name := "dentUses", fn := fun _ => fun
  | [d1, d2, d3] => { results := [.lit (.bool false)], args := [d1, d2, d3] }
  | _ => none }
def DentUsesWrongFalsely : Prop := dentUsesRow.holds Try.pinned (OpenSpec.ofChange dentUsesWrong)

/-- 'vistalaw12.DentLeaves': WHATEVER THE INPUT: true; the input reads as it did. -/
def dentLeavesSpec : ChangeSpec := { name := "dentLeaves", fn := fun _ => fun
  | [d] => { results := [.lit (.bool true)], args := [d] }
  | _ => none }
def dentLeavesRow : OpenClaim := { program := "ytlabophmfdfigaa", sum := "4de3545ad8722a2c7c6eb5df5ae9d13eb03078bbf6af7c27dcb06a86cd8017ba", func := "vista/vistalaw12.DentLeaves", spec := "dentLeaves", unfollowed := true, recurses := true, apart := false }
def DentLeavesSaid : Prop := dentLeavesRow.holds Try.pinned (OpenSpec.ofChange dentLeavesSpec)

/-- ITS FALSE NEIGHBOUR: 'it returns false'. Refute it at one input. -/
def dentLeavesWrong : ChangeSpec := { name := "dentLeaves", fn := fun _ => fun
  | [d] => { results := [.lit (.bool false)], args := [d] }
  | _ => none }
def DentLeavesWrongFalsely : Prop := dentLeavesRow.holds Try.pinned (OpenSpec.ofChange dentLeavesWrong)

/-- 'vistalaw12.DentWhole': WHATEVER THE INPUT: true; the input reads as it did. -/
def dentWholeSpec : ChangeSpec := { name := "dentWhole", fn := fun _ => fun
  | [d1, d2] => { results := [.lit (.bool true)], args := [d1, d2] }
  | _ => none }
def dentWholeRow : OpenClaim := { program := "ytlabophmfdfigaa", sum := "4de3545ad8722a2c7c6eb5df5ae9d13eb03078bbf6af7c27dcb06a86cd8017ba", func := "vista/vistalaw12.DentWhole", spec := "dentWhole", apart := false }
def DentWholeSaid : Prop := dentWholeRow.holds Try.pinned (OpenSpec.ofChange dentWholeSpec)

/-- ITS FALSE NEIGHBOUR: 'it returns false'. Refute it at one input. -/
def dentWholeWrong : ChangeSpec := { name := "dentWhole", fn := fun _ => fun
  | [d1, d2] => { results := [.lit (.bool false)], args := [d1, d2] }
  | _ => none }
def DentWholeWrongFalsely : Prop := dentWholeRow.holds Try.pinned (OpenSpec.ofChange dentWholeWrong)

/-- 'vistalaw12.DentKept': WHATEVER THE INPUT: true; the input reads as it did. -/
def dentKeptSpec : ChangeSpec := { name := "dentKept", fn := fun _ => fun
  | [d1, d2] => { results := [.lit (.bool true)], args := [d1, d2] }
  | _ => none }
def dentKeptRow : OpenClaim := { program := "ytlabophmfdfigaa", sum := "4de3545ad8722a2c7c6eb5df5ae9d13eb03078bbf6af7c27dcb06a86cd8017ba", func := "vista/vistalaw12.DentKept", spec := "dentKept", unfollowed := true, recurses := true, apart := false }
def DentKeptSaid : Prop := dentKeptRow.holds Try.pinned (OpenSpec.ofChange dentKeptSpec)

/-- ITS FALSE NEIGHBOUR: 'it returns false'. Refute it at one input. -/
def dentKeptWrong : ChangeSpec := { name := "dentKept", fn := fun _ => fun
  | [d1, d2] => { results := [.lit (.bool false)], args := [d1, d2] }
  | _ => none }
def DentKeptWrongFalsely : Prop := dentKeptRow.holds Try.pinned (OpenSpec.ofChange dentKeptWrong)

/- THE SECOND FORM. 'bulk': how many values and letters a reading holds, each counted each time it is reached (what is shared counts as often as it is met; a slice's spare places count too). A statement '..UptoSaid' is the law's where the arguments, and the package variables that the reading takes, are together of bulk at most 1048576: NARROWER than '..Said'. Prove '..Said' where nothing that the law and all that it calls make is longer than what came in: it says more and counts as full. Else prove '..UptoSaid'. A law counts once. -/
mutual
def uptoBulk {H : Type} : DataW H → Nat
  | .lit (.string bytes) => bytes.length + 1
  | .lit _ => 1
  | .nil => 1
  | .ptr d => uptoBulk d + 1
  | .slice elems spare => uptoBulkAll elems + uptoBulkAll spare + 1
  | .agg parts => uptoBulkAll parts + 1
  | .iface _ d => uptoBulk d + 1
  | .map entries => uptoBulkEntries entries + 1
  | .held _ => 1
def uptoBulkAll {H : Type} : List (DataW H) → Nat
  | [] => 0
  | d :: r => uptoBulk d + uptoBulkAll r
def uptoBulkEntries {H : Type} : List (Lit × DataW H) → Nat
  | [] => 0
  | x :: r => uptoBulkEntry x + uptoBulkEntries r
def uptoBulkEntry {H : Type} : Lit × DataW H → Nat
  | (.string bytes, d) => bytes.length + uptoBulk d + 1
  | (_, d) => uptoBulk d + 1
 end
def uptoSmall : (H : Type) → List (DataW H) → Bool := fun _ ds => decide (uptoBulkAll ds ≤ 1048576)
def OpenSpec.upto (s : _root_.Go.ChangeSpec) : _root_.Go.OpenSpec := { _root_.Go.OpenSpec.ofChange s with cond := some uptoSmall }

/-- 'vistalaw12.DentPlays', WHERE WHAT IT READS IS OF BULK AT MOST 1048576: true; the input reads as it did. -/
def dentPlaysUptoRow : OpenClaim := { program := "ytlabophmfdfigaa", sum := "4de3545ad8722a2c7c6eb5df5ae9d13eb03078bbf6af7c27dcb06a86cd8017ba", func := "vista/vistalaw12.DentPlays", spec := "dentPlays", unfollowed := true, recurses := true, apart := false, narrowed := true }
def DentPlaysUptoSaid : Prop := dentPlaysUptoRow.holds Try.pinned (OpenSpec.upto dentPlaysSpec)

/-- 'vistalaw12.DentSteps', WHERE WHAT IT READS IS OF BULK AT MOST 1048576: true; the input reads as it did. -/
def dentStepsUptoRow : OpenClaim := { program := "ytlabophmfdfigaa", sum := "4de3545ad8722a2c7c6eb5df5ae9d13eb03078bbf6af7c27dcb06a86cd8017ba", func := "vista/vistalaw12.DentSteps", spec := "dentSteps", unfollowed := true, recurses := true, apart := false, narrowed := true }
def DentStepsUptoSaid : Prop := dentStepsUptoRow.holds Try.pinned (OpenSpec.upto dentStepsSpec)

/-- 'vistalaw12.DentUses', WHERE WHAT IT READS IS OF BULK AT MOST 1048576: true; the input reads as it did. -/
def dentUsesUptoRow : OpenClaim := { program := "ytlabophmfdfigaa", sum := "4de3545ad8722a2c7c6eb5df5ae9d13eb03078bbf6af7c27dcb06a86cd8017ba", func := "vista/vistalaw12.DentUses", spec := "dentUses", unfollowed := true, recurses := true, apart := false, narrowed := true }
def DentUsesUptoSaid : Prop := dentUsesUptoRow.holds Try.pinned (OpenSpec.upto dentUsesSpec)

/-- 'vistalaw12.DentLeaves', WHERE WHAT IT READS IS OF BULK AT MOST 1048576: true; the input reads as it did. -/
def dentLeavesUptoRow : OpenClaim := { program := "ytlabophmfdfigaa", sum := "4de3545ad8722a2c7c6eb5df5ae9d13eb03078bbf6af7c27dcb06a86cd8017ba", func := "vista/vistalaw12.DentLeaves", spec := "dentLeaves", unfollowed := true, recurses := true, apart := false, narrowed := true }
def DentLeavesUptoSaid : Prop := dentLeavesUptoRow.holds Try.pinned (OpenSpec.upto dentLeavesSpec)

/-- 'vistalaw12.DentWhole', WHERE WHAT IT READS IS OF BULK AT MOST 1048576: true; the input reads as it did. -/
def dentWholeUptoRow : OpenClaim := { program := "ytlabophmfdfigaa", sum := "4de3545ad8722a2c7c6eb5df5ae9d13eb03078bbf6af7c27dcb06a86cd8017ba", func := "vista/vistalaw12.DentWhole", spec := "dentWhole", apart := false, narrowed := true }
def DentWholeUptoSaid : Prop := dentWholeUptoRow.holds Try.pinned (OpenSpec.upto dentWholeSpec)

/-- 'vistalaw12.DentKept', WHERE WHAT IT READS IS OF BULK AT MOST 1048576: true; the input reads as it did. -/
def dentKeptUptoRow : OpenClaim := { program := "ytlabophmfdfigaa", sum := "4de3545ad8722a2c7c6eb5df5ae9d13eb03078bbf6af7c27dcb06a86cd8017ba", func := "vista/vistalaw12.DentKept", spec := "dentKept", unfollowed := true, recurses := true, apart := false, narrowed := true }
def DentKeptUptoSaid : Prop := dentKeptUptoRow.holds Try.pinned (OpenSpec.upto dentKeptSpec)

end Rows
end Go.Proofs.Ytlabophmfdfigaa
