/-
  No cell of these rows narrows 'for every input' (looked for: loops, veiled, ifaces, maps, wideKeys, modest, calm, conditions, laid).
  DERIVED. THE GIVEN ROWS OF THIS SEAT. 4 by the template 'for every input the law returns true; each argument reads behind the call as it read before'; 0 by the template 'total and deterministic' (their statements: YtppbbddlbfgpfaaTotals.lean).
  GIVEN WITH THE SEED: the statements are not yours to turn. If you find one false, say at which input.
  Laid BY PROGRAM, IN A SANDBOX (cutbox-rows.mjs): the forced cells as the released guide's own fill.sh prints them over the translation bbe470fbfa39c6ae… (all of the seat's roots in one cut). By AI agents, Wed Nov 11 2026. No macro, syntax, notation, axiom, sorry.
-/
import Derived.Test.YtppbbddlbfgpfaaChecked
import GoSem.Claim
import GoSem.ClaimJoined
import GoSem.ClaimMapViews
import Derived.JoinedTies
import Derived.KernelRfl
namespace Go.Proofs.Ytppbbddlbfgpfaa
/- THE CELL 'sum', in the pinned program and in every row, IS THE sha256 OF THE DUMP (.gsa) THAT YtppbbddlbfgpfaaProg.lean LOADS. Nothing in Lean hashes anything: it is a label: what it is worth is what the hold of that sum in a sandbox is worth. -/
noncomputable def Try.pinned : Pinned := { name := "ytppbbddlbfgpfaa", sum := "bbe470fbfa39c6aeff7c66e95bf1d00024fae16019cc17199898546519d10f6c", checked := Try.checked }
namespace Rows
def none {H : Type} : Left H := { results := [], args := [] }

/-- 'vistalaw14.WalkHome': WHATEVER THE INPUT: true; the input reads as it did. -/
def walkHomeSpec : ChangeSpec := { name := "walkHome", fn := fun _ => fun
  | [d1, d2, d3, d4] => { results := [.lit (.bool true)], args := [d1, d2, d3, d4] }
  | _ => none }
def walkHomeRow : OpenClaim := { program := "ytppbbddlbfgpfaa", sum := "bbe470fbfa39c6aeff7c66e95bf1d00024fae16019cc17199898546519d10f6c", func := "vista/vistalaw14.WalkHome", spec := "walkHome", unfollowed := true, recurses := true, plainKeys := false, apart := false }
def WalkHomeSaid : Prop := walkHomeRow.holds Try.pinned (OpenSpec.ofChange walkHomeSpec)

/-- ITS FALSE NEIGHBOUR: 'it returns false'. Refute it at one input. -/
def walkHomeWrong : ChangeSpec := { name := "walkHome", fn := fun _ => fun
  | [d1, d2, d3, d4] => { results := [.lit (.bool false)], args := [d1, d2, d3, d4] }
  | _ => none }
def WalkHomeWrongFalsely : Prop := walkHomeRow.holds Try.pinned (OpenSpec.ofChange walkHomeWrong)

/-- 'vistalaw14.WalkWants': WHATEVER THE INPUT: true; the input reads as it did. -/
def walkWantsSpec : ChangeSpec := { name := "walkWants", fn := fun _ => fun
  | [d1, d2, d3, d4] => { results := [.lit (.bool true)], args := [d1, d2, d3, d4] }
  | _ => none }
def walkWantsRow : OpenClaim := { program := "ytppbbddlbfgpfaa", sum := "bbe470fbfa39c6aeff7c66e95bf1d00024fae16019cc17199898546519d10f6c", func := "vista/vistalaw14.WalkWants", spec := "walkWants", unfollowed := true, recurses := true, plainKeys := false, apart := false }
def WalkWantsSaid : Prop := walkWantsRow.holds Try.pinned (OpenSpec.ofChange walkWantsSpec)

/-- ITS FALSE NEIGHBOUR: 'it returns false'. Refute it at one input. -/
def walkWantsWrong : ChangeSpec := { name := "walkWants", fn := fun _ => fun
  | [d1, d2, d3, d4] => { results := [.lit (.bool false)], args := [d1, d2, d3, d4] }
  | _ => none }
def WalkWantsWrongFalsely : Prop := walkWantsRow.holds Try.pinned (OpenSpec.ofChange walkWantsWrong)

/-- 'vistalaw14.WalkUps': WHATEVER THE INPUT: true; the input reads as it did. -/
def walkUpsSpec : ChangeSpec := { name := "walkUps", fn := fun _ => fun
  | [d1, d2, d3] => { results := [.lit (.bool true)], args := [d1, d2, d3] }
  | _ => none }
def walkUpsRow : OpenClaim := { program := "ytppbbddlbfgpfaa", sum := "bbe470fbfa39c6aeff7c66e95bf1d00024fae16019cc17199898546519d10f6c", func := "vista/vistalaw14.WalkUps", spec := "walkUps", unfollowed := true, recurses := true, plainKeys := false, apart := false }
def WalkUpsSaid : Prop := walkUpsRow.holds Try.pinned (OpenSpec.ofChange walkUpsSpec)

/-- ITS FALSE NEIGHBOUR: 'it returns false'. Refute it at one input. -/
def walkUpsWrong : ChangeSpec := { name := "walkUps", fn := fun _ => fun
  | [d1, d2, d3] => { results := [.lit (.bool false)], args := [d1, d2, d3] }
  | _ => none }
def WalkUpsWrongFalsely : Prop := walkUpsRow.holds Try.pinned (OpenSpec.ofChange walkUpsWrong)

/-- 'vistalaw14.WalkSplices': WHATEVER THE INPUT: true; the input reads as it did. -/
def walkSplicesSpec : ChangeSpec := { name := "walkSplices", fn := fun _ => fun
  | [d1, d2, d3] => { results := [.lit (.bool true)], args := [d1, d2, d3] }
  | _ => none }
def walkSplicesRow : OpenClaim := { program := "ytppbbddlbfgpfaa", sum := "bbe470fbfa39c6aeff7c66e95bf1d00024fae16019cc17199898546519d10f6c", func := "vista/vistalaw14.WalkSplices", spec := "walkSplices", unfollowed := true, recurses := true, plainKeys := false, apart := false }
def WalkSplicesSaid : Prop := walkSplicesRow.holds Try.pinned (OpenSpec.ofChange walkSplicesSpec)

/-- ITS FALSE NEIGHBOUR: 'it returns false'. Refute it at one input. -/
def walkSplicesWrong : ChangeSpec := { name := "walkSplices", fn := fun _ => fun
  | [d1, d2, d3] => { results := [.lit (.bool false)], args := [d1, d2, d3] }
  | _ => none }
def WalkSplicesWrongFalsely : Prop := walkSplicesRow.holds Try.pinned (OpenSpec.ofChange walkSplicesWrong)

/- THE SECOND FORM. 'bulk': how many values and letters a reading holds, each counted each time it is reached (what is shared counts as often as it is met; a slice's spare places count too). A statement '..UptoSaid' is the law's where the arguments, and the package variables that the reading takes, are together of bulk at most 1048576: NARROWER than '..Said'. Prove '..Said' where nothing that the law and all that it calls make is longer than what came in: it says more and counts as full. Else prove '..UptoSaid'. A law counts once. -/
mutual
def uptoBulk {H : Type} : DataW H → Nat
  | .lit (.string bytes) => bytes.length + 1
  | .lit _ => 1
  | .nil => 1
  | .ptr d => uptoBulk d + 1
  | .slice elems spare => uptoBulkAll elems + uptoBulkAll spare + 1
  | .agg parts => uptoBulkAll parts + 1
  | .iface _ d => uptoBulk d + 1
  | .map entries => uptoBulkEntries entries + 1
  | .held _ => 1
def uptoBulkAll {H : Type} : List (DataW H) → Nat
  | [] => 0
  | d :: r => uptoBulk d + uptoBulkAll r
def uptoBulkEntries {H : Type} : List (Lit × DataW H) → Nat
  | [] => 0
  | x :: r => uptoBulkEntry x + uptoBulkEntries r
def uptoBulkEntry {H : Type} : Lit × DataW H → Nat
  | (.string bytes, d) => bytes.length + uptoBulk d + 1
  | (_, d) => uptoBulk d + 1
 end
def uptoSmall : (H : Type) → List (DataW H) → Bool := fun _ ds => decide (uptoBulkAll ds ≤ 1048576)
def OpenSpec.upto (s : _root_.Go.ChangeSpec) : _root_.Go.OpenSpec := { _root_.Go.OpenSpec.ofChange s with cond := some uptoSmall }

/-- 'vistalaw14.WalkHome', WHERE WHAT IT READS IS OF BULK AT MOST 1048576: true; the input reads as it did. -/
def walkHomeUptoRow : OpenClaim := { program := "ytppbbddlbfgpfaa", sum := "bbe470fbfa39c6aeff7c66e95bf1d00024fae16019cc17199898546519d10f6c", func := "vista/vistalaw14.WalkHome", spec := "walkHome", unfollowed := true, recurses := true, plainKeys := false, apart := false, narrowed := true }
def WalkHomeUptoSaid : Prop := walkHomeUptoRow.holds Try.pinned (OpenSpec.upto walkHomeSpec)

/-- 'vistalaw14.WalkWants', WHERE WHAT IT READS IS OF BULK AT MOST 1048576: true; the input reads as it did. -/
def walkWantsUptoRow : OpenClaim := { program := "ytppbbddlbfgpfaa", sum := "bbe470fbfa39c6aeff7c66e95bf1d00024fae16019cc17199898546519d10f6c", func := "vista/vistalaw14.WalkWants", spec := "walkWants", unfollowed := true, recurses := true, plainKeys := false, apart := false, narrowed := true }
def WalkWantsUptoSaid : Prop := walkWantsUptoRow.holds Try.pinned (OpenSpec.upto walkWantsSpec)

/-- 'vistalaw14.WalkUps', WHERE WHAT IT READS IS OF BULK AT MOST 1048576: true; the input reads as it did. -/
def walkUpsUptoRow : OpenClaim := { program := "ytppbbddlbfgpfaa", sum := "bbe470fbfa39c6aeff7c66e95bf1d00024fae16019cc17199898546519d10f6c", func := "vista/vistalaw14.WalkUps", spec := "walkUps", unfollowed := true, recurses := true, plainKeys := false, apart := false, narrowed := true }
def WalkUpsUptoSaid : Prop := walkUpsUptoRow.holds Try.pinned (OpenSpec.upto walkUpsSpec)

/-- 'vistalaw14.WalkSplices', WHERE WHAT IT READS IS OF BULK AT MOST 1048576: true; the input reads as it did. -/
def walkSplicesUptoRow : OpenClaim := { program := "ytppbbddlbfgpfaa", sum := "bbe470fbfa39c6aeff7c66e95bf1d00024fae16019cc17199898546519d10f6c", func := "vista/vistalaw14.WalkSplices", spec := "walkSplices", unfollowed := true, recurses := true, plainKeys := false, apart := false, narrowed := true }
def WalkSplicesUptoSaid : Prop := walkSplicesUptoRow.holds Try.pinned (OpenSpec.upto walkSplicesSpec)

end Rows
end Go.Proofs.Ytppbbddlbfgpfaa
