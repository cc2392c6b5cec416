/-
  No cell of these rows narrows 'for every input' (looked for: loops, veiled, ifaces, maps, wideKeys, modest, calm, conditions, laid).
  DERIVED. THE GIVEN ROWS OF THIS SEAT. 5 by the template 'for every input the law returns true; each argument reads behind the call as it read before'; 0 by the template 'total and deterministic' (their statements: YtiecakeeekeidabTotals.lean).
  GIVEN WITH THE SEED: the statements are not yours to turn. If you find one false, say at which input.
  Laid BY PROGRAM, IN A SANDBOX (cutbox-rows.mjs): the forced cells as the released guide's own fill.sh prints them over the translation bf5b87a22a9b479d… (all of the seat's roots in one cut). By AI agents, Wed Nov 11 2026. No macro, syntax, notation, axiom, sorry.
-/
import Derived.Test.YtiecakeeekeidabChecked
import GoSem.Claim
import GoSem.ClaimJoined
import GoSem.ClaimMapViews
import Derived.JoinedTies
import Derived.KernelRfl
namespace Go.Proofs.Ytiecakeeekeidab
/- THE CELL 'sum', in the pinned program and in every row, IS THE sha256 OF THE DUMP (.gsa) THAT YtiecakeeekeidabProg.lean LOADS. Nothing in Lean hashes anything: it is a label: what it is worth is what the hold of that sum in a sandbox is worth. -/
noncomputable def Try.pinned : Pinned := { name := "ytiecakeeekeidab", sum := "bf5b87a22a9b479d9a350623cb114910823c6279d8ce35549a5b350def72da1d", checked := Try.checked }
namespace Rows
def none {H : Type} : Left H := { results := [], args := [] }

/-- 'vistalaw01.MarkOrders': WHATEVER THE INPUT: true; the input reads as it did. -/
def markOrdersSpec : ChangeSpec := { name := "markOrders", fn := fun _ => fun
  | [d1, d2, d3] => { results := [.lit (.bool true)], args := [d1, d2, d3] }
  | _ => none }
def markOrdersRow : OpenClaim := { program := "ytiecakeeekeidab", sum := "bf5b87a22a9b479d9a350623cb114910823c6279d8ce35549a5b350def72da1d", func := "vista/vistalaw01.MarkOrders", spec := "markOrders", inPlace := ["math.archTrunc", "math.Float64bits", "math.Float64frombits"], apart := false }
def MarkOrdersSaid : Prop := markOrdersRow.holds Try.pinned (OpenSpec.ofChange markOrdersSpec)

/-- ITS FALSE NEIGHBOUR: 'it returns false'. Refute it at one input. -/
def markOrdersWrong : ChangeSpec := { name := "markOrders", fn := fun _ => fun
  | [d1, d2, d3] => { results := [.lit (.bool false)], args := [d1, d2, d3] }
  | _ => none }
def MarkOrdersWrongFalsely : Prop := markOrdersRow.holds Try.pinned (OpenSpec.ofChange markOrdersWrong)

/-- 'vistalaw01.MarkAdds': WHATEVER THE INPUT: true; the input reads as it did. -/
def markAddsSpec : ChangeSpec := { name := "markAdds", fn := fun _ => fun
  | [d1, d2, d3] => { results := [.lit (.bool true)], args := [d1, d2, d3] }
  | _ => none }
def markAddsRow : OpenClaim := { program := "ytiecakeeekeidab", sum := "bf5b87a22a9b479d9a350623cb114910823c6279d8ce35549a5b350def72da1d", func := "vista/vistalaw01.MarkAdds", spec := "markAdds", inPlace := ["math.archTrunc", "math.Float64bits", "math.Float64frombits"], apart := false }
def MarkAddsSaid : Prop := markAddsRow.holds Try.pinned (OpenSpec.ofChange markAddsSpec)

/-- ITS FALSE NEIGHBOUR: 'it returns false'. Refute it at one input. -/
def markAddsWrong : ChangeSpec := { name := "markAdds", fn := fun _ => fun
  | [d1, d2, d3] => { results := [.lit (.bool false)], args := [d1, d2, d3] }
  | _ => none }
def MarkAddsWrongFalsely : Prop := markAddsRow.holds Try.pinned (OpenSpec.ofChange markAddsWrong)

/-- 'vistalaw01.MarkTurned': WHATEVER THE INPUT: true; the input reads as it did. -/
def markTurnedSpec : ChangeSpec := { name := "markTurned", fn := fun _ => fun
  | [d] => { results := [.lit (.bool true)], args := [d] }
  | _ => none }
def markTurnedRow : OpenClaim := { program := "ytiecakeeekeidab", sum := "bf5b87a22a9b479d9a350623cb114910823c6279d8ce35549a5b350def72da1d", func := "vista/vistalaw01.MarkTurned", spec := "markTurned", inPlace := ["math.archTrunc", "math.Float64bits", "math.Float64frombits"], apart := false }
def MarkTurnedSaid : Prop := markTurnedRow.holds Try.pinned (OpenSpec.ofChange markTurnedSpec)

/-- ITS FALSE NEIGHBOUR: 'it returns false'. Refute it at one input. -/
def markTurnedWrong : ChangeSpec := { name := "markTurned", fn := fun _ => fun
  | [d] => { results := [.lit (.bool false)], args := [d] }
  | _ => none }
def MarkTurnedWrongFalsely : Prop := markTurnedRow.holds Try.pinned (OpenSpec.ofChange markTurnedWrong)

/-- 'vistalaw01.MarkCounts': WHATEVER THE INPUT: true; the input reads as it did. -/
def markCountsSpec : ChangeSpec := { name := "markCounts", fn := fun _ => fun
  | [d1, d2, d3] => { results := [.lit (.bool true)], args := [d1, d2, d3] }
  | _ => none }
def markCountsRow : OpenClaim := { program := "ytiecakeeekeidab", sum := "bf5b87a22a9b479d9a350623cb114910823c6279d8ce35549a5b350def72da1d", func := "vista/vistalaw01.MarkCounts", spec := "markCounts", inPlace := ["math.archTrunc", "math.Float64bits", "math.Float64frombits"], apart := false }
def MarkCountsSaid : Prop := markCountsRow.holds Try.pinned (OpenSpec.ofChange markCountsSpec)

/-- ITS FALSE NEIGHBOUR: 'it returns false'. Refute it at one input. -/
def markCountsWrong : ChangeSpec := { name := "markCounts", fn := fun _ => fun
  | [d1, d2, d3] => { results := [.lit (.bool false)], args := [d1, d2, d3] }
  | _ => none }
def MarkCountsWrongFalsely : Prop := markCountsRow.holds Try.pinned (OpenSpec.ofChange markCountsWrong)

/-- 'vistalaw01.MarkSpans': WHATEVER THE INPUT: true; the input reads as it did. -/
def markSpansSpec : ChangeSpec := { name := "markSpans", fn := fun _ => fun
  | [d1, d2] => { results := [.lit (.bool true)], args := [d1, d2] }
  | _ => none }
def markSpansRow : OpenClaim := { program := "ytiecakeeekeidab", sum := "bf5b87a22a9b479d9a350623cb114910823c6279d8ce35549a5b350def72da1d", func := "vista/vistalaw01.MarkSpans", spec := "markSpans", inPlace := ["math.archTrunc", "math.Float64bits", "math.Float64frombits"], apart := false }
def MarkSpansSaid : Prop := markSpansRow.holds Try.pinned (OpenSpec.ofChange markSpansSpec)

/-- ITS FALSE NEIGHBOUR: 'it returns false'. Refute it at one input. -/
def markSpansWrong : ChangeSpec := { name := "markSpans", fn := fun _ => fun
  | [d1, d2] => { results := [.lit (.bool false)], args := [d1, d2] }
  | _ => none }
def MarkSpansWrongFalsely : Prop := markSpansRow.holds Try.pinned (OpenSpec.ofChange markSpansWrong)

/- THE SECOND FORM. 'bulk': how many values and letters a reading holds, each counted each time it is reached (what is shared counts as often as it is met; a slice's spare places count too). A statement '..UptoSaid' is the law's where the arguments, and the package variables that the reading takes, are together of bulk at most 1048576: NARROWER than '..Said'. Prove '..Said' where nothing that the law and all that it calls make is longer than what came in: it says more and counts as full. Else prove '..UptoSaid'. A law counts once. -/
mutual
def uptoBulk {H : Type} : DataW H → Nat
  | .lit (.string bytes) => bytes.length + 1
  | .lit _ => 1
  | .nil => 1
  | .ptr d => uptoBulk d + 1
  | .slice elems spare => uptoBulkAll elems + uptoBulkAll spare + 1
  | .agg parts => uptoBulkAll parts + 1
  | .iface _ d => uptoBulk d + 1
  | .map entries => uptoBulkEntries entries + 1
  | .held _ => 1
def uptoBulkAll {H : Type} : List (DataW H) → Nat
  | [] => 0
  | d :: r => uptoBulk d + uptoBulkAll r
def uptoBulkEntries {H : Type} : List (Lit × DataW H) → Nat
  | [] => 0
  | x :: r => uptoBulkEntry x + uptoBulkEntries r
def uptoBulkEntry {H : Type} : Lit × DataW H → Nat
  | (.string bytes, d) => bytes.length + uptoBulk d + 1
  | (_, d) => uptoBulk d + 1
 end
def uptoSmall : (H : Type) → List (DataW H) → Bool := fun _ ds => decide (uptoBulkAll ds ≤ 1048576)
def OpenSpec.upto (s : _root_.Go.ChangeSpec) : _root_.Go.OpenSpec := { _root_.Go.OpenSpec.ofChange s with cond := some uptoSmall }

/-- 'vistalaw01.MarkOrders', WHERE WHAT IT READS IS OF BULK AT MOST 1048576: true; the input reads as it did. -/
def markOrdersUptoRow : OpenClaim := { program := "ytiecakeeekeidab", sum := "bf5b87a22a9b479d9a350623cb114910823c6279d8ce35549a5b350def72da1d", func := "vista/vistalaw01.MarkOrders", spec := "markOrders", inPlace := ["math.archTrunc", "math.Float64bits", "math.Float64frombits"], apart := false, narrowed := true }
def MarkOrdersUptoSaid : Prop := markOrdersUptoRow.holds Try.pinned (OpenSpec.upto markOrdersSpec)

/-- 'vistalaw01.MarkAdds', WHERE WHAT IT READS IS OF BULK AT MOST 1048576: true; the input reads as it did. -/
def markAddsUptoRow : OpenClaim := { program := "ytiecakeeekeidab", sum := "bf5b87a22a9b479d9a350623cb114910823c6279d8ce35549a5b350def72da1d", func := "vista/vistalaw01.MarkAdds", spec := "markAdds", inPlace := ["math.archTrunc", "math.Float64bits", "math.Float64frombits"], apart := false, narrowed := true }
def MarkAddsUptoSaid : Prop := markAddsUptoRow.holds Try.pinned (OpenSpec.upto markAddsSpec)

/-- 'vistalaw01.MarkTurned', WHERE WHAT IT READS IS OF BULK AT MOST 1048576: true; the input reads as it did. -/
def markTurnedUptoRow : OpenClaim := { program := "ytiecakeeekeidab", sum := "bf5b87a22a9b479d9a350623cb114910823c6279d8ce35549a5b350def72da1d", func := "vista/vistalaw01.MarkTurned", spec := "markTurned", inPlace := ["math.archTrunc", "math.Float64bits", "math.Float64frombits"], apart := false, narrowed := true }
def MarkTurnedUptoSaid : Prop := markTurnedUptoRow.holds Try.pinned (OpenSpec.upto markTurnedSpec)

/-- 'vistalaw01.MarkCounts', WHERE WHAT IT READS IS OF BULK AT MOST 1048576: true; the input reads as it did. -/
def markCountsUptoRow : OpenClaim := { program := "ytiecakeeekeidab", sum := "bf5b87a22a9b479d9a350623cb114910823c6279d8ce35549a5b350def72da1d", func := "vista/vistalaw01.MarkCounts", spec := "markCounts", inPlace := ["math.archTrunc", "math.Float64bits", "math.Float64frombits"], apart := false, narrowed := true }
def MarkCountsUptoSaid : Prop := markCountsUptoRow.holds Try.pinned (OpenSpec.upto markCountsSpec)

/-- 'vistalaw01.MarkSpans', WHERE WHAT IT READS IS OF BULK AT MOST 1048576: true; the input reads as it did. -/
def markSpansUptoRow : OpenClaim := { program := "ytiecakeeekeidab", sum := "bf5b87a22a9b479d9a350623cb114910823c6279d8ce35549a5b350def72da1d", func := "vista/vistalaw01.MarkSpans", spec := "markSpans", inPlace := ["math.archTrunc", "math.Float64bits", "math.Float64frombits"], apart := false, narrowed := true }
def MarkSpansUptoSaid : Prop := markSpansUptoRow.holds Try.pinned (OpenSpec.upto markSpansSpec)

end Rows
end Go.Proofs.Ytiecakeeekeidab
