/-
  No cell of these rows narrows 'for every input' (looked for: loops, veiled, ifaces, maps, wideKeys, modest, calm, conditions, laid).
  DERIVED. THE GIVEN ROWS OF THIS SEAT. 6 by the template 'for every input the law returns true; each argument reads behind the call as it read before'; 0 by the template 'total and deterministic' (their statements: YtnklhdoiggomkaaTotals.lean).
  GIVEN WITH THE SEED: the statements are not yours to turn. If you find one false, say at which input.
  Laid BY PROGRAM, IN A SANDBOX (cutbox-rows.mjs): the forced cells as the released guide's own fill.sh prints them over the translation 24197badf553a527… (all of the seat's roots in one cut). By AI agents, Wed Nov 11 2026. No macro, syntax, notation, axiom, sorry.
-/
import Derived.Test.YtnklhdoiggomkaaChecked
import GoSem.Claim
import GoSem.ClaimJoined
import GoSem.ClaimMapViews
import Derived.JoinedTies
import Derived.KernelRfl
namespace Go.Proofs.Ytnklhdoiggomkaa
/- THE CELL 'sum', in the pinned program and in every row, IS THE sha256 OF THE DUMP (.gsa) THAT YtnklhdoiggomkaaProg.lean LOADS. Nothing in Lean hashes anything: it is a label: what it is worth is what the hold of that sum in a sandbox is worth. -/
noncomputable def Try.pinned : Pinned := { name := "ytnklhdoiggomkaa", sum := "24197badf553a527effee428d3693632f75ae4735b1963318b894ae8e9fe18ac", checked := Try.checked }
namespace Rows
def none {H : Type} : Left H := { results := [], args := [] }

/-- 'vistalaw11.TidePlays': WHATEVER THE INPUT: true; the input reads as it did. -/
def tidePlaysSpec : ChangeSpec := { name := "tidePlays", fn := fun _ => fun
  | [d1, d2, d3, d4] => { results := [.lit (.bool true)], args := [d1, d2, d3, d4] }
  | _ => none }
def tidePlaysRow : OpenClaim := { program := "ytnklhdoiggomkaa", sum := "24197badf553a527effee428d3693632f75ae4735b1963318b894ae8e9fe18ac", func := "vista/vistalaw11.TidePlays", spec := "tidePlays", inPlace := ["math.archTrunc", "math.Float64bits", "math.Float64frombits"], unfollowed := true, recurses := true, plainKeys := false, apart := false }
def TidePlaysSaid : Prop := tidePlaysRow.holds Try.pinned (OpenSpec.ofChange tidePlaysSpec)

/-- ITS FALSE NEIGHBOUR: 'it returns false'. Refute it at one input. -/
def tidePlaysWrong : ChangeSpec := { name := "tidePlays", fn := fun _ => fun
  | [d1, d2, d3, d4] => { results := [.lit (.bool false)], args := [d1, d2, d3, d4] }
  | _ => none }
def TidePlaysWrongFalsely : Prop := tidePlaysRow.holds Try.pinned (OpenSpec.ofChange tidePlaysWrong)

/-- 'vistalaw11.TideHalves': WHATEVER THE INPUT: true; the input reads as it did. -/
def tideHalvesSpec : ChangeSpec := { name := "tideHalves", fn := fun _ => fun
  | [d1, d2] => { results := [.lit (.bool true)], args := [d1, d2] }
  | _ => none }
def tideHalvesRow : OpenClaim := { program := "ytnklhdoiggomkaa", sum := "24197badf553a527effee428d3693632f75ae4735b1963318b894ae8e9fe18ac", func := "vista/vistalaw11.TideHalves", spec := "tideHalves", inPlace := ["math.archTrunc", "math.Float64bits", "math.Float64frombits"], unfollowed := true, recurses := true, plainKeys := false, apart := false }
def TideHalvesSaid : Prop := tideHalvesRow.holds Try.pinned (OpenSpec.ofChange tideHalvesSpec)

/-- ITS FALSE NEIGHBOUR: 'it returns false'. Refute it at one input. -/
def tideHalvesWrong : ChangeSpec := { name := "tideHalves", fn := fun _ => fun
  | [d1, d2] => { results := [.lit (.bool false)], args := [d1, d2] }
  | _ => none }
def TideHalvesWrongFalsely : Prop := tideHalvesRow.holds Try.pinned (OpenSpec.ofChange tideHalvesWrong)

/-- 'vistalaw11.TideRises': WHATEVER THE INPUT: true; the input reads as it did. -/
def tideRisesSpec : ChangeSpec := { name := "tideRises", fn := fun _ => fun
  | [d1, d2] => { results := [.lit (.bool true)], args := [d1, d2] }
  | _ => none }
def tideRisesRow : OpenClaim := { program := "ytnklhdoiggomkaa", sum := "24197badf553a527effee428d3693632f75ae4735b1963318b894ae8e9fe18ac", func := "vista/vistalaw11.TideRises", spec := "tideRises", inPlace := ["math.archTrunc", "math.Float64bits", "math.Float64frombits"], unfollowed := true, recurses := true, plainKeys := false, apart := false }
def TideRisesSaid : Prop := tideRisesRow.holds Try.pinned (OpenSpec.ofChange tideRisesSpec)

/-- ITS FALSE NEIGHBOUR: 'it returns false'. Refute it at one input. -/
def tideRisesWrong : ChangeSpec := { name := "tideRises", fn := fun _ => fun
  | [d1, d2] => { results := [.lit (.bool false)], args := [d1, d2] }
  | _ => none }
def TideRisesWrongFalsely : Prop := tideRisesRow.holds Try.pinned (OpenSpec.ofChange tideRisesWrong)

/-- 'vistalaw11.TideOrder': WHATEVER THE INPUT: true; the input reads as it did. -/
def tideOrderSpec : ChangeSpec := { name := "tideOrder", fn := fun _ => fun
  | [d1, d2] => { results := [.lit (.bool true)], args := [d1, d2] }
  | _ => none }
def tideOrderRow : OpenClaim := { program := "ytnklhdoiggomkaa", sum := "24197badf553a527effee428d3693632f75ae4735b1963318b894ae8e9fe18ac", func := "vista/vistalaw11.TideOrder", spec := "tideOrder", inPlace := ["math.archTrunc", "math.Float64bits", "math.Float64frombits"], unfollowed := true, recurses := true, plainKeys := false, apart := false }
def TideOrderSaid : Prop := tideOrderRow.holds Try.pinned (OpenSpec.ofChange tideOrderSpec)

/-- ITS FALSE NEIGHBOUR: 'it returns false'. Refute it at one input. -/
def tideOrderWrong : ChangeSpec := { name := "tideOrder", fn := fun _ => fun
  | [d1, d2] => { results := [.lit (.bool false)], args := [d1, d2] }
  | _ => none }
def TideOrderWrongFalsely : Prop := tideOrderRow.holds Try.pinned (OpenSpec.ofChange tideOrderWrong)

/-- 'vistalaw11.TideReplies': WHATEVER THE INPUT: true; the input reads as it did. -/
def tideRepliesSpec : ChangeSpec := { name := "tideReplies", fn := fun _ => fun
  | [d1, d2, d3, d4, d5] => { results := [.lit (.bool true)], args := [d1, d2, d3, d4, d5] }
  | _ => none }
def tideRepliesRow : OpenClaim := { program := "ytnklhdoiggomkaa", sum := "24197badf553a527effee428d3693632f75ae4735b1963318b894ae8e9fe18ac", func := "vista/vistalaw11.TideReplies", spec := "tideReplies", inPlace := ["math.archTrunc", "math.Float64bits", "math.Float64frombits"], unfollowed := true, recurses := true, plainKeys := false, apart := false }
def TideRepliesSaid : Prop := tideRepliesRow.holds Try.pinned (OpenSpec.ofChange tideRepliesSpec)

/-- ITS FALSE NEIGHBOUR: 'it returns false'. Refute it at one input. -/
def tideRepliesWrong : ChangeSpec := { name := "tideReplies", fn := fun _ => fun
  | [d1, d2, d3, d4, d5] => { results := [.lit (.bool false)], args := [d1, d2, d3, d4, d5] }
  | _ => none }
def TideRepliesWrongFalsely : Prop := tideRepliesRow.holds Try.pinned (OpenSpec.ofChange tideRepliesWrong)

/-- 'vistalaw11.TideEpochs': WHATEVER THE INPUT: true; the input reads as it did. -/
def tideEpochsSpec : ChangeSpec := { name := "tideEpochs", fn := fun _ => fun
  | [d1, d2, d3] => { results := [.lit (.bool true)], args := [d1, d2, d3] }
  | _ => none }
def tideEpochsRow : OpenClaim := { program := "ytnklhdoiggomkaa", sum := "24197badf553a527effee428d3693632f75ae4735b1963318b894ae8e9fe18ac", func := "vista/vistalaw11.TideEpochs", spec := "tideEpochs", inPlace := ["math.archTrunc", "math.Float64bits", "math.Float64frombits"], unfollowed := true, recurses := true, plainKeys := false, apart := false }
def TideEpochsSaid : Prop := tideEpochsRow.holds Try.pinned (OpenSpec.ofChange tideEpochsSpec)

/-- ITS FALSE NEIGHBOUR: 'it returns false'. Refute it at one input. -/
def tideEpochsWrong : ChangeSpec := { name := "tideEpochs", fn := fun _ => fun
  | [d1, d2, d3] => { results := [.lit (.bool false)], args := [d1, d2, d3] }
  | _ => none }
def TideEpochsWrongFalsely : Prop := tideEpochsRow.holds Try.pinned (OpenSpec.ofChange tideEpochsWrong)

/- THE SECOND FORM. 'bulk': how many values and letters a reading holds, each counted each time it is reached (what is shared counts as often as it is met; a slice's spare places count too). A statement '..UptoSaid' is the law's where the arguments, and the package variables that the reading takes, are together of bulk at most 1048576: NARROWER than '..Said'. Prove '..Said' where nothing that the law and all that it calls make is longer than what came in: it says more and counts as full. Else prove '..UptoSaid'. A law counts once. -/
mutual
def uptoBulk {H : Type} : DataW H → Nat
  | .lit (.string bytes) => bytes.length + 1
  | .lit _ => 1
  | .nil => 1
  | .ptr d => uptoBulk d + 1
  | .slice elems spare => uptoBulkAll elems + uptoBulkAll spare + 1
  | .agg parts => uptoBulkAll parts + 1
  | .iface _ d => uptoBulk d + 1
  | .map entries => uptoBulkEntries entries + 1
  | .held _ => 1
def uptoBulkAll {H : Type} : List (DataW H) → Nat
  | [] => 0
  | d :: r => uptoBulk d + uptoBulkAll r
def uptoBulkEntries {H : Type} : List (Lit × DataW H) → Nat
  | [] => 0
  | x :: r => uptoBulkEntry x + uptoBulkEntries r
def uptoBulkEntry {H : Type} : Lit × DataW H → Nat
  | (.string bytes, d) => bytes.length + uptoBulk d + 1
  | (_, d) => uptoBulk d + 1
 end
def uptoSmall : (H : Type) → List (DataW H) → Bool := fun _ ds => decide (uptoBulkAll ds ≤ 1048576)
def OpenSpec.upto (s : _root_.Go.ChangeSpec) : _root_.Go.OpenSpec := { _root_.Go.OpenSpec.ofChange s with cond := some uptoSmall }

/-- 'vistalaw11.TidePlays', WHERE WHAT IT READS IS OF BULK AT MOST 1048576: true; the input reads as it did. -/
def tidePlaysUptoRow : OpenClaim := { program := "ytnklhdoiggomkaa", sum := "24197badf553a527effee428d3693632f75ae4735b1963318b894ae8e9fe18ac", func := "vista/vistalaw11.TidePlays", spec := "tidePlays", inPlace := ["math.archTrunc", "math.Float64bits", "math.Float64frombits"], unfollowed := true, recurses := true, plainKeys := false, apart := false, narrowed := true }
def TidePlaysUptoSaid : Prop := tidePlaysUptoRow.holds Try.pinned (OpenSpec.upto tidePlaysSpec)

/-- 'vistalaw11.TideHalves', WHERE WHAT IT READS IS OF BULK AT MOST 1048576: true; the input reads as it did. -/
def tideHalvesUptoRow : OpenClaim := { program := "ytnklhdoiggomkaa", sum := "24197badf553a527effee428d3693632f75ae4735b1963318b894ae8e9fe18ac", func := "vista/vistalaw11.TideHalves", spec := "tideHalves", inPlace := ["math.archTrunc", "math.Float64bits", "math.Float64frombits"], unfollowed := true, recurses := true, plainKeys := false, apart := false, narrowed := true }
def TideHalvesUptoSaid : Prop := tideHalvesUptoRow.holds Try.pinned (OpenSpec.upto tideHalvesSpec)

/-- 'vistalaw11.TideRises', WHERE WHAT IT READS IS OF BULK AT MOST 1048576: true; the input reads as it did. -/
def tideRisesUptoRow : OpenClaim := { program := "ytnklhdoiggomkaa", sum := "24197badf553a527effee428d3693632f75ae4735b1963318b894ae8e9fe18ac", func := "vista/vistalaw11.TideRises", spec := "tideRises", inPlace := ["math.archTrunc", "math.Float64bits", "math.Float64frombits"], unfollowed := true, recurses := true, plainKeys := false, apart := false, narrowed := true }
def TideRisesUptoSaid : Prop := tideRisesUptoRow.holds Try.pinned (OpenSpec.upto tideRisesSpec)

/-- 'vistalaw11.TideOrder', WHERE WHAT IT READS IS OF BULK AT MOST 1048576: true; the input reads as it did. -/
def tideOrderUptoRow : OpenClaim := { program := "ytnklhdoiggomkaa", sum := "24197badf553a527effee428d3693632f75ae4735b1963318b894ae8e9fe18ac", func := "vista/vistalaw11.TideOrder", spec := "tideOrder", inPlace := ["math.archTrunc", "math.Float64bits", "math.Float64frombits"], unfollowed := true, recurses := true, plainKeys := false, apart := false, narrowed := true }
def TideOrderUptoSaid : Prop := tideOrderUptoRow.holds Try.pinned (OpenSpec.upto tideOrderSpec)

/-- 'vistalaw11.TideReplies', WHERE WHAT IT READS IS OF BULK AT MOST 1048576: true; the input reads as it did. -/
def tideRepliesUptoRow : OpenClaim := { program := "ytnklhdoiggomkaa", sum := "24197badf553a527effee428d3693632f75ae4735b1963318b894ae8e9fe18ac", func := "vista/vistalaw11.TideReplies", spec := "tideReplies", inPlace := ["math.archTrunc", "math.Float64bits", "math.Float64frombits"], unfollowed := true, recurses := true, plainKeys := false, apart := false, narrowed := true }
def TideRepliesUptoSaid : Prop := tideRepliesUptoRow.holds Try.pinned (OpenSpec.upto tideRepliesSpec)

/-- 'vistalaw11.TideEpochs', WHERE WHAT IT READS IS OF BULK AT MOST 1048576: true; the input reads as it did. -/
def tideEpochsUptoRow : OpenClaim := { program := "ytnklhdoiggomkaa", sum := "24197badf553a527effee428d3693632f75ae4735b1963318b894ae8e9fe18ac", func := "vista/vistalaw11.TideEpochs", spec := "tideEpochs", inPlace := ["math.archTrunc", "math.Float64bits", "math.Float64frombits"], unfollowed := true, recurses := true, plainKeys := false, apart := false, narrowed := true }
def TideEpochsUptoSaid : Prop := tideEpochsUptoRow.holds Try.pinned (OpenSpec.upto tideEpochsSpec)

end Rows
end Go.Proofs.Ytnklhdoiggomkaa
