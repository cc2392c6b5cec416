/-
  No cell of these rows narrows 'for every input' (looked for: loops, veiled, ifaces, maps, wideKeys, modest, calm, conditions, laid).
  DERIVED. THE GIVEN ROWS OF THIS SEAT. 3 by the template 'for every input the law returns true; each argument reads behind the call as it read before'; 0 by the template 'total and deterministic' (their statements: YtpmcecenhgppbaaTotals.lean).
  GIVEN WITH THE SEED: the statements are not yours to turn. If you find one false, say at which input.
  Laid BY PROGRAM, IN A SANDBOX (cutbox-rows.mjs): the forced cells as the released guide's own fill.sh prints them over the translation 69ca2884b771be99… (all of the seat's roots in one cut). By AI agents, Wed Nov 11 2026. No macro, syntax, notation, axiom, sorry.
-/
import Derived.Test.YtpmcecenhgppbaaChecked
import GoSem.Claim
import GoSem.ClaimJoined
import GoSem.ClaimMapViews
import Derived.JoinedTies
import Derived.KernelRfl
namespace Go.Proofs.Ytpmcecenhgppbaa
/- THE CELL 'sum', in the pinned program and in every row, IS THE sha256 OF THE DUMP (.gsa) THAT YtpmcecenhgppbaaProg.lean LOADS. Nothing in Lean hashes anything: it is a label: what it is worth is what the hold of that sum in a sandbox is worth. -/
noncomputable def Try.pinned : Pinned := { name := "ytpmcecenhgppbaa", sum := "69ca2884b771be993c56e7479d95b44ff19387a8212b18881f505f5fb166612a", checked := Try.checked }
namespace Rows
def none {H : Type} : Left H := { results := [], args := [] }

/-- 'vistalaw11.TidePlays': WHATEVER THE INPUT: true; the input reads as it did. -/
def tidePlaysSpec : ChangeSpec := { name := "tidePlays", fn := fun _ => fun
  | [d1, d2, d3, d4] => { results := [.lit (.bool true)], args := [d1, d2, d3, d4] }
  | _ => none }
def tidePlaysRow : OpenClaim := { program := "ytpmcecenhgppbaa", sum := "69ca2884b771be993c56e7479d95b44ff19387a8212b18881f505f5fb166612a", func := "vista/vistalaw11.TidePlays", spec := "tidePlays", inPlace := ["math.archTrunc", "math.Float64bits", "math.Float64frombits"], unfollowed := true, recurses := true, plainKeys := false, apart := false }
def TidePlaysSaid : Prop := tidePlaysRow.holds Try.pinned (OpenSpec.ofChange tidePlaysSpec)

/-- ITS FALSE NEIGHBOUR: 'it returns false'. Refute it at one input. -/
def tidePlaysWrong : ChangeSpec := { name := "tidePlays", fn := fun _ => fun
  | [d1, d2, d3, d4] => { results := [.lit (.bool false)], args := [d1, d2, d3, d4] }
  | _ => none }
def TidePlaysWrongFalsely : Prop := tidePlaysRow.holds Try.pinned (OpenSpec.ofChange tidePlaysWrong)

/-- 'vistalaw11.TideHalves': WHATEVER THE INPUT: true; the input reads as it did. -/
def tideHalvesSpec : ChangeSpec := { name := "tideHalves", fn := fun _ => fun
  | [d1, d2] => { results := [.lit (.bool true)], args := [d1, d2] }
  | _ => none }
def tideHalvesRow : OpenClaim := { program := "ytpmcecenhgppbaa", sum := "69ca2884b771be993c56e7479d95b44ff19387a8212b18881f505f5fb166612a", func := "vista/vistalaw11.TideHalves", spec := "tideHalves", inPlace := ["math.archTrunc", "math.Float64bits", "math.Float64frombits"], unfollowed := true, recurses := true, plainKeys := false, apart := false }
def TideHalvesSaid : Prop := tideHalvesRow.holds Try.pinned (OpenSpec.ofChange tideHalvesSpec)

/-- ITS FALSE NEIGHBOUR: 'it returns false'. Refute it at one input. -/
def tideHalvesWrong : ChangeSpec := { name := "tideHalves", fn := fun _ => fun
  | [d1, d2] => { results := [.lit (.bool false)], args := [d1, d2] }
  | _ => none }
def TideHalvesWrongFalsely : Prop := tideHalvesRow.holds Try.pinned (OpenSpec.ofChange tideHalvesWrong)

/-- 'vistalaw11.TideKept': WHATEVER THE INPUT: true; the input reads as it did. -/
def tideKeptSpec : ChangeSpec := { name := "tideKept", fn := fun _ => fun
  | [d] => { results := [.lit (.bool true)], args := [d] }
  | _ => none }
def tideKeptRow : OpenClaim := { program := "ytpmcecenhgppbaa", sum := "69ca2884b771be993c56e7479d95b44ff19387a8212b18881f505f5fb166612a", func := "vista/vistalaw11.TideKept", spec := "tideKept", inPlace := ["math.archTrunc", "math.Float64bits", "math.Float64frombits"], unfollowed := true, recurses := true, plainKeys := false, apart := false }
def TideKeptSaid : Prop := tideKeptRow.holds Try.pinned (OpenSpec.ofChange tideKeptSpec)

/-- ITS FALSE NEIGHBOUR: 'it returns false'. Refute it at one input. -/
def tideKeptWrong : ChangeSpec := { name := "tideKept", fn := fun _ => fun
  | [d] => { results := [.lit (.bool false)], args := [d] }
  | _ => none }
def TideKeptWrongFalsely : Prop := tideKeptRow.holds Try.pinned (OpenSpec.ofChange tideKeptWrong)

/- THE SECOND FORM. 'bulk': how many values and letters a reading holds, each counted each time it is reached (what is shared counts as often as it is met; a slice's spare places count too). A statement '..UptoSaid' is the law's where the arguments, and the package variables that the reading takes, are together of bulk at most 1048576: NARROWER than '..Said'. Prove '..Said' where nothing that the law and all that it calls make is longer than what came in: it says more and counts as full. Else prove '..UptoSaid'. A law counts once. -/
mutual
def uptoBulk {H : Type} : DataW H → Nat
  | .lit (.string bytes) => bytes.length + 1
  | .lit _ => 1
  | .nil => 1
  | .ptr d => uptoBulk d + 1
  | .slice elems spare => uptoBulkAll elems + uptoBulkAll spare + 1
  | .agg parts => uptoBulkAll parts + 1
  | .iface _ d => uptoBulk d + 1
  | .map entries => uptoBulkEntries entries + 1
  | .held _ => 1
def uptoBulkAll {H : Type} : List (DataW H) → Nat
  | [] => 0
  | d :: r => uptoBulk d + uptoBulkAll r
def uptoBulkEntries {H : Type} : List (Lit × DataW H) → Nat
  | [] => 0
  | x :: r => uptoBulkEntry x + uptoBulkEntries r
def uptoBulkEntry {H : Type} : Lit × DataW H → Nat
  | (.string bytes, d) => bytes.length + uptoBulk d + 1
  | (_, d) => uptoBulk d + 1
 end
def uptoSmall : (H : Type) → List (DataW H) → Bool := fun _ ds => decide (uptoBulkAll ds ≤ 1048576)
def OpenSpec.upto (s : _root_.Go.ChangeSpec) : _root_.Go.OpenSpec := { _root_.Go.OpenSpec.ofChange s with cond := some uptoSmall }

/-- 'vistalaw11.TidePlays', WHERE WHAT IT READS IS OF BULK AT MOST 1048576: true; the input reads as it did. -/
def tidePlaysUptoRow : OpenClaim := { program := "ytpmcecenhgppbaa", sum := "69ca2884b771be993c56e7479d95b44ff19387a8212b18881f505f5fb166612a", func := "vista/vistalaw11.TidePlays", spec := "tidePlays", inPlace := ["math.archTrunc", "math.Float64bits", "math.Float64frombits"], unfollowed := true, recurses := true, plainKeys := false, apart := false, narrowed := true }
def TidePlaysUptoSaid : Prop := tidePlaysUptoRow.holds Try.pinned (OpenSpec.upto tidePlaysSpec)

/-- 'vistalaw11.TideHalves', WHERE WHAT IT READS IS OF BULK AT MOST 1048576: true; the input reads as it did. -/
def tideHalvesUptoRow : OpenClaim := { program := "ytpmcecenhgppbaa", sum := "69ca2884b771be993c56e7479d95b44ff19387a8212b18881f505f5fb166612a", func := "vista/vistalaw11.TideHalves", spec := "tideHalves", inPlace := ["math.archTrunc", "math.Float64bits", "math.Float64frombits"], unfollowed := true, recurses := true, plainKeys := false, apart := false, narrowed := true }
def TideHalvesUptoSaid : Prop := tideHalvesUptoRow.holds Try.pinned (OpenSpec.upto tideHalvesSpec)

/-- 'vistalaw11.TideKept', WHERE WHAT IT READS IS OF BULK AT MOST 1048576: true; the input reads as it did. -/
def tideKeptUptoRow : OpenClaim := { program := "ytpmcecenhgppbaa", sum := "69ca2884b771be993c56e7479d95b44ff19387a8212b18881f505f5fb166612a", func := "vista/vistalaw11.TideKept", spec := "tideKept", inPlace := ["math.archTrunc", "math.Float64bits", "math.Float64frombits"], unfollowed := true, recurses := true, plainKeys := false, apart := false, narrowed := true }
def TideKeptUptoSaid : Prop := tideKeptUptoRow.holds Try.pinned (OpenSpec.upto tideKeptSpec)

end Rows
end Go.Proofs.Ytpmcecenhgppbaa
