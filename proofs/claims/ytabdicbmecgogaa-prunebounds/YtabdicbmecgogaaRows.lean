/-
  No cell of these rows narrows 'for every input' (looked for: loops, veiled, ifaces, maps, wideKeys, modest, calm, conditions, laid).
  DERIVED. THE GIVEN ROWS OF THIS SEAT. 3 by the template 'for every input the law returns true; each argument reads behind the call as it read before'; 0 by the template 'total and deterministic' (their statements: YtabdicbmecgogaaTotals.lean).
  GIVEN WITH THE SEED: the statements are not yours to turn. If you find one false, say at which input.
  Laid BY PROGRAM, IN A SANDBOX (cutbox-rows.mjs): the forced cells as the released guide's own fill.sh prints them over the translation 44f9cb02f248b198… (all of the seat's roots in one cut). By AI agents, Wed Nov 11 2026. No macro, syntax, notation, axiom, sorry.
-/
import Derived.Test.YtabdicbmecgogaaChecked
import GoSem.Claim
import GoSem.ClaimJoined
import GoSem.ClaimMapViews
import Derived.JoinedTies
import Derived.KernelRfl
namespace Go.Proofs.Ytabdicbmecgogaa
/- THE CELL 'sum', in the pinned program and in every row, IS THE sha256 OF THE DUMP (.gsa) THAT YtabdicbmecgogaaProg.lean LOADS. Nothing in Lean hashes anything: it is a label: what it is worth is what the hold of that sum in a sandbox is worth. -/
noncomputable def Try.pinned : Pinned := { name := "ytabdicbmecgogaa", sum := "44f9cb02f248b1982e3640a80f6d231a6699a95eccd8349aa6865c8b2062dfa3", checked := Try.checked }
namespace Rows
def none {H : Type} : Left H := { results := [], args := [] }

/-- 'vistalaw13.PruneTrims': WHATEVER THE INPUT: true; the input reads as it did. -/
def pruneTrimsSpec : ChangeSpec := { name := "pruneTrims", fn := fun _ => fun
  | [d1, d2, d3] => { results := [.lit (.bool true)], args := [d1, d2, d3] }
  | _ => none }
def pruneTrimsRow : OpenClaim := { program := "ytabdicbmecgogaa", sum := "44f9cb02f248b1982e3640a80f6d231a6699a95eccd8349aa6865c8b2062dfa3", func := "vista/vistalaw13.PruneTrims", spec := "pruneTrims", inPlace := ["slices.overlaps[int]"], unfollowed := true, recurses := true, apart := false }
def PruneTrimsSaid : Prop := pruneTrimsRow.holds Try.pinned (OpenSpec.ofChange pruneTrimsSpec)

/-- ITS FALSE NEIGHBOUR: 'it returns false'. Refute it at one input. -/
def pruneTrimsWrong : ChangeSpec := { name := "pruneTrims", fn := fun _ => fun
  | [d1, d2, d3] => { results := [.lit (.bool false)], args := [d1, d2, d3] }
  | _ => none }
def PruneTrimsWrongFalsely : Prop := pruneTrimsRow.holds Try.pinned (OpenSpec.ofChange pruneTrimsWrong)

/-- 'vistalaw13.PruneBounds': WHATEVER THE INPUT: true; the input reads as it did. -/
def pruneBoundsSpec : ChangeSpec := { name := "pruneBounds", fn := fun _ => fun
  | [d1, d2, d3] => { results := [.lit (.bool true)], args := [d1, d2, d3] }
  | _ => none }
def pruneBoundsRow : OpenClaim := { program := "ytabdicbmecgogaa", sum := "44f9cb02f248b1982e3640a80f6d231a6699a95eccd8349aa6865c8b2062dfa3", func := "vista/vistalaw13.PruneBounds", spec := "pruneBounds", inPlace := ["slices.overlaps[int]"], unfollowed := true, recurses := true, apart := false }
def PruneBoundsSaid : Prop := pruneBoundsRow.holds Try.pinned (OpenSpec.ofChange pruneBoundsSpec)

/-- ITS FALSE NEIGHBOUR: 'it returns false'. Refute it at one input. -/
def pruneBoundsWrong : ChangeSpec := { name := "pruneBounds", fn := fun _ => fun
  | [d1, d2, d3] => { results := [.lit (.bool false)], args := [d1, d2, d3] }
  | _ => none }
def PruneBoundsWrongFalsely : Prop := pruneBoundsRow.holds Try.pinned (OpenSpec.ofChange pruneBoundsWrong)

/-- 'vistalaw13.PruneKept': WHATEVER THE INPUT: true; the input reads as it did. -/
def pruneKeptSpec : ChangeSpec := { name := "pruneKept", fn := fun _ => fun
  | [d1, d2, d3] => { results := [.lit (.bool true)], args := [d1, d2, d3] }
  | _ => none }
def pruneKeptRow : OpenClaim := { program := "ytabdicbmecgogaa", sum := "44f9cb02f248b1982e3640a80f6d231a6699a95eccd8349aa6865c8b2062dfa3", func := "vista/vistalaw13.PruneKept", spec := "pruneKept", inPlace := ["slices.overlaps[int]"], unfollowed := true, recurses := true, apart := false }
def PruneKeptSaid : Prop := pruneKeptRow.holds Try.pinned (OpenSpec.ofChange pruneKeptSpec)

/-- ITS FALSE NEIGHBOUR: 'it returns false'. Refute it at one input. -/
def pruneKeptWrong : ChangeSpec := { name := "pruneKept", fn := fun _ => fun
  | [d1, d2, d3] => { results := [.lit (.bool false)], args := [d1, d2, d3] }
  | _ => none }
def PruneKeptWrongFalsely : Prop := pruneKeptRow.holds Try.pinned (OpenSpec.ofChange pruneKeptWrong)

/- THE SECOND FORM. 'bulk': how many values and letters a reading holds, each counted each time it is reached (what is shared counts as often as it is met; a slice's spare places count too). A statement '..UptoSaid' is the law's where the arguments, and the package variables that the reading takes, are together of bulk at most 1048576: NARROWER than '..Said'. Prove '..Said' where nothing that the law and all that it calls make is longer than what came in: it says more and counts as full. Else prove '..UptoSaid'. A law counts once. -/
mutual
def uptoBulk {H : Type} : DataW H → Nat
  | .lit (.string bytes) => bytes.length + 1
  | .lit _ => 1
  | .nil => 1
  | .ptr d => uptoBulk d + 1
  | .slice elems spare => uptoBulkAll elems + uptoBulkAll spare + 1
  | .agg parts => uptoBulkAll parts + 1
  | .iface _ d => uptoBulk d + 1
  | .map entries => uptoBulkEntries entries + 1
  | .held _ => 1
def uptoBulkAll {H : Type} : List (DataW H) → Nat
  | [] => 0
  | d :: r => uptoBulk d + uptoBulkAll r
def uptoBulkEntries {H : Type} : List (Lit × DataW H) → Nat
  | [] => 0
  | x :: r => uptoBulkEntry x + uptoBulkEntries r
def uptoBulkEntry {H : Type} : Lit × DataW H → Nat
  | (.string bytes, d) => bytes.length + uptoBulk d + 1
  | (_, d) => uptoBulk d + 1
 end
def uptoSmall : (H : Type) → List (DataW H) → Bool := fun _ ds => decide (uptoBulkAll ds ≤ 1048576)
def OpenSpec.upto (s : _root_.Go.ChangeSpec) : _root_.Go.OpenSpec := { _root_.Go.OpenSpec.ofChange s with cond := some uptoSmall }

/-- 'vistalaw13.PruneTrims', WHERE WHAT IT READS IS OF BULK AT MOST 1048576: true; the input reads as it did. -/
def pruneTrimsUptoRow : OpenClaim := { program := "ytabdicbmecgogaa", sum := "44f9cb02f248b1982e3640a80f6d231a6699a95eccd8349aa6865c8b2062dfa3", func := "vista/vistalaw13.PruneTrims", spec := "pruneTrims", inPlace := ["slices.overlaps[int]"], unfollowed := true, recurses := true, apart := false, narrowed := true }
def PruneTrimsUptoSaid : Prop := pruneTrimsUptoRow.holds Try.pinned (OpenSpec.upto pruneTrimsSpec)

/-- 'vistalaw13.PruneBounds', WHERE WHAT IT READS IS OF BULK AT MOST 1048576: true; the input reads as it did. -/
def pruneBoundsUptoRow : OpenClaim := { program := "ytabdicbmecgogaa", sum := "44f9cb02f248b1982e3640a80f6d231a6699a95eccd8349aa6865c8b2062dfa3", func := "vista/vistalaw13.PruneBounds", spec := "pruneBounds", inPlace := ["slices.overlaps[int]"], unfollowed := true, recurses := true, apart := false, narrowed := true }
def PruneBoundsUptoSaid : Prop := pruneBoundsUptoRow.holds Try.pinned (OpenSpec.upto pruneBoundsSpec)

/-- 'vistalaw13.PruneKept', WHERE WHAT IT READS IS OF BULK AT MOST 1048576: true; the input reads as it did. -/
def pruneKeptUptoRow : OpenClaim := { program := "ytabdicbmecgogaa", sum := "44f9cb02f248b1982e3640a80f6d231a6699a95eccd8349aa6865c8b2062dfa3", func := "vista/vistalaw13.PruneKept", spec := "pruneKept", inPlace := ["slices.overlaps[int]"], unfollowed := true, recurses := true, apart := false, narrowed := true }
def PruneKeptUptoSaid : Prop := pruneKeptUptoRow.holds Try.pinned (OpenSpec.upto pruneKeptSpec)

end Rows
end Go.Proofs.Ytabdicbmecgogaa
