/-
  No cell of these rows narrows 'for every input' (looked for: loops, veiled, ifaces, maps, wideKeys, modest, calm, conditions, laid).
  DERIVED. THE GIVEN ROWS OF THIS SEAT. 6 by the template 'for every input the law returns true; each argument reads behind the call as it read before'; 0 by the template 'total and deterministic' (their statements: YtggjnhmmdomfjaaTotals.lean).
  GIVEN WITH THE SEED: the statements are not yours to turn. If you find one false, say at which input.
  Laid BY PROGRAM, IN A SANDBOX (cutbox-rows.mjs): the forced cells as the released guide's own fill.sh prints them over the translation 525fddcb634ac950… (all of the seat's roots in one cut). By AI agents, Wed Nov 11 2026. No macro, syntax, notation, axiom, sorry.
-/
import Derived.Test.YtggjnhmmdomfjaaChecked
import GoSem.Claim
import GoSem.ClaimJoined
import GoSem.ClaimMapViews
import Derived.JoinedTies
import Derived.KernelRfl
namespace Go.Proofs.Ytggjnhmmdomfjaa
/- THE CELL 'sum', in the pinned program and in every row, IS THE sha256 OF THE DUMP (.gsa) THAT YtggjnhmmdomfjaaProg.lean LOADS. Nothing in Lean hashes anything: it is a label: what it is worth is what the hold of that sum in a sandbox is worth. -/
noncomputable def Try.pinned : Pinned := { name := "ytggjnhmmdomfjaa", sum := "525fddcb634ac9503bb78a412f7c0137b011cb7620286f193e2c8a6cc2d2ab33", checked := Try.checked }
namespace Rows
def none {H : Type} : Left H := { results := [], args := [] }

/-- 'vistalaw12.DentPlays': WHATEVER THE INPUT: true; the input reads as it did. -/
def dentPlaysSpec : ChangeSpec := { name := "dentPlays", fn := fun _ => fun
  | [d] => { results := [.lit (.bool true)], args := [d] }
  | _ => none }
def dentPlaysRow : OpenClaim := { program := "ytggjnhmmdomfjaa", sum := "525fddcb634ac9503bb78a412f7c0137b011cb7620286f193e2c8a6cc2d2ab33", func := "vista/vistalaw12.DentPlays", spec := "dentPlays", unfollowed := true, recurses := true, apart := false }
def DentPlaysSaid : Prop := dentPlaysRow.holds Try.pinned (OpenSpec.ofChange dentPlaysSpec)

/-- ITS FALSE NEIGHBOUR: 'it returns false'. Refute it at one input. -/
def dentPlaysWrong : ChangeSpec := { name := "dentPlays", fn := fun _ => fun
  | [d] => { results := [.lit (.bool false)], args := [d] }
  | _ => none }
def DentPlaysWrongFalsely : Prop := dentPlaysRow.holds Try.pinned (OpenSpec.ofChange dentPlaysWrong)

/-- 'vistalaw12.DentKept': WHATEVER THE INPUT: true; the input reads as it did. -/
def dentKeptSpec : ChangeSpec := { name := "dentKept", fn := fun _ => fun
  | [d1, d2] => { results := [.lit (.bool true)], args := [d1, d2] }
  | _ => none }
def dentKeptRow : OpenClaim := { program := "ytggjnhmmdomfjaa", sum := "525fddcb634ac9503bb78a412f7c0137b011cb7620286f193e2c8a6cc2d2ab33", func := "vista/vistalaw12.DentKept", spec := "dentKept", unfollowed := true, recurses := true, apart := false }
def DentKeptSaid : Prop := dentKeptRow.holds Try.pinned (OpenSpec.ofChange dentKeptSpec)

/-- ITS FALSE NEIGHBOUR: 'it returns false'. Refute it at one input. -/
def dentKeptWrong : ChangeSpec := { name := "dentKept", fn := fun _ => fun
  | [d1, d2] => { results := [.lit (.bool false)], args := [d1, d2] }
  | _ => none }
def DentKeptWrongFalsely : Prop := dentKeptRow.holds Try.pinned (OpenSpec.ofChange dentKeptWrong)

/-- 'vistalaw13.PruneTrims': WHATEVER THE INPUT: true; the input reads as it did. -/
def pruneTrimsSpec : ChangeSpec := { name := "pruneTrims", fn := fun _ => fun
  | [d1, d2, d3] => { results := [.lit (.bool true)], args := [d1, d2, d3] }
  | _ => none }
def pruneTrimsRow : OpenClaim := { program := "ytggjnhmmdomfjaa", sum := "525fddcb634ac9503bb78a412f7c0137b011cb7620286f193e2c8a6cc2d2ab33", func := "vista/vistalaw13.PruneTrims", spec := "pruneTrims", inPlace := ["slices.overlaps[int]"], unfollowed := true, recurses := true, apart := false }
def PruneTrimsSaid : Prop := pruneTrimsRow.holds Try.pinned (OpenSpec.ofChange pruneTrimsSpec)

/-- ITS FALSE NEIGHBOUR: 'it returns false'. Refute it at one input. -/
def pruneTrimsWrong : ChangeSpec := { name := "pruneTrims", fn := fun _ => fun
  | [d1, d2, d3] => { results := [.lit (.bool false)], args := [d1, d2, d3] }
  | _ => none }
def PruneTrimsWrongFalsely : Prop := pruneTrimsRow.holds Try.pinned (OpenSpec.ofChange pruneTrimsWrong)

/-- 'vistalaw13.PruneVictims': WHATEVER THE INPUT: true; the input reads as it did. -/
def pruneVictimsSpec : ChangeSpec := { name := "pruneVictims", fn := fun _ => fun
  | [d1, d2] => { results := [.lit (.bool true)], args := [d1, d2] }
  | _ => none }
def pruneVictimsRow : OpenClaim := { program := "ytggjnhmmdomfjaa", sum := "525fddcb634ac9503bb78a412f7c0137b011cb7620286f193e2c8a6cc2d2ab33", func := "vista/vistalaw13.PruneVictims", spec := "pruneVictims", inPlace := ["slices.overlaps[int]"], unfollowed := true, recurses := true, apart := false }
def PruneVictimsSaid : Prop := pruneVictimsRow.holds Try.pinned (OpenSpec.ofChange pruneVictimsSpec)

/-- ITS FALSE NEIGHBOUR: 'it returns false'. Refute it at one input. -/
def pruneVictimsWrong : ChangeSpec := { name := "pruneVictims", fn := fun _ => fun
  | [d1, d2] => { results := [.lit (.bool false)], args := [d1, d2] }
  | _ => none }
def PruneVictimsWrongFalsely : Prop := pruneVictimsRow.holds Try.pinned (OpenSpec.ofChange pruneVictimsWrong)

/-- 'vistalaw13.PruneRoom': WHATEVER THE INPUT: true; the input reads as it did. -/
def pruneRoomSpec : ChangeSpec := { name := "pruneRoom", fn := fun _ => fun
  | [d] => { results := [.lit (.bool true)], args := [d] }
  | _ => none }
def pruneRoomRow : OpenClaim := { program := "ytggjnhmmdomfjaa", sum := "525fddcb634ac9503bb78a412f7c0137b011cb7620286f193e2c8a6cc2d2ab33", func := "vista/vistalaw13.PruneRoom", spec := "pruneRoom", inPlace := ["slices.overlaps[int]"], unfollowed := true, recurses := true, apart := false }
def PruneRoomSaid : Prop := pruneRoomRow.holds Try.pinned (OpenSpec.ofChange pruneRoomSpec)

/-- ITS FALSE NEIGHBOUR: 'it returns false'. Refute it at one input. -/
def pruneRoomWrong : ChangeSpec := { name := "pruneRoom", fn := fun _ => fun
  | [d] => { results := [.lit (.bool false)], args := [d] }
  | _ => none }
def PruneRoomWrongFalsely : Prop := pruneRoomRow.holds Try.pinned (OpenSpec.ofChange pruneRoomWrong)

/-- 'vistalaw13.PruneKept': WHATEVER THE INPUT: true; the input reads as it did. -/
def pruneKeptSpec : ChangeSpec := { name := "pruneKept", fn := fun _ => fun
  | [d1, d2, d3] => { results := [.lit (.bool true)], args := [d1, d2, d3] }
  | _ => none }
def pruneKeptRow : OpenClaim := { program := "ytggjnhmmdomfjaa", sum := "525fddcb634ac9503bb78a412f7c0137b011cb7620286f193e2c8a6cc2d2ab33", func := "vista/vistalaw13.PruneKept", spec := "pruneKept", inPlace := ["slices.overlaps[int]"], unfollowed := true, recurses := true, apart := false }
def PruneKeptSaid : Prop := pruneKeptRow.holds Try.pinned (OpenSpec.ofChange pruneKeptSpec)

/-- ITS FALSE NEIGHBOUR: 'it returns false'. Refute it at one input. -/
def pruneKeptWrong : ChangeSpec := { name := "pruneKept", fn := fun _ => fun
  | [d1, d2, d3] => { results := [.lit (.bool false)], args := [d1, d2, d3] }
  | _ => none }
def PruneKeptWrongFalsely : Prop := pruneKeptRow.holds Try.pinned (OpenSpec.ofChange pruneKeptWrong)

/- THE SECOND FORM. 'bulk': how many values and letters a reading holds, each counted each time it is reached (what is shared counts as often as it is met; a slice's spare places count too). A statement '..UptoSaid' is the law's where the arguments, and the package variables that the reading takes, are together of bulk at most 1048576: NARROWER than '..Said'. Prove '..Said' where nothing that the law and all that it calls make is longer than what came in: it says more and counts as full. Else prove '..UptoSaid'. A law counts once. -/
mutual
def uptoBulk {H : Type} : DataW H → Nat
  | .lit (.string bytes) => bytes.length + 1
  | .lit _ => 1
  | .nil => 1
  | .ptr d => uptoBulk d + 1
  | .slice elems spare => uptoBulkAll elems + uptoBulkAll spare + 1
  | .agg parts => uptoBulkAll parts + 1
  | .iface _ d => uptoBulk d + 1
  | .map entries => uptoBulkEntries entries + 1
  | .held _ => 1
def uptoBulkAll {H : Type} : List (DataW H) → Nat
  | [] => 0
  | d :: r => uptoBulk d + uptoBulkAll r
def uptoBulkEntries {H : Type} : List (Lit × DataW H) → Nat
  | [] => 0
  | x :: r => uptoBulkEntry x + uptoBulkEntries r
def uptoBulkEntry {H : Type} : Lit × DataW H → Nat
  | (.string bytes, d) => bytes.length + uptoBulk d + 1
  | (_, d) => uptoBulk d + 1
 end
def uptoSmall : (H : Type) → List (DataW H) → Bool := fun _ ds => decide (uptoBulkAll ds ≤ 1048576)
def OpenSpec.upto (s : _root_.Go.ChangeSpec) : _root_.Go.OpenSpec := { _root_.Go.OpenSpec.ofChange s with cond := some uptoSmall }

/-- 'vistalaw12.DentPlays', WHERE WHAT IT READS IS OF BULK AT MOST 1048576: true; the input reads as it did. -/
def dentPlaysUptoRow : OpenClaim := { program := "ytggjnhmmdomfjaa", sum := "525fddcb634ac9503bb78a412f7c0137b011cb7620286f193e2c8a6cc2d2ab33", func := "vista/vistalaw12.DentPlays", spec := "dentPlays", unfollowed := true, recurses := true, apart := false, narrowed := true }
def DentPlaysUptoSaid : Prop := dentPlaysUptoRow.holds Try.pinned (OpenSpec.upto dentPlaysSpec)

/-- 'vistalaw12.DentKept', WHERE WHAT IT READS IS OF BULK AT MOST 1048576: true; the input reads as it did. -/
def dentKeptUptoRow : OpenClaim := { program := "ytggjnhmmdomfjaa", sum := "525fddcb634ac9503bb78a412f7c0137b011cb7620286f193e2c8a6cc2d2ab33", func := "vista/vistalaw12.DentKept", spec := "dentKept", unfollowed := true, recurses := true, apart := false, narrowed := true }
def DentKeptUptoSaid : Prop := dentKeptUptoRow.holds Try.pinned (OpenSpec.upto dentKeptSpec)

/-- 'vistalaw13.PruneTrims', WHERE WHAT IT READS IS OF BULK AT MOST 1048576: true; the input reads as it did. -/
def pruneTrimsUptoRow : OpenClaim := { program := "ytggjnhmmdomfjaa", sum := "525fddcb634ac9503bb78a412f7c0137b011cb7620286f193e2c8a6cc2d2ab33", func := "vista/vistalaw13.PruneTrims", spec := "pruneTrims", inPlace := ["slices.overlaps[int]"], unfollowed := true, recurses := true, apart := false, narrowed := true }
def PruneTrimsUptoSaid : Prop := pruneTrimsUptoRow.holds Try.pinned (OpenSpec.upto pruneTrimsSpec)

/-- 'vistalaw13.PruneVictims', WHERE WHAT IT READS IS OF BULK AT MOST 1048576: true; the input reads as it did. -/
def pruneVictimsUptoRow : OpenClaim := { program := "ytggjnhmmdomfjaa", sum := "525fddcb634ac9503bb78a412f7c0137b011cb7620286f193e2c8a6cc2d2ab33", func := "vista/vistalaw13.PruneVictims", spec := "pruneVictims", inPlace := ["slices.overlaps[int]"], unfollowed := true, recurses := true, apart := false, narrowed := true }
def PruneVictimsUptoSaid : Prop := pruneVictimsUptoRow.holds Try.pinned (OpenSpec.upto pruneVictimsSpec)

/-- 'vistalaw13.PruneRoom', WHERE WHAT IT READS IS OF BULK AT MOST 1048576: true; the input reads as it did. -/
def pruneRoomUptoRow : OpenClaim := { program := "ytggjnhmmdomfjaa", sum := "525fddcb634ac9503bb78a412f7c0137b011cb7620286f193e2c8a6cc2d2ab33", func := "vista/vistalaw13.PruneRoom", spec := "pruneRoom", inPlace := ["slices.overlaps[int]"], unfollowed := true, recurses := true, apart := false, narrowed := true }
def PruneRoomUptoSaid : Prop := pruneRoomUptoRow.holds Try.pinned (OpenSpec.upto pruneRoomSpec)

/-- 'vistalaw13.PruneKept', WHERE WHAT IT READS IS OF BULK AT MOST 1048576: true; the input reads as it did. -/
def pruneKeptUptoRow : OpenClaim := { program := "ytggjnhmmdomfjaa", sum := "525fddcb634ac9503bb78a412f7c0137b011cb7620286f193e2c8a6cc2d2ab33", func := "vista/vistalaw13.PruneKept", spec := "pruneKept", inPlace := ["slices.overlaps[int]"], unfollowed := true, recurses := true, apart := false, narrowed := true }
def PruneKeptUptoSaid : Prop := pruneKeptUptoRow.holds Try.pinned (OpenSpec.upto pruneKeptSpec)

end Rows
end Go.Proofs.Ytggjnhmmdomfjaa
