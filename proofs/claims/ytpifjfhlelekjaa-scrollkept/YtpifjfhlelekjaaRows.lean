/-
  No cell of these rows narrows 'for every input' (looked for: loops, veiled, ifaces, maps, wideKeys, modest, calm, conditions, laid).
  DERIVED. THE GIVEN ROWS OF THIS SEAT. 6 by the template 'for every input the law returns true; each argument reads behind the call as it read before'; 0 by the template 'total and deterministic' (their statements: YtpifjfhlelekjaaTotals.lean).
  GIVEN WITH THE SEED: the statements are not yours to turn. If you find one false, say at which input.
  Laid BY PROGRAM, IN A SANDBOX (cutbox-rows.mjs): the forced cells as the released guide's own fill.sh prints them over the translation 00fca4fb5bf9b08f… (all of the seat's roots in one cut). By AI agents, Wed Nov 11 2026. No macro, syntax, notation, axiom, sorry.
-/
import Derived.Test.YtpifjfhlelekjaaChecked
import GoSem.Claim
import GoSem.ClaimJoined
import GoSem.ClaimMapViews
import Derived.JoinedTies
import Derived.KernelRfl
namespace Go.Proofs.Ytpifjfhlelekjaa
/- THE CELL 'sum', in the pinned program and in every row, IS THE sha256 OF THE DUMP (.gsa) THAT YtpifjfhlelekjaaProg.lean LOADS. Nothing in Lean hashes anything: it is a label: what it is worth is what the hold of that sum in a sandbox is worth. -/
noncomputable def Try.pinned : Pinned := { name := "ytpifjfhlelekjaa", sum := "00fca4fb5bf9b08f9b6e0094a853a01338d29559b66e067d2c368cde9f7de65b", checked := Try.checked }
namespace Rows
def none {H : Type} : Left H := { results := [], args := [] }

/-- 'vistalaw07.ScrollPlays': WHATEVER THE INPUT: true; the input reads as it did. -/
def scrollPlaysSpec : ChangeSpec := { name := "scrollPlays", fn := fun _ => fun
  | [d1, d2, d3] => { results := [.lit (.bool true)], args := [d1, d2, d3] }
  | _ => none }
def scrollPlaysRow : OpenClaim := { program := "ytpifjfhlelekjaa", sum := "00fca4fb5bf9b08f9b6e0094a853a01338d29559b66e067d2c368cde9f7de65b", func := "vista/vistalaw07.ScrollPlays", spec := "scrollPlays", apart := false }
def ScrollPlaysSaid : Prop := scrollPlaysRow.holds Try.pinned (OpenSpec.ofChange scrollPlaysSpec)

/-- ITS FALSE NEIGHBOUR: 'it returns false'. Refute it at one input. -/
def scrollPlaysWrong : ChangeSpec := { name := "scrollPlays", fn := fun _ => fun
  | [d1, d2, d3] => { results := [.lit (.bool false)], args := [d1, d2, d3] }
  | _ => none }
def ScrollPlaysWrongFalsely : Prop := scrollPlaysRow.holds Try.pinned (OpenSpec.ofChange scrollPlaysWrong)

/-- 'vistalaw07.ScrollBlocks': WHATEVER THE INPUT: true; the input reads as it did. -/
def scrollBlocksSpec : ChangeSpec := { name := "scrollBlocks", fn := fun _ => fun
  | [d1, d2] => { results := [.lit (.bool true)], args := [d1, d2] }
  | _ => none }
def scrollBlocksRow : OpenClaim := { program := "ytpifjfhlelekjaa", sum := "00fca4fb5bf9b08f9b6e0094a853a01338d29559b66e067d2c368cde9f7de65b", func := "vista/vistalaw07.ScrollBlocks", spec := "scrollBlocks", apart := false }
def ScrollBlocksSaid : Prop := scrollBlocksRow.holds Try.pinned (OpenSpec.ofChange scrollBlocksSpec)

/-- ITS FALSE NEIGHBOUR: 'it returns false'. Refute it at one input. -/
def scrollBlocksWrong : ChangeSpec := { name := "scrollBlocks", fn := fun _ => fun
  | [d1, d2] => { results := [.lit (.bool false)], args := [d1, d2] }
  | _ => none }
def ScrollBlocksWrongFalsely : Prop := scrollBlocksRow.holds Try.pinned (OpenSpec.ofChange scrollBlocksWrong)

/-- 'vistalaw07.ScrollBack': WHATEVER THE INPUT: true; the input reads as it did. -/
def scrollBackSpec : ChangeSpec := { name := "scrollBack", fn := fun _ => fun
  | [d1, d2] => { results := [.lit (.bool true)], args := [d1, d2] }
  | _ => none }
def scrollBackRow : OpenClaim := { program := "ytpifjfhlelekjaa", sum := "00fca4fb5bf9b08f9b6e0094a853a01338d29559b66e067d2c368cde9f7de65b", func := "vista/vistalaw07.ScrollBack", spec := "scrollBack", apart := false }
def ScrollBackSaid : Prop := scrollBackRow.holds Try.pinned (OpenSpec.ofChange scrollBackSpec)

/-- ITS FALSE NEIGHBOUR: 'it returns false'. Refute it at one input. -/
def scrollBackWrong : ChangeSpec := { name := "scrollBack", fn := fun _ => fun
  | [d1, d2] => { results := [.lit (.bool false)], args := [d1, d2] }
  | _ => none }
def ScrollBackWrongFalsely : Prop := scrollBackRow.holds Try.pinned (OpenSpec.ofChange scrollBackWrong)

/-- 'vistalaw07.ScrollAtomic': WHATEVER THE INPUT: true; the input reads as it did. -/
def scrollAtomicSpec : ChangeSpec := { name := "scrollAtomic", fn := fun _ => fun
  | [d1, d2] => { results := [.lit (.bool true)], args := [d1, d2] }
  | _ => none }
def scrollAtomicRow : OpenClaim := { program := "ytpifjfhlelekjaa", sum := "00fca4fb5bf9b08f9b6e0094a853a01338d29559b66e067d2c368cde9f7de65b", func := "vista/vistalaw07.ScrollAtomic", spec := "scrollAtomic", apart := false }
def ScrollAtomicSaid : Prop := scrollAtomicRow.holds Try.pinned (OpenSpec.ofChange scrollAtomicSpec)

/-- ITS FALSE NEIGHBOUR: 'it returns false'. Refute it at one input. -/
def scrollAtomicWrong : ChangeSpec := { name := "scrollAtomic", fn := fun _ => fun
  | [d1, d2] => { results := [.lit (.bool false)], args := [d1, d2] }
  | _ => none }
def ScrollAtomicWrongFalsely : Prop := scrollAtomicRow.holds Try.pinned (OpenSpec.ofChange scrollAtomicWrong)

/-- 'vistalaw07.ScrollReads': WHATEVER THE INPUT: true; the input reads as it did. -/
def scrollReadsSpec : ChangeSpec := { name := "scrollReads", fn := fun _ => fun
  | [d1, d2] => { results := [.lit (.bool true)], args := [d1, d2] }
  | _ => none }
def scrollReadsRow : OpenClaim := { program := "ytpifjfhlelekjaa", sum := "00fca4fb5bf9b08f9b6e0094a853a01338d29559b66e067d2c368cde9f7de65b", func := "vista/vistalaw07.ScrollReads", spec := "scrollReads", apart := false }
def ScrollReadsSaid : Prop := scrollReadsRow.holds Try.pinned (OpenSpec.ofChange scrollReadsSpec)

/-- ITS FALSE NEIGHBOUR: 'it returns false'. Refute it at one input. -/
def scrollReadsWrong : ChangeSpec := { name := "scrollReads", fn := fun _ => fun
  | [d1, d2] => { results := [.lit (.bool false)], args := [d1, d2] }
  | _ => none }
def ScrollReadsWrongFalsely : Prop := scrollReadsRow.holds Try.pinned (OpenSpec.ofChange scrollReadsWrong)

/-- 'vistalaw07.ScrollKept': WHATEVER THE INPUT: true; the input reads as it did. -/
def scrollKeptSpec : ChangeSpec := { name := "scrollKept", fn := fun _ => fun
  | [d1, d2] => { results := [.lit (.bool true)], args := [d1, d2] }
  | _ => none }
def scrollKeptRow : OpenClaim := { program := "ytpifjfhlelekjaa", sum := "00fca4fb5bf9b08f9b6e0094a853a01338d29559b66e067d2c368cde9f7de65b", func := "vista/vistalaw07.ScrollKept", spec := "scrollKept", apart := false }
def ScrollKeptSaid : Prop := scrollKeptRow.holds Try.pinned (OpenSpec.ofChange scrollKeptSpec)

/-- ITS FALSE NEIGHBOUR: 'it returns false'. Refute it at one input. -/
def scrollKeptWrong : ChangeSpec := { name := "scrollKept", fn := fun _ => fun
  | [d1, d2] => { results := [.lit (.bool false)], args := [d1, d2] }
  | _ => none }
def ScrollKeptWrongFalsely : Prop := scrollKeptRow.holds Try.pinned (OpenSpec.ofChange scrollKeptWrong)

/- THE SECOND FORM. 'bulk': how many values and letters a reading holds, each counted each time it is reached (what is shared counts as often as it is met; a slice's spare places count too). A statement '..UptoSaid' is the law's where the arguments, and the package variables that the reading takes, are together of bulk at most 1048576: NARROWER than '..Said'. Prove '..Said' where nothing that the law and all that it calls make is longer than what came in: it says more and counts as full. Else prove '..UptoSaid'. A law counts once. -/
mutual
def uptoBulk {H : Type} : DataW H → Nat
  | .lit (.string bytes) => bytes.length + 1
  | .lit _ => 1
  | .nil => 1
  | .ptr d => uptoBulk d + 1
  | .slice elems spare => uptoBulkAll elems + uptoBulkAll spare + 1
  | .agg parts => uptoBulkAll parts + 1
  | .iface _ d => uptoBulk d + 1
  | .map entries => uptoBulkEntries entries + 1
  | .held _ => 1
def uptoBulkAll {H : Type} : List (DataW H) → Nat
  | [] => 0
  | d :: r => uptoBulk d + uptoBulkAll r
def uptoBulkEntries {H : Type} : List (Lit × DataW H) → Nat
  | [] => 0
  | x :: r => uptoBulkEntry x + uptoBulkEntries r
def uptoBulkEntry {H : Type} : Lit × DataW H → Nat
  | (.string bytes, d) => bytes.length + uptoBulk d + 1
  | (_, d) => uptoBulk d + 1
 end
def uptoSmall : (H : Type) → List (DataW H) → Bool := fun _ ds => decide (uptoBulkAll ds ≤ 1048576)
def OpenSpec.upto (s : _root_.Go.ChangeSpec) : _root_.Go.OpenSpec := { _root_.Go.OpenSpec.ofChange s with cond := some uptoSmall }

/-- 'vistalaw07.ScrollPlays', WHERE WHAT IT READS IS OF BULK AT MOST 1048576: true; the input reads as it did. -/
def scrollPlaysUptoRow : OpenClaim := { program := "ytpifjfhlelekjaa", sum := "00fca4fb5bf9b08f9b6e0094a853a01338d29559b66e067d2c368cde9f7de65b", func := "vista/vistalaw07.ScrollPlays", spec := "scrollPlays", apart := false, narrowed := true }
def ScrollPlaysUptoSaid : Prop := scrollPlaysUptoRow.holds Try.pinned (OpenSpec.upto scrollPlaysSpec)

/-- 'vistalaw07.ScrollBlocks', WHERE WHAT IT READS IS OF BULK AT MOST 1048576: true; the input reads as it did. -/
def scrollBlocksUptoRow : OpenClaim := { program := "ytpifjfhlelekjaa", sum := "00fca4fb5bf9b08f9b6e0094a853a01338d29559b66e067d2c368cde9f7de65b", func := "vista/vistalaw07.ScrollBlocks", spec := "scrollBlocks", apart := false, narrowed := true }
def ScrollBlocksUptoSaid : Prop := scrollBlocksUptoRow.holds Try.pinned (OpenSpec.upto scrollBlocksSpec)

/-- 'vistalaw07.ScrollBack', WHERE WHAT IT READS IS OF BULK AT MOST 1048576: true; the input reads as it did. -/
def scrollBackUptoRow : OpenClaim := { program := "ytpifjfhlelekjaa", sum := "00fca4fb5bf9b08f9b6e0094a853a01338d29559b66e067d2c368cde9f7de65b", func := "vista/vistalaw07.ScrollBack", spec := "scrollBack", apart := false, narrowed := true }
def ScrollBackUptoSaid : Prop := scrollBackUptoRow.holds Try.pinned (OpenSpec.upto scrollBackSpec)

/-- 'vistalaw07.ScrollAtomic', WHERE WHAT IT READS IS OF BULK AT MOST 1048576: true; the input reads as it did. -/
def scrollAtomicUptoRow : OpenClaim := { program := "ytpifjfhlelekjaa", sum := "00fca4fb5bf9b08f9b6e0094a853a01338d29559b66e067d2c368cde9f7de65b", func := "vista/vistalaw07.ScrollAtomic", spec := "scrollAtomic", apart := false, narrowed := true }
def ScrollAtomicUptoSaid : Prop := scrollAtomicUptoRow.holds Try.pinned (OpenSpec.upto scrollAtomicSpec)

/-- 'vistalaw07.ScrollReads', WHERE WHAT IT READS IS OF BULK AT MOST 1048576: true; the input reads as it did. -/
def scrollReadsUptoRow : OpenClaim := { program := "ytpifjfhlelekjaa", sum := "00fca4fb5bf9b08f9b6e0094a853a01338d29559b66e067d2c368cde9f7de65b", func := "vista/vistalaw07.ScrollReads", spec := "scrollReads", apart := false, narrowed := true }
def ScrollReadsUptoSaid : Prop := scrollReadsUptoRow.holds Try.pinned (OpenSpec.upto scrollReadsSpec)

/-- 'vistalaw07.ScrollKept', WHERE WHAT IT READS IS OF BULK AT MOST 1048576: true; the input reads as it did. -/
def scrollKeptUptoRow : OpenClaim := { program := "ytpifjfhlelekjaa", sum := "00fca4fb5bf9b08f9b6e0094a853a01338d29559b66e067d2c368cde9f7de65b", func := "vista/vistalaw07.ScrollKept", spec := "scrollKept", apart := false, narrowed := true }
def ScrollKeptUptoSaid : Prop := scrollKeptUptoRow.holds Try.pinned (OpenSpec.upto scrollKeptSpec)

end Rows
end Go.Proofs.Ytpifjfhlelekjaa
