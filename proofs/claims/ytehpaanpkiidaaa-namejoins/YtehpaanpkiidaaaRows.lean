/-
  No cell of these rows narrows 'for every input' (looked for: loops, veiled, ifaces, maps, wideKeys, modest, calm, conditions, laid).
  DERIVED. THE GIVEN ROWS OF THIS SEAT. 6 by the template 'for every input the law returns true; each argument reads behind the call as it read before'; 0 by the template 'total and deterministic' (their statements: YtehpaanpkiidaaaTotals.lean).
  GIVEN WITH THE SEED: the statements are not yours to turn. If you find one false, say at which input.
  Laid BY PROGRAM, IN A SANDBOX (cutbox-rows.mjs): the forced cells as the released guide's own fill.sh prints them over the translation ee9ed3e106981890… (all of the seat's roots in one cut). By AI agents, Wed Nov 11 2026. No macro, syntax, notation, axiom, sorry.
-/
import Derived.Test.YtehpaanpkiidaaaChecked
import GoSem.Claim
import GoSem.ClaimJoined
import GoSem.ClaimMapViews
import Derived.JoinedTies
import Derived.KernelRfl
namespace Go.Proofs.Ytehpaanpkiidaaa
/- THE CELL 'sum', in the pinned program and in every row, IS THE sha256 OF THE DUMP (.gsa) THAT YtehpaanpkiidaaaProg.lean LOADS. Nothing in Lean hashes anything: it is a label: what it is worth is what the hold of that sum in a sandbox is worth. -/
noncomputable def Try.pinned : Pinned := { name := "ytehpaanpkiidaaa", sum := "ee9ed3e10698189041dda2cdac57025f276abaa4b1636e01b7749480398c1637", checked := Try.checked }
namespace Rows
def none {H : Type} : Left H := { results := [], args := [] }

/-- 'vistalaw02.NameChecks': WHATEVER THE INPUT: true; the input reads as it did. -/
def nameChecksSpec : ChangeSpec := { name := "nameChecks", fn := fun _ => fun
  | [d] => { results := [.lit (.bool true)], args := [d] }
  | _ => none }
def nameChecksRow : OpenClaim := { program := "ytehpaanpkiidaaa", sum := "ee9ed3e10698189041dda2cdac57025f276abaa4b1636e01b7749480398c1637", func := "vista/vistalaw02.NameChecks", spec := "nameChecks", apart := false }
def NameChecksSaid : Prop := nameChecksRow.holds Try.pinned (OpenSpec.ofChange nameChecksSpec)

/-- ITS FALSE NEIGHBOUR: 'it returns false'. Refute it at one input. -/
def nameChecksWrong : ChangeSpec := { name := "nameChecks", fn := fun _ => fun
  | [d] => { results := [.lit (.bool false)], args := [d] }
  | _ => none }
def NameChecksWrongFalsely : Prop := nameChecksRow.holds Try.pinned (OpenSpec.ofChange nameChecksWrong)

/-- 'vistalaw02.NameSplits': WHATEVER THE INPUT: true; the input reads as it did. -/
def nameSplitsSpec : ChangeSpec := { name := "nameSplits", fn := fun _ => fun
  | [d] => { results := [.lit (.bool true)], args := [d] }
  | _ => none }
def nameSplitsRow : OpenClaim := { program := "ytehpaanpkiidaaa", sum := "ee9ed3e10698189041dda2cdac57025f276abaa4b1636e01b7749480398c1637", func := "vista/vistalaw02.NameSplits", spec := "nameSplits", apart := false }
def NameSplitsSaid : Prop := nameSplitsRow.holds Try.pinned (OpenSpec.ofChange nameSplitsSpec)

/-- ITS FALSE NEIGHBOUR: 'it returns false'. Refute it at one input. -/
def nameSplitsWrong : ChangeSpec := { name := "nameSplits", fn := fun _ => fun
  | [d] => { results := [.lit (.bool false)], args := [d] }
  | _ => none }
def NameSplitsWrongFalsely : Prop := nameSplitsRow.holds Try.pinned (OpenSpec.ofChange nameSplitsWrong)

/-- 'vistalaw02.NameTargets': WHATEVER THE INPUT: true; the input reads as it did. -/
def nameTargetsSpec : ChangeSpec := { name := "nameTargets", fn := fun _ => fun
  | [d] => { results := [.lit (.bool true)], args := [d] }
  | _ => none }
def nameTargetsRow : OpenClaim := { program := "ytehpaanpkiidaaa", sum := "ee9ed3e10698189041dda2cdac57025f276abaa4b1636e01b7749480398c1637", func := "vista/vistalaw02.NameTargets", spec := "nameTargets", apart := false }
def NameTargetsSaid : Prop := nameTargetsRow.holds Try.pinned (OpenSpec.ofChange nameTargetsSpec)

/-- ITS FALSE NEIGHBOUR: 'it returns false'. Refute it at one input. -/
def nameTargetsWrong : ChangeSpec := { name := "nameTargets", fn := fun _ => fun
  | [d] => { results := [.lit (.bool false)], args := [d] }
  | _ => none }
def NameTargetsWrongFalsely : Prop := nameTargetsRow.holds Try.pinned (OpenSpec.ofChange nameTargetsWrong)

/-- 'vistalaw02.NameParents': WHATEVER THE INPUT: true; the input reads as it did. -/
def nameParentsSpec : ChangeSpec := { name := "nameParents", fn := fun _ => fun
  | [d] => { results := [.lit (.bool true)], args := [d] }
  | _ => none }
def nameParentsRow : OpenClaim := { program := "ytehpaanpkiidaaa", sum := "ee9ed3e10698189041dda2cdac57025f276abaa4b1636e01b7749480398c1637", func := "vista/vistalaw02.NameParents", spec := "nameParents", apart := false }
def NameParentsSaid : Prop := nameParentsRow.holds Try.pinned (OpenSpec.ofChange nameParentsSpec)

/-- ITS FALSE NEIGHBOUR: 'it returns false'. Refute it at one input. -/
def nameParentsWrong : ChangeSpec := { name := "nameParents", fn := fun _ => fun
  | [d] => { results := [.lit (.bool false)], args := [d] }
  | _ => none }
def NameParentsWrongFalsely : Prop := nameParentsRow.holds Try.pinned (OpenSpec.ofChange nameParentsWrong)

/-- 'vistalaw02.NameJoins': WHATEVER THE INPUT: true; the input reads as it did. -/
def nameJoinsSpec : ChangeSpec := { name := "nameJoins", fn := fun _ => fun
  | [d] => { results := [.lit (.bool true)], args := [d] }
  | _ => none }
def nameJoinsRow : OpenClaim := { program := "ytehpaanpkiidaaa", sum := "ee9ed3e10698189041dda2cdac57025f276abaa4b1636e01b7749480398c1637", func := "vista/vistalaw02.NameJoins", spec := "nameJoins", apart := false }
def NameJoinsSaid : Prop := nameJoinsRow.holds Try.pinned (OpenSpec.ofChange nameJoinsSpec)

/-- ITS FALSE NEIGHBOUR: 'it returns false'. Refute it at one input. -/
def nameJoinsWrong : ChangeSpec := { name := "nameJoins", fn := fun _ => fun
  | [d] => { results := [.lit (.bool false)], args := [d] }
  | _ => none }
def NameJoinsWrongFalsely : Prop := nameJoinsRow.holds Try.pinned (OpenSpec.ofChange nameJoinsWrong)

/-- 'vistalaw02.NameSlashes': WHATEVER THE INPUT: true; the input reads as it did. -/
def nameSlashesSpec : ChangeSpec := { name := "nameSlashes", fn := fun _ => fun
  | [d1, d2] => { results := [.lit (.bool true)], args := [d1, d2] }
  | _ => none }
def nameSlashesRow : OpenClaim := { program := "ytehpaanpkiidaaa", sum := "ee9ed3e10698189041dda2cdac57025f276abaa4b1636e01b7749480398c1637", func := "vista/vistalaw02.NameSlashes", spec := "nameSlashes", apart := false }
def NameSlashesSaid : Prop := nameSlashesRow.holds Try.pinned (OpenSpec.ofChange nameSlashesSpec)

/-- ITS FALSE NEIGHBOUR: 'it returns false'. Refute it at one input. -/
def nameSlashesWrong : ChangeSpec := { name := "nameSlashes", fn := fun _ => fun
  | [d1, d2] => { results := [.lit (.bool false)], args := [d1, d2] }
  | _ => none }
def NameSlashesWrongFalsely : Prop := nameSlashesRow.holds Try.pinned (OpenSpec.ofChange nameSlashesWrong)

/- THE SECOND FORM. 'bulk': how many values and letters a reading holds, each counted each time it is reached (what is shared counts as often as it is met; a slice's spare places count too). A statement '..UptoSaid' is the law's where the arguments, and the package variables that the reading takes, are together of bulk at most 1048576: NARROWER than '..Said'. Prove '..Said' where nothing that the law and all that it calls make is longer than what came in: it says more and counts as full. Else prove '..UptoSaid'. A law counts once. -/
mutual
def uptoBulk {H : Type} : DataW H → Nat
  | .lit (.string bytes) => bytes.length + 1
  | .lit _ => 1
  | .nil => 1
  | .ptr d => uptoBulk d + 1
  | .slice elems spare => uptoBulkAll elems + uptoBulkAll spare + 1
  | .agg parts => uptoBulkAll parts + 1
  | .iface _ d => uptoBulk d + 1
  | .map entries => uptoBulkEntries entries + 1
  | .held _ => 1
def uptoBulkAll {H : Type} : List (DataW H) → Nat
  | [] => 0
  | d :: r => uptoBulk d + uptoBulkAll r
def uptoBulkEntries {H : Type} : List (Lit × DataW H) → Nat
  | [] => 0
  | x :: r => uptoBulkEntry x + uptoBulkEntries r
def uptoBulkEntry {H : Type} : Lit × DataW H → Nat
  | (.string bytes, d) => bytes.length + uptoBulk d + 1
  | (_, d) => uptoBulk d + 1
 end
def uptoSmall : (H : Type) → List (DataW H) → Bool := fun _ ds => decide (uptoBulkAll ds ≤ 1048576)
def OpenSpec.upto (s : _root_.Go.ChangeSpec) : _root_.Go.OpenSpec := { _root_.Go.OpenSpec.ofChange s with cond := some uptoSmall }

/-- 'vistalaw02.NameChecks', WHERE WHAT IT READS IS OF BULK AT MOST 1048576: true; the input reads as it did. -/
def nameChecksUptoRow : OpenClaim := { program := "ytehpaanpkiidaaa", sum := "ee9ed3e10698189041dda2cdac57025f276abaa4b1636e01b7749480398c1637", func := "vista/vistalaw02.NameChecks", spec := "nameChecks", apart := false, narrowed := true }
def NameChecksUptoSaid : Prop := nameChecksUptoRow.holds Try.pinned (OpenSpec.upto nameChecksSpec)

/-- 'vistalaw02.NameSplits', WHERE WHAT IT READS IS OF BULK AT MOST 1048576: true; the input reads as it did. -/
def nameSplitsUptoRow : OpenClaim := { program := "ytehpaanpkiidaaa", sum := "ee9ed3e10698189041dda2cdac57025f276abaa4b1636e01b7749480398c1637", func := "vista/vistalaw02.NameSplits", spec := "nameSplits", apart := false, narrowed := true }
def NameSplitsUptoSaid : Prop := nameSplitsUptoRow.holds Try.pinned (OpenSpec.upto nameSplitsSpec)

/-- 'vistalaw02.NameTargets', WHERE WHAT IT READS IS OF BULK AT MOST 1048576: true; the input reads as it did. -/
def nameTargetsUptoRow : OpenClaim := { program := "ytehpaanpkiidaaa", sum := "ee9ed3e10698189041dda2cdac57025f276abaa4b1636e01b7749480398c1637", func := "vista/vistalaw02.NameTargets", spec := "nameTargets", apart := false, narrowed := true }
def NameTargetsUptoSaid : Prop := nameTargetsUptoRow.holds Try.pinned (OpenSpec.upto nameTargetsSpec)

/-- 'vistalaw02.NameParents', WHERE WHAT IT READS IS OF BULK AT MOST 1048576: true; the input reads as it did. -/
def nameParentsUptoRow : OpenClaim := { program := "ytehpaanpkiidaaa", sum := "ee9ed3e10698189041dda2cdac57025f276abaa4b1636e01b7749480398c1637", func := "vista/vistalaw02.NameParents", spec := "nameParents", apart := false, narrowed := true }
def NameParentsUptoSaid : Prop := nameParentsUptoRow.holds Try.pinned (OpenSpec.upto nameParentsSpec)

/-- 'vistalaw02.NameJoins', WHERE WHAT IT READS IS OF BULK AT MOST 1048576: true; the input reads as it did. -/
def nameJoinsUptoRow : OpenClaim := { program := "ytehpaanpkiidaaa", sum := "ee9ed3e10698189041dda2cdac57025f276abaa4b1636e01b7749480398c1637", func := "vista/vistalaw02.NameJoins", spec := "nameJoins", apart := false, narrowed := true }
def NameJoinsUptoSaid : Prop := nameJoinsUptoRow.holds Try.pinned (OpenSpec.upto nameJoinsSpec)

/-- 'vistalaw02.NameSlashes', WHERE WHAT IT READS IS OF BULK AT MOST 1048576: true; the input reads as it did. -/
def nameSlashesUptoRow : OpenClaim := { program := "ytehpaanpkiidaaa", sum := "ee9ed3e10698189041dda2cdac57025f276abaa4b1636e01b7749480398c1637", func := "vista/vistalaw02.NameSlashes", spec := "nameSlashes", apart := false, narrowed := true }
def NameSlashesUptoSaid : Prop := nameSlashesUptoRow.holds Try.pinned (OpenSpec.upto nameSlashesSpec)

end Rows
end Go.Proofs.Ytehpaanpkiidaaa
