/-
  No cell of these rows narrows 'for every input' (looked for: loops, veiled, ifaces, maps, wideKeys, modest, calm, conditions, laid).
  DERIVED. THE GIVEN ROWS OF THIS SEAT. 4 by the template 'for every input the law returns true; each argument reads behind the call as it read before'; 0 by the template 'total and deterministic' (their statements: YtehpaanpkiidaabTotals.lean).
  GIVEN WITH THE SEED: the statements are not yours to turn. If you find one false, say at which input.
  Laid BY PROGRAM, IN A SANDBOX (cutbox-rows.mjs): the forced cells as the released guide's own fill.sh prints them over the translation f1760ce53e0f336c… (all of the seat's roots in one cut). By AI agents, Wed Nov 11 2026. No macro, syntax, notation, axiom, sorry.
-/
import Derived.Test.YtehpaanpkiidaabChecked
import GoSem.Claim
import GoSem.ClaimJoined
import GoSem.ClaimMapViews
import Derived.JoinedTies
import Derived.KernelRfl
namespace Go.Proofs.Ytehpaanpkiidaab
/- THE CELL 'sum', in the pinned program and in every row, IS THE sha256 OF THE DUMP (.gsa) THAT YtehpaanpkiidaabProg.lean LOADS. Nothing in Lean hashes anything: it is a label: what it is worth is what the hold of that sum in a sandbox is worth. -/
noncomputable def Try.pinned : Pinned := { name := "ytehpaanpkiidaab", sum := "f1760ce53e0f336c9fa9161f40ab8e577926817edd7d7930032fe7ea73f90f53", checked := Try.checked }
namespace Rows
def none {H : Type} : Left H := { results := [], args := [] }

/-- 'vistalaw02.NameLimits': WHATEVER THE INPUT: true; the input reads as it did. -/
def nameLimitsSpec : ChangeSpec := { name := "nameLimits", fn := fun _ => fun
  | [d1, d2] => { results := [.lit (.bool true)], args := [d1, d2] }
  | _ => none }
def nameLimitsRow : OpenClaim := { program := "ytehpaanpkiidaab", sum := "f1760ce53e0f336c9fa9161f40ab8e577926817edd7d7930032fe7ea73f90f53", func := "vista/vistalaw02.NameLimits", spec := "nameLimits", apart := false }
def NameLimitsSaid : Prop := nameLimitsRow.holds Try.pinned (OpenSpec.ofChange nameLimitsSpec)

/-- ITS FALSE NEIGHBOUR: 'it returns false'. Refute it at one input. -/
def nameLimitsWrong : ChangeSpec := { name := "nameLimits", fn := fun _ => fun
  | [d1, d2] => { results := [.lit (.bool false)], args := [d1, d2] }
  | _ => none }
def NameLimitsWrongFalsely : Prop := nameLimitsRow.holds Try.pinned (OpenSpec.ofChange nameLimitsWrong)

/-- 'vistalaw02.NameTwo': WHATEVER THE INPUT: true; the input reads as it did. -/
def nameTwoSpec : ChangeSpec := { name := "nameTwo", fn := fun _ => fun
  | [d] => { results := [.lit (.bool true)], args := [d] }
  | _ => none }
def nameTwoRow : OpenClaim := { program := "ytehpaanpkiidaab", sum := "f1760ce53e0f336c9fa9161f40ab8e577926817edd7d7930032fe7ea73f90f53", func := "vista/vistalaw02.NameTwo", spec := "nameTwo", apart := false }
def NameTwoSaid : Prop := nameTwoRow.holds Try.pinned (OpenSpec.ofChange nameTwoSpec)

/-- ITS FALSE NEIGHBOUR: 'it returns false'. Refute it at one input. -/
def nameTwoWrong : ChangeSpec := { name := "nameTwo", fn := fun _ => fun
  | [d] => { results := [.lit (.bool false)], args := [d] }
  | _ => none }
def NameTwoWrongFalsely : Prop := nameTwoRow.holds Try.pinned (OpenSpec.ofChange nameTwoWrong)

/-- 'vistalaw02.NameEnds': WHATEVER THE INPUT: true; the input reads as it did. -/
def nameEndsSpec : ChangeSpec := { name := "nameEnds", fn := fun _ => fun
  | [d] => { results := [.lit (.bool true)], args := [d] }
  | _ => none }
def nameEndsRow : OpenClaim := { program := "ytehpaanpkiidaab", sum := "f1760ce53e0f336c9fa9161f40ab8e577926817edd7d7930032fe7ea73f90f53", func := "vista/vistalaw02.NameEnds", spec := "nameEnds", apart := false }
def NameEndsSaid : Prop := nameEndsRow.holds Try.pinned (OpenSpec.ofChange nameEndsSpec)

/-- ITS FALSE NEIGHBOUR: 'it returns false'. Refute it at one input. -/
def nameEndsWrong : ChangeSpec := { name := "nameEnds", fn := fun _ => fun
  | [d] => { results := [.lit (.bool false)], args := [d] }
  | _ => none }
def NameEndsWrongFalsely : Prop := nameEndsRow.holds Try.pinned (OpenSpec.ofChange nameEndsWrong)

/-- 'vistalaw02.NameKept': WHATEVER THE INPUT: true; the input reads as it did. -/
def nameKeptSpec : ChangeSpec := { name := "nameKept", fn := fun _ => fun
  | [d] => { results := [.lit (.bool true)], args := [d] }
  | _ => none }
def nameKeptRow : OpenClaim := { program := "ytehpaanpkiidaab", sum := "f1760ce53e0f336c9fa9161f40ab8e577926817edd7d7930032fe7ea73f90f53", func := "vista/vistalaw02.NameKept", spec := "nameKept", apart := false }
def NameKeptSaid : Prop := nameKeptRow.holds Try.pinned (OpenSpec.ofChange nameKeptSpec)

/-- ITS FALSE NEIGHBOUR: 'it returns false'. Refute it at one input. -/
def nameKeptWrong : ChangeSpec := { name := "nameKept", fn := fun _ => fun
  | [d] => { results := [.lit (.bool false)], args := [d] }
  | _ => none }
def NameKeptWrongFalsely : Prop := nameKeptRow.holds Try.pinned (OpenSpec.ofChange nameKeptWrong)

/- THE SECOND FORM. 'bulk': how many values and letters a reading holds, each counted each time it is reached (what is shared counts as often as it is met; a slice's spare places count too). A statement '..UptoSaid' is the law's where the arguments, and the package variables that the reading takes, are together of bulk at most 1048576: NARROWER than '..Said'. Prove '..Said' where nothing that the law and all that it calls make is longer than what came in: it says more and counts as full. Else prove '..UptoSaid'. A law counts once. -/
mutual
def uptoBulk {H : Type} : DataW H → Nat
  | .lit (.string bytes) => bytes.length + 1
  | .lit _ => 1
  | .nil => 1
  | .ptr d => uptoBulk d + 1
  | .slice elems spare => uptoBulkAll elems + uptoBulkAll spare + 1
  | .agg parts => uptoBulkAll parts + 1
  | .iface _ d => uptoBulk d + 1
  | .map entries => uptoBulkEntries entries + 1
  | .held _ => 1
def uptoBulkAll {H : Type} : List (DataW H) → Nat
  | [] => 0
  | d :: r => uptoBulk d + uptoBulkAll r
def uptoBulkEntries {H : Type} : List (Lit × DataW H) → Nat
  | [] => 0
  | x :: r => uptoBulkEntry x + uptoBulkEntries r
def uptoBulkEntry {H : Type} : Lit × DataW H → Nat
  | (.string bytes, d) => bytes.length + uptoBulk d + 1
  | (_, d) => uptoBulk d + 1
 end
def uptoSmall : (H : Type) → List (DataW H) → Bool := fun _ ds => decide (uptoBulkAll ds ≤ 1048576)
def OpenSpec.upto (s : _root_.Go.ChangeSpec) : _root_.Go.OpenSpec := { _root_.Go.OpenSpec.ofChange s with cond := some uptoSmall }

/-- 'vistalaw02.NameLimits', WHERE WHAT IT READS IS OF BULK AT MOST 1048576: true; the input reads as it did. -/
def nameLimitsUptoRow : OpenClaim := { program := "ytehpaanpkiidaab", sum := "f1760ce53e0f336c9fa9161f40ab8e577926817edd7d7930032fe7ea73f90f53", func := "vista/vistalaw02.NameLimits", spec := "nameLimits", apart := false, narrowed := true }
def NameLimitsUptoSaid : Prop := nameLimitsUptoRow.holds Try.pinned (OpenSpec.upto nameLimitsSpec)

/-- 'vistalaw02.NameTwo', WHERE WHAT IT READS IS OF BULK AT MOST 1048576: true; the input reads as it did. -/
def nameTwoUptoRow : OpenClaim := { program := "ytehpaanpkiidaab", sum := "f1760ce53e0f336c9fa9161f40ab8e577926817edd7d7930032fe7ea73f90f53", func := "vista/vistalaw02.NameTwo", spec := "nameTwo", apart := false, narrowed := true }
def NameTwoUptoSaid : Prop := nameTwoUptoRow.holds Try.pinned (OpenSpec.upto nameTwoSpec)

/-- 'vistalaw02.NameEnds', WHERE WHAT IT READS IS OF BULK AT MOST 1048576: true; the input reads as it did. -/
def nameEndsUptoRow : OpenClaim := { program := "ytehpaanpkiidaab", sum := "f1760ce53e0f336c9fa9161f40ab8e577926817edd7d7930032fe7ea73f90f53", func := "vista/vistalaw02.NameEnds", spec := "nameEnds", apart := false, narrowed := true }
def NameEndsUptoSaid : Prop := nameEndsUptoRow.holds Try.pinned (OpenSpec.upto nameEndsSpec)

/-- 'vistalaw02.NameKept', WHERE WHAT IT READS IS OF BULK AT MOST 1048576: true; the input reads as it did. -/
def nameKeptUptoRow : OpenClaim := { program := "ytehpaanpkiidaab", sum := "f1760ce53e0f336c9fa9161f40ab8e577926817edd7d7930032fe7ea73f90f53", func := "vista/vistalaw02.NameKept", spec := "nameKept", apart := false, narrowed := true }
def NameKeptUptoSaid : Prop := nameKeptUptoRow.holds Try.pinned (OpenSpec.upto nameKeptSpec)

end Rows
end Go.Proofs.Ytehpaanpkiidaab
