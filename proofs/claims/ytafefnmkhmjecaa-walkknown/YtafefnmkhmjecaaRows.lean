/-
  No cell of these rows narrows 'for every input' (looked for: loops, veiled, ifaces, maps, wideKeys, modest, calm, conditions, laid).
  DERIVED. THE GIVEN ROWS OF THIS SEAT. 4 by the template 'for every input the law returns true; each argument reads behind the call as it read before'; 0 by the template 'total and deterministic' (their statements: YtafefnmkhmjecaaTotals.lean).
  GIVEN WITH THE SEED: the statements are not yours to turn. If you find one false, say at which input.
  Laid BY PROGRAM, IN A SANDBOX (cutbox-rows.mjs): the forced cells as the released guide's own fill.sh prints them over the translation 0a1b980ca8fd3cd2… (all of the seat's roots in one cut). By AI agents, Wed Nov 11 2026. No macro, syntax, notation, axiom, sorry.
-/
import Derived.Test.YtafefnmkhmjecaaChecked
import GoSem.Claim
import GoSem.ClaimJoined
import GoSem.ClaimMapViews
import Derived.JoinedTies
import Derived.KernelRfl
namespace Go.Proofs.Ytafefnmkhmjecaa
/- THE CELL 'sum', in the pinned program and in every row, IS THE sha256 OF THE DUMP (.gsa) THAT YtafefnmkhmjecaaProg.lean LOADS. Nothing in Lean hashes anything: it is a label: what it is worth is what the hold of that sum in a sandbox is worth. -/
noncomputable def Try.pinned : Pinned := { name := "ytafefnmkhmjecaa", sum := "0a1b980ca8fd3cd2b2aef969a666b1c1c4c001526bb473bf4416fedf92eff51f", checked := Try.checked }
namespace Rows
def none {H : Type} : Left H := { results := [], args := [] }

/-- 'vistalaw14.WalkHome': WHATEVER THE INPUT: true; the input reads as it did. -/
def walkHomeSpec : ChangeSpec := { name := "walkHome", fn := fun _ => fun
  | [d1, d2, d3, d4] => { results := [.lit (.bool true)], args := [d1, d2, d3, d4] }
  | _ => none }
def walkHomeRow : OpenClaim := { program := "ytafefnmkhmjecaa", sum := "0a1b980ca8fd3cd2b2aef969a666b1c1c4c001526bb473bf4416fedf92eff51f", func := "vista/vistalaw14.WalkHome", spec := "walkHome", unfollowed := true, recurses := true, plainKeys := false, apart := false }
def WalkHomeSaid : Prop := walkHomeRow.holds Try.pinned (OpenSpec.ofChange walkHomeSpec)

/-- ITS FALSE NEIGHBOUR: 'it returns false'. Refute it at one input. -/
def walkHomeWrong : ChangeSpec := { name := "walkHome", fn := fun _ => fun
  | [d1, d2, d3, d4] => { results := [.lit (.bool false)], args := [d1, d2, d3, d4] }
  | _ => none }
def WalkHomeWrongFalsely : Prop := walkHomeRow.holds Try.pinned (OpenSpec.ofChange walkHomeWrong)

/-- 'vistalaw14.WalkLinks': WHATEVER THE INPUT: true; the input reads as it did. -/
def walkLinksSpec : ChangeSpec := { name := "walkLinks", fn := fun _ => fun
  | [d1, d2] => { results := [.lit (.bool true)], args := [d1, d2] }
  | _ => none }
def walkLinksRow : OpenClaim := { program := "ytafefnmkhmjecaa", sum := "0a1b980ca8fd3cd2b2aef969a666b1c1c4c001526bb473bf4416fedf92eff51f", func := "vista/vistalaw14.WalkLinks", spec := "walkLinks", unfollowed := true, recurses := true, plainKeys := false, apart := false }
def WalkLinksSaid : Prop := walkLinksRow.holds Try.pinned (OpenSpec.ofChange walkLinksSpec)

/-- ITS FALSE NEIGHBOUR: 'it returns false'. Refute it at one input. -/
def walkLinksWrong : ChangeSpec := { name := "walkLinks", fn := fun _ => fun
  | [d1, d2] => { results := [.lit (.bool false)], args := [d1, d2] }
  | _ => none }
def WalkLinksWrongFalsely : Prop := walkLinksRow.holds Try.pinned (OpenSpec.ofChange walkLinksWrong)

/-- 'vistalaw14.WalkWants': WHATEVER THE INPUT: true; the input reads as it did. -/
def walkWantsSpec : ChangeSpec := { name := "walkWants", fn := fun _ => fun
  | [d1, d2, d3, d4] => { results := [.lit (.bool true)], args := [d1, d2, d3, d4] }
  | _ => none }
def walkWantsRow : OpenClaim := { program := "ytafefnmkhmjecaa", sum := "0a1b980ca8fd3cd2b2aef969a666b1c1c4c001526bb473bf4416fedf92eff51f", func := "vista/vistalaw14.WalkWants", spec := "walkWants", unfollowed := true, recurses := true, plainKeys := false, apart := false }
def WalkWantsSaid : Prop := walkWantsRow.holds Try.pinned (OpenSpec.ofChange walkWantsSpec)

/-- ITS FALSE NEIGHBOUR: 'it returns false'. Refute it at one input. -/
def walkWantsWrong : ChangeSpec := { name := "walkWants", fn := fun _ => fun
  | [d1, d2, d3, d4] => { results := [.lit (.bool false)], args := [d1, d2, d3, d4] }
  | _ => none }
def WalkWantsWrongFalsely : Prop := walkWantsRow.holds Try.pinned (OpenSpec.ofChange walkWantsWrong)

/-- 'vistalaw14.WalkKnown': WHATEVER THE INPUT: true; the input reads as it did. -/
def walkKnownSpec : ChangeSpec := { name := "walkKnown", fn := fun _ => fun
  | [d1, d2, d3, d4, d5] => { results := [.lit (.bool true)], args := [d1, d2, d3, d4, d5] }
  | _ => none }
def walkKnownRow : OpenClaim := { program := "ytafefnmkhmjecaa", sum := "0a1b980ca8fd3cd2b2aef969a666b1c1c4c001526bb473bf4416fedf92eff51f", func := "vista/vistalaw14.WalkKnown", spec := "walkKnown", unfollowed := true, recurses := true, plainKeys := false, apart := false }
def WalkKnownSaid : Prop := walkKnownRow.holds Try.pinned (OpenSpec.ofChange walkKnownSpec)

/-- ITS FALSE NEIGHBOUR: 'it returns false'. Refute it at one input. -/
def walkKnownWrong : ChangeSpec := { name := "walkKnown", fn := fun _ => fun
  | [d1, d2, d3, d4, d5] => { results := [.lit (.bool false)], args := [d1, d2, d3, d4, d5] }
  | _ => none }
def WalkKnownWrongFalsely : Prop := walkKnownRow.holds Try.pinned (OpenSpec.ofChange walkKnownWrong)

/- THE SECOND FORM. 'bulk': how many values and letters a reading holds, each counted each time it is reached (what is shared counts as often as it is met; a slice's spare places count too). A statement '..UptoSaid' is the law's where the arguments, and the package variables that the reading takes, are together of bulk at most 1048576: NARROWER than '..Said'. Prove '..Said' where nothing that the law and all that it calls make is longer than what came in: it says more and counts as full. Else prove '..UptoSaid'. A law counts once. -/
mutual
def uptoBulk {H : Type} : DataW H → Nat
  | .lit (.string bytes) => bytes.length + 1
  | .lit _ => 1
  | .nil => 1
  | .ptr d => uptoBulk d + 1
  | .slice elems spare => uptoBulkAll elems + uptoBulkAll spare + 1
  | .agg parts => uptoBulkAll parts + 1
  | .iface _ d => uptoBulk d + 1
  | .map entries => uptoBulkEntries entries + 1
  | .held _ => 1
def uptoBulkAll {H : Type} : List (DataW H) → Nat
  | [] => 0
  | d :: r => uptoBulk d + uptoBulkAll r
def uptoBulkEntries {H : Type} : List (Lit × DataW H) → Nat
  | [] => 0
  | x :: r => uptoBulkEntry x + uptoBulkEntries r
def uptoBulkEntry {H : Type} : Lit × DataW H → Nat
  | (.string bytes, d) => bytes.length + uptoBulk d + 1
  | (_, d) => uptoBulk d + 1
 end
def uptoSmall : (H : Type) → List (DataW H) → Bool := fun _ ds => decide (uptoBulkAll ds ≤ 1048576)
def OpenSpec.upto (s : _root_.Go.ChangeSpec) : _root_.Go.OpenSpec := { _root_.Go.OpenSpec.ofChange s with cond := some uptoSmall }

/-- 'vistalaw14.WalkHome', WHERE WHAT IT READS IS OF BULK AT MOST 1048576: true; the input reads as it did. -/
def walkHomeUptoRow : OpenClaim := { program := "ytafefnmkhmjecaa", sum := "0a1b980ca8fd3cd2b2aef969a666b1c1c4c001526bb473bf4416fedf92eff51f", func := "vista/vistalaw14.WalkHome", spec := "walkHome", unfollowed := true, recurses := true, plainKeys := false, apart := false, narrowed := true }
def WalkHomeUptoSaid : Prop := walkHomeUptoRow.holds Try.pinned (OpenSpec.upto walkHomeSpec)

/-- 'vistalaw14.WalkLinks', WHERE WHAT IT READS IS OF BULK AT MOST 1048576: true; the input reads as it did. -/
def walkLinksUptoRow : OpenClaim := { program := "ytafefnmkhmjecaa", sum := "0a1b980ca8fd3cd2b2aef969a666b1c1c4c001526bb473bf4416fedf92eff51f", func := "vista/vistalaw14.WalkLinks", spec := "walkLinks", unfollowed := true, recurses := true, plainKeys := false, apart := false, narrowed := true }
def WalkLinksUptoSaid : Prop := walkLinksUptoRow.holds Try.pinned (OpenSpec.upto walkLinksSpec)

/-- 'vistalaw14.WalkWants', WHERE WHAT IT READS IS OF BULK AT MOST 1048576: true; the input reads as it did. -/
def walkWantsUptoRow : OpenClaim := { program := "ytafefnmkhmjecaa", sum := "0a1b980ca8fd3cd2b2aef969a666b1c1c4c001526bb473bf4416fedf92eff51f", func := "vista/vistalaw14.WalkWants", spec := "walkWants", unfollowed := true, recurses := true, plainKeys := false, apart := false, narrowed := true }
def WalkWantsUptoSaid : Prop := walkWantsUptoRow.holds Try.pinned (OpenSpec.upto walkWantsSpec)

/-- 'vistalaw14.WalkKnown', WHERE WHAT IT READS IS OF BULK AT MOST 1048576: true; the input reads as it did. -/
def walkKnownUptoRow : OpenClaim := { program := "ytafefnmkhmjecaa", sum := "0a1b980ca8fd3cd2b2aef969a666b1c1c4c001526bb473bf4416fedf92eff51f", func := "vista/vistalaw14.WalkKnown", spec := "walkKnown", unfollowed := true, recurses := true, plainKeys := false, apart := false, narrowed := true }
def WalkKnownUptoSaid : Prop := walkKnownUptoRow.holds Try.pinned (OpenSpec.upto walkKnownSpec)

end Rows
end Go.Proofs.Ytafefnmkhmjecaa
