/- Lists that a law has beside a tree. -/
import Derived.Test.YtjelggpkeogebaaTqD
import Derived.Test.YtjelggpkeogebaaTqA
namespace Go.Proofs.Ytjelggpkeogebaa
open Go.RowKit

/-- a list of entries that is not the tree's -/
structure Lst (B : Nat) (w : World) (s : Tr) (v : Value) (es : List En) : Prop where
  row : Row7 w B v es
  off : ∀ q, v.ownBlock = some q → s.v.ownBlock ≠ some q
theorem Lst.below {B : Nat} {w w' : World} {s : Tr} {v : Value} {es : List En} (h : Lst B w s v es) (hb : Below w.heap.size w w') : Lst B w' s v es := ⟨h.row.below hb, h.off⟩
theorem Lst.step {B : Nat} {w w' : World} {t : Nat} {s s' : Tr} {v : Value} {es : List En} (h : Lst B w s v es) (hi : IsP w t s) (k : PS w w' t s s') : Lst B w' s' v es :=
  ⟨owns_moved h.row fun q hq => k.keep (Tag.own h.row hq).lt ((Tag.own h.row hq).ne hi.tt (by decide)) (h.off q hq), fun q hq => by
    rcases k.v with e | e
    · rw [e]; exact h.off q hq
    · intro hh; have := e q hh; have := (Tag.own h.row hq).lt; omega⟩
theorem Lst.of {B : Nat} {w w' : World} {t : Nat} {s : Tr} {v : Value} {es : List En} (hi : IsP w t s) (h : Row7 w' w.heap.size v es) (hB : B ≤ w.heap.size) : Lst B w' s v es :=
  ⟨owns_le h hB, fun q hq e => by have := (World.ownsRow.lt h q hq).1; have := (hi.tv e).lt; omega⟩
/-- the state of a law that has one tree -/
structure Law (w0 w : World) (t : Nat) (s : Tr) (k : Int) : Prop where
  own : Own5 w0.heap.size w t s
  bel : Below w0.heap.size w0 w
  good : Good Mn s k
theorem Law.below {w0 w w' : World} {t : Nat} {s : Tr} {k : Int} (h : Law w0 w t s k) (hb : Below w.heap.size w w') : Law w0 w' t s k := ⟨h.own.below hb, chainB h.bel hb, h.good⟩
theorem Law.alloc {w0 w : World} {t : Nat} {s : Tr} {k : Int} (h : Law w0 w t s k) (o : Obj) : Law w0 (w.alloc o) t s k := h.below (below_alloc _ _)
theorem Law.step {w0 w w' : World} {t : Nat} {s s' : Tr} {k : Int} {o : Opn} (h : Law w0 w t s k) (p : PS w w' t s s') (hs : Step Mn s s' o) : Law w0 w' t s' (k + 1) :=
  ⟨(h.own.step h.bel h.bel.size p).1, (h.own.step h.bel h.bel.size p).2, (h.good.step o).alike hs.alike.symm⟩
theorem Law.of {ops : List Opn} {w w' : World} {e : Ending} (h : BehR ops w w' e) : ∃ t s, e = .returned (.tuple #[.pointer (some ⟨t, 0, none⟩), .bool true]) ∧ Law w w' t s ops.length := by
  obtain ⟨t, s, he, ho, ha, hb⟩ := h
  exact ⟨t, s, he, ho, hb, (good_behind Mn ops).alike ha.symm⟩
/-- two lists that are the same -/
theorem same_yes {v v' : Value} {l : List En} {B B' : Nat} {w : World} (h : Row7 w B v l) (h' : Row7 w B' v' l) (hl : l.length ≤ 1000000000) :
    Calls Try.prog 12 #[v, v'] w fun e w' => e = .returned (.bool true) ∧ Below w.heap.size w w' := by
  have := sameE_any v v' l l B B' w h h' hl hl
  rw [(sameEs_iff l l).2 rfl] at this
  exact this
theorem Law.len {w0 w : World} {t : Nat} {s : Tr} {k : Int} (h : Law w0 w t s k) : s.es.length ≤ 1000000000 := by have := h.good.wf.len; omega
/-- what is refused turns nothing -/
theorem Step.no {s s' : Tr} {o : Opn} (h : Step Mn s s' o) (hE : doesE Mn s o ≠ 0) : s'.es = s.es ∧ s'.vers = s.vers ∧ s'.next = s.next := ⟨by rw [h.es, if_neg hE], by rw [h.vers, if_neg hE], by rw [h.next, if_neg hE]⟩
theorem Step.yes {s s' : Tr} {o : Opn} (h : Step Mn s s' o) (hE : doesE Mn s o = 0) : s'.es = srt (doesL s o) ∧ s'.vers = s.vers + 1 ∧ s'.next = doesN s o := ⟨by rw [h.es, if_pos hE], by rw [h.vers, if_pos hE], by rw [h.next, if_pos hE]⟩
theorem does_named {s : Tr} {o : Opn} (h5 : 5 ≤ o.kind) (h11 : o.kind ≤ 11) (hn : namedE Mn s.es o.dir o.nm ≠ 0) : doesE Mn s o = namedE Mn s.es o.dir o.nm := by
  unfold doesE; rw [if_neg (by omega), if_pos hn]
end Go.Proofs.Ytjelggpkeogebaa
