/- Two trees side by side. -/
import Derived.Test.YtjkgafbknjpjbabTqF
namespace Go.Proofs.Ytjkgafbknjpjbab
open Go.RowKit

structure Pair (w0 w : World) (t : Nat) (s : Tr) (k : Int) (u : Nat) (r : Tr) (k' : Int) : Prop where
  one : Law w0 w t s k
  two : Law w0 w u r k'
  ne : t ≠ u
  off : ∀ q, s.v.ownBlock = some q → r.v.ownBlock ≠ some q
theorem Pair.symm {w0 w : World} {t u : Nat} {s r : Tr} {k k' : Int} (h : Pair w0 w t s k u r k') : Pair w0 w u r k' t s k := ⟨h.two, h.one, fun e => h.ne e.symm, fun q hq e => h.off q e hq⟩
theorem Pair.below {w0 w w' : World} {t u : Nat} {s r : Tr} {k k' : Int} (h : Pair w0 w t s k u r k') (hb : Below w.heap.size w w') : Pair w0 w' t s k u r k' := ⟨h.one.below hb, h.two.below hb, h.ne, h.off⟩
/-- a mutation of the first tree: the second is as it was, and what is told lies beside both -/
structure Did2 (w0 w' : World) (t : Nat) (s s' : Tr) (k : Int) (u : Nat) (r : Tr) (k' : Int) (o : Opn) (v kv : Value) : Prop where
  pair : Pair w0 w' t s' (k + 1) u r k'
  step : Step Mn s s' o
  told : Lst w0.heap.size w' s' v (toldE Mn s o)
  told2 : Lst w0.heap.size w' r v (toldE Mn s o)
  keys : RowK w' w0.heap.size kv (toldK Mn s o)
theorem Pair.did {w0 w w' : World} {t u : Nat} {s r : Tr} {k k' : Int} {o : Opn} {e : Ending} (h : Pair w0 w t s k u r k') (ha : AppR Mn t s o w w' e) : ∃ v kv s', e = .returned (.tuple #[v, kv, .int .i64 (doesE Mn s o)]) ∧ Did2 w0 w' t s s' k u r k' o v kv ∧ PS w w' t s s' := by
  obtain ⟨v, kv, s', he, hps, hst, hr, hk, hoff⟩ := ha
  have hl := h.one.step hps hst
  have hu : w'.heap[u]? = w.heap[u]? := hps.keep h.two.own.is.tt.lt (fun e => h.ne e.symm) (fun e => (h.one.own.is.tv e).ne h.two.own.is.tt (by decide) rfl)
  have hv : ∀ q, r.v.ownBlock = some q → w'.heap[q]? = w.heap[q]? := fun q hq => hps.keep (h.two.own.is.tv hq).lt ((h.two.own.is.tv hq).ne h.one.own.is.tt (by decide)) (fun e => h.off q e hq)
  have h2 : Law w0 w' u r k' := ⟨⟨h.two.own.is.moved hu hv, h.two.own.t0, h.two.own.v0⟩, hl.bel, h.two.good⟩
  refine ⟨v, kv, s', he, ⟨⟨hl, h2, h.ne, fun q hq e => ?_⟩, hst, ⟨owns_le hr h.one.bel.size, hoff⟩, ⟨owns_le hr h.one.bel.size, fun q hq e => ?_⟩, owns_le hk h.one.bel.size⟩, hps⟩
  · rcases hps.v with hv' | hv'
    · exact h.off q (by rw [← hv']; exact hq) e
    · have := hv' q hq; have := (h.two.own.is.tv e).lt; omega
  · have := (World.ownsRow.lt hr q hq).1; have := (h.two.own.is.tv e).lt; omega
theorem toldE_alike {s r : Tr} (h : Alike s r) (o : Opn) : toldE Mn s o = toldE Mn r o := by unfold toldE; rw [doesE_eq Mn h.es, tellL_eq h]
theorem toldK_alike {s r : Tr} (h : Alike s r) (o : Opn) : toldK Mn s o = toldK Mn r o := by unfold toldK; rw [doesE_eq Mn h.es]
theorem Step.both {s r s' r' : Tr} {o : Opn} (h : Alike s r) (h1 : Step Mn s s' o) (h2 : Step Mn r r' o) : Alike s' r' := h1.alike.trans ((stepT_alike Mn h o).trans h2.alike.symm)
end Go.Proofs.Ytjkgafbknjpjbab
