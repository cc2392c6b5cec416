/- A law's own variable turned beside its tree. -/
import Derived.Test.YtjelggpkeogebaaTqE
namespace Go.Proofs.Ytjelggpkeogebaa
open Go.RowKit

theorem below_turn {W w : World} {b i : Nat} {u : Value} {cs : Array Value} {ty : TypeId} (h : Below W.heap.size W w) (hb : W.heap[b]? = some (.cells cs ty (0, 0))) : Below (W.setCell ⟨b, i, none⟩ u).heap.size (W.setCell ⟨b, i, none⟩ u) (w.setCell ⟨b, i, none⟩ u) := by
  have hz : (W.setCell ⟨b, i, none⟩ u).heap.size = W.heap.size := by simp [World.setCell]
  have hz' : (w.setCell ⟨b, i, none⟩ u).heap.size = w.heap.size := by simp [World.setCell]
  have hlt := (Array.getElem?_eq_some_iff.1 hb).1
  refine ⟨h.os, h.tape, h.output, by rw [hz, hz']; exact h.size, fun k hk => ?_⟩
  rw [hz] at hk
  by_cases e : k = b
  · subst e
    rw [heap_set hb i u, heap_set ((h.block k hk).trans hb) i u]
  · rw [heap_set_ne e, heap_set_ne e]; exact h.block k hk
theorem Law.turn {W w : World} {t : Nat} {s : Tr} {k : Int} {b i : Nat} {u : Value} {cs : Array Value} {ty : TypeId} (h : Law W w t s k) (hb : W.heap[b]? = some (.cells cs ty (0, 0))) : Law (W.setCell ⟨b, i, none⟩ u) (w.setCell ⟨b, i, none⟩ u) t s k := by
  have hz : (W.setCell ⟨b, i, none⟩ u).heap.size = W.heap.size := by simp [World.setCell]
  have hlt := (Array.getElem?_eq_some_iff.1 hb).1
  have ht := h.own.t0
  refine ⟨⟨h.own.is.moved (heap_set_ne (by omega)) (fun q hq => heap_set_ne (by have := h.own.v0 q hq; omega)), by rw [hz]; exact ht, by rw [hz]; exact h.own.v0⟩, below_turn h.bel hb, h.good⟩
theorem Lst.turn {B : Nat} {w : World} {s : Tr} {v : Value} {es : List En} {b i : Nat} {u : Value} (h : Lst B w s v es) (hb : b < B) : Lst B (w.setCell ⟨b, i, none⟩ u) s v es :=
  ⟨owns_moved h.row fun q hq => heap_set_ne (by have := (World.ownsRow.lt h.row q hq).1; omega), h.off⟩
/-- Apply, on a law's tree -/
theorem Law.apply {w0 w : World} {t : Nat} {s : Tr} {k : Int} (h : Law w0 w t s k) (o : Opn) (hk : k ≤ 4000000000000000000) : Calls Try.prog 10 #[.pointer (some ⟨t, 0, none⟩), .agg o.arr] w fun e w' => AppR Mn t s o w w' e := apply_g t s o k w h.own.is h.good hk
/-- what a mutation leaves to a law: what is told, the tree, its lists -/
structure Did (w0 w : World) (t : Nat) (s s' : Tr) (k : Int) (o : Opn) (v kv : Value) : Prop where
  law : Law w0 w t s' (k + 1)
  step : Step Mn s s' o
  told : Lst w0.heap.size w s' v (toldE Mn s o)
  keys : RowK w w0.heap.size kv (toldK Mn s o)
theorem Law.did {w0 w w' : World} {t : Nat} {s : Tr} {k : Int} {o : Opn} {e : Ending} (h : Law w0 w t s k) (ha : AppR Mn t s o w w' e) : ∃ v kv s', e = .returned (.tuple #[v, kv, .int .i64 (doesE Mn s o)]) ∧ Did w0 w' t s s' k o v kv ∧ PS w w' t s s' := by
  obtain ⟨v, kv, s', he, hps, hst, hr, hk, hoff⟩ := ha
  exact ⟨v, kv, s', he, ⟨h.step hps hst, hst, ⟨owns_le hr h.bel.size, hoff⟩, owns_le hk h.bel.size⟩, hps⟩
theorem Did.below {w0 w w' : World} {t : Nat} {s s' : Tr} {k : Int} {o : Opn} {v kv : Value} (h : Did w0 w t s s' k o v kv) (hb : Below w.heap.size w w') : Did w0 w' t s s' k o v kv := ⟨h.law.below hb, h.step, h.told.below hb, h.keys.below hb⟩
theorem keys_step {B : Nat} {w w' : World} {t : Nat} {s s' : Tr} {v : Value} {ks : List Ky} (h : RowK w B v ks) (hi : IsP w t s) (k : PS w w' t s s') : RowK w' B v ks :=
  owns_moved h fun q hq => k.keep (Tag.own h hq).lt ((Tag.own h hq).ne hi.tt (by decide)) (fun e => (Tag.own h hq).ne (hi.tv e) (by decide) rfl)
end Go.Proofs.Ytjelggpkeogebaa
