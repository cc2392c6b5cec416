/- The program's tree and the document's, side by side. -/
import Derived.Test.YtjelggpkeogebaaTsH
import Derived.Test.YtjelggpkeogebaaTqF
import Derived.Test.YtjelggpkeogebaaTqB
namespace Go.Proofs.Ytjelggpkeogebaa
open Go.RowKit
attribute [local go_sem high] eqK' neqK' eqE neqE eqN neqN guardK guardE guardN

structure Twin (w0 w : World) (t : Nat) (s : Tr) (k : Int) (d : Nat) (D : Tr) : Prop where
  one : Law w0 w t s k
  two : IsT w d D
  likes : Likes s D
  off : ∀ q, s.v.ownBlock = some q → D.v.ownBlock ≠ some q
theorem Twin.below {w0 w w' : World} {t d : Nat} {s D : Tr} {k : Int} (h : Twin w0 w t s k d D) (hb : Below w.heap.size w w') : Twin w0 w' t s k d D := ⟨h.one.below hb, h.two.below hb, h.likes, h.off⟩
/-- between the program's mutation and the document's -/
structure Mid (w0 w : World) (t : Nat) (s s' : Tr) (k : Int) (d : Nat) (D : Tr) (o : Opn) (v kv : Value) : Prop where
  one : Law w0 w t s' (k + 1)
  two : IsT w d D
  likes : Likes s D
  off : ∀ q, s'.v.ownBlock = some q → D.v.ownBlock ≠ some q
  wf : WF Mn s.es s.next
  step : Step Mn s s' o
  told : Row7 w w0.heap.size v (toldE Mn s o)
  keys : RowK w w0.heap.size kv (toldK Mn s o)
theorem Twin.mid {w0 w w' : World} {t d : Nat} {s D : Tr} {k : Int} {o : Opn} {e : Ending} (h : Twin w0 w t s k d D) (ha : AppR Mn t s o w w' e) : ∃ v kv s', e = .returned (.tuple #[v, kv, .int .i64 (doesE Mn s o)]) ∧ Mid w0 w' t s s' k d D o v kv := by
  obtain ⟨v, kv, s', he, hps, hst, hr, hk, hoff⟩ := ha
  refine ⟨v, kv, s', he, ⟨h.one.step hps hst, h.two.moved (hps.keep h.two.tt.lt (h.two.tt.ne h.one.own.is.tt (by decide)) (fun e => (h.one.own.is.tv e).ne h.two.tt (by decide) rfl)) (fun q hq => hps.keep (h.two.tv hq).lt ((h.two.tv hq).ne h.one.own.is.tt (by decide)) (fun e => h.off q e hq)), h.likes, fun q hq e => ?_, h.one.good.wf, hst, owns_le hr h.one.bel.size, owns_le hk h.one.bel.size⟩⟩
  rcases hps.v with hv | hv
  · exact h.off q (by rw [← hv]; exact hq) e
  · have := hv q hq; have := (h.two.tv e).lt; omega
theorem Mid.doc {w0 w w' : World} {t d : Nat} {s s' D : Tr} {k : Int} {o : Opn} {v kv : Value} {e : Ending} (h : Mid w0 w t s s' k d D o v kv) (ha : AppD d D o w w' e) : ∃ d' D' ev kv', e = .returned (.tuple #[.pointer (some ⟨d', 0, none⟩), ev, kv', .int .i64 (doesE Mn s o)]) ∧ Twin w0 w' t s' (k + 1) d' D' ∧ Row7 w' w0.heap.size ev (toldE Mn s o) ∧ RowK w' w0.heap.size kv' (toldK Mn s o) ∧ Below w.heap.size w w' := by
  have hE := doesE_perm h.wf h.likes.es o
  rcases ha with ⟨hz, he, hb⟩ | ⟨hz, d', v', ev, kv', he, hi, hd, hv, hr, hk, hb⟩
  · rw [← hE] at hz he
    have hn := h.step.no hz
    refine ⟨d, D, _, _, he, ⟨h.one.below hb, h.two.below hb, ⟨by rw [hn.1]; exact h.likes.es, by rw [hn.2.1]; exact h.likes.vers, by rw [hn.2.2]; exact h.likes.next⟩, h.off⟩, ?_, ?_, hb⟩
    · unfold toldE; rw [if_neg hz]; exact World.ownsRow_nil _ _ _ _
    · unfold toldK; rw [if_neg hz]; exact World.ownsRow_nil _ _ _ _
  · rw [← hE] at hz
    have hy := h.step.yes hz
    refine ⟨d', ⟨v', doesL D o, D.vers + 1, doesN D o⟩, ev, kv', by rw [he, hz], ⟨h.one.below hb, hi, h.likes.step h.wf hy.1 hy.2.1 hy.2.2 rfl rfl rfl, fun q hq e => ?_⟩, ?_, ?_, hb⟩
    · have := hv q e; have := (h.one.own.is.tv hq).lt; omega
    · unfold toldE; rw [if_pos hz, h.likes.tell h.wf hz]; exact owns_le hr h.one.bel.size
    · unfold toldK; rw [if_pos hz]; exact owns_le hk h.one.bel.size
end Go.Proofs.Ytjelggpkeogebaa
