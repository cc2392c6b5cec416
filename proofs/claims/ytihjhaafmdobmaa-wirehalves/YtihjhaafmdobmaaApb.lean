/- append of bytes to bytes of the call's own; of one byte. -/
import Derived.Test.YtihjhaafmdobmaaBgP
namespace Go.Proofs.Ytihjhaafmdobmaa
open Go.RowKit Go.Lib

theorem Try.infoUy : (Try.prog.info? 5).map (fun i => (i.zero, i.size, i.bytes)) = some (some (.int .u8 0), 1, 1) := by kernel_rfl
theorem below_owny {base : Nat} {w w' : World} {v : Value} {l : List Int} (h : OwnB w base v l) (hg : w.grownBy w' v.ownBlock) (hb : base ≤ w.heap.size) : Below base w w' :=
  ⟨hg.os, hg.tape, hg.output, hg.size, fun k hk => hg.block k (by omega) (fun e => by have := (h.at k e.symm).1; omega)⟩

theorem wpList_apy {w : World} {ops : Array Oper} {rest : List Oper} {o : Oper} {a : Act} {Q : Exit → Act → World → Prop} (hgd : o.guard = none) (s x : Operand)
    (ho : o.op = .call { callee := .builtin .append, args := #[s, x], argTypes := #[53, 53] }) (base : Nat) (v : Value) (l : List Int) (hs : a.eval s = v) (hown : OwnB w base v l)
    (vx : Value) (m : List Int) (hx : a.eval x = vx) (hm : RB w vx m) (hlen : l.length + m.length ≤ 140737488351232) (hbase : base ≤ w.heap.size)
    (h : ∀ v' w', OwnB w' base v' (l ++ m) → Below base w w' → (v'.ownBlock = v.ownBlock ∨ v'.ownBlock = some w.heap.size) → wpList Try.prog ops Q rest (a.put o.dst v') w') : wpList Try.prog ops Q (o :: rest) a w := by
  obtain ⟨i0, hi0, hz0, hz1, hz2⟩ := info_parts Try.infoUy
  obtain ⟨ax, cx, rfl, _⟩ := id hm
  rcases hm.src with ⟨rfl, rfl⟩ | ⟨ad, rfl, hsrc⟩
  · refine wpList_plain hgd fun K hK => ?_
    have hrun := run_append_owned_none (P := Try.prog) (w := w) base 53 o.type 5 i0 1 Try.underlying53 hi0 v l.length (ub l) hown
    obtain ⟨a1, c1, e1⟩ := owns_len hown
    have hx' : a.eval x = .slice none 0 cx := hx
    have hr2 : (Builtin.append_ #[53, 53] o.type #[v, .slice none 0 cx]).run Try.prog w = .ok v w := by
      rw [← hrun]; rfl
    unfold Oper.wp
    simp [execOp, ho, resolve, invoke, builtin, hs, hx', hr2, Result.andThen]
    exact hK _ _ (h v w (by rw [List.append_nil]; exact hown) (Below.refl _ _) (.inl rfl))
  · refine wpList_append_own_at _ hgd s x 53 ho base 5 i0 (.int .u8 0) 1 1 Try.underlying53 hi0 hz0 hz1 hz2 rfl (by decide) v l.length (ub l) hs hown ad m.length cx (ub m) hx (by rw [ub_len, Nat.mul_one]) hsrc (ub_one m) (by unfold maxLen; omega) (by omega) hbase ?_
    intro v' w' h1 h2 _ h4
    refine h v' w' ?_ (below_owny hown h2 hbase) h4
    unfold OwnB ub
    rw [List.length_append, List.map_append]
    exact h1
theorem RB.oney (w : World) (x : Int) (t : TypeId) : RB (w.alloc (.cells #[.int .u8 x] t)) (.slice (some ⟨w.heap.size, 0, none⟩) 1 1) [x] :=
  ⟨_, _, rfl, .inr ⟨w.heap.size, 0, rfl, by simp, fun i y hy => by
    match i, hy with
    | 0, hy => simp at hy; subst hy; simp⟩⟩
theorem OwnB.alloc {w : World} {base : Nat} {v : Value} {l : List Int} (h : OwnB w base v l) (o : Obj) : OwnB (w.alloc o) base v l := h.below (below_alloc w o)
/-- the same as one step of a region that draws -/
theorem step_apy {w : World} {ops : Array Oper} {o : Oper} {a : Act} {K : Act → World → Prop} {Q : Exit → Act → World → Prop} {E : Prop} (hgd : o.guard = none) (s x : Operand)
    (ho : o.op = .call { callee := .builtin .append, args := #[s, x], argTypes := #[53, 53] }) (base : Nat) (v : Value) (l : List Int) (hs : a.eval s = v) (hown : OwnB w base v l)
    (vx : Value) (m : List Int) (hx : a.eval x = vx) (hm : RB w vx m) (hlen : l.length + m.length ≤ 140737488351232) (hbase : base ≤ w.heap.size)
    (h : ∀ v' w', OwnB w' base v' (l ++ m) → Below base w w' → K (a.put o.dst v') w') :
    if Region.wanted o (yielded ops a.tmps) = true then Oper.wp Try.prog o a w K Q else E := by
  have hw : Region.wanted o (yielded ops a.tmps) = true := by simp [Region.wanted, hgd]
  rw [if_pos hw]
  obtain ⟨i0, hi0, hz0, hz1, hz2⟩ := info_parts Try.infoUy
  obtain ⟨ax, cx, rfl, _⟩ := id hm
  rcases hm.src with ⟨rfl, rfl⟩ | ⟨ad, rfl, hsrc⟩
  · have hrun := run_append_owned_none (P := Try.prog) (w := w) base 53 o.type 5 i0 1 Try.underlying53 hi0 v l.length (ub l) hown
    have hx' : a.eval x = .slice none 0 cx := hx
    have hr2 : (Builtin.append_ #[53, 53] o.type #[v, .slice none 0 cx]).run Try.prog w = .ok v w := by
      rw [← hrun]; rfl
    unfold Oper.wp
    simp [execOp, ho, resolve, invoke, builtin, hs, hx', hr2, Result.andThen]
    exact h v w (by rw [List.append_nil]; exact hown) (Below.refl _ _)
  · obtain ⟨v', w', hr, h2, h3, _, _⟩ := run_append_own_at (P := Try.prog) w base 53 o.type 5 i0 (.int .u8 0) 1 1 Try.underlying53 hi0 hz0 hz1 hz2 rfl (by decide) v l.length (ub l) hown ad m.length cx (ub m) (by rw [ub_len, Nat.mul_one]) hsrc (ub_one m) (by unfold maxLen; omega) (by omega) hbase
    unfold Oper.wp execOp
    simp only [ho, resolve, invoke, builtin, Sem.run_bind, Sem.run_pure, Result.andThen_ok, List.map_toArray, List.map_cons, List.map_nil, hs, hx, hr]
    refine h v' w' ?_ (below_owny hown h3 hbase)
    unfold OwnB ub
    rw [List.length_append, List.map_append]
    exact h2
end Go.Proofs.Ytihjhaafmdobmaa
