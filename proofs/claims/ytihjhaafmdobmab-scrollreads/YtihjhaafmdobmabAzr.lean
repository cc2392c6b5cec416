/- append(b, make([]byte, n)...): the kit has it for b nil alone. -/
import Derived.Test.YtihjhaafmdobmabBgP
import Derived.Lib.AppendZeros
namespace Go.Proofs.Ytihjhaafmdobmab
open Go.RowKit Go.Lib

theorem Try.infoUz : (Try.prog.info? 5).map (fun i => (i.zero, i.size, i.bytes)) = some (some (.int .u8 0), 1, 1) := by kernel_rfl
theorem zeroU (m : Nat) : (Builtin.zeroCells (Value.int .u8 0).cells m).toList = ub (List.replicate m 0) := by
  apply List.ext_getElem
  · simp [Builtin.zeroCells, ub, Value.cells]
  · intro i h1 h2
    simp [Builtin.zeroCells, ub, Value.cells, Nat.mod_one]
theorem run_append_zeros (w : World) (ty : TypeId) (base : Nat) (v : Value) (l : List Int) (m : Nat) (hown : OwnB w base v l) (hm : 1 ≤ m) (hlen : l.length + m ≤ 140737488351232) (hbase : base ≤ w.heap.size) :
    ∃ v' w', (Builtin.append_ #[22, 3] ty #[v, .int .i64 m]).run Try.prog w = .ok v' w' ∧ OwnB w' base v' (l ++ List.replicate m 0) ∧ w.grownBy w' v.ownBlock ∧ (v'.ownBlock = v.ownBlock ∨ v'.ownBlock = some w.heap.size) := by
  obtain ⟨i, hi, hz, hs, hb⟩ := info_parts Try.infoUz
  have hL : ub (l ++ List.replicate m 0) = ub l ++ ub (List.replicate m 0) := by unfold ub; rw [List.map_append]
  have hlen2 : (ub (l ++ List.replicate m 0)).length = l.length + m := by rw [ub_len, List.length_append, List.length_replicate]
  have hw : IntKind.i64.wrap (m : Int) = m := by rw [IntKind.wrap_i64]; omega
  have hneg : ¬ ((m : Int) < 0) := by omega
  have hns : ¬ (m = 0) := by omega
  have h48i : ¬ (281474976710656 < (m : Int)) := by omega
  have hrow : w.ownsRow base 5 1 v l.length (ub l) := hown
  rcases hrow.2 with ⟨rfl, h0⟩ | ⟨g, cap, cur, rfl, hbg, hg, hnc, hcm, hcs, htake⟩
  · obtain rfl : l = [] := List.length_eq_zero_iff.1 h0
    have hr := run_append_nil_zeros (P := Try.prog) w 22 3 ty 5 i (.int .u8 0) .i64 .i64 Try.underlying22 Try.underlying3 hi hz m (by omega) (by omega) (by omega) (by rw [hb]; simp at hlen; omega)
    have hge := grownCap_ge w m 0 5
    have hcm2 : grownCap w m 0 5 ≤ maxLen := grownCap_le_maxLen w m 0 5 (by unfold maxLen; simp at hlen; omega)
    refine ⟨_, _, hr, ?_, ⟨rfl, rfl, rfl, by simp, fun k hk _ => heap_alloc_old w.drew _ hk⟩, .inr rfl⟩
    unfold OwnB
    rw [List.nil_append, List.length_replicate]
    refine ⟨by rw [ub_len, List.length_replicate, Nat.mul_one], .inr ⟨w.heap.size, _, _, rfl, hbase, heap_alloc_new w.drew _, hge, hcm2, ?_, ?_⟩⟩
    · simp only [Array.size_append, size_zeroCells]
      show m * 1 + _ * 1 = _
      omega
    · rw [Array.toList_append, zeroU]
      exact List.take_left' (by rw [ub_len, List.length_replicate, Nat.mul_one])
  · have hnl : (Builtin.zeroCells (Value.int .u8 0).cells m).toList.length = m := by rw [zeroU, ub_len, List.length_replicate]
    by_cases hroom : l.length + m ≤ cap
    · have hst := run_storeCells_at Try.prog g l.length 5 (ub (List.replicate m 0)) 0 cur w hg (by rw [ub_len, List.length_replicate]; simp; omega) (ub_one _)
      simp only [Nat.add_zero] at hst
      refine ⟨.slice (some ⟨g, 0, none⟩) (l.length + m) cap, w.setRow g (cur.toList.take l.length ++ ub (List.replicate m 0) ++ cur.toList.drop (l.length + (ub (List.replicate m 0)).length)).toArray, ?_, ?_, ⟨rfl, rfl, rfl, by simp, fun k _ hk => setRow_other w g k _ (fun e => hk (by simp [Value.ownBlock, e]))⟩, .inl rfl⟩
      · simp [Builtin.append_, run_underlying Try.underlying22, run_underlying Try.underlying3, sizeOf, typeInfo, zeroValue, hi, hz, hs, hb, asInt, asIntOf, hw, hneg, hns, h48i, hroom, zeroU, Addr.add_lit, hst]
      · unfold OwnB
        rw [List.length_append, List.length_replicate]
        refine ⟨by rw [hlen2, Nat.mul_one], .inr ⟨g, cap, _, rfl, hbg, setRow_heap w g cur _ 5 _ hg, hroom, hcm, ?_, ?_⟩⟩
        · simp only [List.size_toArray, List.length_append, List.length_take, List.length_drop, Array.length_toList, ub_len, List.length_replicate]
          omega
        · rw [Nat.mul_one] at htake
          show List.take _ (List.take l.length cur.toList ++ _ ++ _) = _
          rw [htake, ← hL]
          exact List.take_left' (by rw [hlen2, Nat.mul_one])
    · have holds : ∀ j u, (ub l)[j]? = some u → w.cell? ((⟨g, 0, none⟩ : Addr).add j) = some u := hrow.cells (g := g) rfl
      have hfo := run_firstCells_some (P := Try.prog) w.drew 1 l.length ⟨g, 0, none⟩ l.length cap (ub l) (by rw [ub_len, Nat.mul_one]) (by simpa using holds)
      have hn : ¬ (l.length + m ≤ cap) := hroom
      have h63' : ¬ (9223372036854775807 < ((l.length : Int) + (m : Int))) := by omega
      have hfit := growslice_fits (need := l.length + m) (old := cap) (bytes := i.bytes) (by omega) (by rw [hb]; omega)
      have h48' : ¬ (281474976710656 < Builtin.nextslicecap (l.length + m) cap) := by rw [hb] at hfit; omega
      have hge := grownCap_ge w (l.length + m) cap 5
      have hcm2 : grownCap w (l.length + m) cap 5 ≤ maxLen := grownCap_le_maxLen w _ _ _ (by unfold maxLen; omega)
      refine ⟨.slice (some ⟨w.heap.size, 0, none⟩) (l.length + m) (grownCap w (l.length + m) cap 5), w.drew.alloc (.cells ((ub l).toArray ++ Builtin.zeroCells (Value.int .u8 0).cells m ++ Builtin.zeroCells (Value.int .u8 0).cells (grownCap w (l.length + m) cap 5 - (l.length + m))) 5), ?_, ?_, ⟨rfl, rfl, rfl, by simp, fun k hk _ => heap_alloc_old w.drew _ hk⟩, .inr rfl⟩
      · simp [Builtin.append_, run_underlying Try.underlying22, run_underlying Try.underlying3, sizeOf, typeInfo, zeroValue, hi, hz, hs, hb, asInt, asIntOf, hw, hneg, hns, h48i, hn, h63', h48', Question.forced, hfo, newRow, grownCap]
      · unfold OwnB
        rw [List.length_append, List.length_replicate]
        refine ⟨by rw [hlen2, Nat.mul_one], .inr ⟨w.heap.size, _, _, rfl, hbase, heap_alloc_new w.drew _, hge, hcm2, ?_, ?_⟩⟩
        · simp only [Array.size_append, List.size_toArray, size_zeroCells, ub_len]
          show _ + m * 1 + _ * 1 = _
          omega
        · simp only [Array.toList_append]
          rw [zeroU, ← hL]
          exact List.take_left' (by rw [hlen2, Nat.mul_one])
theorem wpList_appZ {w : World} {ops : Array Oper} {rest : List Oper} {o : Oper} {a : Act} {Q : Exit → Act → World → Prop} (hgd : o.guard = none) (s x : Operand)
    (ho : o.op = .call { callee := .builtin .append, args := #[s, x], argTypes := #[22, 3] }) (base : Nat) (v : Value) (l : List Int) (hs : a.eval s = v) (hown : OwnB w base v l)
    (m : Nat) (hx : a.eval x = .int .i64 m) (hm : 1 ≤ m) (hlen : l.length + m ≤ 140737488351232) (hbase : base ≤ w.heap.size)
    (h : ∀ v' w', OwnB w' base v' (l ++ List.replicate m 0) → Below base w w' → (v'.ownBlock = v.ownBlock ∨ v'.ownBlock = some w.heap.size) → wpList Try.prog ops Q rest (a.put o.dst v') w') : wpList Try.prog ops Q (o :: rest) a w := by
  obtain ⟨v', w', hr, h1, h2, h3⟩ := run_append_zeros w o.type base v l m hown hm hlen hbase
  refine Lib.wpList_append_run w hgd s x 22 3 ho _ _ hs hx _ _ hr (h _ _ h1 ?_ h3)
  exact ⟨h2.os, h2.tape, h2.output, h2.size, fun k hk => h2.block k (by omega) (fun e => by have := (hown.at k e.symm).1; omega)⟩
end Go.Proofs.Ytihjhaafmdobmab
