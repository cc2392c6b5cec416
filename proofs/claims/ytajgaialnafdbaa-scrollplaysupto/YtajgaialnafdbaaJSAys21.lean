/- Bytes among the arguments; CopyBytes; both disks side by side, with any blocks on them. -/
import Derived.Test.YtajgaialnafdbaaJSAys20
import Derived.ProofKit
import Derived.OpenShut
import Derived.Deep.Slices
import Derived.SizedLaws
import Derived.Lib.SmallJoins
import Derived.Test.YtajgaialnafdbaaJSAys00
import Derived.Lib.AppendZeros
namespace Go.Proofs.Ytajgaialnafdbaa
section
open Go.ChangeShapes Go.WideShapes Go.ChangeAt Go.RowKit Go.Joins

/-- how long bytes may be -/
def LB : Nat := 140737488351232
theorem Try.cellsU : Try.prog.cellsOf 5 = 1 := by kernel_rfl
theorem Try.bytesU : Try.prog.bytesOf 5 = 1 := by kernel_rfl
def RC (w : World) (v : Value) (l : List Int) : Prop :=
  ∃ a cap, v = .slice a l.length cap ∧ l.length ≤ cap ∧ (l = [] ∨ ∃ g off, a = some ⟨g, off, none⟩ ∧ g < w.heap.size ∧ ∀ i x, l[i]? = some x → w.cell? ⟨g, off + i, none⟩ = some (.int .u8 x))
theorem OwnB.rc {w : World} {base : Nat} {v : Value} {l : List Int} (h : OwnB w base v l) : RC w v l := by
  rcases h.form with ⟨rfl, rfl⟩ | ⟨g, cap, rfl, _, hg, hc, hx, _⟩
  · exact ⟨_, _, rfl, Nat.le_refl _, .inl rfl⟩
  · exact ⟨_, _, rfl, hc, .inr ⟨g, 0, rfl, hg, fun i x hx' => by rw [Nat.zero_add]; exact hx i x hx'⟩⟩
theorem RC.below {w w' : World} {v : Value} {l : List Int} (h : RC w v l) (hb : Below w.heap.size w w') : RC w' v l := by
  obtain ⟨a, cap, rfl, hcap, h⟩ := h
  refine ⟨a, cap, rfl, hcap, ?_⟩
  rcases h with h | ⟨g, off, rfl, hg, hc⟩
  · exact .inl h
  · exact .inr ⟨g, off, rfl, Nat.lt_of_lt_of_le hg hb.size, fun i x hx => (hb.cell (p := ⟨g, off + i, none⟩) hg).trans (hc i x hx)⟩
theorem RC.rb {w : World} {v : Value} {l : List Int} (h : RC w v l) : RB w v l := by
  obtain ⟨a, cap, rfl, _, h⟩ := h
  exact ⟨a, cap, rfl, h⟩
theorem weightsAll_mem {H : Type} {P : Program} {e : TypeId} {d : DataW H} {n : Nat} : ∀ {ds : List (DataW H)}, d ∈ ds → n ∈ d.weights P e → n ∈ DataW.weightsAll P e ds
  | [], h, _ => by cases h
  | d0 :: ds, h, hn => by
    simp only [DataW.weightsAll, List.mem_append]
    rcases List.mem_cons.1 h with rfl | h
    · exact .inl hn
    · exact .inr (weightsAll_mem h hn)
/-- what a slice weighs -/
theorem weights_slice {H : Type} {P : Program} {t e : TypeId} {elems spare : List (DataW H)} (hu : P.underlying t = some (.slice e)) (h : ∀ n ∈ (DataW.slice elems spare).weights P t, n ≤ reachBytes) : elems.length * P.bytesOf e ≤ reachBytes := by
  simp only [DataW.weights, hu] at h
  exact Nat.le_trans (Nat.mul_le_mul_right _ (Nat.le_add_right _ _)) (h _ (List.mem_cons_self ..))

section
variable {H : Type} {enc : TypeId × Value → H} {W : World}
theorem bytes_of {v : Value} {d : DataW H} {ps : List MemPlace} (h : DataW.Trod enc Try.prog W 0 (fun _ => true) true 22 v d ps) (hw : ∀ n ∈ d.weights Try.prog 22, n ≤ reachBytes) (hv : ∃ a len cap, v = .slice a len cap) : ∃ l, RC W v l ∧ l.length ≤ LB ∧ Byt l := by
  obtain ⟨fuel, hf⟩ := h
  obtain ⟨a0, len0, cap0, rfl⟩ := hv
  rcases Go.Deep.open_slice1 Try.underlying22 Try.cellsU hf with ⟨hcs, hx⟩ | ⟨a, len, cap, m, n, V, D, Pl, hcs, hb, hl, hm, hmm, hx, hel⟩
  · simp [Value.cells] at hcs
    obtain ⟨rfl, rfl, rfl⟩ := hcs
    exact ⟨[], ⟨_, _, rfl, by simp, .inl rfl⟩, by simp, byt_nil⟩
  · simp [Value.cells] at hcs
    obtain ⟨rfl, rfl, rfl⟩ := hcs
    simp only [if_true] at hmm
    subst hmm
    simp only [Prod.mk.injEq] at hx
    have hlen : len0 ≤ LB := by
      rw [hx.1] at hw
      have := weights_slice Try.underlying22 hw
      rw [Try.bytesU] at this
      simp [reachBytes] at this
      unfold LB; omega
    have key : ∀ i, i < len0 → ∃ x : Int, W.cell? (a.add i) = some (.int .u8 x) ∧ 0 ≤ x ∧ x < 256 := by
      intro i hi
      obtain ⟨h1, h2⟩ := hel i (by omega)
      obtain ⟨p, e0, _, hwf⟩ := DataW.trod_int Try.underlying5 h2
      simp at e0
      rw [e0] at h1
      exact ⟨p, h1, by simp [Lit.wf, IntKind.min, IntKind.max, IntKind.bits, IntKind.signed] at hwf; omega⟩
    obtain ⟨X, hX⟩ := Go.Deep.choose_lt (α := Int) key
    refine ⟨(List.range len0).map X, ⟨some a, _, by simp; rfl, by simpa using hl, ?_⟩, by simpa using hlen, fun x hx => ?_⟩
    · by_cases h0 : len0 = 0
      · exact .inl (by simp [h0])
      · right
        obtain ⟨b, off, spot⟩ := a
        have hs := World.cell?_spot (hX 0 (by omega)).1
        have hspot : spot = none := by simpa [Addr.add] using hs
        subst hspot
        refine ⟨b, off, rfl, cellLt (hX 0 (by omega)).1, fun i x hx => ?_⟩
        have hi : i < len0 := by have := (List.getElem?_eq_some_iff.1 hx).1; simpa using this
        rw [List.getElem?_map, List.getElem?_range hi] at hx
        cases hx
        have := (hX i hi).1
        rw [add_plain'] at this
        exact this
    · obtain ⟨i, hi, rfl⟩ := List.mem_map.1 hx
      exact (hX i (List.mem_range.1 hi)).2
end
theorem copyB_any (v : Value) (l : List Int) (w : World) (h : RB w v l) (hl : l.length ≤ LB) :
    Calls Try.prog 26 #[v] w fun e w' => ∃ v', e = .returned v' ∧ OwnB w' w.heap.size v' l ∧ Below w.heap.size w w' := by
  obtain ⟨i0, hi, hz0, hz1, hz2⟩ := info_parts Try.infoU
  have hL : l.length ≤ 140737488351232 := hl
  obtain ⟨a, cap, rfl, _⟩ := id h
  rcases h.src with ⟨rfl, rfl⟩ | ⟨ad, rfl, hc⟩
  · clear h hl
    go_enter Try.func26, Try.ntmps26
    go_wp2
    go_ret
    exact ⟨_, rfl, OwnB.nil _ _, Below.refl _ _⟩
  · have HC : Hid (∀ j u, (ub l)[j]? = some u → w.cell? (ad.add j) = some u) := hc
    clear hc h hl
    go_enter Try.func26, Try.ntmps26
    go_wp2_with (at_builtin; refine wpList_append_own _ rfl _ _ 22 rfl w.heap.size 5 i0 (.int .u8 0) 1 1 Try.underlying22 hi hz0 hz1 hz2 rfl (by decide) _ _ _ rfl (World.ownsRow_nil _ _ _ _) ad l.length cap (ub l) rfl (by rw [ub_len, Nat.mul_one]) HC.out (ub_one l) (by unfold maxLen; omega) (by omega) (Nat.le_refl _) ?_; intro v' w1 hown hgrow _)
    go_ret
    refine ⟨_, rfl, ?_, below_grown hgrow⟩
    rw [Nat.zero_add, List.nil_append] at hown
    exact hown
end
section
open Go.RowKit Go.Lib

theorem Try.infoUz : (Try.prog.info? 5).map (fun i => (i.zero, i.size, i.bytes)) = some (some (.int .u8 0), 1, 1) := by kernel_rfl
theorem zeroU (m : Nat) : (Builtin.zeroCells (Value.int .u8 0).cells m).toList = ub (List.replicate m 0) := by
  apply List.ext_getElem
  · simp [Builtin.zeroCells, ub, Value.cells]
  · intro i h1 h2
    simp [Builtin.zeroCells, ub, Value.cells, Nat.mod_one]
theorem run_append_zeros (w : World) (ty : TypeId) (base : Nat) (v : Value) (l : List Int) (m : Nat) (hown : OwnB w base v l) (hm : 1 ≤ m) (hlen : l.length + m ≤ 140737488351232) (hbase : base ≤ w.heap.size) :
    ∃ v' w', (Builtin.append_ #[22, 3] ty #[v, .int .i64 m]).run Try.prog w = .ok v' w' ∧ OwnB w' base v' (l ++ List.replicate m 0) ∧ w.grownBy w' v.ownBlock ∧ (v'.ownBlock = v.ownBlock ∨ v'.ownBlock = some w.heap.size) := by
  obtain ⟨i, hi, hz, hs, hb⟩ := info_parts Try.infoUz
  have hL : ub (l ++ List.replicate m 0) = ub l ++ ub (List.replicate m 0) := by unfold ub; rw [List.map_append]
  have hlen2 : (ub (l ++ List.replicate m 0)).length = l.length + m := by rw [ub_len, List.length_append, List.length_replicate]
  have hw : IntKind.i64.wrap (m : Int) = m := by rw [IntKind.wrap_i64]; omega
  have hneg : ¬ ((m : Int) < 0) := by omega
  have hns : ¬ (m = 0) := by omega
  have h48i : ¬ (281474976710656 < (m : Int)) := by omega
  have hrow : w.ownsRow base 5 1 v l.length (ub l) := hown
  rcases hrow.2 with ⟨rfl, h0⟩ | ⟨g, cap, cur, rfl, hbg, hg, hnc, hcm, hcs, htake⟩
  · obtain rfl : l = [] := List.length_eq_zero_iff.1 h0
    have hr := run_append_nil_zeros (P := Try.prog) w 22 3 ty 5 i (.int .u8 0) .i64 .i64 Try.underlying22 Try.underlying3 hi hz m (by omega) (by omega) (by omega) (by rw [hb]; simp at hlen; omega)
    have hge := grownCap_ge w m 0 5
    have hcm2 : grownCap w m 0 5 ≤ maxLen := grownCap_le_maxLen w m 0 5 (by unfold maxLen; simp at hlen; omega)
    refine ⟨_, _, hr, ?_, ⟨rfl, rfl, rfl, by simp, fun k hk _ => heap_alloc_old w.drew _ hk⟩, .inr rfl⟩
    unfold OwnB
    rw [List.nil_append, List.length_replicate]
    refine ⟨by rw [ub_len, List.length_replicate, Nat.mul_one], .inr ⟨w.heap.size, _, _, rfl, hbase, heap_alloc_new w.drew _, hge, hcm2, ?_, ?_⟩⟩
    · simp only [Array.size_append, size_zeroCells]
      show m * 1 + _ * 1 = _
      omega
    · rw [Array.toList_append, zeroU]
      exact List.take_left' (by rw [ub_len, List.length_replicate, Nat.mul_one])
  · have hnl : (Builtin.zeroCells (Value.int .u8 0).cells m).toList.length = m := by rw [zeroU, ub_len, List.length_replicate]
    by_cases hroom : l.length + m ≤ cap
    · have hst := run_storeCells_at Try.prog g l.length 5 (ub (List.replicate m 0)) 0 cur w hg (by rw [ub_len, List.length_replicate]; simp; omega) (ub_one _)
      simp only [Nat.add_zero] at hst
      refine ⟨.slice (some ⟨g, 0, none⟩) (l.length + m) cap, w.setRow g (cur.toList.take l.length ++ ub (List.replicate m 0) ++ cur.toList.drop (l.length + (ub (List.replicate m 0)).length)).toArray, ?_, ?_, ⟨rfl, rfl, rfl, by simp, fun k _ hk => setRow_other w g k _ (fun e => hk (by simp [Value.ownBlock, e]))⟩, .inl rfl⟩
      · simp [Builtin.append_, run_underlying Try.underlying22, run_underlying Try.underlying3, sizeOf, typeInfo, zeroValue, hi, hz, hs, hb, asInt, asIntOf, hw, hneg, hns, h48i, hroom, zeroU, Addr.add_lit, hst]
      · unfold OwnB
        rw [List.length_append, List.length_replicate]
        refine ⟨by rw [hlen2, Nat.mul_one], .inr ⟨g, cap, _, rfl, hbg, setRow_heap w g cur _ 5 _ hg, hroom, hcm, ?_, ?_⟩⟩
        · simp only [List.size_toArray, List.length_append, List.length_take, List.length_drop, Array.length_toList, ub_len, List.length_replicate]
          omega
        · rw [Nat.mul_one] at htake
          show List.take _ (List.take l.length cur.toList ++ _ ++ _) = _
          rw [htake, ← hL]
          exact List.take_left' (by rw [hlen2, Nat.mul_one])
    · have holds : ∀ j u, (ub l)[j]? = some u → w.cell? ((⟨g, 0, none⟩ : Addr).add j) = some u := hrow.cells (g := g) rfl
      have hfo := run_firstCells_some (P := Try.prog) w.drew 1 l.length ⟨g, 0, none⟩ l.length cap (ub l) (by rw [ub_len, Nat.mul_one]) (by simpa using holds)
      have hn : ¬ (l.length + m ≤ cap) := hroom
      have h63' : ¬ (9223372036854775807 < ((l.length : Int) + (m : Int))) := by omega
      have hfit := growslice_fits (need := l.length + m) (old := cap) (bytes := i.bytes) (by omega) (by rw [hb]; omega)
      have h48' : ¬ (281474976710656 < Builtin.nextslicecap (l.length + m) cap) := by rw [hb] at hfit; omega
      have hge := grownCap_ge w (l.length + m) cap 5
      have hcm2 : grownCap w (l.length + m) cap 5 ≤ maxLen := grownCap_le_maxLen w _ _ _ (by unfold maxLen; omega)
      refine ⟨.slice (some ⟨w.heap.size, 0, none⟩) (l.length + m) (grownCap w (l.length + m) cap 5), w.drew.alloc (.cells ((ub l).toArray ++ Builtin.zeroCells (Value.int .u8 0).cells m ++ Builtin.zeroCells (Value.int .u8 0).cells (grownCap w (l.length + m) cap 5 - (l.length + m))) 5), ?_, ?_, ⟨rfl, rfl, rfl, by simp, fun k hk _ => heap_alloc_old w.drew _ hk⟩, .inr rfl⟩
      · simp [Builtin.append_, run_underlying Try.underlying22, run_underlying Try.underlying3, sizeOf, typeInfo, zeroValue, hi, hz, hs, hb, asInt, asIntOf, hw, hneg, hns, h48i, hn, h63', h48', Question.forced, hfo, newRow, grownCap]
      · unfold OwnB
        rw [List.length_append, List.length_replicate]
        refine ⟨by rw [hlen2, Nat.mul_one], .inr ⟨w.heap.size, _, _, rfl, hbase, heap_alloc_new w.drew _, hge, hcm2, ?_, ?_⟩⟩
        · simp only [Array.size_append, List.size_toArray, size_zeroCells, ub_len]
          show _ + m * 1 + _ * 1 = _
          omega
        · simp only [Array.toList_append]
          rw [zeroU, ← hL]
          exact List.take_left' (by rw [hlen2, Nat.mul_one])
theorem wpList_appZ {w : World} {ops : Array Oper} {rest : List Oper} {o : Oper} {a : Act} {Q : Exit → Act → World → Prop} (hgd : o.guard = none) (s x : Operand)
    (ho : o.op = .call { callee := .builtin .append, args := #[s, x], argTypes := #[22, 3] }) (base : Nat) (v : Value) (l : List Int) (hs : a.eval s = v) (hown : OwnB w base v l)
    (m : Nat) (hx : a.eval x = .int .i64 m) (hm : 1 ≤ m) (hlen : l.length + m ≤ 140737488351232) (hbase : base ≤ w.heap.size)
    (h : ∀ v' w', OwnB w' base v' (l ++ List.replicate m 0) → Below base w w' → (v'.ownBlock = v.ownBlock ∨ v'.ownBlock = some w.heap.size) → wpList Try.prog ops Q rest (a.put o.dst v') w') : wpList Try.prog ops Q (o :: rest) a w := by
  obtain ⟨v', w', hr, h1, h2, h3⟩ := run_append_zeros w o.type base v l m hown hm hlen hbase
  refine Lib.wpList_append_run w hgd s x 22 3 ho _ _ hs hx _ _ hr (h _ _ h1 ?_ h3)
  exact ⟨h2.os, h2.tape, h2.output, h2.size, fun k hk => h2.block k (by omega) (fun e => by have := (hown.at k e.symm).1; omega)⟩
end
end Go.Proofs.Ytajgaialnafdbaa
