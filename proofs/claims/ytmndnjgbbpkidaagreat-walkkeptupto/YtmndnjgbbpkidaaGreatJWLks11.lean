/- Lists of one element made, shut; append by its run. (Written by genapp.py.) -/
import Derived.Test.YtmndnjgbbpkidaaGreatJWLks10
namespace Go.Proofs.YtmndnjgbbpkidaaGreat
section
open Go.RowKit

theorem wpList_apR {w : World} {ops : Array Oper} {rest : List Oper} {o : Oper} {a : Act} {Q : Exit → Act → World → Prop} (hgd : o.guard = none) (s x : Operand) (t : TypeId)
    (ho : o.op = .call { callee := .builtin .append, args := #[s, x], argTypes := #[t, t] }) (v xv r : Value) (W : World) (hs : a.eval s = v) (hx : a.eval x = xv) (hr : ∀ ty, (Builtin.append_ #[t, t] ty #[v, xv]).run Tryz.prog w = .ok r W)
    (h : wpList Tryz.prog ops Q rest (a.put o.dst r) W) : wpList Tryz.prog ops Q (o :: rest) a w := by
  refine wpList_plain hgd fun K hK => ?_
  unfold Oper.wp execOp
  simp only [ho, resolve, invoke, builtin, Sem.run_bind, Sem.run_pure, Result.andThen_ok, List.map_toArray, List.map_cons, List.map_nil, hs, hx, hr]
  exact hK _ _ h
theorem step_apR {w : World} {ops : Array Oper} {o : Oper} {a : Act} {K : Act → World → Prop} {Q : Exit → Act → World → Prop} {E : Prop} (hgd : o.guard = none) (s x : Operand) (t : TypeId)
    (ho : o.op = .call { callee := .builtin .append, args := #[s, x], argTypes := #[t, t] }) (v xv r : Value) (W : World) (hs : a.eval s = v) (hx : a.eval x = xv) (hr : ∀ ty, (Builtin.append_ #[t, t] ty #[v, xv]).run Tryz.prog w = .ok r W)
    (h : K (a.put o.dst r) W) : if Region.wanted o (yielded ops a.tmps) = true then Oper.wp Tryz.prog o a w K Q else E := by
  have hw : Region.wanted o (yielded ops a.tmps) = true := by simp [Region.wanted, hgd]
  rw [if_pos hw]
  unfold Oper.wp execOp
  simp only [ho, resolve, invoke, builtin, Sem.run_bind, Sem.run_pure, Result.andThen_ok, List.map_toArray, List.map_cons, List.map_nil, hs, hx, hr]
  exact h
/-- a list of cached entries in memory -/
def Row8 (w : World) (base : Nat) (v : Value) (l : List (En × Nat)) : Prop := w.ownsRow base 99 8 v l.length (cc l)
/-- a list of ints in memory -/
def ci (l : List Int) : List Value := l.map (Value.int .i64)
theorem ci_len (l : List Int) : (ci l).length = l.length * 1 := by unfold ci; simp
theorem ci_app (a b : List Int) : ci (a ++ b) = ci a ++ ci b := by unfold ci; simp
def RowI (w : World) (base : Nat) (v : Value) (l : List Int) : Prop := w.ownsRow base 3 1 v l.length (ci l)
theorem ci_one (l : List Int) : ∀ u ∈ ci l, u.oneCell' = true := ints_oneCell .i64 l
theorem cc_one (l : List (En × Nat)) : ∀ u ∈ cc l, u.oneCell' = true := by
  intro u hu
  obtain ⟨x, _, hx⟩ := List.mem_flatMap.1 hu
  exact cvals_one x u hx
theorem ec_one' (l : List En) : ∀ u ∈ ec l, u.oneCell' = true := by
  intro u hu
  obtain ⟨x, _, hx⟩ := List.mem_flatMap.1 hu
  exact enVals_one x u hx
theorem kc_one' (l : List Ky) : ∀ u ∈ kc l, u.oneCell' = true := by
  intro u hu
  obtain ⟨x, _, hx⟩ := List.mem_flatMap.1 hu
  simp at hx
  rcases hx with rfl | rfl <;> rfl
theorem kc_app' (a b : List Ky) : kc (a ++ b) = kc a ++ kc b := by unfold kc; rw [List.flatMap_append]
theorem Tryz.infoKy' : (Tryz.prog.info? 29).map (fun i => (i.zero, i.size, i.bytes)) = some (some (.agg #[.int .i64 0, .string ⟨#[]⟩]), 2, 24) := by kernel_rfl
theorem Tryz.infoIn : (Tryz.prog.info? 3).map (fun i => (i.zero, i.size, i.bytes)) = some (some (.int .i64 0), 1, 8) := by kernel_rfl
/-- append to a list of cached entries -/
theorem appC {w : World} {B : Nat} {v : Value} {l l2 : List (En × Nat)} {ad : Addr} {c : Nat} (h : Row8 w B v l) (h2 : ∀ j u, (cc l2)[j]? = some u → w.cell? (ad.add j) = some u) (hB : B ≤ w.heap.size) (hl : (l.length + l2.length) * 80 ≤ 140737488355328) :
    ∃ v3 W, (∀ ty, (Builtin.append_ #[108, 108] ty #[v, .slice (some ad) l2.length c]).run Tryz.prog w = .ok v3 W) ∧ Row8 W B v3 (l ++ l2) ∧ Only (fun k => v.ownBlock = some k) w W ∧ (v3.ownBlock = v.ownBlock ∨ v3.ownBlock = some w.heap.size) := by
  obtain ⟨i1, hi1, hw0, hw1, hw2⟩ := info_parts Tryz.infoCa
  obtain ⟨v', W, a1, a2, a3, _, a5⟩ := run_append_own_at (P := Tryz.prog) w B 108 0 99 i1 _ 8 80 Tryz.underlying108 hi1 hw0 hw1 hw2 rfl (by decide) v l.length (cc l) h ad l2.length c (cc l2) (cc_len l2) h2 (cc_one l2) (by unfold maxLen; omega) hl hB
  refine ⟨v', W, fun ty => ?_, ?_, only_grown a3, a5⟩
  · have : (Builtin.append_ #[108, 108] ty #[v, .slice (some ad) l2.length c]).run Tryz.prog w = (Builtin.append_ #[108, 108] 0 #[v, .slice (some ad) l2.length c]).run Tryz.prog w := rfl
    rw [this]; exact a1
  · show World.ownsRow _ _ _ _ _ _ _
    rw [List.length_append, cc_app]; exact a2
/-- append to a list of entries -/
theorem appE {w : World} {B : Nat} {v : Value} {l l2 : List En} {ad : Addr} {c : Nat} (h : Row7 w B v l) (h2 : ∀ j u, (ec l2)[j]? = some u → w.cell? (ad.add j) = some u) (hB : B ≤ w.heap.size) (hl : (l.length + l2.length) * 72 ≤ 140737488355328) :
    ∃ v3 W, (∀ ty, (Builtin.append_ #[23, 23] ty #[v, .slice (some ad) l2.length c]).run Tryz.prog w = .ok v3 W) ∧ Row7 W B v3 (l ++ l2) ∧ Only (fun k => v.ownBlock = some k) w W ∧ (v3.ownBlock = v.ownBlock ∨ v3.ownBlock = some w.heap.size) := by
  obtain ⟨i1, hi1, hw0, hw1, hw2⟩ := info_parts Tryz.infoE
  obtain ⟨v', W, a1, a2, a3, _, a5⟩ := run_append_own_at (P := Tryz.prog) w B 23 0 52 i1 _ 7 72 Tryz.underlying23 hi1 hw0 hw1 hw2 rfl (by decide) v l.length (ec l) h ad l2.length c (ec l2) (ec_len l2) h2 (ec_one' l2) (by unfold maxLen; omega) hl hB
  refine ⟨v', W, fun ty => ?_, ?_, only_grown a3, a5⟩
  · have : (Builtin.append_ #[23, 23] ty #[v, .slice (some ad) l2.length c]).run Tryz.prog w = (Builtin.append_ #[23, 23] 0 #[v, .slice (some ad) l2.length c]).run Tryz.prog w := rfl
    rw [this]; exact a1
  · show World.ownsRow _ _ _ _ _ _ _
    rw [List.length_append, ec_app]; exact a2
/-- append to a list of keys -/
theorem appK {w : World} {B : Nat} {v : Value} {l l2 : List Ky} {ad : Addr} {c : Nat} (h : RowK w B v l) (h2 : ∀ j u, (kc l2)[j]? = some u → w.cell? (ad.add j) = some u) (hB : B ≤ w.heap.size) (hl : (l.length + l2.length) * 24 ≤ 140737488355328) :
    ∃ v3 W, (∀ ty, (Builtin.append_ #[33, 33] ty #[v, .slice (some ad) l2.length c]).run Tryz.prog w = .ok v3 W) ∧ RowK W B v3 (l ++ l2) ∧ Only (fun k => v.ownBlock = some k) w W ∧ (v3.ownBlock = v.ownBlock ∨ v3.ownBlock = some w.heap.size) := by
  obtain ⟨i1, hi1, hw0, hw1, hw2⟩ := info_parts Tryz.infoKy'
  obtain ⟨v', W, a1, a2, a3, _, a5⟩ := run_append_own_at (P := Tryz.prog) w B 33 0 29 i1 _ 2 24 Tryz.underlying33 hi1 hw0 hw1 hw2 rfl (by decide) v l.length (kc l) h ad l2.length c (kc l2) (kc_len l2) h2 (kc_one' l2) (by unfold maxLen; omega) hl hB
  refine ⟨v', W, fun ty => ?_, ?_, only_grown a3, a5⟩
  · have : (Builtin.append_ #[33, 33] ty #[v, .slice (some ad) l2.length c]).run Tryz.prog w = (Builtin.append_ #[33, 33] 0 #[v, .slice (some ad) l2.length c]).run Tryz.prog w := rfl
    rw [this]; exact a1
  · show World.ownsRow _ _ _ _ _ _ _
    rw [List.length_append, kc_app']; exact a2
/-- append to a list of ints -/
theorem appI {w : World} {B : Nat} {v : Value} {l l2 : List Int} {ad : Addr} {c : Nat} (h : RowI w B v l) (h2 : ∀ j u, (ci l2)[j]? = some u → w.cell? (ad.add j) = some u) (hB : B ≤ w.heap.size) (hl : (l.length + l2.length) * 8 ≤ 140737488355328) :
    ∃ v3 W, (∀ ty, (Builtin.append_ #[57, 57] ty #[v, .slice (some ad) l2.length c]).run Tryz.prog w = .ok v3 W) ∧ RowI W B v3 (l ++ l2) ∧ Only (fun k => v.ownBlock = some k) w W ∧ (v3.ownBlock = v.ownBlock ∨ v3.ownBlock = some w.heap.size) := by
  obtain ⟨i1, hi1, hw0, hw1, hw2⟩ := info_parts Tryz.infoIn
  obtain ⟨v', W, a1, a2, a3, _, a5⟩ := run_append_own_at (P := Tryz.prog) w B 57 0 3 i1 _ 1 8 Tryz.underlying57 hi1 hw0 hw1 hw2 rfl (by decide) v l.length (ci l) h ad l2.length c (ci l2) (ci_len l2) h2 (ci_one l2) (by unfold maxLen; omega) hl hB
  refine ⟨v', W, fun ty => ?_, ?_, only_grown a3, a5⟩
  · have : (Builtin.append_ #[57, 57] ty #[v, .slice (some ad) l2.length c]).run Tryz.prog w = (Builtin.append_ #[57, 57] 0 #[v, .slice (some ad) l2.length c]).run Tryz.prog w := rfl
    rw [this]; exact a1
  · show World.ownsRow _ _ _ _ _ _ _
    rw [List.length_append, ci_app]; exact a2
/-- a list of one, made, shut -/
def caOne (ps : Array (Nat × Value)) : Sem Value := Instr.buildSlice 108 1 ps
theorem buildca (ps : Array (Nat × Value)) : Instr.buildSlice 108 1 ps = caOne ps := rfl
theorem caOne_of (x : En × Nat) (w : World) : (caOne #[(0, mvC x)]).run Tryz.prog w = .ok (.slice (some ⟨w.heap.size, 0, none⟩) 1 1) (w.alloc (.cells (cvals x).toArray 99)) := by
  unfold caOne Instr.buildSlice
  simp [run_underlying Tryz.underlying108, Tryz.sizeOf99, Tryz.zeroValue99, Instr.fill, Value.cells, newRow, mvC, cvals, En.vals]
  rw [show Array.range 8 = #[0, 1, 2, 3, 4, 5, 6, 7] from rfl]
  simp
attribute [irreducible] caOne
/-- a list of one, made, shut -/
def enOne (ps : Array (Nat × Value)) : Sem Value := Instr.buildSlice 23 1 ps
theorem builden (ps : Array (Nat × Value)) : Instr.buildSlice 23 1 ps = enOne ps := rfl
theorem enOne_of (x : En) (w : World) : (enOne #[(0, x.agg)]).run Tryz.prog w = .ok (.slice (some ⟨w.heap.size, 0, none⟩) 1 1) (w.alloc (.cells (x.vals).toArray 52)) := by
  unfold enOne Instr.buildSlice
  simp [run_underlying Tryz.underlying23, Tryz.sizeOf52, Tryz.zeroValue52, Instr.fill, Value.cells, newRow, En.agg, En.vals]
  rw [show Array.range 7 = #[0, 1, 2, 3, 4, 5, 6] from rfl]
  simp
attribute [irreducible] enOne
theorem one_atG {w : World} {cs : List Value} {t : TypeId} : ∀ j u, cs[j]? = some u → (w.alloc (.cells cs.toArray t)).cell? ((⟨w.heap.size, 0, none⟩ : Addr).add j) = some u := by
  intro j u hu
  rw [add_plain', Nat.zero_add, cell_of (heap_new _ _), List.getElem?_toArray]; exact hu
end
section
open Go.RowKit
theorem Rng.neTag {κ β : Type} {mk : κ → Value} {mv : β → Value} {w : World} {mo : Option Nat} {r k : Nat} {rest : List (κ × β)} (h : Rng mk mv w mo r rest) {t : TypeId} (ht : Tag w k t) : r ≠ k := by
  rintro rfl
  obtain ⟨cs, f, e⟩ := ht
  cases mo with
  | none => rw [h.2] at e; cases e
  | some g =>
    obtain ⟨es, clock, since, seen, c0, _, _, hr, _⟩ := h
    rw [hr] at e; cases e
open Go.RowKit Go.Shelf Go.Sort
attribute [local go_sem ↓ high] loadEn storeEn loadCa storeCa buildCa buildca builden
attribute [local go_sem high] eqMN

theorem Row8.tag {w : World} {B : Nat} {v : Value} {l : List (En × Nat)} (h : Row8 w B v l) {k : Nat} (hk : v.ownBlock = some k) : Tag w k 99 := Tag.own h hk
theorem strict_eq : ∀ {l m : List (En × Nat)}, (l.Pairwise fun a b => a.2 < b.2) → (m.Pairwise fun a b => a.2 < b.2) → l.Perm m → l = m
  | [], m, _, _, h => (List.nil_perm.1 h).symm
  | a :: l, [], _, _, h => by have := h.length_eq; simp at this
  | a :: l, b :: m, h1, h2, h => by
    have p1 := List.pairwise_cons.1 h1
    have p2 := List.pairwise_cons.1 h2
    have hab : a = b := by
      rcases List.mem_cons.1 (h.mem_iff.1 (List.mem_cons_self ..)) with e | e
      · exact e
      · rcases List.mem_cons.1 (h.mem_iff.2 (List.mem_cons_self ..)) with e' | e'
        · exact e'.symm
        · have k1 := p2.1 a e
          have k2 := p1.1 b e'
          omega
    subst hab
    rw [strict_eq p1.2 p2.2 (List.perm_cons a |>.1 h)]
theorem weak_strict {l U : List (En × Nat)} (h : l.Pairwise fun a b => ltOf ordU b a = false) (hU : U.Pairwise fun a b => a.2 < b.2) (hp : l.Perm U) : l = U := by
  refine strict_eq ?_ hU hp
  have hn : (U.map (·.2)).Nodup := by
    unfold List.Nodup
    rw [List.pairwise_map]
    exact hU.imp fun h => Nat.ne_of_lt h
  have hn2 : (l.map (·.2)).Nodup := ((hp.map _).nodup_iff).2 hn
  unfold List.Nodup at hn2
  rw [List.pairwise_map] at hn2
  refine (h.and hn2).imp fun {a b} hh => ?_
  have h1 := hh.1
  rw [ordU_lt, decide_eq_false_iff_not] at h1
  have h2 := hh.2
  omega
/-- the sort of what was collected -/
theorem sortC_any (v : Value) (B : Nat) (l U : List (En × Nat)) (w : World) (h : Row8 w B v l) (hU : U.Pairwise fun a b => a.2 < b.2) (hp : U.Perm l) (hl : l.length ≤ 1500000000000) : Calls Tryz.prog 62 #[v, .func (.func 63) #[] #[]] w fun e w' => e = .returned (.tuple #[]) ∧ Row8 w' B v U ∧ Only (fun k => v.ownBlock = some k) w w' := by
  rcases h.2 with ⟨rfl, e2⟩ | ⟨g, cap, cur, rfl, _⟩
  · obtain rfl := List.length_eq_zero_iff.1 e2
    have hU0 : U = [] := List.perm_nil.1 hp
    have hcon := AnyF.slices_SortFunc_none Tryz.sortC none 0 (.func (.func 63) #[] #[]) w
    change Calls Tryz.prog 62 _ _ _ at hcon
    refine hcon.mono ?_
    rintro e w' ⟨rfl, rfl⟩
    exact ⟨rfl, by rw [hU0]; exact h, Only.refl _ _⟩
  · refine (sortC_p g l.length cap B l w h rfl (by omega)).mono ?_
    rintro e w' ⟨rfl, es', h1, h2, h3, h4⟩
    have he : es' = U := weak_strict h2 hU (h1.trans hp.symm)
    rw [he] at h3
    refine ⟨rfl, ?_, h4.mono fun k e => by rw [e]; rfl⟩
    have : U.length = l.length := hp.length_eq
    unfold Row8
    rw [this]; exact h3
end
end Go.Proofs.YtmndnjgbbpkidaaGreat
