/- Lists of one element made, shut; append by its run. (Written by genapp.py.) -/
import Derived.Test.YtppbbddlbfgpfaaJWUps23
import Derived.Test.YtppbbddlbfgpfaaJWUps00
namespace Go.Proofs.Ytppbbddlbfgpfaa
section
open Go.RowKit

theorem wpList_apR {w : World} {ops : Array Oper} {rest : List Oper} {o : Oper} {a : Act} {Q : Exit → Act → World → Prop} (hgd : o.guard = none) (s x : Operand) (t : TypeId)
    (ho : o.op = .call { callee := .builtin .append, args := #[s, x], argTypes := #[t, t] }) (v xv r : Value) (W : World) (hs : a.eval s = v) (hx : a.eval x = xv) (hr : ∀ ty, (Builtin.append_ #[t, t] ty #[v, xv]).run Try.prog w = .ok r W)
    (h : wpList Try.prog ops Q rest (a.put o.dst r) W) : wpList Try.prog ops Q (o :: rest) a w := by
  refine wpList_plain hgd fun K hK => ?_
  unfold Oper.wp execOp
  simp only [ho, resolve, invoke, builtin, Sem.run_bind, Sem.run_pure, Result.andThen_ok, List.map_toArray, List.map_cons, List.map_nil, hs, hx, hr]
  exact hK _ _ h
theorem step_apR {w : World} {ops : Array Oper} {o : Oper} {a : Act} {K : Act → World → Prop} {Q : Exit → Act → World → Prop} {E : Prop} (hgd : o.guard = none) (s x : Operand) (t : TypeId)
    (ho : o.op = .call { callee := .builtin .append, args := #[s, x], argTypes := #[t, t] }) (v xv r : Value) (W : World) (hs : a.eval s = v) (hx : a.eval x = xv) (hr : ∀ ty, (Builtin.append_ #[t, t] ty #[v, xv]).run Try.prog w = .ok r W)
    (h : K (a.put o.dst r) W) : if Region.wanted o (yielded ops a.tmps) = true then Oper.wp Try.prog o a w K Q else E := by
  have hw : Region.wanted o (yielded ops a.tmps) = true := by simp [Region.wanted, hgd]
  rw [if_pos hw]
  unfold Oper.wp execOp
  simp only [ho, resolve, invoke, builtin, Sem.run_bind, Sem.run_pure, Result.andThen_ok, List.map_toArray, List.map_cons, List.map_nil, hs, hx, hr]
  exact h
/-- a list of ints in memory -/
def ci (l : List Int) : List Value := l.map (Value.int .i64)
theorem ci_len (l : List Int) : (ci l).length = l.length * 1 := by unfold ci; simp
theorem ci_app (a b : List Int) : ci (a ++ b) = ci a ++ ci b := by unfold ci; simp
def RowI (w : World) (base : Nat) (v : Value) (l : List Int) : Prop := w.ownsRow base 3 1 v l.length (ci l)
theorem ci_one (l : List Int) : ∀ u ∈ ci l, u.oneCell' = true := ints_oneCell .i64 l
theorem ec_one' (l : List En) : ∀ u ∈ ec l, u.oneCell' = true := by
  intro u hu
  obtain ⟨x, _, hx⟩ := List.mem_flatMap.1 hu
  exact enVals_one x u hx
theorem kc_one' (l : List Ky) : ∀ u ∈ kc l, u.oneCell' = true := by
  intro u hu
  obtain ⟨x, _, hx⟩ := List.mem_flatMap.1 hu
  simp at hx
  rcases hx with rfl | rfl <;> rfl
theorem kc_app' (a b : List Ky) : kc (a ++ b) = kc a ++ kc b := by unfold kc; rw [List.flatMap_append]
theorem Try.infoKy' : (Try.prog.info? 28).map (fun i => (i.zero, i.size, i.bytes)) = some (some (.agg #[.int .i64 0, .string ⟨#[]⟩]), 2, 24) := by kernel_rfl
theorem Try.infoIn : (Try.prog.info? 3).map (fun i => (i.zero, i.size, i.bytes)) = some (some (.int .i64 0), 1, 8) := by kernel_rfl
/-- append to a list of entries -/
theorem appE {w : World} {B : Nat} {v : Value} {l l2 : List En} {ad : Addr} {c : Nat} (h : Row7 w B v l) (h2 : ∀ j u, (ec l2)[j]? = some u → w.cell? (ad.add j) = some u) (hB : B ≤ w.heap.size) (hl : (l.length + l2.length) * 72 ≤ 140737488355328) :
    ∃ v3 W, (∀ ty, (Builtin.append_ #[48, 48] ty #[v, .slice (some ad) l2.length c]).run Try.prog w = .ok v3 W) ∧ Row7 W B v3 (l ++ l2) ∧ Only (fun k => v.ownBlock = some k) w W ∧ (v3.ownBlock = v.ownBlock ∨ v3.ownBlock = some w.heap.size) := by
  obtain ⟨i1, hi1, hw0, hw1, hw2⟩ := info_parts Try.infoE
  obtain ⟨v', W, a1, a2, a3, _, a5⟩ := run_append_own_at (P := Try.prog) w B 48 0 42 i1 _ 7 72 Try.underlying48 hi1 hw0 hw1 hw2 rfl (by decide) v l.length (ec l) h ad l2.length c (ec l2) (ec_len l2) h2 (ec_one' l2) (by unfold maxLen; omega) hl hB
  refine ⟨v', W, fun ty => ?_, ?_, only_grown a3, a5⟩
  · have : (Builtin.append_ #[48, 48] ty #[v, .slice (some ad) l2.length c]).run Try.prog w = (Builtin.append_ #[48, 48] 0 #[v, .slice (some ad) l2.length c]).run Try.prog w := rfl
    rw [this]; exact a1
  · show World.ownsRow _ _ _ _ _ _ _
    rw [List.length_append, ec_app]; exact a2
/-- append to a list of keys -/
theorem appK {w : World} {B : Nat} {v : Value} {l l2 : List Ky} {ad : Addr} {c : Nat} (h : RowK w B v l) (h2 : ∀ j u, (kc l2)[j]? = some u → w.cell? (ad.add j) = some u) (hB : B ≤ w.heap.size) (hl : (l.length + l2.length) * 24 ≤ 140737488355328) :
    ∃ v3 W, (∀ ty, (Builtin.append_ #[32, 32] ty #[v, .slice (some ad) l2.length c]).run Try.prog w = .ok v3 W) ∧ RowK W B v3 (l ++ l2) ∧ Only (fun k => v.ownBlock = some k) w W ∧ (v3.ownBlock = v.ownBlock ∨ v3.ownBlock = some w.heap.size) := by
  obtain ⟨i1, hi1, hw0, hw1, hw2⟩ := info_parts Try.infoKy'
  obtain ⟨v', W, a1, a2, a3, _, a5⟩ := run_append_own_at (P := Try.prog) w B 32 0 28 i1 _ 2 24 Try.underlying32 hi1 hw0 hw1 hw2 rfl (by decide) v l.length (kc l) h ad l2.length c (kc l2) (kc_len l2) h2 (kc_one' l2) (by unfold maxLen; omega) hl hB
  refine ⟨v', W, fun ty => ?_, ?_, only_grown a3, a5⟩
  · have : (Builtin.append_ #[32, 32] ty #[v, .slice (some ad) l2.length c]).run Try.prog w = (Builtin.append_ #[32, 32] 0 #[v, .slice (some ad) l2.length c]).run Try.prog w := rfl
    rw [this]; exact a1
  · show World.ownsRow _ _ _ _ _ _ _
    rw [List.length_append, kc_app']; exact a2
/-- append to a list of ints -/
theorem appI {w : World} {B : Nat} {v : Value} {l l2 : List Int} {ad : Addr} {c : Nat} (h : RowI w B v l) (h2 : ∀ j u, (ci l2)[j]? = some u → w.cell? (ad.add j) = some u) (hB : B ≤ w.heap.size) (hl : (l.length + l2.length) * 8 ≤ 140737488355328) :
    ∃ v3 W, (∀ ty, (Builtin.append_ #[151, 151] ty #[v, .slice (some ad) l2.length c]).run Try.prog w = .ok v3 W) ∧ RowI W B v3 (l ++ l2) ∧ Only (fun k => v.ownBlock = some k) w W ∧ (v3.ownBlock = v.ownBlock ∨ v3.ownBlock = some w.heap.size) := by
  obtain ⟨i1, hi1, hw0, hw1, hw2⟩ := info_parts Try.infoIn
  obtain ⟨v', W, a1, a2, a3, _, a5⟩ := run_append_own_at (P := Try.prog) w B 151 0 3 i1 _ 1 8 Try.underlying151 hi1 hw0 hw1 hw2 rfl (by decide) v l.length (ci l) h ad l2.length c (ci l2) (ci_len l2) h2 (ci_one l2) (by unfold maxLen; omega) hl hB
  refine ⟨v', W, fun ty => ?_, ?_, only_grown a3, a5⟩
  · have : (Builtin.append_ #[151, 151] ty #[v, .slice (some ad) l2.length c]).run Try.prog w = (Builtin.append_ #[151, 151] 0 #[v, .slice (some ad) l2.length c]).run Try.prog w := rfl
    rw [this]; exact a1
  · show World.ownsRow _ _ _ _ _ _ _
    rw [List.length_append, ci_app]; exact a2
/-- a list of one, made, shut -/
def enOne (ps : Array (Nat × Value)) : Sem Value := Instr.buildSlice 48 1 ps
theorem builden (ps : Array (Nat × Value)) : Instr.buildSlice 48 1 ps = enOne ps := rfl
theorem enOne_of (x : En) (w : World) : (enOne #[(0, x.agg)]).run Try.prog w = .ok (.slice (some ⟨w.heap.size, 0, none⟩) 1 1) (w.alloc (.cells (x.vals).toArray 42)) := by
  unfold enOne Instr.buildSlice
  simp [run_underlying Try.underlying48, Try.sizeOf42, Try.zeroValue42, Instr.fill, Value.cells, newRow, En.agg, En.vals]
  rw [show Array.range 7 = #[0, 1, 2, 3, 4, 5, 6] from rfl]
  simp
attribute [irreducible] enOne
theorem one_atG {w : World} {cs : List Value} {t : TypeId} : ∀ j u, cs[j]? = some u → (w.alloc (.cells cs.toArray t)).cell? ((⟨w.heap.size, 0, none⟩ : Addr).add j) = some u := by
  intro j u hu
  rw [add_plain', Nat.zero_add, cell_of (heap_new _ _), List.getElem?_toArray]; exact hu
end
section
open Go.RowKit
theorem Rng.neTag {κ β : Type} {mk : κ → Value} {mv : β → Value} {w : World} {mo : Option Nat} {r k : Nat} {rest : List (κ × β)} (h : Rng mk mv w mo r rest) {t : TypeId} (ht : Tag w k t) : r ≠ k := by
  rintro rfl
  obtain ⟨cs, f, e⟩ := ht
  cases mo with
  | none => rw [h.2] at e; cases e
  | some g =>
    obtain ⟨es, clock, since, seen, c0, _, _, hr, _⟩ := h
    rw [hr] at e; cases e
end
section
open Go.RowKit Go.Shelf Go.Sort
attribute [local go_sem ↓ high] loadEn storeEn loadCa storeCa buildCa builden
attribute [local go_sem high] eqMN

theorem ldE8 (w : World) (x : En × Nat) (t : TypeId) : (enLd (.pointer (some ⟨w.heap.size, 0, none⟩))).run Try.prog (w.alloc (.cells (cvals x).toArray t)) = .ok x.1.agg (w.alloc (.cells (cvals x).toArray t)) := enLd_at (cells7_c (heap_new _ _)).1
/-- what is told, one more; o: what lies ahead of it -/
theorem told_more {w3 : World} {B : Nat} {v : Value} {l : List En} (o : Obj) (x : En) (hv : Row7 w3 B v l) (hs : B ≤ w3.heap.size) (hl : l.length + 1 ≤ 1500000000000) : ∃ v6 w6, (∀ ty, (Builtin.append_ #[48, 48] ty #[v, .slice (some ⟨(w3.alloc o).heap.size, 0, none⟩) 1 1]).run Try.prog ((w3.alloc o).alloc (.cells x.vals.toArray 42)) = .ok v6 w6) ∧ Row7 w6 B v6 (l ++ [x]) ∧ Only (fun k => v.ownBlock = some k) w3 w6 := by
  obtain ⟨w4, hw4⟩ : ∃ W, w3.alloc o = W := ⟨_, rfl⟩
  rw [hw4]
  have b4 := boxO hw4
  have b5 := below_alloc w4 (.cells x.vals.toArray 42)
  have hb := chainB b4.2.1 b5
  obtain ⟨v6, w6, h1, h2, h3, _⟩ := appE (l := l) (l2 := [x]) (ad := ⟨w4.heap.size, 0, none⟩) (c := 1) (owns_below hv hb) (by
    have : ec [x] = x.vals := by simp [ec]
    rw [this]
    exact one_atG) (Nat.le_trans hs hb.size) (by simp only [List.length_cons, List.length_nil]; omega)
  exact ⟨v6, w6, h1, h2, (Only.of hb).trans h3⟩
end
section
open Go.RowKit Go.Shelf Go.Sort
attribute [local go_sem ↓ high] loadEn storeEn loadCa storeCa buildCa builden
attribute [local go_sem high] eqMN

def nameL (L : List En) (d : Int) : List En := L.filter fun e => decide (e.d = d) && !e.neg
/-- what Names tells -/
def NamesR (L : List En) (d : Int) (m : List En) : Prop := m.Perm (nameL L d) ∧ Rises m
theorem NamesR.same {L : List En} {d : Int} {m m' : List En} (h : NamesR L d m) (h' : NamesR L d m') : m = m' := Rises.same h.2 h'.2 fun _ => (h.1.mem_iff).trans h'.1.mem_iff.symm
theorem rises_of {l : List En} {d : Int} (h : l.Pairwise fun a b => ltOf ordN b a = false) (hd : ∀ e ∈ l, e.d = d) (hk : KeysOk l) : Rises l := by
  unfold Rises
  refine (h.and hk).imp_of_mem fun {a b} ha hb hh => ?_
  have h1 := hh.1
  rw [ordN_lt, decide_eq_false_iff_not] at h1
  rw [lessE_iff]
  right
  refine ⟨(hd a ha).trans (hd b hb).symm, ?_⟩
  by_cases h2 : a.nm.toList < b.nm.toList
  · exact h2
  · exact absurd ⟨(hd a ha).trans (hd b hb).symm, bytes_eq.1 (List.le_antisymm (List.not_lt.1 h1) (List.not_lt.1 h2))⟩ hh.2
theorem KeysOk.filter {L : List En} (h : KeysOk L) (f : En → Bool) : KeysOk (L.filter f) := List.Pairwise.filter f h
theorem KeysOk.perm {L M : List En} (h : KeysOk L) (hp : M.Perm L) : KeysOk M := by
  unfold KeysOk at *
  exact (hp.pairwise_iff (fun {a b} (h : ¬ (a.d = b.d ∧ a.nm = b.nm)) => fun e => h ⟨e.1.symm, e.2.symm⟩)).2 h
theorem sortE_any (v : Value) (B : Nat) (l : List En) (d : Int) (w : World) (h : Row7 w B v l) (hd : ∀ e ∈ l, e.d = d) (hk : KeysOk l) (hl : l.length ≤ 1500000000000) : Calls Try.prog 32 #[v, .func (.func 33) #[] #[]] w fun e w' => e = .returned (.tuple #[]) ∧ ∃ m, Row7 w' B v m ∧ m.Perm l ∧ Rises m ∧ Only (fun k => v.ownBlock = some k) w w' := by
  rcases h.2 with ⟨rfl, e2⟩ | ⟨g, cap, cur, rfl, _⟩
  · obtain rfl := List.length_eq_zero_iff.1 e2
    have hcon := AnyF.slices_SortFunc_none Try.sortE none 0 (.func (.func 33) #[] #[]) w
    change Calls Try.prog 32 _ _ _ at hcon
    refine hcon.mono ?_
    rintro e w' ⟨rfl, rfl⟩
    exact ⟨rfl, [], h, List.Perm.refl _, List.Pairwise.nil, Only.refl _ _⟩
  · refine (sortE_p g l.length cap B l w h rfl (by omega)).mono ?_
    rintro e w' ⟨rfl, m, h1, h2, h3, h4⟩
    refine ⟨rfl, m, ?_, h1, rises_of h2 (fun e he => hd e (h1.mem_iff.1 he)) (hk.perm h1), h4.mono fun k e => by rw [e]; rfl⟩
    have : m.length = l.length := h1.length_eq
    unfold Row7
    rw [this]; exact h3
def posE (E : List (ByteArray × En × Nat)) : List En := (E.map (·.2.1)).filter fun e => !e.neg
theorem posE_snoc (E : List (ByteArray × En × Nat)) (nm : ByteArray) (e : En) (u : Nat) : posE (E ++ [(nm, e, u)]) = posE E ++ if e.neg then [] else [e] := by
  unfold posE
  rw [List.map_append, List.filter_append]
  congr 1
  cases h : e.neg <;> simp [h]
theorem posE_perm {E F : List (ByteArray × En × Nat)} (h : E.Perm F) : (posE E).Perm (posE F) := (h.map _).filter _
/-- a directory's part tells its names -/
theorem posE_names {c : Pc} {s : Cs} (hs : Says c s) (ok : PmOk c.om) (d : Int) : (posE (inn c.om d)).Perm (nameL s.L d) := by
  obtain ⟨U, h1, h2, h3, h4⟩ := hs.rep
  have e1 : (nameL s.L d) = (U.filter fun x => decide (x.1.d = d) && !x.1.neg).map (·.1) := by
    unfold nameL
    rw [← h4, List.filter_map]; rfl
  have e2 : (posE (inn c.om d)) = (((inn c.om d).map (·.2)).filter fun x => !x.1.neg).map (·.1) := by
    unfold posE
    rw [List.filter_map, List.filter_map, List.map_map]
    rfl
  rw [e1, e2]
  refine List.Perm.map _ ?_
  refine List.Perm.trans ?_ (h3.filter _).symm
  rw [← List.filter_filter]
  have e3 : (cont c.om).filter (fun x => decide (x.1.d = d)) = (inn c.om d).map (·.2) := by
    rcases om_cases c.om ok d with ⟨_, hn⟩ | ⟨A, g, l, B, ho, _, hA, hB⟩
    · rw [inn_none hn, List.map_nil]
      exact List.filter_eq_nil_iff.2 fun x hx => by simpa using ok.other (fun _ h => h) hn hx
    · have ok' := ok
      rw [ho] at ok'
      rw [ho, inn_some hA, cont_app, cont_cons, List.filter_append, List.filter_append]
      have a1 : (cont A).filter (fun x => decide (x.1.d = d)) = [] := List.filter_eq_nil_iff.2 fun x hx => by simpa using ok'.other (fun _ h => by simp [h]) hA hx
      have a2 : (cont B).filter (fun x => decide (x.1.d = d)) = [] := List.filter_eq_nil_iff.2 fun x hx => by simpa using ok'.other (fun _ h => by simp [h]) hB hx
      have a3 : (l.map (·.2)).filter (fun x => decide (x.1.d = d)) = l.map (·.2) := List.filter_eq_self.2 fun x hx => by
        obtain ⟨q, hq, rfl⟩ := List.mem_map.1 hx
        simpa using (ok'.l.2 q hq).1
      rw [a1, a2, a3]; simp
  rw [← e3, List.filter_filter, List.filter_filter]
  exact List.Perm.of_eq (List.filter_congr fun x _ => by rw [Bool.and_comm])
set_option maxHeartbeats 8000000 in
theorem names_p (p : Nat) (c : Pc) (s : Cs) (d : Int) (w : World) (h : IsC w p c) (hs : Says c s) (hl : s.L.length ≤ 1400000000000) : Calls Try.prog 16 #[.pointer (some ⟨p, 0, none⟩), .int .i64 d] w fun x w' => ∃ v m, x = .returned v ∧ Row7 w' w.heap.size v m ∧ NamesR s.L d m ∧ Below w.heap.size w w' := by
  obtain ⟨c0, -, -, -⟩ := h.cells
  have hlk := h.look d
  have bx := box8
  have lde := ldE8
  have onee := enOne_of
  obtain ⟨go, hgo⟩ : ∃ go, c.dir d = go := ⟨_, rfl⟩
  rw [hgo] at hlk
  obtain ⟨l, hl0⟩ : ∃ l, inn c.om d = l := ⟨_, rfl⟩
  have hvv := h.innV d
  rw [hgo, hl0] at hvv
  have hpn := posE_names hs h.ok d
  rw [hl0] at hpn
  have HI : Hid (MapV Value.string mvC w go l ∧ (posE l).Perm (nameL s.L d) ∧ KeysOk s.L ∧ l.length ≤ 1400000000000 ∧ ∀ g, go = some g → g < w.heap.size) := by
    refine ⟨hvv, hpn, hs.keys h.ok, ?_, fun g hg => ?_⟩
    · refine Nat.le_trans ?_ hl
      rw [← hs.rep.len, ← hl0]
      have : ∀ om : Pm, (inn om d).length ≤ (cont om).length := fun om => by
        unfold inn
        cases hf : om.find? (fun x => decide (x.1 = d)) with
        | none => exact Nat.zero_le _
        | some y =>
          have := List.mem_of_find?_eq_some hf
          obtain ⟨A, B, e⟩ := List.append_of_mem this
          rw [e, cont_app, cont_cons]
          simp only [List.length_append, List.length_map]
          omega
      exact this c.om
    · subst hg
      exact MapAt.lt hvv
  clear h hs hl hgo hl0 hvv hpn
  go_enter Try.func16, Try.ntmps16
  go_wp2_with (first
    | (at_range; refine wpList_rangeM _ rfl _ _ rfl _ _ undI go l rfl HI.out.1 ?_; intro w0 hr0 hb0 hs0; have H0 : Hid (Rng Value.string mvC w0 go w.heap.size l ∧ Below w.heap.size w w0 ∧ w0.heap.size = w.heap.size + 1) := ⟨hr0, hb0, hs0⟩; clear hr0 hb0 hs0)
    | go_in)
  (try go_frame)
  go_loopw [5, 7] (fun s5 _ wr => ∃ v, s5 = v ∧ Hid (∃ E F, Rng Value.string mvC wr go w.heap.size F ∧ (E ++ F).Perm l ∧ Row7 wr w.heap.size v (posE E) ∧ Below w.heap.size w wr)) (fun _ _ wr => rngLeft wr w.heap.size)
  case atStart => exact ⟨_, rfl, [], l, H0.out.1, List.Perm.refl _, World.ownsRow_nil _ _ _ _, H0.out.2.1⟩
  case round =>
    obtain ⟨v, rfl, hrel⟩ := hrel
    obtain ⟨E, F, hF, hEF, hv, hb⟩ := hrel.out
    clear hrel
    go_wp2_with (first
      | (at_next; refine wpList_nextM _ rfl _ rfl go w.heap.size _ rfl hF ?_ ?_)
      | go_in)
    · intro hl0
      obtain ⟨x1, x2, x3, x4, x5⟩ := HI.out
      rw [hl0, List.append_nil] at hEF
      have hp : (posE E).Perm (nameL s.L d) := (posE_perm hEF).trans x2
      have HS : Hid (Calls Try.prog 32 #[u5, .func (.func 33) #[] #[]] wr fun e w' => e = .returned (.tuple #[]) ∧ ∃ m, Row7 w' w.heap.size u5 m ∧ NamesR s.L d m ∧ Below w.heap.size w w') := by
        refine (sortE_any u5 w.heap.size (posE E) d wr hv (fun e he => ?_) ((x3.filter _).perm hp) ?_).mono ?_
        · have := hp.mem_iff.1 he
          unfold nameL at this
          rw [List.mem_filter] at this
          have := this.2
          simp at this
          exact this.1
        · have h1 : (posE E).length ≤ E.length := by unfold posE; exact Nat.le_trans (List.length_filter_le _ _) (by rw [List.length_map]; exact Nat.le_refl _)
          have h2 := hEF.length_eq
          omega
        · rintro e w' ⟨rfl, m, h1, h2, h3, h4⟩
          exact ⟨rfl, m, h1, ⟨h2.trans hp, h3⟩, h4.below hb hb.size fun k hk => (World.ownsRow.lt hv k hk).1⟩
      clear hF hEF hv hb hp x1 x2 x3 x4 x5
      go_wp2_with (go_at_call 32; refine HS.out.mono ?_; rintro e w8 ⟨rfl, m, hm⟩; have H8 : Hid (Row7 w8 w.heap.size u5 m ∧ NamesR s.L d m ∧ Below w.heap.size w w8) := hm; clear hm)
      go_ret
      exact ⟨_, _, rfl, H8.out⟩
    · intro A2 nm e u B2 w3 hx hF3 hO3 hs3 hen3
      obtain ⟨x1, x2, x3, x4, x5⟩ := HI.out
      have hb3 : Below w.heap.size w w3 := Only.below hb hO3 hb.size (fun k e => by omega)
      have tg : ∀ k, u5.ownBlock = some k → w.heap.size ≤ k ∧ Tag wr k 42 := fun k hk => ⟨(World.ownsRow.lt hv k hk).1, Tag.own hv hk⟩
      have hv3 : Row7 w3 w.heap.size u5 (posE E) := owns_moved hv fun k hk => hO3.block _ (tg k hk).2.lt (hF.neTag (tg k hk).2).symm
      have hsn := posE_snoc E nm e u
      cases hneg : e.neg with
      | true =>
        rw [hneg] at hsn
        obtain ⟨w4, hw4⟩ : ∃ w4, w3.alloc (.cells (cvals (e, u)).toArray 77) = w4 := ⟨_, rfl⟩
        have b4 := boxO hw4
        have q2 := (cells7_c b4.1).1.c2
        rw [show ((e, u) : En × Nat).1.neg = true from hneg] at q2
        have bx3 := bx w3 (e, u)
        rw [hw4] at bx3
        have F4 : Rng Value.string mvC w4 go w.heap.size (A2 ++ B2) := hF3.moved (b4.2.1.block _ hF3.lt) (fun g eg => b4.2.1.block _ (by have := hb3.size; have := x5 g eg; omega))
        have H6 : Hid (∃ E F, Rng Value.string mvC w4 go w.heap.size F ∧ (E ++ F).Perm l ∧ Row7 w4 w.heap.size u5 (posE E) ∧ Below w.heap.size w w4) := by
          refine ⟨E ++ [(nm, e, u)], A2 ++ B2, F4, snoc_mid (by rw [← hx]; exact hEF), ?_, chainB hb3 b4.2.1⟩
          rw [hsn, if_pos rfl, List.append_nil]
          exact hv3.below b4.2.1
        have hme : rngLeft w4 w.heap.size < rngLeft wr w.heap.size := by
          rw [F4.left, hF.left, hx]
          simp
        clear hF hEF hv hb hx hF3 hO3 hs3 x1 x2 x3 x4 x5 hb3 tg hv3 hsn hneg b4 hw4 F4 bx lde onee c0 hlk
        go_wp2
        go_roundw
        case rel => exact ⟨_, rfl, H6⟩
        case measure => exact hme
      | false =>
        rw [hneg] at hsn
        have hle : (posE E).length + 1 ≤ 1500000000000 := by
          have h1 : (posE E).length ≤ E.length := by unfold posE; exact Nat.le_trans (List.length_filter_le _ _) (by rw [List.length_map]; exact Nat.le_refl _)
          have h2 := hEF.length_eq
          simp only [List.length_append] at h2
          omega
        obtain ⟨v6, w6, hr6, hv6, ho6⟩ := told_more (.cells (cvals (e, u)).toArray 77) e hv3 hb3.size hle
        have ne3 : ∀ k, u5.ownBlock = some k → w.heap.size ≤ k ∧ Tag w3 k 42 := fun k hk => ⟨(tg k hk).1, Tag.own hv3 hk⟩
        have F6 : Rng Value.string mvC w6 go w.heap.size (A2 ++ B2) := hF3.moved (ho6.block _ hF3.lt fun hk => hF3.neTag (ne3 _ hk).2 rfl) (fun g eg => ho6.block _ (by have := hb3.size; have := x5 g eg; omega) fun hk => by have := (ne3 _ hk).1; have := x5 g eg; omega)
        have H6 : Hid (∃ E F, Rng Value.string mvC w6 go w.heap.size F ∧ (E ++ F).Perm l ∧ Row7 w6 w.heap.size v6 (posE E) ∧ Below w.heap.size w w6) := by
          refine ⟨E ++ [(nm, e, u)], A2 ++ B2, F6, snoc_mid (by rw [← hx]; exact hEF), ?_, ho6.below hb3 hb3.size fun k hk => (ne3 k hk).1⟩
          rw [hsn, if_neg (by decide)]
          exact hv6
        have hme : rngLeft w6 w.heap.size < rngLeft wr w.heap.size := by
          rw [F6.left, hF.left, hx]
          simp
        obtain ⟨w4, hw4⟩ : ∃ w4, w3.alloc (.cells (cvals (e, u)).toArray 77) = w4 := ⟨_, rfl⟩
        have b4 := boxO hw4
        have q2 := (cells7_c b4.1).1.c2
        rw [show ((e, u) : En × Nat).1.neg = false from hneg] at q2
        have bx3 := bx w3 (e, u)
        have lde3 := lde w3 (e, u) 77
        rw [hw4] at bx3 lde3 hr6
        clear hF hEF hv hb hx hF3 hO3 hs3 x1 x2 x3 x4 x5 hb3 tg hv3 hsn hneg b4 hw4 hle hv6 ho6 ne3 F6 bx lde c0 hlk
        go_wp2_with (at_builtin; refine wpList_apR rfl (.tmp 23) (.tmp 26) 48 rfl _ _ v6 w6 (by simp [Act.eval]) (by simp [Act.eval]) hr6 ?_)
        go_roundw
        case rel => exact ⟨_, rfl, H6⟩
        case measure => exact hme
end
section
open Go.RowKit

def placeV (v n : Int) : Int := if v.tmod n < 0 then v.tmod n + n else v.tmod n
theorem placeV_bd (v n : Int) (h : 0 < n) : 0 ≤ placeV v n ∧ placeV v n < n := by
  unfold placeV
  have h1 := Int.tmod_lt_of_pos v h
  have h2 : -n < v.tmod n := by
    have := Int.tmod_lt_of_pos (-v) h
    rw [Int.neg_tmod] at this
    omega
  split <;> omega

set_option maxHeartbeats 400000 in
theorem place_core (v n k : Int) (w : World) (hn : 0 < n) (hn2 : n ≤ 1000) (hk : v.tmod n = k) (h1 : -1000 < k) (h2 : k < 1000) :
    Calls Try.prog 19 #[.int .i64 v, .int .i64 n] w fun e w' => e = .returned (.int .i64 (if k < 0 then k + n else k)) ∧ w' = w := by
  by_cases c : k < 0
  · rw [if_pos c]
    go_enter Try.func19, Try.ntmps19
    go_wp2
    go_ret
    exact ⟨rfl, rfl⟩
  · rw [if_neg c]
    go_enter Try.func19, Try.ntmps19
    go_wp2
    go_ret
    exact ⟨rfl, rfl⟩

theorem place_any (v n : Int) (w : World) (hn : 0 < n) (hn2 : n ≤ 1000) :
    Calls Try.prog 19 #[.int .i64 v, .int .i64 n] w fun e w' => e = .returned (.int .i64 (placeV v n)) ∧ w' = w := by
  have h1 := Int.tmod_lt_of_pos v hn
  have h2 : -n < v.tmod n := by
    have := Int.tmod_lt_of_pos (-v) hn
    rw [Int.neg_tmod] at this
    omega
  exact place_core v n _ w hn hn2 rfl (by omega) (by omega)
end
end Go.Proofs.Ytppbbddlbfgpfaa
