/- Lists compared, of any length; keys, entries and calls among the arguments by value. -/
import Derived.Test.YtmndnjgbbpkidaaGreatJWLks20
namespace Go.Proofs.YtmndnjgbbpkidaaGreat
section
section
open Go.RowKit
attribute [local go_sem high] eqK neqK eqE neqE eqN neqN guardK guardE guardN
set_option maxHeartbeats 4000000 in
theorem sameE_big (v v' : Value) (l l' : List En) (base base' : Nat) (w : World) (h : Row7 w base v l) (h' : Row7 w base' v' l') (hl : l.length ≤ 140737488351232) (hl' : l'.length ≤ 140737488351232) :
    Calls Tryz.prog 16 #[v, v'] w fun e w' => e = .returned (.bool (sameEs l l')) ∧ Below w.heap.size w w' := by
  obtain ⟨a, cap, rfl⟩ := owns_len h
  obtain ⟨a', cap', rfl⟩ := owns_len h'
  by_cases hn : l.length = l'.length
  · obtain ⟨n, hn1⟩ : ∃ n, l.length = n := ⟨_, rfl⟩
    have hn2 : l'.length = n := by omega
    rw [hn1] at hl
    have HC : Hid (Row7 w base (.slice a n cap) l ∧ Row7 w base' (.slice a' n cap') l' ∧ l.length = n ∧ l'.length = n) := ⟨by rw [← hn1]; exact h, by rw [← hn2]; exact h', hn1, hn2⟩
    rw [hn1, hn2]
    clear h h' hn hn1 hn2 hl'
    go_enter Tryz.func16, Tryz.ntmps16
    go_wp2
    go_loopw [5] (fun i wr => ∃ k : Nat, k ≤ n ∧ i = .int .i64 k ∧ l.take k = l'.take k ∧ Below w.heap.size w wr) (fun i _ => n - (intOf i).toNat)
    case atStart => exact ⟨0, Nat.zero_le _, rfl, rfl, Below.refl _ _⟩
    case round =>
      obtain ⟨k, hk, rfl, ht, hb⟩ := hrel
      by_cases hlt : k < n
      · obtain ⟨e, he⟩ : ∃ x, l[k]? = some x := ⟨_, List.getElem?_eq_getElem (by rw [HC.out.2.2.1]; exact hlt)⟩
        obtain ⟨f, hf⟩ : ∃ x, l'[k]? = some x := ⟨_, List.getElem?_eq_getElem (by rw [HC.out.2.2.2]; exact hlt)⟩
        obtain ⟨g, rfl, -, -, -, hc, -⟩ := owns_entry (HC.out.1.below hb) he
        obtain ⟨g', rfl, -, -, -, hc', -⟩ := owns_entry (HC.out.2.1.below hb) hf
        have x0 := hc.c0
        have x1 := hc.c1
        have x2 := hc.c2
        have x3 := hc.c3
        have x4 := hc.c4
        have x5 := hc.c5
        have x6 := hc.c6
        have y0 := hc'.c0
        have y1 := hc'.c1
        have y2 := hc'.c2
        have y3 := hc'.c3
        have y4 := hc'.c4
        have y5 := hc'.c5
        have y6 := hc'.c6
        have hki : (k : Int) < (n : Int) := by omega
        by_cases hxx : e = f
        · have HT : Hid (l.take (k + 1) = l'.take (k + 1)) := take_snocE ht he (hxx ▸ hf)
          subst hxx
          obtain ⟨e0, e1, e2, e3, e4, e5, e6⟩ := e
          have heq : eqEn ⟨e0, e1, e2, e3, e4, e5, e6⟩ ⟨e0, e1, e2, e3, e4, e5, e6⟩ = true := (eqEn_iff _ _).2 rfl
          clear he hf ht hc hc'
          go_upto_region 6 with fail
          go_quiet (fail)
          go_wp2
          exact ⟨⟨k + 1, by omega, by simp, HT.out, below_drewN hb _⟩, by simp [intOf]; omega⟩
        · have HE : Hid (sameEs l l' = false) := sameEs_no (by rintro rfl; rw [he] at hf; exact hxx (Option.some.inj hf))
          obtain ⟨e0, e1, e2, e3, e4, e5, e6⟩ := e
          obtain ⟨f0, f1, f2, f3, f4, f5, f6⟩ := f
          have hne : eqEn ⟨e0, e1, e2, e3, e4, e5, e6⟩ ⟨f0, f1, f2, f3, f4, f5, f6⟩ = false := eqEn_no hxx
          clear he hf ht hc hc' hxx
          go_upto_region 6 with fail
          go_quiet (fail)
          go_wp2
          go_ret
          exact ⟨by rw [HE.out]; rfl, below_drewN hb _⟩
      · have hkl : k = n := by omega
        subst hkl
        have HE : Hid (sameEs l l' = true) := (sameEs_iff l l').2 (take_eqE ht HC.out.2.2.1.symm HC.out.2.2.2.symm)
        clear ht
        go_wp2
        go_ret
        exact ⟨by rw [HE.out]; rfl, hb⟩
  · have HE : Hid (sameEs l l' = false) := sameEs_no (by rintro rfl; exact hn rfl)
    have hne : ((l.length : Int) != (l'.length : Int)) = true := by simp; omega
    clear h h'
    go_enter Tryz.func16, Tryz.ntmps16
    go_wp2
    go_ret
    exact ⟨by rw [HE.out]; rfl, Below.refl _ _⟩
theorem sameE_yes (v v' : Value) (l : List En) (base base' : Nat) (w : World) (h : Row7 w base v l) (h' : Row7 w base' v' l) (hl : l.length ≤ 140737488351232) : Calls Tryz.prog 16 #[v, v'] w fun e w' => e = .returned (.bool true) ∧ Below w.heap.size w w' := by
  have := sameE_big v v' l l base base' w h h' hl hl
  rw [(sameEs_iff l l).2 rfl] at this; exact this
end
section
open Go.ChangeShapes Go.WideShapes Go.ChangeAt Go.RowKit Go.Joins
set_option maxRecDepth 100000 in
theorem key_arg {H : Type} {enc : TypeId × Value → H} {W : World} {r : Reach} {b0 : Nat} {v : Value} {d : DataW H} {ps : List MemPlace} (hv : Value.okWide Tryz.prog W r b0 29 v) (h : DataW.Trod enc Tryz.prog W 0 (fun _ => true) true 29 v d ps) : ∃ k : Ky, v = .agg #[.int .i64 k.d, .string k.nm] := by
  obtain ⟨cs, rfl, hsz⟩ := okWide_struct Tryz.underlying29 hv
  obtain ⟨fuel, hf⟩ := h
  obtain ⟨p, hp⟩ := ky_of hf
  refine ⟨p, ?_⟩
  have e : (Value.agg cs).cells.toList = cs.toList := rfl
  rw [e] at hp
  have : cs = #[.int .i64 p.d, .string p.nm] := Array.toList_inj.1 hp
  rw [this]
set_option maxRecDepth 100000 in
theorem ent_arg {H : Type} {enc : TypeId × Value → H} {W : World} {r : Reach} {b0 : Nat} {v : Value} {d : DataW H} {ps : List MemPlace} (hv : Value.okWide Tryz.prog W r b0 52 v) (h : DataW.Trod enc Tryz.prog W 0 (fun _ => true) true 52 v d ps) : ∃ e : En, v = e.agg := by
  obtain ⟨cs, rfl, hsz⟩ := okWide_struct Tryz.underlying52 hv
  obtain ⟨fuel, hf⟩ := h
  obtain ⟨p, hp⟩ := en_of hf
  refine ⟨p, ?_⟩
  have e : (Value.agg cs).cells.toList = cs.toList := rfl
  rw [e] at hp
  have : cs = p.vals.toArray := Array.toList_inj.1 (by rw [hp])
  rw [this]; rfl
set_option maxRecDepth 100000 in
theorem dop_arg {H : Type} {enc : TypeId × Value → H} {W : World} {r : Reach} {b0 : Nat} {v : Value} {d : DataW H} {ps : List MemPlace} (hv : Value.okWide Tryz.prog W r b0 61 v) (h : DataW.Trod enc Tryz.prog W 0 (fun _ => true) true 61 v d ps) (hw : ∀ n ∈ d.weights Tryz.prog 61, n ≤ reachBytes) : ∃ x : DOp, v = x.agg ∧ ArgK W x.vk x.ks := by
  obtain ⟨cs, rfl, hsz⟩ := okWide_struct Tryz.underlying61 hv
  obtain ⟨fuel, hf⟩ := h
  obtain ⟨p, hp, hk⟩ := dop_of hf hw
  refine ⟨p, ?_, hk⟩
  have e : (Value.agg cs).cells.toList = cs.toList := rfl
  rw [e] at hp
  have : cs = p.vals.toArray := Array.toList_inj.1 (by rw [hp])
  rw [this]; rfl
end
open Go.RowKit
/-- a law's cache told anew from an earlier world -/
theorem Ld.up {w0 w wr : World} {p : Nat} {s : Cs} {n : Nat} {F : Nat → Prop} (h : Ld w wr p s n F) (hb : Below w0.heap.size w0 w) : Ld w0 wr p s n (fun b => F b ∨ b < w.heap.size) := by
  obtain ⟨c, h1, h2, h3, h4⟩ := h.ex
  have hs := h.below.size
  refine ⟨⟨c, h1, h2, h3, fun k hk => ⟨Nat.le_trans hb.size (h4 k hk).1, fun e => ?_⟩⟩, ⟨h.below.os.trans hb.os, h.below.tape.trans hb.tape, h.below.output.trans hb.output, Nat.le_trans hb.size hs, fun k hk => (h.below.block k (Nat.lt_of_lt_of_le hk hb.size)).trans (hb.block k hk)⟩, h.nn, fun k hk => ?_, h.len⟩
  · rcases e with e | e
    · exact (h4 k hk).2 e
    · have := (h4 k hk).1; omega
  · rcases hk with hk | hk
    · exact h.fl k hk
    · omega
end
section
open Go.RowKit

def dc (l : List DOp) : List Value := l.flatMap DOp.vals
theorem vals10 (x : DOp) : x.vals.length = 10 := rfl
theorem dc_len (l : List DOp) : (dc l).length = l.length * 10 := by
  unfold dc
  induction l with
  | nil => rfl
  | cons x l ih => rw [List.flatMap_cons, List.length_append, ih, vals10, List.length_cons]; omega
theorem dc_app (a b : List DOp) : dc (a ++ b) = dc a ++ dc b := by unfold dc; rw [List.flatMap_append]
theorem dc_get (l : List DOp) (i j : Nat) (x : DOp) (h : l[i]? = some x) (hj : j < 10) : (dc l)[i * 10 + j]? = x.vals[j]? := by
  induction l generalizing i with
  | nil => simp at h
  | cons y l ih =>
    unfold dc at *
    rw [List.flatMap_cons]
    cases i with
    | zero =>
      simp at h; subst h
      rw [List.getElem?_append_left (by rw [vals10]; omega)]; simp
    | succ i =>
      rw [List.getElem?_append_right (by rw [vals10]; omega), vals10]
      rw [show (i + 1) * 10 + j - 10 = i * 10 + j by omega]
      exact ih i (by simpa using h)
/-- a list of calls in memory -/
def RowO (w : World) (base : Nat) (v : Value) (l : List DOp) : Prop := w.ownsRow base 61 10 v l.length (dc l)
theorem Tryz.infoDo : (Tryz.prog.info? 61).map (fun i => (i.zero, i.size, i.bytes)) = some (some (.agg #[.int .i64 0, .int .i64 0, .int .i64 0, .string ⟨#[]⟩, .bool false, .int .i64 0, .int .i64 0, .int .i64 0, .string ⟨#[]⟩, .slice none 0 0]), 10, 112) := by kernel_rfl
theorem appO {w : World} {B : Nat} {v : Value} {l l2 : List DOp} {ad : Addr} {c : Nat} (h : RowO w B v l) (h2 : ∀ j u, (dc l2)[j]? = some u → w.cell? (ad.add j) = some u) (hone : ∀ u ∈ dc l2, u.oneCell' = true) (hB : B ≤ w.heap.size) (hl : (l.length + l2.length) * 112 ≤ 140737488355328) :
    ∃ v3 W, (∀ ty, (Builtin.append_ #[22, 22] ty #[v, .slice (some ad) l2.length c]).run Tryz.prog w = .ok v3 W) ∧ RowO W B v3 (l ++ l2) ∧ Only (fun k => v.ownBlock = some k) w W := by
  obtain ⟨i1, hi1, hw0, hw1, hw2⟩ := info_parts Tryz.infoDo
  obtain ⟨v', W, a1, a2, a3, _, a5⟩ := run_append_own_at (P := Tryz.prog) w B 22 0 61 i1 _ 10 112 Tryz.underlying22 hi1 hw0 hw1 hw2 rfl (by decide) v l.length (dc l) h ad l2.length c (dc l2) (dc_len l2) h2 hone (by unfold maxLen; omega) hl hB
  refine ⟨v', W, fun ty => ?_, ?_, only_grown a3⟩
  · have : (Builtin.append_ #[22, 22] ty #[v, .slice (some ad) l2.length c]).run Tryz.prog w = (Builtin.append_ #[22, 22] 0 #[v, .slice (some ad) l2.length c]).run Tryz.prog w := rfl
    rw [this]; exact a1
  · show World.ownsRow _ _ _ _ _ _ _
    rw [List.length_append, dc_app]; exact a2
def doOne (ps : Array (Nat × Value)) : Sem Value := Instr.buildSlice 22 1 ps
theorem builddo (ps : Array (Nat × Value)) : Instr.buildSlice 22 1 ps = doOne ps := rfl
theorem doOne_of (x : DOp) (w : World) : (doOne #[(0, x.agg)]).run Tryz.prog w = .ok (.slice (some ⟨w.heap.size, 0, none⟩) 1 1) (w.alloc (.cells (x.vals).toArray 61)) := by
  unfold doOne Instr.buildSlice
  simp [run_underlying Tryz.underlying22, Tryz.sizeOf61, Tryz.zeroValue61, Instr.fill, Value.cells, newRow, DOp.agg, DOp.vals, En.vals]
  rw [show Array.range 10 = #[0, 1, 2, 3, 4, 5, 6, 7, 8, 9] from rfl]
  simp
attribute [irreducible] doOne
theorem keep_op {X : World} {B : Nat} {v : Value} {l : List DOp} (x : DOp) (h : RowO X B v l) (hk : x.vk.oneCell' = true) (hB : B ≤ X.heap.size) (hl : (l.length + 1) * 112 ≤ 140737488355328) : ∃ a6 N6 c6 Z, (∀ ty, (Builtin.append_ #[22, 22] ty #[v, .slice (some ⟨X.heap.size, 0, none⟩) 1 1]).run Tryz.prog (X.alloc (.cells x.vals.toArray 61)) = .ok (.slice a6 N6 c6) Z) ∧ RowO Z B (.slice a6 N6 c6) (l ++ [x]) ∧ Only (fun b => v.ownBlock = some b) X Z := by
  have bY := below_alloc X (.cells x.vals.toArray 61)
  have e1 : dc [x] = x.vals := by simp [dc]
  obtain ⟨v6, Z, r6, row6, o6⟩ := appO (w := X.alloc (.cells x.vals.toArray 61)) (B := B) (v := v) (l := l) (l2 := [x]) (ad := ⟨X.heap.size, 0, none⟩) (c := 1) (owns_below h bY) (by
    rw [e1]
    exact one_atG (w := X)) (by rw [e1]; exact dvals_one hk) (Nat.le_trans hB bY.size) (by simp only [List.length_cons, List.length_nil]; omega)
  obtain ⟨a6, c6, hv6⟩ := owns_len row6
  subst hv6
  exact ⟨a6, _, c6, Z, r6, row6, (Only.of bY).trans o6⟩
/-- such a list serves as a script -/
theorem RowO.rowD {w : World} {B n c : Nat} {a : Option Addr} {l : List DOp} (h : RowO w B (.slice a n c) l) (hk : ∀ x ∈ l, ArgK w x.vk x.ks) : RowD w a l ∧ n = l.length := by
  have h2 := h.2
  rcases h2 with ⟨h1, h0⟩ | ⟨g, cap, cur, hv, hB, hw, hc, hm, hs, ht⟩
  · injection h1 with h1 h2 h3
    exact ⟨.inl (List.length_eq_zero_iff.1 h0), by omega⟩
  · injection hv with h1 h2 h3
    subst h1 h3
    refine ⟨.inr ⟨g, 0, rfl, (Array.getElem?_eq_some_iff.1 hw).1, fun i x hx => ⟨fun j u hu => ?_, hk x (List.mem_of_getElem? hx)⟩⟩, h2⟩
    have hj : j < 10 := by
      have := (List.getElem?_eq_some_iff.1 hu).1
      rw [vals10] at this; exact this
    have h4 := dc_get l i j x hx hj
    rw [hu, ← ht] at h4
    have hlt : i * 10 + j < l.length * 10 := by
      have := (List.getElem?_eq_some_iff.1 hx).1
      omega
    rw [List.getElem?_take_of_lt hlt] at h4
    rw [cell_of hw, Nat.zero_add]
    simpa using h4
end
end Go.Proofs.YtmndnjgbbpkidaaGreat
