/- Cut. -/
import Derived.Test.YtppbbddlbfgpfaaJWOme23
import Derived.Deep.LoopGhost
import Derived.Test.YtppbbddlbfgpfaaJWOme11
import Derived.Test.YtppbbddlbfgpfaaJWOme12
namespace Go.Proofs.Ytppbbddlbfgpfaa
section
open Go.RowKit
attribute [local go_sem ↓ high] loadEn storeEn loadCa storeCa buildCa
attribute [local go_sem high] eqMN

/-- a list that reads as these keys; G: where it does not lie -/
def RdK (w : World) (v : Value) (ks : List Ky) (G : Nat → Prop) : Prop := ∃ a cap, v = .slice a ks.length cap ∧ ∀ (j : Nat) (k : Ky), ks[j]? = some k → ∃ g o, a = some ⟨g, o, none⟩ ∧ w.cell? ⟨g, o + j * 2, none⟩ = some (.int .i64 k.d) ∧ w.cell? ⟨g, o + j * 2 + 1, none⟩ = some (.string k.nm) ∧ ¬ G g
theorem RowK.rd {w : World} {base : Nat} {v : Value} {ks : List Ky} (h : RowK w base v ks) {G : Nat → Prop} (hG : ∀ g, v.ownBlock = some g → ¬ G g) : RdK w v ks G := by
  obtain ⟨a, cap, rfl⟩ := owns_len h
  refine ⟨a, cap, rfl, fun j k hk => ?_⟩
  obtain ⟨g, rfl, _, _, k0, k1, _⟩ := h.key hk
  exact ⟨g, 0, rfl, by rw [Nat.zero_add]; exact k0, by rw [Nat.zero_add]; exact k1, hG g rfl⟩
theorem delO_mid {w : World} {p : Nat} {c : Pc} (h : IsC w p c) (d : Int) : ∃ W c', (∀ ty, (Builtin.delete_ #[71, 3] ty #[.map (some c.g0), .int .i64 d]).run Try.prog w = .ok (.tuple #[]) W) ∧ Aft w W p c c' ∧ Cutt c c' (fun e => decide (e.d ≠ d)) := by
  obtain ⟨V, hr, hm, hO, -⟩ := delM kI undO 0 w (some c.g0) (om2 c.om) h.outer d
  exact ⟨V, _, fun ty => hr, h.delO hm (hO.mono fun q e => by cases e; rfl), cutt_dir h d⟩
theorem hit_all {k : Ky} (h : k.nm = nob) : (fun e => !hitK k e) = fun e : En => decide (e.d ≠ k.d) := by
  funext e
  unfold hitK
  rw [decide_eq_true h, Bool.true_or, Bool.and_true]
  by_cases h1 : e.d = k.d <;> simp [h1]
theorem hit_one {k : Ky} (h : k.nm ≠ nob) : (fun e => !hitK k e) = fun e : En => !hasK k e := by
  funext e
  unfold hitK hasK
  rw [decide_eq_false h, Bool.false_or]
theorem cut_snoc (s : Cs) (ks : List Ky) (j : Nat) (k : Ky) (h : ks[j]? = some k) : s.cut (ks.take (j + 1)) = (s.cut (ks.take j)).cut1 k := by
  unfold Cs.cut
  rw [List.take_add_one, h, List.foldl_append]; rfl
theorem nm_test {nm : ByteArray} (h : nm ≠ nob) : (nm.toList == []) = false := by
  cases hh : (nm.toList == []) with
  | false => rfl
  | true =>
    have h0 : nm.toList = [] := eq_of_beq hh
    exact absurd (bytes_eq.1 (h0.trans nob_list.symm)) h
/-- the end of a round: the directory is not whole any more -/
theorem cut_end {w W W1 : World} {p b : Nat} {c c1 : Pc} {s1 : Cs} {d : Int} (a : Aft w W p c c1) (hb : W.cell? ⟨b, 0, none⟩ = some (.int .i64 d)) (hnb : ¬ c1.blk p b) (hs : Says c1 s1) (hW : W = W1) : ∃ V, (∀ ty, (Builtin.delete_ #[72, 3] ty #[.map (some c1.g1), .int .i64 d]).run Try.prog W1.drew = .ok (.tuple #[]) V) ∧ (W1.drew.cell? ⟨p, 1, none⟩ = some (.map (some c1.g1)) ∧ W1.drew.cell? ⟨b, 0, none⟩ = some (.int .i64 d)) ∧ (V.cell? ⟨p, 1, none⟩ = some (.map (some c1.g1)) ∧ V.cell? ⟨b, 0, none⟩ = some (.int .i64 d)) ∧ Hid (∃ c', Aft w V p c c' ∧ Says c' ⟨s1.L, partW s1.W d⟩ ∧ c'.uses = c1.uses) := by
  subst hW
  obtain ⟨V, c2, hr, a2, s2, u2, e0, e1⟩ := delW_mid (a.is.drewN 1) d
  have hc2 := a2.is.cells.2.1
  rw [e1] at hc2
  exact ⟨V, hr, ⟨(a.is.drewN 1).cells.2.1, hb⟩, ⟨hc2, (World.cell?_of_block (a2.only.block _ (cellLt hb) hnb)).trans hb⟩, ⟨c2, (a.post (below_drewN (Below.refl _ _) 1)).trans a2, s2 _ hs, u2⟩⟩
end
section

end
section

end
section

end
section
open Go.RowKit Go.Shelf Go.Sort
attribute [local go_sem ↓ high] loadEn storeEn loadCa storeCa buildCa

def ordU (a b : En × Nat) : Int := cmpI a.2 b.2
def ordN (a b : En) : Int := cmpS a.nm b.nm
theorem ordU_lt (a b : En × Nat) : ltOf ordU a b = decide (a.2 < b.2) := by
  unfold ltOf ordU
  rw [Bool.eq_iff_iff, decide_eq_true_iff, decide_eq_true_iff, cmpI_neg]
  omega
theorem ordU_swo : SWO (ltOf ordU) where
  irrefl x := by rw [ordU_lt]; simp
  trans x y z h1 h2 := by
    rw [ordU_lt, decide_eq_true_iff] at *
    omega
  ntrans x y z h1 h2 := by
    rw [ordU_lt, decide_eq_false_iff_not] at *
    omega
theorem ordN_lt (a b : En) : ltOf ordN a b = decide (a.nm.toList < b.nm.toList) := by
  unfold ltOf ordN
  rw [cmpS_neg, bytesLess_lt]
theorem ordN_swo : SWO (ltOf ordN) where
  irrefl x := by rw [ordN_lt]; simp
  trans x y z h1 h2 := by
    rw [ordN_lt, decide_eq_true_iff] at *
    exact List.lt_trans h1 h2
  ntrans x y z h1 h2 := by
    rw [ordN_lt, decide_eq_false_iff_not] at *
    exact List.not_lt.2 (List.le_trans (List.not_lt.1 h2) (List.not_lt.1 h1))
set_option maxHeartbeats 2000000 in
theorem nameC_p (x y : En) (w : World) : Calls Try.prog 33 #[x.agg, y.agg] w fun v w' => v = .returned (.int .i64 (ordN x y)) ∧ ∃ q os', w' = grow (w.drewN q) os' := by
  obtain ⟨W, hW⟩ : ∃ W, (w.alloc (.cells x.vals.toArray 42)).alloc (.cells y.vals.toArray 42) = W := ⟨_, rfl⟩
  obtain ⟨b1, b2, b3, b4⟩ := boxes2 hW
  have q1 := (cells7_of b1).c1
  have q2 := (cells7_of b2).c1
  have HW : Hid (W = grow w (#[.cells x.vals.toArray 42] ++ #[.cells y.vals.toArray 42])) := by rw [← hW]; exact grow2 _ _ _
  have HC : Hid (∀ a b w, Calls Try.prog 34 #[.string a, .string b] w fun e w' => e = .returned (.int .i64 (cmpS a b)) ∧ w' = w) := cmpS_p
  obtain ⟨O, hO⟩ : ∃ O, ordN x y = O := ⟨_, rfl⟩
  rw [hO]
  have HO : Hid (cmpS x.nm y.nm = O) := hO
  unfold En.agg
  unfold En.vals at hW
  clear b1 b2 b3 b4 hO
  go_enter Try.func33, Try.ntmps33
  go_wp2_with (go_at_call 34; refine (HC.out _ _ _).mono ?_; rintro z w1 ⟨rfl, rfl⟩; rw [HO.out])
  go_ret
  exact ⟨rfl, 0, _, HW.out⟩
end
section
open Go.RowKit Go.Shelf Go.Sort

def cc (l : List (En × Nat)) : List Value := l.flatMap cvals
theorem cc_len (l : List (En × Nat)) : (cc l).length = l.length * 8 := by
  unfold cc
  induction l with
  | nil => rfl
  | cons a l ih => rw [List.flatMap_cons, List.length_append, ih, List.length_cons, show (cvals a).length = 8 from rfl]; omega
theorem cc_app (a b : List (En × Nat)) : cc (a ++ b) = cc a ++ cc b := by unfold cc; rw [List.flatMap_append]
theorem cc_get (l : List (En × Nat)) (i j : Nat) (e : En × Nat) (h : l[i]? = some e) (hj : j < 8) : (cc l)[i * 8 + j]? = (cvals e)[j]? := by
  induction l generalizing i with
  | nil => simp at h
  | cons a l ih =>
    have e1 : cc (a :: l) = cvals a ++ cc l := rfl
    have hv : ∀ x : En × Nat, (cvals x).length = 8 := fun _ => rfl
    cases i with
    | zero =>
      simp at h
      subst h
      rw [e1, List.getElem?_append_left (by rw [hv]; omega), Nat.zero_mul, Nat.zero_add]
    | succ i =>
      rw [e1, List.getElem?_append_right (by rw [hv]; omega), hv, show (i + 1) * 8 + j - 8 = i * 8 + j by omega]
      exact ih i (by simpa using h)
theorem perm_allG {α : Type} [Inhabited α] {es : List α} {d' : Array α} (h : PermIn 0 es.toArray.size es.toArray d') : d'.toList.Perm es := by
  obtain ⟨h1, _, h3⟩ := h
  rw [← h1] at h3
  have e1 : (d'.extract 0 d'.size).toList = d'.toList := by simp
  rw [e1, h1] at h3
  simpa using h3
theorem sorted_allG {α : Type} [Inhabited α] {f : α → α → Int} {es : List α} {d' : Array α} (hz : d'.size = es.toArray.size) (h : SortedIn (ltOf f) 0 es.toArray.size d') : d'.toList.Pairwise fun a b => ltOf f b a = false := by
  rw [List.pairwise_iff_getElem]
  intro i j hi hj hij
  have := h i j (Nat.zero_le _) hij (by rw [← hz]; simpa using hj)
  have hi' : i < d'.size := by simpa using hi
  have hj' : j < d'.size := by simpa using hj
  rw [getElem!_pos d' i hi', getElem!_pos d' j hj'] at this
  simpa using this
theorem flat_C [Inhabited (En × Nat)] (es : List (En × Nat)) : flatK cvals 8 es.toArray = (cc es).toArray := by
  apply Array.ext_getElem?
  intro t
  unfold flatK
  by_cases ht : t < es.length * 8
  · obtain ⟨e, he⟩ : ∃ e, es[t / 8]? = some e := ⟨_, List.getElem?_eq_getElem (by omega)⟩
    have hg : (cc es)[t]? = (cvals e)[t % 8]? := by
      rw [← cc_get es (t / 8) (t % 8) e he (by omega), show t / 8 * 8 + t % 8 = t by omega]
    have hl : t % 8 < (cvals e).length := by show t % 8 < 8; omega
    have e1 : es.toArray[t / 8]! = e := by simp [he]
    simp only [Array.getElem?_map, List.getElem?_toArray, hg]
    rw [Array.getElem?_eq_getElem (by simpa using ht)]
    simp only [Option.map_some, Array.getElem_range, e1]
    rw [List.getElem?_eq_getElem hl, List.getElem!_eq_getElem?_getD, List.getElem?_eq_getElem hl]; rfl
  · rw [Array.getElem?_eq_none (by simpa using Nat.le_of_not_lt ht), List.getElem?_toArray, List.getElem?_eq_none (by rw [cc_len]; omega)]
theorem flat_E [Inhabited En] (es : List En) : flatK En.vals 7 es.toArray = (ec es).toArray := by
  apply Array.ext_getElem?
  intro t
  unfold flatK
  by_cases ht : t < es.length * 7
  · obtain ⟨e, he⟩ : ∃ e, es[t / 7]? = some e := ⟨_, List.getElem?_eq_getElem (by omega)⟩
    have hg : (ec es)[t]? = (En.vals e)[t % 7]? := by
      rw [← ec_get es (t / 7) (t % 7) e he (by omega), show t / 7 * 7 + t % 7 = t by omega]
    have hl : t % 7 < (En.vals e).length := by show t % 7 < 7; omega
    have e1 : es.toArray[t / 7]! = e := by simp [he]
    simp only [Array.getElem?_map, List.getElem?_toArray, hg]
    rw [Array.getElem?_eq_getElem (by simpa using ht)]
    simp only [Option.map_some, Array.getElem_range, e1]
    rw [List.getElem?_eq_getElem hl, List.getElem!_eq_getElem?_getD, List.getElem?_eq_getElem hl]; rfl
  · rw [Array.getElem?_eq_none (by simpa using Nat.le_of_not_lt ht), List.getElem?_toArray, List.getElem?_eq_none (by rw [ec_len]; omega)]
theorem sortE_p (g n cap base : Nat) (es : List En) (w : World) (h : w.ownsRow base 42 7 (.slice (some ⟨g, 0, none⟩) n cap) n (ec es)) (hn : es.length = n) (hs : n ≤ 10000000000000) :
    Calls Try.prog 32 #[.slice (some ⟨g, 0, none⟩) n cap, .func (.func 33) #[] #[]] w fun e w' => e = .returned (.tuple #[]) ∧ ∃ es' : List En, es'.Perm es ∧ (es'.Pairwise fun a b => ltOf ordN b a = false) ∧ w'.ownsRow base 42 7 (.slice (some ⟨g, 0, none⟩) n cap) n (ec es') ∧ Only (· = g) w w' := by
  subst hn
  have iE : Inhabited En := ⟨zeroEn⟩
  have eg : ∀ args w, (callFunc 33 args).run Try.prog w = .ok (.enter 33 args) w := enters_of Try.func33 (by kernel_rfl) rfl
  obtain ⟨hc, hf, hcap, hmx, hb, hg⟩ := owns_cells h
  have hH : HoldsK En.vals 7 w g 0 es.toArray := by
    unfold HoldsK
    rw [flat_E]
    intro j hj
    rw [Nat.zero_add]
    refine ⟨?_, hf j⟩
    have hj' : j < (ec es).length := by simpa using hj
    rw [hc j _ (List.getElem?_eq_getElem hj'), getElem!_pos _ j hj]; rfl
  have hcon := AnyQ.slices_SortFunc Try.sortE 7 Try.isAgg42 Try.sizeOf42 En.vals (fun _ => rfl) (fun x => enVals_one x) ordN ordN_swo 33 #[] g 0 cap es.toArray w eg (fun _ _ _ _ x y => nameC_p x y _) hH hg (by simp; omega)
  change Calls Try.prog 32 _ _ _ at hcon
  rw [List.size_toArray] at hcon
  refine hcon.mono ?_
  rintro e w' ⟨rfl, d', q, os, hp, hso, rfl⟩
  have hP : d'.toList.Perm es := perm_allG (by simpa using hp)
  refine ⟨rfl, d'.toList, hP, sorted_allG (by simpa using hp.1) (by simpa using hso), ?_, ?_⟩
  · have hlen : d'.toList.length = es.length := hP.length_eq
    have hfl : flatK En.vals 7 d' = (ec d'.toList).toArray := by have := flat_E d'.toList; simpa using this
    rcases h.2 with ⟨e1, _⟩ | ⟨g', cap', cur, e1, hg', hh, r1, r2, r3, r4⟩
    · cases e1
    · cases e1
      refine ⟨by rw [ec_len, hlen], .inr ⟨g, cap, putCells id 0 (flatK En.vals 7 d') cur, rfl, hg', ?_, r1, r2, ?_, ?_⟩⟩
      · unfold sortWorldK
        rw [heap_grow_old _ _ (by simpa [putRowK, putRow, mapBlock, Sort.ahead] using hg)]
        simp [putRowK, putRow, mapBlock, Sort.ahead, Array.getElem?_modify, hh, onCells]
      · simp [putCells, r3]
      · rw [hfl]
        have : (ec d'.toList).length = es.length * 7 := by rw [ec_len, hlen]
        rw [← this]
        exact take_put cur _ (by rw [this, r3]; exact Nat.mul_le_mul_right 7 r1)
  · refine ⟨rfl, rfl, rfl, ?_, fun k hk hne => ?_⟩
    · unfold sortWorldK; simp [putRowK, putRow, mapBlock, Sort.ahead]
    · unfold sortWorldK
      rw [heap_grow_old _ _ (by simpa [putRowK, putRow, mapBlock, Sort.ahead] using hk)]
      have : g ≠ k := fun e => hne e.symm
      simp [putRowK, putRow, mapBlock, Sort.ahead, Array.getElem?_modify, this]
end
section
open Go.RowKit

theorem wpList_apR {w : World} {ops : Array Oper} {rest : List Oper} {o : Oper} {a : Act} {Q : Exit → Act → World → Prop} (hgd : o.guard = none) (s x : Operand) (t : TypeId)
    (ho : o.op = .call { callee := .builtin .append, args := #[s, x], argTypes := #[t, t] }) (v xv r : Value) (W : World) (hs : a.eval s = v) (hx : a.eval x = xv) (hr : ∀ ty, (Builtin.append_ #[t, t] ty #[v, xv]).run Try.prog w = .ok r W)
    (h : wpList Try.prog ops Q rest (a.put o.dst r) W) : wpList Try.prog ops Q (o :: rest) a w := by
  refine wpList_plain hgd fun K hK => ?_
  unfold Oper.wp execOp
  simp only [ho, resolve, invoke, builtin, Sem.run_bind, Sem.run_pure, Result.andThen_ok, List.map_toArray, List.map_cons, List.map_nil, hs, hx, hr]
  exact hK _ _ h
theorem step_apR {w : World} {ops : Array Oper} {o : Oper} {a : Act} {K : Act → World → Prop} {Q : Exit → Act → World → Prop} {E : Prop} (hgd : o.guard = none) (s x : Operand) (t : TypeId)
    (ho : o.op = .call { callee := .builtin .append, args := #[s, x], argTypes := #[t, t] }) (v xv r : Value) (W : World) (hs : a.eval s = v) (hx : a.eval x = xv) (hr : ∀ ty, (Builtin.append_ #[t, t] ty #[v, xv]).run Try.prog w = .ok r W)
    (h : K (a.put o.dst r) W) : if Region.wanted o (yielded ops a.tmps) = true then Oper.wp Try.prog o a w K Q else E := by
  have hw : Region.wanted o (yielded ops a.tmps) = true := by simp [Region.wanted, hgd]
  rw [if_pos hw]
  unfold Oper.wp execOp
  simp only [ho, resolve, invoke, builtin, Sem.run_bind, Sem.run_pure, Result.andThen_ok, List.map_toArray, List.map_cons, List.map_nil, hs, hx, hr]
  exact h
/-- a list of ints in memory -/
def ci (l : List Int) : List Value := l.map (Value.int .i64)
theorem ci_len (l : List Int) : (ci l).length = l.length * 1 := by unfold ci; simp
theorem ci_app (a b : List Int) : ci (a ++ b) = ci a ++ ci b := by unfold ci; simp
def RowI (w : World) (base : Nat) (v : Value) (l : List Int) : Prop := w.ownsRow base 3 1 v l.length (ci l)
theorem ci_one (l : List Int) : ∀ u ∈ ci l, u.oneCell' = true := ints_oneCell .i64 l
theorem ec_one' (l : List En) : ∀ u ∈ ec l, u.oneCell' = true := by
  intro u hu
  obtain ⟨x, _, hx⟩ := List.mem_flatMap.1 hu
  exact enVals_one x u hx
theorem kc_one' (l : List Ky) : ∀ u ∈ kc l, u.oneCell' = true := by
  intro u hu
  obtain ⟨x, _, hx⟩ := List.mem_flatMap.1 hu
  simp at hx
  rcases hx with rfl | rfl <;> rfl
theorem kc_app' (a b : List Ky) : kc (a ++ b) = kc a ++ kc b := by unfold kc; rw [List.flatMap_append]
theorem Try.infoKy' : (Try.prog.info? 28).map (fun i => (i.zero, i.size, i.bytes)) = some (some (.agg #[.int .i64 0, .string ⟨#[]⟩]), 2, 24) := by kernel_rfl
theorem Try.infoIn : (Try.prog.info? 3).map (fun i => (i.zero, i.size, i.bytes)) = some (some (.int .i64 0), 1, 8) := by kernel_rfl
/-- append to a list of entries -/
theorem appE {w : World} {B : Nat} {v : Value} {l l2 : List En} {ad : Addr} {c : Nat} (h : Row7 w B v l) (h2 : ∀ j u, (ec l2)[j]? = some u → w.cell? (ad.add j) = some u) (hB : B ≤ w.heap.size) (hl : (l.length + l2.length) * 72 ≤ 140737488355328) :
    ∃ v3 W, (∀ ty, (Builtin.append_ #[48, 48] ty #[v, .slice (some ad) l2.length c]).run Try.prog w = .ok v3 W) ∧ Row7 W B v3 (l ++ l2) ∧ Only (fun k => v.ownBlock = some k) w W ∧ (v3.ownBlock = v.ownBlock ∨ v3.ownBlock = some w.heap.size) := by
  obtain ⟨i1, hi1, hw0, hw1, hw2⟩ := info_parts Try.infoE
  obtain ⟨v', W, a1, a2, a3, _, a5⟩ := run_append_own_at (P := Try.prog) w B 48 0 42 i1 _ 7 72 Try.underlying48 hi1 hw0 hw1 hw2 rfl (by decide) v l.length (ec l) h ad l2.length c (ec l2) (ec_len l2) h2 (ec_one' l2) (by unfold maxLen; omega) hl hB
  refine ⟨v', W, fun ty => ?_, ?_, only_grown a3, a5⟩
  · have : (Builtin.append_ #[48, 48] ty #[v, .slice (some ad) l2.length c]).run Try.prog w = (Builtin.append_ #[48, 48] 0 #[v, .slice (some ad) l2.length c]).run Try.prog w := rfl
    rw [this]; exact a1
  · show World.ownsRow _ _ _ _ _ _ _
    rw [List.length_append, ec_app]; exact a2
/-- append to a list of keys -/
theorem appK {w : World} {B : Nat} {v : Value} {l l2 : List Ky} {ad : Addr} {c : Nat} (h : RowK w B v l) (h2 : ∀ j u, (kc l2)[j]? = some u → w.cell? (ad.add j) = some u) (hB : B ≤ w.heap.size) (hl : (l.length + l2.length) * 24 ≤ 140737488355328) :
    ∃ v3 W, (∀ ty, (Builtin.append_ #[32, 32] ty #[v, .slice (some ad) l2.length c]).run Try.prog w = .ok v3 W) ∧ RowK W B v3 (l ++ l2) ∧ Only (fun k => v.ownBlock = some k) w W ∧ (v3.ownBlock = v.ownBlock ∨ v3.ownBlock = some w.heap.size) := by
  obtain ⟨i1, hi1, hw0, hw1, hw2⟩ := info_parts Try.infoKy'
  obtain ⟨v', W, a1, a2, a3, _, a5⟩ := run_append_own_at (P := Try.prog) w B 32 0 28 i1 _ 2 24 Try.underlying32 hi1 hw0 hw1 hw2 rfl (by decide) v l.length (kc l) h ad l2.length c (kc l2) (kc_len l2) h2 (kc_one' l2) (by unfold maxLen; omega) hl hB
  refine ⟨v', W, fun ty => ?_, ?_, only_grown a3, a5⟩
  · have : (Builtin.append_ #[32, 32] ty #[v, .slice (some ad) l2.length c]).run Try.prog w = (Builtin.append_ #[32, 32] 0 #[v, .slice (some ad) l2.length c]).run Try.prog w := rfl
    rw [this]; exact a1
  · show World.ownsRow _ _ _ _ _ _ _
    rw [List.length_append, kc_app']; exact a2
/-- append to a list of ints -/
theorem appI {w : World} {B : Nat} {v : Value} {l l2 : List Int} {ad : Addr} {c : Nat} (h : RowI w B v l) (h2 : ∀ j u, (ci l2)[j]? = some u → w.cell? (ad.add j) = some u) (hB : B ≤ w.heap.size) (hl : (l.length + l2.length) * 8 ≤ 140737488355328) :
    ∃ v3 W, (∀ ty, (Builtin.append_ #[151, 151] ty #[v, .slice (some ad) l2.length c]).run Try.prog w = .ok v3 W) ∧ RowI W B v3 (l ++ l2) ∧ Only (fun k => v.ownBlock = some k) w W ∧ (v3.ownBlock = v.ownBlock ∨ v3.ownBlock = some w.heap.size) := by
  obtain ⟨i1, hi1, hw0, hw1, hw2⟩ := info_parts Try.infoIn
  obtain ⟨v', W, a1, a2, a3, _, a5⟩ := run_append_own_at (P := Try.prog) w B 151 0 3 i1 _ 1 8 Try.underlying151 hi1 hw0 hw1 hw2 rfl (by decide) v l.length (ci l) h ad l2.length c (ci l2) (ci_len l2) h2 (ci_one l2) (by unfold maxLen; omega) hl hB
  refine ⟨v', W, fun ty => ?_, ?_, only_grown a3, a5⟩
  · have : (Builtin.append_ #[151, 151] ty #[v, .slice (some ad) l2.length c]).run Try.prog w = (Builtin.append_ #[151, 151] 0 #[v, .slice (some ad) l2.length c]).run Try.prog w := rfl
    rw [this]; exact a1
  · show World.ownsRow _ _ _ _ _ _ _
    rw [List.length_append, ci_app]; exact a2
/-- a list of one, made, shut -/
def enOne (ps : Array (Nat × Value)) : Sem Value := Instr.buildSlice 48 1 ps
theorem builden (ps : Array (Nat × Value)) : Instr.buildSlice 48 1 ps = enOne ps := rfl
theorem enOne_of (x : En) (w : World) : (enOne #[(0, x.agg)]).run Try.prog w = .ok (.slice (some ⟨w.heap.size, 0, none⟩) 1 1) (w.alloc (.cells (x.vals).toArray 42)) := by
  unfold enOne Instr.buildSlice
  simp [run_underlying Try.underlying48, Try.sizeOf42, Try.zeroValue42, Instr.fill, Value.cells, newRow, En.agg, En.vals]
  rw [show Array.range 7 = #[0, 1, 2, 3, 4, 5, 6] from rfl]
  simp
attribute [irreducible] enOne
theorem one_atG {w : World} {cs : List Value} {t : TypeId} : ∀ j u, cs[j]? = some u → (w.alloc (.cells cs.toArray t)).cell? ((⟨w.heap.size, 0, none⟩ : Addr).add j) = some u := by
  intro j u hu
  rw [add_plain', Nat.zero_add, cell_of (heap_new _ _), List.getElem?_toArray]; exact hu
end
section
open Go.RowKit
theorem Rng.neTag {κ β : Type} {mk : κ → Value} {mv : β → Value} {w : World} {mo : Option Nat} {r k : Nat} {rest : List (κ × β)} (h : Rng mk mv w mo r rest) {t : TypeId} (ht : Tag w k t) : r ≠ k := by
  rintro rfl
  obtain ⟨cs, f, e⟩ := ht
  cases mo with
  | none => rw [h.2] at e; cases e
  | some g =>
    obtain ⟨es, clock, since, seen, c0, _, _, hr, _⟩ := h
    rw [hr] at e; cases e
end
section
open Go.RowKit Go.Shelf Go.Sort
attribute [local go_sem ↓ high] loadEn storeEn loadCa storeCa buildCa builden
attribute [local go_sem high] eqMN

theorem ldE8 (w : World) (x : En × Nat) (t : TypeId) : (enLd (.pointer (some ⟨w.heap.size, 0, none⟩))).run Try.prog (w.alloc (.cells (cvals x).toArray t)) = .ok x.1.agg (w.alloc (.cells (cvals x).toArray t)) := enLd_at (cells7_c (heap_new _ _)).1
/-- what is told, one more; o: what lies ahead of it -/
theorem told_more {w3 : World} {B : Nat} {v : Value} {l : List En} (o : Obj) (x : En) (hv : Row7 w3 B v l) (hs : B ≤ w3.heap.size) (hl : l.length + 1 ≤ 1500000000000) : ∃ v6 w6, (∀ ty, (Builtin.append_ #[48, 48] ty #[v, .slice (some ⟨(w3.alloc o).heap.size, 0, none⟩) 1 1]).run Try.prog ((w3.alloc o).alloc (.cells x.vals.toArray 42)) = .ok v6 w6) ∧ Row7 w6 B v6 (l ++ [x]) ∧ Only (fun k => v.ownBlock = some k) w3 w6 := by
  obtain ⟨w4, hw4⟩ : ∃ W, w3.alloc o = W := ⟨_, rfl⟩
  rw [hw4]
  have b4 := boxO hw4
  have b5 := below_alloc w4 (.cells x.vals.toArray 42)
  have hb := chainB b4.2.1 b5
  obtain ⟨v6, w6, h1, h2, h3, _⟩ := appE (l := l) (l2 := [x]) (ad := ⟨w4.heap.size, 0, none⟩) (c := 1) (owns_below hv hb) (by
    have : ec [x] = x.vals := by simp [ec]
    rw [this]
    exact one_atG) (Nat.le_trans hs hb.size) (by simp only [List.length_cons, List.length_nil]; omega)
  exact ⟨v6, w6, h1, h2, (Only.of hb).trans h3⟩
end
end Go.Proofs.Ytppbbddlbfgpfaa
