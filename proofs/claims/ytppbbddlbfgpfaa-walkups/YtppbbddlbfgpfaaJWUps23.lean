/- Put, what it says; drop. -/
import Derived.Test.YtppbbddlbfgpfaaJWUps22
import Derived.Deep.LoopGhost
import Derived.Test.YtppbbddlbfgpfaaJWUps11
import Derived.Test.YtppbbddlbfgpfaaJWUps12
namespace Go.Proofs.Ytppbbddlbfgpfaa
section
open Go.RowKit
attribute [local go_sem ↓ high] loadEn storeEn loadCa storeCa buildCa
attribute [local go_sem high] eqMN

theorem putK_p (p : Nat) (c : Pc) (s : Cs) (e : En) (w : World) (h : IsC w p c) (hs : Says c s) (hu : c.uses < 4611686018427387904) : Calls Try.prog 14 #[.pointer (some ⟨p, 0, none⟩), e.agg] w fun x w' => x = .returned (.int .i64 (if e.nm = nob then 1 else 0)) ∧ ∃ c', Aft w w' p c c' ∧ Says c' (if e.nm = nob then s else s.put e) ∧ c'.uses ≤ c.uses + 1 := by
  by_cases he : e.nm = nob
  · rw [if_pos he, if_pos he]
    refine (put_bad p e w he).mono ?_
    rintro x w' ⟨rfl, hb⟩
    exact ⟨rfl, c, Aft.refl h hb, hs, Nat.le_succ _⟩
  · rw [if_neg he, if_neg he]
    rcases om_cases c.om h.ok e.d with ⟨_, hn⟩ | ⟨A, g, l, B, ho, _⟩
    · refine (put_new p c e w h he hn hu).mono ?_
      rintro x w' ⟨rfl, g, ha⟩
      refine ⟨rfl, _, ha, ?_, Nat.le_refl _⟩
      have h1 : Says ⟨c.g0, c.g1, c.om ++ [(e.d, g, [])], c.wl, c.uses⟩ s := ⟨by
        show RepL (cont (c.om ++ [(e.d, g, [])])) c.uses s.L
        rw [cont_app]
        simpa [cont] using hs.rep, hs.wh⟩
      exact h1.put (h.ok.new hn g) rfl
    · refine (put_old p c A B g l e w h he ho hu).mono ?_
      rintro x w' ⟨rfl, ha⟩
      exact ⟨rfl, _, ha, hs.put h.ok ho, Nat.le_refl _⟩
/-- what drop and Cut leave of a cache -/
structure Cutt (c c' : Pc) (f : En → Bool) : Prop where
  cont : cont c'.om = (cont c.om).filter fun x => f x.1
  uses : c'.uses = c.uses
  wl : c'.wl = c.wl
  g0 : c'.g0 = c.g0
  g1 : c'.g1 = c.g1
theorem cutt_dir {w : World} {p : Nat} {c : Pc} (h : IsC w p c) (d : Int) : Cutt c { c with om := c.om.filter fun x => decide (d ≠ x.1) } (fun e => decide (e.d ≠ d)) := by
  refine ⟨?_, rfl, rfl, rfl, rfl⟩
  show cont (c.om.filter fun x => decide (d ≠ x.1)) = _
  rcases om_cases c.om h.ok d with ⟨_, hn⟩ | ⟨A, g, l, B, ho, _, hA, hB⟩
  · rw [filter_ne hn]
    exact (filt_o (d := d) (fun e => decide (e.d ≠ d)) (fun x hx => by simpa using hx) h.ok.keys hn).symm
  · have ok := h.ok
    rw [ho] at ok
    rw [ho, ← cont_out ok, List.filter_append, List.filter_cons, filter_ne hA, filter_ne hB]
    simp
/-- drop's first half: the name is gone from its directory -/
theorem drop_mid {w : World} {p : Nat} {c : Pc} (h : IsC w p c) (k : Ky) : ∃ W c', (∀ ty, (Builtin.delete_ #[75, 9] ty #[.map (c.dir k.d), .string k.nm]).run Try.prog w = .ok (.tuple #[]) W) ∧ Aft w W p c c' ∧ Cutt c c' (fun e => !hasK k e) ∧ c'.dir k.d = c.dir k.d ∧ (inn c'.om k.d).length = (mdel (inn c.om k.d) k.nm).length := by
  obtain ⟨W, hr, hm, hO, -⟩ := delM kS undI 0 w (c.dir k.d) (inn c.om k.d) (h.innV k.d) k.nm
  rcases om_cases c.om h.ok k.d with ⟨e1, hn⟩ | ⟨A, g, l, B, ho, e1, hA, hB⟩
  · have e1' : c.dir k.d = none := e1
    rw [e1'] at hO hr
    refine ⟨W, c, fun ty => by rw [e1']; exact hr, ⟨h.moved fun q hq => hO.block q (h.lt hq) (by simp), hO.mono (fun q e => by cases e), fun q hq => .inl hq⟩, ⟨?_, rfl, rfl, rfl, rfl⟩, rfl, ?_⟩
    · exact (filt_o (d := k.d) (fun e => !hasK k e) (fun x hx => by simp only [Bool.not_eq_false'] at hx; exact (hasK_iff.1 hx).1) h.ok.keys hn).symm
    · rw [inn_none hn]; rfl
  · have e1' : c.dir k.d = some g := e1
    rw [e1'] at hO hr hm
    obtain ⟨-, ok, hi⟩ := h.dirO ho
    rw [hi] at hm
    have a := h.setI ho hm (hO.mono fun q e => by cases e; rfl) (mdel_keys ok.l.1 _) (fun q hq => ok.l.2 q (mem_mdel ok.l.1 hq))
    refine ⟨W, _, fun ty => by rw [e1']; exact hr, a, ⟨?_, rfl, rfl, rfl, rfl⟩, ?_, ?_⟩
    · show cont (A ++ (k.d, g, mdel l k.nm) :: B) = _
      rw [ho]; exact cont_del ok k.nm
    · rw [e1']; exact (a.is.dirO rfl).1
    · rw [hi]
      show (inn (A ++ (k.d, g, mdel l k.nm) :: B) k.d).length = _
      rw [inn_some hA]
end
section
open Go.RowKit
attribute [local go_sem ↓ high] loadEn storeEn loadCa storeCa buildCa
attribute [local go_sem high] eqMN

theorem alloc_setRow (w : World) (a b : Array Value) (t : TypeId) : (w.alloc (.cells a t)).setRow w.heap.size b = w.alloc (.cells b t) := by
  unfold World.setRow World.alloc
  simp only
  congr 1
  apply Array.ext_getElem?
  intro i
  rw [Array.getElem?_modify]
  by_cases e : w.heap.size = i
  · subst e; simp
  · rw [if_neg e, Array.getElem?_push, Array.getElem?_push, if_neg (fun h => e h.symm), if_neg (fun h => e h.symm)]
theorem box7 (w : World) (e : En) : (enSt (.pointer (some ⟨w.heap.size, 0, none⟩)) e.agg).run Try.prog (w.alloc (.cells #[.int .i64 0, .string ⟨#[]⟩, .bool false, .int .i64 0, .int .i64 0, .int .i64 0, .string ⟨#[]⟩] 42)) = .ok () (w.alloc (.cells e.vals.toArray 42)) :=
  enSt_of (heap_new _ _) rfl (alloc_setRow w _ _ _)
theorem box8 (w : World) (x : En × Nat) : (caSt (.pointer (some ⟨w.heap.size, 0, none⟩)) (mvC x)).run Try.prog (w.alloc (.cells #[.int .i64 0, .string ⟨#[]⟩, .bool false, .int .i64 0, .int .i64 0, .int .i64 0, .string ⟨#[]⟩, .int .i64 0] 77)) = .ok () (w.alloc (.cells (cvals x).toArray 77)) :=
  caSt_of (heap_new _ _) rfl (alloc_setRow w _ _ _)
theorem ld7 (w : World) (e : En) (t : TypeId) : (enLd (.pointer (some ⟨w.heap.size, 0, none⟩))).run Try.prog (w.alloc (.cells e.vals.toArray t)) = .ok e.agg (w.alloc (.cells e.vals.toArray t)) := enLd_at (cells7_of (heap_new _ _))

/-- what the chapter says of a name -/
theorem get_s (p : Nat) (c : Pc) (s : Cs) (k : Ky) (w : World) (h : IsC w p c) (hs : Says c s) : Calls Try.prog 114 #[.pointer (some ⟨p, 0, none⟩), .agg #[.int .i64 k.d, .string k.nm]] w fun x w' => x = .returned (.tuple #[((getL s.L k).getD zeroEn).agg, .bool (getL s.L k).isSome]) ∧ Below w.heap.size w w' := by
  refine (get_p p c k w h).mono ?_
  rintro x w' ⟨rfl, hb⟩
  refine ⟨?_, hb⟩
  rw [← hs.get h.ok k]
  cases mget (inn c.om k.d) k.nm <;> rfl
end
section
open Go.RowKit
attribute [local go_sem ↓ high] loadEn storeEn loadCa storeCa buildCa
attribute [local go_sem high] eqMN

theorem Cutt.says {c c' : Pc} {f : En → Bool} {s : Cs} (q : Cutt c c' f) (hs : Says c s) : Says c' ⟨s.L.filter f, s.W⟩ := by
  refine ⟨?_, fun d => by rw [q.wl]; exact hs.wh d⟩
  rw [q.uses]
  exact hs.rep.filter f (List.Perm.of_eq q.cont)
/-- a directory is not whole any more -/
theorem delW_mid {w : World} {p : Nat} {c : Pc} (h : IsC w p c) (d : Int) : ∃ W c', (∀ ty, (Builtin.delete_ #[72, 3] ty #[.map (some c.g1), .int .i64 d]).run Try.prog w = .ok (.tuple #[]) W) ∧ Aft w W p c c' ∧ (∀ s, Says c s → Says c' ⟨s.L, partW s.W d⟩) ∧ c'.uses = c.uses ∧ c'.g0 = c.g0 ∧ c'.g1 = c.g1 := by
  obtain ⟨W, hr, hm, hO, -⟩ := delM kI undW 0 w (some c.g1) c.wl h.whole d
  have a := h.setW hm (hO.mono fun q e => by cases e; rfl) (mdel_keys h.wn d)
  refine ⟨W, _, fun ty => hr, a, fun s hs => ⟨hs.rep, fun x => ?_⟩, rfl, rfl, rfl⟩
  show x ∈ partW s.W d ↔ x ∈ (mdel c.wl d).map (·.1)
  rw [mem_partW, mem_delW h.wn, hs.wh]
end
section
open Go.RowKit
attribute [local go_sem ↓ high] loadEn storeEn loadCa storeCa buildCa
attribute [local go_sem high] eqMN

/-- a list that reads as these keys; G: where it does not lie -/
def RdK (w : World) (v : Value) (ks : List Ky) (G : Nat → Prop) : Prop := ∃ a cap, v = .slice a ks.length cap ∧ ∀ (j : Nat) (k : Ky), ks[j]? = some k → ∃ g o, a = some ⟨g, o, none⟩ ∧ w.cell? ⟨g, o + j * 2, none⟩ = some (.int .i64 k.d) ∧ w.cell? ⟨g, o + j * 2 + 1, none⟩ = some (.string k.nm) ∧ ¬ G g
theorem RowK.rd {w : World} {base : Nat} {v : Value} {ks : List Ky} (h : RowK w base v ks) {G : Nat → Prop} (hG : ∀ g, v.ownBlock = some g → ¬ G g) : RdK w v ks G := by
  obtain ⟨a, cap, rfl⟩ := owns_len h
  refine ⟨a, cap, rfl, fun j k hk => ?_⟩
  obtain ⟨g, rfl, _, _, k0, k1, _⟩ := h.key hk
  exact ⟨g, 0, rfl, by rw [Nat.zero_add]; exact k0, by rw [Nat.zero_add]; exact k1, hG g rfl⟩
theorem delO_mid {w : World} {p : Nat} {c : Pc} (h : IsC w p c) (d : Int) : ∃ W c', (∀ ty, (Builtin.delete_ #[71, 3] ty #[.map (some c.g0), .int .i64 d]).run Try.prog w = .ok (.tuple #[]) W) ∧ Aft w W p c c' ∧ Cutt c c' (fun e => decide (e.d ≠ d)) := by
  obtain ⟨V, hr, hm, hO, -⟩ := delM kI undO 0 w (some c.g0) (om2 c.om) h.outer d
  exact ⟨V, _, fun ty => hr, h.delO hm (hO.mono fun q e => by cases e; rfl), cutt_dir h d⟩
theorem hit_all {k : Ky} (h : k.nm = nob) : (fun e => !hitK k e) = fun e : En => decide (e.d ≠ k.d) := by
  funext e
  unfold hitK
  rw [decide_eq_true h, Bool.true_or, Bool.and_true]
  by_cases h1 : e.d = k.d <;> simp [h1]
theorem hit_one {k : Ky} (h : k.nm ≠ nob) : (fun e => !hitK k e) = fun e : En => !hasK k e := by
  funext e
  unfold hitK hasK
  rw [decide_eq_false h, Bool.false_or]
theorem cut_snoc (s : Cs) (ks : List Ky) (j : Nat) (k : Ky) (h : ks[j]? = some k) : s.cut (ks.take (j + 1)) = (s.cut (ks.take j)).cut1 k := by
  unfold Cs.cut
  rw [List.take_add_one, h, List.foldl_append]; rfl
theorem nm_test {nm : ByteArray} (h : nm ≠ nob) : (nm.toList == []) = false := by
  cases hh : (nm.toList == []) with
  | false => rfl
  | true =>
    have h0 : nm.toList = [] := eq_of_beq hh
    exact absurd (bytes_eq.1 (h0.trans nob_list.symm)) h
/-- the end of a round: the directory is not whole any more -/
theorem cut_end {w W W1 : World} {p b : Nat} {c c1 : Pc} {s1 : Cs} {d : Int} (a : Aft w W p c c1) (hb : W.cell? ⟨b, 0, none⟩ = some (.int .i64 d)) (hnb : ¬ c1.blk p b) (hs : Says c1 s1) (hW : W = W1) : ∃ V, (∀ ty, (Builtin.delete_ #[72, 3] ty #[.map (some c1.g1), .int .i64 d]).run Try.prog W1.drew = .ok (.tuple #[]) V) ∧ (W1.drew.cell? ⟨p, 1, none⟩ = some (.map (some c1.g1)) ∧ W1.drew.cell? ⟨b, 0, none⟩ = some (.int .i64 d)) ∧ (V.cell? ⟨p, 1, none⟩ = some (.map (some c1.g1)) ∧ V.cell? ⟨b, 0, none⟩ = some (.int .i64 d)) ∧ Hid (∃ c', Aft w V p c c' ∧ Says c' ⟨s1.L, partW s1.W d⟩ ∧ c'.uses = c1.uses) := by
  subst hW
  obtain ⟨V, c2, hr, a2, s2, u2, e0, e1⟩ := delW_mid (a.is.drewN 1) d
  have hc2 := a2.is.cells.2.1
  rw [e1] at hc2
  exact ⟨V, hr, ⟨(a.is.drewN 1).cells.2.1, hb⟩, ⟨hc2, (World.cell?_of_block (a2.only.block _ (cellLt hb) hnb)).trans hb⟩, ⟨c2, (a.post (below_drewN (Below.refl _ _) 1)).trans a2, s2 _ hs, u2⟩⟩
end
section

end
section

end
section

end
section
open Go.RowKit Go.Shelf Go.Sort
attribute [local go_sem ↓ high] loadEn storeEn loadCa storeCa buildCa

def ordU (a b : En × Nat) : Int := cmpI a.2 b.2
def ordN (a b : En) : Int := cmpS a.nm b.nm
theorem ordU_lt (a b : En × Nat) : ltOf ordU a b = decide (a.2 < b.2) := by
  unfold ltOf ordU
  rw [Bool.eq_iff_iff, decide_eq_true_iff, decide_eq_true_iff, cmpI_neg]
  omega
theorem ordU_swo : SWO (ltOf ordU) where
  irrefl x := by rw [ordU_lt]; simp
  trans x y z h1 h2 := by
    rw [ordU_lt, decide_eq_true_iff] at *
    omega
  ntrans x y z h1 h2 := by
    rw [ordU_lt, decide_eq_false_iff_not] at *
    omega
theorem ordN_lt (a b : En) : ltOf ordN a b = decide (a.nm.toList < b.nm.toList) := by
  unfold ltOf ordN
  rw [cmpS_neg, bytesLess_lt]
theorem ordN_swo : SWO (ltOf ordN) where
  irrefl x := by rw [ordN_lt]; simp
  trans x y z h1 h2 := by
    rw [ordN_lt, decide_eq_true_iff] at *
    exact List.lt_trans h1 h2
  ntrans x y z h1 h2 := by
    rw [ordN_lt, decide_eq_false_iff_not] at *
    exact List.not_lt.2 (List.le_trans (List.not_lt.1 h2) (List.not_lt.1 h1))
set_option maxHeartbeats 2000000 in
theorem nameC_p (x y : En) (w : World) : Calls Try.prog 33 #[x.agg, y.agg] w fun v w' => v = .returned (.int .i64 (ordN x y)) ∧ ∃ q os', w' = grow (w.drewN q) os' := by
  obtain ⟨W, hW⟩ : ∃ W, (w.alloc (.cells x.vals.toArray 42)).alloc (.cells y.vals.toArray 42) = W := ⟨_, rfl⟩
  obtain ⟨b1, b2, b3, b4⟩ := boxes2 hW
  have q1 := (cells7_of b1).c1
  have q2 := (cells7_of b2).c1
  have HW : Hid (W = grow w (#[.cells x.vals.toArray 42] ++ #[.cells y.vals.toArray 42])) := by rw [← hW]; exact grow2 _ _ _
  have HC : Hid (∀ a b w, Calls Try.prog 34 #[.string a, .string b] w fun e w' => e = .returned (.int .i64 (cmpS a b)) ∧ w' = w) := cmpS_p
  obtain ⟨O, hO⟩ : ∃ O, ordN x y = O := ⟨_, rfl⟩
  rw [hO]
  have HO : Hid (cmpS x.nm y.nm = O) := hO
  unfold En.agg
  unfold En.vals at hW
  clear b1 b2 b3 b4 hO
  go_enter Try.func33, Try.ntmps33
  go_wp2_with (go_at_call 34; refine (HC.out _ _ _).mono ?_; rintro z w1 ⟨rfl, rfl⟩; rw [HO.out])
  go_ret
  exact ⟨rfl, 0, _, HW.out⟩
end
section
open Go.RowKit Go.Shelf Go.Sort

def cc (l : List (En × Nat)) : List Value := l.flatMap cvals
theorem cc_len (l : List (En × Nat)) : (cc l).length = l.length * 8 := by
  unfold cc
  induction l with
  | nil => rfl
  | cons a l ih => rw [List.flatMap_cons, List.length_append, ih, List.length_cons, show (cvals a).length = 8 from rfl]; omega
theorem cc_app (a b : List (En × Nat)) : cc (a ++ b) = cc a ++ cc b := by unfold cc; rw [List.flatMap_append]
theorem cc_get (l : List (En × Nat)) (i j : Nat) (e : En × Nat) (h : l[i]? = some e) (hj : j < 8) : (cc l)[i * 8 + j]? = (cvals e)[j]? := by
  induction l generalizing i with
  | nil => simp at h
  | cons a l ih =>
    have e1 : cc (a :: l) = cvals a ++ cc l := rfl
    have hv : ∀ x : En × Nat, (cvals x).length = 8 := fun _ => rfl
    cases i with
    | zero =>
      simp at h
      subst h
      rw [e1, List.getElem?_append_left (by rw [hv]; omega), Nat.zero_mul, Nat.zero_add]
    | succ i =>
      rw [e1, List.getElem?_append_right (by rw [hv]; omega), hv, show (i + 1) * 8 + j - 8 = i * 8 + j by omega]
      exact ih i (by simpa using h)
theorem perm_allG {α : Type} [Inhabited α] {es : List α} {d' : Array α} (h : PermIn 0 es.toArray.size es.toArray d') : d'.toList.Perm es := by
  obtain ⟨h1, _, h3⟩ := h
  rw [← h1] at h3
  have e1 : (d'.extract 0 d'.size).toList = d'.toList := by simp
  rw [e1, h1] at h3
  simpa using h3
theorem sorted_allG {α : Type} [Inhabited α] {f : α → α → Int} {es : List α} {d' : Array α} (hz : d'.size = es.toArray.size) (h : SortedIn (ltOf f) 0 es.toArray.size d') : d'.toList.Pairwise fun a b => ltOf f b a = false := by
  rw [List.pairwise_iff_getElem]
  intro i j hi hj hij
  have := h i j (Nat.zero_le _) hij (by rw [← hz]; simpa using hj)
  have hi' : i < d'.size := by simpa using hi
  have hj' : j < d'.size := by simpa using hj
  rw [getElem!_pos d' i hi', getElem!_pos d' j hj'] at this
  simpa using this
theorem flat_C [Inhabited (En × Nat)] (es : List (En × Nat)) : flatK cvals 8 es.toArray = (cc es).toArray := by
  apply Array.ext_getElem?
  intro t
  unfold flatK
  by_cases ht : t < es.length * 8
  · obtain ⟨e, he⟩ : ∃ e, es[t / 8]? = some e := ⟨_, List.getElem?_eq_getElem (by omega)⟩
    have hg : (cc es)[t]? = (cvals e)[t % 8]? := by
      rw [← cc_get es (t / 8) (t % 8) e he (by omega), show t / 8 * 8 + t % 8 = t by omega]
    have hl : t % 8 < (cvals e).length := by show t % 8 < 8; omega
    have e1 : es.toArray[t / 8]! = e := by simp [he]
    simp only [Array.getElem?_map, List.getElem?_toArray, hg]
    rw [Array.getElem?_eq_getElem (by simpa using ht)]
    simp only [Option.map_some, Array.getElem_range, e1]
    rw [List.getElem?_eq_getElem hl, List.getElem!_eq_getElem?_getD, List.getElem?_eq_getElem hl]; rfl
  · rw [Array.getElem?_eq_none (by simpa using Nat.le_of_not_lt ht), List.getElem?_toArray, List.getElem?_eq_none (by rw [cc_len]; omega)]
theorem flat_E [Inhabited En] (es : List En) : flatK En.vals 7 es.toArray = (ec es).toArray := by
  apply Array.ext_getElem?
  intro t
  unfold flatK
  by_cases ht : t < es.length * 7
  · obtain ⟨e, he⟩ : ∃ e, es[t / 7]? = some e := ⟨_, List.getElem?_eq_getElem (by omega)⟩
    have hg : (ec es)[t]? = (En.vals e)[t % 7]? := by
      rw [← ec_get es (t / 7) (t % 7) e he (by omega), show t / 7 * 7 + t % 7 = t by omega]
    have hl : t % 7 < (En.vals e).length := by show t % 7 < 7; omega
    have e1 : es.toArray[t / 7]! = e := by simp [he]
    simp only [Array.getElem?_map, List.getElem?_toArray, hg]
    rw [Array.getElem?_eq_getElem (by simpa using ht)]
    simp only [Option.map_some, Array.getElem_range, e1]
    rw [List.getElem?_eq_getElem hl, List.getElem!_eq_getElem?_getD, List.getElem?_eq_getElem hl]; rfl
  · rw [Array.getElem?_eq_none (by simpa using Nat.le_of_not_lt ht), List.getElem?_toArray, List.getElem?_eq_none (by rw [ec_len]; omega)]
theorem sortE_p (g n cap base : Nat) (es : List En) (w : World) (h : w.ownsRow base 42 7 (.slice (some ⟨g, 0, none⟩) n cap) n (ec es)) (hn : es.length = n) (hs : n ≤ 10000000000000) :
    Calls Try.prog 32 #[.slice (some ⟨g, 0, none⟩) n cap, .func (.func 33) #[] #[]] w fun e w' => e = .returned (.tuple #[]) ∧ ∃ es' : List En, es'.Perm es ∧ (es'.Pairwise fun a b => ltOf ordN b a = false) ∧ w'.ownsRow base 42 7 (.slice (some ⟨g, 0, none⟩) n cap) n (ec es') ∧ Only (· = g) w w' := by
  subst hn
  have iE : Inhabited En := ⟨zeroEn⟩
  have eg : ∀ args w, (callFunc 33 args).run Try.prog w = .ok (.enter 33 args) w := enters_of Try.func33 (by kernel_rfl) rfl
  obtain ⟨hc, hf, hcap, hmx, hb, hg⟩ := owns_cells h
  have hH : HoldsK En.vals 7 w g 0 es.toArray := by
    unfold HoldsK
    rw [flat_E]
    intro j hj
    rw [Nat.zero_add]
    refine ⟨?_, hf j⟩
    have hj' : j < (ec es).length := by simpa using hj
    rw [hc j _ (List.getElem?_eq_getElem hj'), getElem!_pos _ j hj]; rfl
  have hcon := AnyQ.slices_SortFunc Try.sortE 7 Try.isAgg42 Try.sizeOf42 En.vals (fun _ => rfl) (fun x => enVals_one x) ordN ordN_swo 33 #[] g 0 cap es.toArray w eg (fun _ _ _ _ x y => nameC_p x y _) hH hg (by simp; omega)
  change Calls Try.prog 32 _ _ _ at hcon
  rw [List.size_toArray] at hcon
  refine hcon.mono ?_
  rintro e w' ⟨rfl, d', q, os, hp, hso, rfl⟩
  have hP : d'.toList.Perm es := perm_allG (by simpa using hp)
  refine ⟨rfl, d'.toList, hP, sorted_allG (by simpa using hp.1) (by simpa using hso), ?_, ?_⟩
  · have hlen : d'.toList.length = es.length := hP.length_eq
    have hfl : flatK En.vals 7 d' = (ec d'.toList).toArray := by have := flat_E d'.toList; simpa using this
    rcases h.2 with ⟨e1, _⟩ | ⟨g', cap', cur, e1, hg', hh, r1, r2, r3, r4⟩
    · cases e1
    · cases e1
      refine ⟨by rw [ec_len, hlen], .inr ⟨g, cap, putCells id 0 (flatK En.vals 7 d') cur, rfl, hg', ?_, r1, r2, ?_, ?_⟩⟩
      · unfold sortWorldK
        rw [heap_grow_old _ _ (by simpa [putRowK, putRow, mapBlock, Sort.ahead] using hg)]
        simp [putRowK, putRow, mapBlock, Sort.ahead, Array.getElem?_modify, hh, onCells]
      · simp [putCells, r3]
      · rw [hfl]
        have : (ec d'.toList).length = es.length * 7 := by rw [ec_len, hlen]
        rw [← this]
        exact take_put cur _ (by rw [this, r3]; exact Nat.mul_le_mul_right 7 r1)
  · refine ⟨rfl, rfl, rfl, ?_, fun k hk hne => ?_⟩
    · unfold sortWorldK; simp [putRowK, putRow, mapBlock, Sort.ahead]
    · unfold sortWorldK
      rw [heap_grow_old _ _ (by simpa [putRowK, putRow, mapBlock, Sort.ahead] using hk)]
      have : g ≠ k := fun e => hne e.symm
      simp [putRowK, putRow, mapBlock, Sort.ahead, Array.getElem?_modify, this]
end
end Go.Proofs.Ytppbbddlbfgpfaa
