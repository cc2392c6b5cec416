/- Lists of keys and entries that a law writes over, beside both tides. -/
import Derived.Test.YtpmcecenhgppbaaJTEpt38
import Derived.Deep.RegionHeld3
import Derived.Test.YtpmcecenhgppbaaJTEpt26
namespace Go.Proofs.Ytpmcecenhgppbaa
section
open Go.RowKit Go.Shelf

/-- room for so many elements -/
def Rom (W : World) (ty : TypeId) (c : Nat) (v : Value) (n : Nat) : Prop := ∃ a cap, v = .slice a n cap ∧ (n = 0 ∨ ∃ g cs, a = some ⟨g, 0, none⟩ ∧ W.heap[g]? = some (.cells cs ty (0, 0)) ∧ n * c ≤ cs.size)
theorem Rom.of {W : World} {B : Nat} {ty : TypeId} {c : Nat} {v : Value} {n : Nat} {xs : List Value} (h : W.ownsRow B ty c v n xs) : Rom W ty c v n := by
  rcases h.2 with ⟨rfl, rfl⟩ | ⟨g, cap, cur, rfl, -, hh, hn, -, hs, -⟩
  · exact ⟨none, 0, rfl, .inl rfl⟩
  · exact ⟨_, cap, rfl, .inr ⟨g, cur, rfl, hh, by rw [hs]; exact Nat.mul_le_mul_right c hn⟩⟩
theorem Rom.set {W : World} {ty : TypeId} {c : Nat} {v : Value} {n : Nat} (h : Rom W ty c v n) (q o : Nat) (u : Value) : Rom (W.setCell ⟨q, o, none⟩ u) ty c v n := by
  obtain ⟨a, cap, rfl, h⟩ := h
  rcases h with h | ⟨g, cs, rfl, hg, hc⟩
  · exact ⟨a, cap, rfl, .inl h⟩
  · refine ⟨_, cap, rfl, .inr ?_⟩
    by_cases e : g = q
    · subst e
      exact ⟨g, _, rfl, heap_set hg o u, by rw [Array.size_setIfInBounds]; exact hc⟩
    · exact ⟨g, cs, rfl, ((only1 W q o u).block g (Array.getElem?_eq_some_iff.1 hg).1 e).trans hg, hc⟩
theorem Rom.moved {W W' : World} {ty : TypeId} {c : Nat} {v : Value} {n : Nat} (h : Rom W ty c v n) (hm : ∀ k, v.ownBlock = some k → W'.heap[k]? = W.heap[k]?) : Rom W' ty c v n := by
  obtain ⟨a, cap, rfl, h⟩ := h
  rcases h with h | ⟨g, cs, rfl, hg, hc⟩
  · exact ⟨a, cap, rfl, .inl h⟩
  · exact ⟨_, cap, rfl, .inr ⟨g, cs, rfl, (hm g rfl).trans hg, hc⟩⟩
/-- one place of it -/
theorem Rom.at {W : World} {ty : TypeId} {c : Nat} {v : Value} {n : Nat} (h : Rom W ty c v n) {k : Nat} (hk : k < n) : ∃ g cap, v = .slice (some ⟨g, 0, none⟩) n cap ∧ Tag W g ty ∧ (∀ j, j < c → ∃ u, W.cell? ⟨g, k * c + j, none⟩ = some u) ∧ ∀ i, W.frozen? ⟨g, i, none⟩ = false := by
  obtain ⟨a, cap, rfl, h⟩ := h
  rcases h with h | ⟨g, cs, rfl, hg, hc⟩
  · omega
  · refine ⟨g, cap, rfl, ⟨_, _, hg⟩, fun j hj => ?_, free_of hg⟩
    have h1 : k * c + j < n * c := by
      have : (k + 1) * c ≤ n * c := Nat.mul_le_mul_right c hk
      rw [Nat.succ_mul] at this
      omega
    rw [cell_of hg]
    exact ⟨_, Array.getElem?_eq_getElem (Nat.lt_of_lt_of_le h1 hc)⟩
/-- what is written over, and what stays -/
structure Kw (w W0 W : World) (t u : Nat) (S : Ts) (F : Nat → Prop) (LK LE : List (Value × Nat)) : Prop where
  pf : Pf w W t u S S F
  size : W0.heap.size ≤ W.heap.size
  same : ∀ q ty, Tag W0 q ty → 53 ≠ ty → 57 ≠ ty → W.heap[q]? = W0.heap[q]?
  ks : ∀ p ∈ LK, Rom W 53 2 p.1 p.2 ∧ ∀ q, p.1.ownBlock = some q → F q ∧ w.heap.size ≤ q
  es : ∀ p ∈ LE, Rom W 57 7 p.1 p.2 ∧ ∀ q, p.1.ownBlock = some q → F q ∧ w.heap.size ≤ q
theorem Kw.start {w W0 : World} {t u : Nat} {S : Ts} {F : Nat → Prop} {LK LE : List (Value × Nat)} (h : Pf w W0 t u S S F) (h1 : ∀ p ∈ LK, Rom W0 53 2 p.1 p.2 ∧ ∀ q, p.1.ownBlock = some q → F q ∧ w.heap.size ≤ q) (h2 : ∀ p ∈ LE, Rom W0 57 7 p.1 p.2 ∧ ∀ q, p.1.ownBlock = some q → F q ∧ w.heap.size ≤ q) : Kw w W0 W0 t u S F LK LE :=
  ⟨h, Nat.le_refl _, fun _ _ _ _ _ => rfl, h1, h2⟩
theorem tag_set {W : World} {k : Nat} {ty : TypeId} (h : Tag W k ty) (q o : Nat) (u : Value) : Tag (W.setCell ⟨q, o, none⟩ u) k ty := by
  obtain ⟨cs, f, hg⟩ := h
  by_cases e : k = q
  · subst e; exact ⟨_, _, heap_set hg o u⟩
  · exact ⟨cs, f, ((only1 W q o u).block k (Array.getElem?_eq_some_iff.1 hg).1 e).trans hg⟩
theorem Kw.set {w W0 W : World} {t u : Nat} {S : Ts} {F : Nat → Prop} {LK LE : List (Value × Nat)} (h : Kw w W0 W t u S F LK LE) {q : Nat} (hq : F q ∧ w.heap.size ≤ q) (ht : Tag W q 53 ∨ Tag W q 57) (o : Nat) (v : Value) : Kw w W0 (W.setCell ⟨q, o, none⟩ v) t u S F LK LE := by
  refine ⟨h.pf.mine (only1 W q o v) (fun k e => by rw [show k = q from e]; exact hq), Nat.le_trans h.size (only1 W q o v).size, fun k ty hk h1 h2 => ?_, fun p hp => ⟨(h.ks p hp).1.set q o v, (h.ks p hp).2⟩, fun p hp => ⟨(h.es p hp).1.set q o v, (h.es p hp).2⟩⟩
  have e := h.same k ty hk h1 h2
  refine ((only1 W q o v).block k (Nat.lt_of_lt_of_le hk.lt h.size) fun (e2 : k = q) => ?_).trans e
  have : Tag W k ty := hk.moved e
  rw [e2] at this
  rcases ht with ht | ht
  · exact ht.two h1 this
  · exact ht.two h2 this
/-- a key laid over another -/
def laidK (W : World) (g o : Nat) (d : Int) : World := (W.setCell ⟨g, o, none⟩ (.int .i64 d)).setCell ⟨g, o + 1, none⟩ (.string ⟨#[]⟩)
theorem Kw.putK {w W0 W : World} {t u : Nat} {S : Ts} {F : Nat → Prop} {LK LE : List (Value × Nat)} (h : Kw w W0 W t u S F LK LE) {q : Nat} (hq : F q ∧ w.heap.size ≤ q) (ht : Tag W q 53 ∨ Tag W q 57) (o : Nat) (d : Int) : Kw w W0 (laidK W q o d) t u S F LK LE :=
  (h.set hq ht o _).set hq (ht.imp (fun k => tag_set k q o _) fun k => tag_set k q o _) (o + 1) _
/-- an entry that says no laid over another -/
def laidE (W : World) (g o : Nat) : World := ((((((W.setCell ⟨g, o, none⟩ (.int .i64 0)).setCell ⟨g, o + 1, none⟩ (.string ⟨#[]⟩)).setCell ⟨g, o + 2, none⟩ (.bool true)).setCell ⟨g, o + 3, none⟩ (.int .i64 0)).setCell ⟨g, o + 4, none⟩ (.int .i64 0)).setCell ⟨g, o + 5, none⟩ (.int .i64 0)).setCell ⟨g, o + 6, none⟩ (.string ⟨#[]⟩)
theorem Kw.putE {w W0 W : World} {t u : Nat} {S : Ts} {F : Nat → Prop} {LK LE : List (Value × Nat)} (h : Kw w W0 W t u S F LK LE) {q : Nat} (hq : F q ∧ w.heap.size ≤ q) (ht : Tag W q 53 ∨ Tag W q 57) (o : Nat) : Kw w W0 (laidE W q o) t u S F LK LE := by
  have g (W : World) (x : Nat) (v : Value) (ht : Tag W q 53 ∨ Tag W q 57) : Tag (W.setCell ⟨q, x, none⟩ v) q 53 ∨ Tag (W.setCell ⟨q, x, none⟩ v) q 57 := ht.imp (fun k => tag_set k q x v) fun k => tag_set k q x v
  unfold laidE
  exact ((((((h.set hq ht o _).set hq (g _ _ _ ht) _ _).set hq (g _ _ _ (g _ _ _ ht)) _ _).set hq (g _ _ _ (g _ _ _ (g _ _ _ ht))) _ _).set hq (g _ _ _ (g _ _ _ (g _ _ _ (g _ _ _ ht)))) _ _).set hq (g _ _ _ (g _ _ _ (g _ _ _ (g _ _ _ (g _ _ _ ht))))) _ _).set hq (g _ _ _ (g _ _ _ (g _ _ _ (g _ _ _ (g _ _ _ (g _ _ _ ht)))))) _ _
/-- where one key, one entry of the lists stands -/
theorem Kw.key {w W0 W : World} {t u : Nat} {S : Ts} {F : Nat → Prop} {LK LE : List (Value × Nat)} (h : Kw w W0 W t u S F LK LE) {v : Value} {n k : Nat} (hp : (v, n) ∈ LK) (hk : k < n) : ∃ g cap u0 u1, v = .slice (some ⟨g, 0, none⟩) n cap ∧ W.cell? ⟨g, k * 2, none⟩ = some u0 ∧ W.cell? ⟨g, k * 2 + 1, none⟩ = some u1 ∧ (∀ i, W.frozen? ⟨g, i, none⟩ = false) ∧ ∀ d, Kw w W0 (laidK W g (k * 2) d) t u S F LK LE := by
  have hr : Rom W 53 2 v n := (h.ks _ hp).1
  obtain ⟨g, cap, rfl, ht, hc, hf⟩ := hr.at hk
  obtain ⟨u0, h0⟩ := hc 0 (by omega)
  obtain ⟨u1, h1⟩ := hc 1 (by omega)
  exact ⟨g, cap, u0, u1, rfl, h0, h1, hf, fun d => h.putK ((h.ks _ hp).2 g rfl) (.inl ht) _ d⟩
theorem Kw.ent {w W0 W : World} {t u : Nat} {S : Ts} {F : Nat → Prop} {LK LE : List (Value × Nat)} (h : Kw w W0 W t u S F LK LE) {v : Value} {n k : Nat} (hp : (v, n) ∈ LE) (hk : k < n) : ∃ g cap, v = .slice (some ⟨g, 0, none⟩) n cap ∧ (∃ u0 u1 u2 u3 u4 u5 u6, W.cell? ⟨g, k * 7, none⟩ = some u0 ∧ W.cell? ⟨g, k * 7 + 1, none⟩ = some u1 ∧ W.cell? ⟨g, k * 7 + 2, none⟩ = some u2 ∧ W.cell? ⟨g, k * 7 + 3, none⟩ = some u3 ∧ W.cell? ⟨g, k * 7 + 4, none⟩ = some u4 ∧ W.cell? ⟨g, k * 7 + 5, none⟩ = some u5 ∧ W.cell? ⟨g, k * 7 + 6, none⟩ = some u6) ∧ (∀ i, W.frozen? ⟨g, i, none⟩ = false) ∧ Kw w W0 (laidE W g (k * 7)) t u S F LK LE := by
  have hr : Rom W 57 7 v n := (h.es _ hp).1
  obtain ⟨g, cap, rfl, ht, hc, hf⟩ := hr.at hk
  obtain ⟨u0, h0⟩ := hc 0 (by omega)
  obtain ⟨u1, h1⟩ := hc 1 (by omega)
  obtain ⟨u2, h2⟩ := hc 2 (by omega)
  obtain ⟨u3, h3⟩ := hc 3 (by omega)
  obtain ⟨u4, h4⟩ := hc 4 (by omega)
  obtain ⟨u5, h5⟩ := hc 5 (by omega)
  obtain ⟨u6, h6⟩ := hc 6 (by omega)
  exact ⟨g, cap, rfl, ⟨u0, u1, u2, u3, u4, u5, u6, h0, h1, h2, h3, h4, h5, h6⟩, hf, h.putE ((h.es _ hp).2 g rfl) (.inr ht) _⟩
end
section
open Go.RowKit Go.Shelf
attribute [local go_sem ↓ high] loadMsg storeMsg buildMsg storeAct loadAct buildAct
attribute [local go_sem high] run_store_complex eqC

set_option maxHeartbeats 8000000 in
set_option maxRecDepth 100000 in
theorem like_yes {w0 w : World} {t u : Nat} {S : Ts} (h : Pr w0 w t u S S) : Calls Try.prog 15 #[.pointer (some ⟨t, 0, none⟩), .pointer (some ⟨u, 0, none⟩)] w fun e w' => e = .returned (.bool true) ∧ Below w.heap.size w w' := by
  obtain ⟨s, d, h1, h2, h3, h4, -⟩ := h.ex
  have he : part s.a = d.e := congrArg Ts.e (h2.trans h4.symm)
  have hn : part s.b = d.n := congrArg Ts.n (h2.trans h4.symm)
  have hv : s.say.ver = d.ver := congrArg Ts.ver (h2.trans h4.symm)
  have hq : s.say.asked = d.seq := congrArg Ts.asked (h2.trans h4.symm)
  have hh : s.hs.map Hm.m = d.hs.map Hm.m := congrArg Ts.held (h2.trans h4.symm)
  have hm1 := h1.mkk
  rw [he, hn] at hm1
  have hm2 : Mk (floatOfInt .f64 d.e) (floatOfInt .f64 d.n) d.e d.n := Mk.of h3.e0 h3.e1 h3.n0 h3.n1
  have f1 : Op.floatEq .f64 s.a (floatOfInt .f64 d.e) = true := by rw [floatEq_whole hm1.ha hm2.ha]; simp
  have f2 : Op.floatEq .f64 s.b (floatOfInt .f64 d.n) = true := by rw [floatEq_whole hm1.hb hm2.hb]; simp
  obtain ⟨xa, hxa⟩ : ∃ y, s.a = y := ⟨_, rfl⟩
  obtain ⟨xb, hxb⟩ : ∃ y, s.b = y := ⟨_, rfl⟩
  obtain ⟨ya, hya⟩ : ∃ y, floatOfInt .f64 d.e = y := ⟨_, rfl⟩
  obtain ⟨yb, hyb⟩ : ∃ y, floatOfInt .f64 d.n = y := ⟨_, rfl⟩
  obtain ⟨vr, hvr⟩ : ∃ y, d.ver = y := ⟨_, rfl⟩
  obtain ⟨sq, hsq⟩ : ∃ y, d.seq = y := ⟨_, rfl⟩
  obtain ⟨a7, q7, hhv⟩ := owns_len h3.held
  obtain ⟨nn, hnn⟩ : ∃ y, d.hs.length = y := ⟨_, rfl⟩
  rw [hnn] at hhv
  rw [hxa, hya] at f1
  rw [hxb, hyb] at f2
  have HMp : Hid (∀ V, Below w.heap.size w V → Calls Try.prog 19 #[.pointer (some ⟨t, 0, none⟩)] V fun e w' => e = .returned (.complex .f64 xa xb) ∧ V = w') := fun V hV => by
    rw [← hxa, ← hxb]
    refine (mark_p t _ s V (h1.below hV)).mono ?_
    rintro e w' ⟨rfl, rfl⟩
    exact ⟨rfl, rfl⟩
  have HMd : Hid (∀ V, Below w.heap.size w V → Calls Try.prog 39 #[.pointer (some ⟨u, 0, none⟩)] V fun e w' => e = .returned (.complex .f64 ya yb) ∧ Below V.heap.size V w') := fun V hV => by
    rw [← hya, ← hyb]
    exact mark_d u _ d V (h3.below hV)
  have HVp : Hid (∀ V, Below w.heap.size w V → Calls Try.prog 20 #[.pointer (some ⟨t, 0, none⟩)] V fun e w' => e = .returned (.int .i64 vr) ∧ V = w') := fun V hV => by
    refine (version_p t _ s V (h1.below hV)).mono ?_
    rintro e w' ⟨rfl, rfl⟩
    exact ⟨by rw [← hvr, ← hv]; rfl, rfl⟩
  have HQp : Hid (∀ V, Below w.heap.size w V → Calls Try.prog 40 #[.pointer (some ⟨t, 0, none⟩)] V fun e w' => e = .returned (.int .i64 sq) ∧ V = w') := fun V hV => by
    refine (asked_p t _ s V (h1.below hV)).mono ?_
    rintro e w' ⟨rfl, rfl⟩
    exact ⟨by rw [← hsq, ← hq]; rfl, rfl⟩
  have HHp : Hid (∀ V, Below w.heap.size w V → Calls Try.prog 17 #[.pointer (some ⟨t, 0, none⟩)] V fun e w' => ∃ v l, e = .returned v ∧ Below V.heap.size V w' ∧ ∀ W, Below w'.heap.size w' W → Calls Try.prog 41 #[v, .slice a7 nn q7] W fun e w'' => e = .returned (.bool true) ∧ Below W.heap.size W w'') := fun V hV => by
    refine (held_p t _ s V (h1.below hV)).mono ?_
    rintro e w' ⟨v, l, rfl, ha, hb, hc⟩
    refine ⟨v, l, rfl, hc, fun W hW => ?_⟩
    have i3 := (h3.below (chainB hV (chainB hc hW)))
    have hms : Msgs W w0.heap.size (.slice a7 nn q7) d.hs := ⟨by rw [← hhv]; exact i3.held, fun z hz => (i3.each z hz).1⟩
    refine sameMsgs_yes v _ l d.hs W _ _ (ha.below hW) hms (hb.trans hh) (fun z hz => ?_) ?_
    · have : z.m ∈ s.hs.map Hm.m := by rw [← hb]; exact List.mem_map.2 ⟨z, hz, rfl⟩
      obtain ⟨y, hy, e⟩ := List.mem_map.1 this
      rw [← e]
      exact ⟨_, _, (h1.each y hy).2.mkk⟩
    · have e1 := congrArg List.length hb
      rw [List.length_map, List.length_map] at e1
      have := h1.lh
      have := h1.l8
      omega
  have HK : Hid (∀ V, Below w.heap.size w V → V.cell? ⟨u, 5, none⟩ = some (.int .i64 vr) ∧ V.cell? ⟨u, 6, none⟩ = some (.int .i64 sq) ∧ V.cell? ⟨u, 7, none⟩ = some (.slice a7 nn q7)) := fun V hV => by
    have i3 := h3.below hV
    obtain ⟨-, -, -, -, -, c5, c6, c7, -, -⟩ := i3.cells
    exact ⟨by rw [c5, hvr], by rw [c6, hsq], by rw [c7, hhv]⟩
  have kS := HK.out w.drew (Below.refl _ _).drew
  clear h h1 h2 h3 h4 he hn hv hq hh hm1 hm2 hxa hxb hya hyb hvr hsq hhv hnn
  go_enter Try.func15, Try.ntmps15
  go_upto_region 1 with fail
  go_region_held3 (fun V => V.cell? ⟨u, 5, none⟩ = some (.int .i64 vr) ∧ V.cell? ⟨u, 6, none⟩ = some (.int .i64 sq) ∧ V.cell? ⟨u, 7, none⟩ = some (.slice a7 nn q7))
    (with_reducible first | exact kV | exact kU | exact kT | exact kS)
    (first
      | (go_at_call 19; refine (HMp.out _ (Below.refl _ _).drew).mono ?_; rintro e w' ⟨rfl, rfl⟩)
      | (go_at_call 39; refine (HMd.out _ (Below.refl _ _).drew).mono ?_; rintro e w4 ⟨rfl, hb4⟩; have HB4 : Hid (Below w.heap.size w w4) := undrew hb4; have kT := HK.out w4 HB4.out; clear hb4)
      | (go_at_call 20; refine (HVp.out _ HB4.out).mono ?_; rintro e w' ⟨rfl, rfl⟩)
      | (go_at_call 40; refine (HQp.out _ HB4.out).mono ?_; rintro e w' ⟨rfl, rfl⟩)
      | (go_at_call 17; refine (HHp.out _ HB4.out).mono ?_; rintro e w6 ⟨v6, l6, rfl, hb6, hsm⟩; have HSm : Hid _ := hsm; have HB6 : Hid (Below w.heap.size w w6) := chainB HB4.out hb6; have kU := HK.out w6 HB6.out; clear hb6 hsm)
      | (go_at_call 41; refine (HSm.out _ (Below.refl _ _)).mono ?_; rintro e w8 ⟨rfl, hb8⟩; have HB8 : Hid (Below w.heap.size w w8) := chainB HB6.out hb8; have kV := HK.out w8 HB8.out; clear hb8))
  clear kS
  go_wp2
  go_ret
  exact ⟨rfl, HB8.out⟩
end
section
open Go.ChangeShapes Go.WideShapes Go.ChangeAt Go.RowKit Go.Joins

theorem Try.cellsTo : Try.prog.cellsOf 38 = 19 := by kernel_rfl
theorem Try.bytesTo : Try.prog.bytesOf 38 = 208 := by kernel_rfl
/-- a call of a script -/
structure TOp where
  ask : Bool
  seq : Int
  m : Mm
def TOp.vals (x : TOp) : List Value := .bool x.ask :: .int .i64 x.seq :: x.m.arr.toList
def TOp.arr (x : TOp) : Array Value := x.vals.toArray
def TOp.wf (x : TOp) : Prop := (Lit.int .i64 x.m.ep).wf = true ∧ (Lit.int .i64 x.m.nb).wf = true
/-- a script that came in -/
def RowT (w : World) (a : Option Addr) (ops : List TOp) : Prop := ops = [] ∨ ∃ b off, a = some ⟨b, off, none⟩ ∧ b < w.heap.size ∧ ∀ i x, ops[i]? = some x → (∀ j u, x.vals[j]? = some u → w.cell? ⟨b, off + i * 19 + j, none⟩ = some u) ∧ ArgM w x.m ∧ x.wf
theorem RowT.below {w w' : World} {a : Option Addr} {ops : List TOp} (h : RowT w a ops) (hb : Below w.heap.size w w') : RowT w' a ops := by
  rcases h with h | ⟨b, off, rfl, hs, hc⟩
  · exact .inl h
  · exact .inr ⟨b, off, rfl, Nat.lt_of_lt_of_le hs hb.size, fun i x hx => ⟨fun j u hu => (hb.cell (p := ⟨b, off + i * 19 + j, none⟩) hs).trans ((hc i x hx).1 j u hu), (hc i x hx).2.1.below hb, (hc i x hx).2.2⟩⟩
/-- one of a script's calls -/
theorem RowT.get {w : World} {a : Option Addr} {ops : List TOp} (h : RowT w a ops) {i : Nat} (hi : i < ops.length) : ∃ b off x, a = some ⟨b, off, none⟩ ∧ ops[i]? = some x ∧ (∀ j u, x.vals[j]? = some u → w.cell? ⟨b, off + i * 19 + j, none⟩ = some u) ∧ ArgM w x.m ∧ x.wf := by
  rcases h with h | ⟨b, off, rfl, hs, hc⟩
  · subst h; simp at hi
  · exact ⟨b, off, ops[i], rfl, List.getElem?_eq_getElem hi, hc i _ (List.getElem?_eq_getElem hi)⟩
theorem weights_elems {H : Type} {P : Program} {t e : TypeId} {elems spare : List (DataW H)} (hu : P.underlying t = some (.slice e)) (h : ∀ n ∈ (DataW.slice elems spare).weights P t, n ≤ reachBytes) : ∀ d ∈ elems, ∀ n ∈ d.weights P e, n ≤ reachBytes := by
  simp only [DataW.weights, hu] at h
  exact fun d hd n hn => h n (List.mem_cons_of_mem _ (List.mem_append_left _ (weightsAll_mem hd hn)))
section
variable {H : Type} {enc : TypeId × Value → H} {W : World}
set_option maxRecDepth 100000 in
theorem mmF_of {fuel : Nat} {cs : List Value} {x : DataW H × List MemPlace} (h : DataW.trod enc Try.prog W 0 (fun _ => true) true fuel 36 cs = some x) (hw : ∀ n ∈ x.1.weights Try.prog 36, n ≤ reachBytes) : ∃ m : Mm, cs = m.arr.toList ∧ ArgM W m ∧ (Lit.int .i64 m.ep).wf = true ∧ (Lit.int .i64 m.nb).wf = true := by
  obtain ⟨xs, n, _, rfl, hl, hlen, hf⟩ := DataW.trod_struct Try.underlying36 h
  rw [Try.cellsMm] at hl
  obtain ⟨c0, c1, c2, c3, c4, c5, c6, c7, c8, c9, c10, c11, c12, c13, c14, c15, c16, rfl⟩ := seventeen hl
  obtain ⟨y0, y1, y2, y3, y4, y5, y6, y7, y8, y9, y10, rfl⟩ := eleven (l := xs) (by simpa using hlen)
  have h0 : DataW.trod enc Try.prog W 0 (fun _ => true) true n 3 (([c0, c1, c2, c3, c4, c5, c6, c7, c8, c9, c10, c11, c12, c13, c14, c15, c16].drop 0).take (Try.prog.cellsOf 3)) = some y0 := hf 0 _ rfl
  have h1 : DataW.trod enc Try.prog W 0 (fun _ => true) true n 3 (([c0, c1, c2, c3, c4, c5, c6, c7, c8, c9, c10, c11, c12, c13, c14, c15, c16].drop 1).take (Try.prog.cellsOf 3)) = some y1 := hf 1 _ rfl
  have h2 : DataW.trod enc Try.prog W 0 (fun _ => true) true n 3 (([c0, c1, c2, c3, c4, c5, c6, c7, c8, c9, c10, c11, c12, c13, c14, c15, c16].drop 2).take (Try.prog.cellsOf 3)) = some y2 := hf 2 _ rfl
  have h3 : DataW.trod enc Try.prog W 0 (fun _ => true) true n 3 (([c0, c1, c2, c3, c4, c5, c6, c7, c8, c9, c10, c11, c12, c13, c14, c15, c16].drop 3).take (Try.prog.cellsOf 3)) = some y3 := hf 3 _ rfl
  have h4 : DataW.trod enc Try.prog W 0 (fun _ => true) true n 3 (([c0, c1, c2, c3, c4, c5, c6, c7, c8, c9, c10, c11, c12, c13, c14, c15, c16].drop 4).take (Try.prog.cellsOf 3)) = some y4 := hf 4 _ rfl
  have h5 : DataW.trod enc Try.prog W 0 (fun _ => true) true n 3 (([c0, c1, c2, c3, c4, c5, c6, c7, c8, c9, c10, c11, c12, c13, c14, c15, c16].drop 5).take (Try.prog.cellsOf 3)) = some y5 := hf 5 _ rfl
  have h6 : DataW.trod enc Try.prog W 0 (fun _ => true) true n 3 (([c0, c1, c2, c3, c4, c5, c6, c7, c8, c9, c10, c11, c12, c13, c14, c15, c16].drop 6).take (Try.prog.cellsOf 3)) = some y6 := hf 6 _ rfl
  have h7 : DataW.trod enc Try.prog W 0 (fun _ => true) true n 3 (([c0, c1, c2, c3, c4, c5, c6, c7, c8, c9, c10, c11, c12, c13, c14, c15, c16].drop 7).take (Try.prog.cellsOf 3)) = some y7 := hf 7 _ rfl
  have h8 : DataW.trod enc Try.prog W 0 (fun _ => true) true n 32 (([c0, c1, c2, c3, c4, c5, c6, c7, c8, c9, c10, c11, c12, c13, c14, c15, c16].drop 8).take (Try.prog.cellsOf 32)) = some y8 := hf 8 _ rfl
  have h9 : DataW.trod enc Try.prog W 0 (fun _ => true) true n 33 (([c0, c1, c2, c3, c4, c5, c6, c7, c8, c9, c10, c11, c12, c13, c14, c15, c16].drop 15).take (Try.prog.cellsOf 33)) = some y9 := hf 9 _ rfl
  have h10 : DataW.trod enc Try.prog W 0 (fun _ => true) true n 34 (([c0, c1, c2, c3, c4, c5, c6, c7, c8, c9, c10, c11, c12, c13, c14, c15, c16].drop 16).take (Try.prog.cellsOf 34)) = some y10 := hf 10 _ rfl
  rw [Try.cellsWord] at h0 h1 h2 h3 h4 h5 h6 h7
  rw [Try.cellsOpn] at h8
  rw [Try.cellsSlE] at h9
  rw [Try.cellsSlK] at h10
  obtain ⟨p0, e0, _, _⟩ := DataW.trod_int Try.underlying3 h0
  obtain ⟨p1, e1, _, _⟩ := DataW.trod_int Try.underlying3 h1
  obtain ⟨p2, e2, _, _⟩ := DataW.trod_int Try.underlying3 h2
  obtain ⟨p3, e3, _, _⟩ := DataW.trod_int Try.underlying3 h3
  obtain ⟨p4, e4, _, w4⟩ := DataW.trod_int Try.underlying3 h4
  obtain ⟨p5, e5, _, w5⟩ := DataW.trod_int Try.underlying3 h5
  obtain ⟨p6, e6, _, _⟩ := DataW.trod_int Try.underlying3 h6
  obtain ⟨p7, e7, _, _⟩ := DataW.trod_int Try.underlying3 h7
  obtain ⟨q, e8⟩ := op_of h8
  simp [Opn.arr] at e0 e1 e2 e3 e4 e5 e6 e7 e8
  obtain ⟨es, hes⟩ := argE_of (v := c15) (x := y9) (by simpa using h9) (fun n hn => hw n (by
    simp only [DataW.weights, Try.underlying36]
    exact DataW.weights_mem_each (j := 9) rfl rfl n hn))
  obtain ⟨ks, hks⟩ := argK_of (v := c16) (x := y10) (by simpa using h10) (fun n hn => hw n (by
    simp only [DataW.weights, Try.underlying36]
    exact DataW.weights_mem_each (j := 10) rfl rfl n hn))
  refine ⟨⟨p0, p1, p2, p3, p4, p5, p6, p7, q, c15, c16, es, ks⟩, ?_, ⟨hes, hks⟩, w4, w5⟩
  obtain ⟨f0, f1, f2, f3, f4, f5, f6⟩ := e8
  rw [e0, e1, e2, e3, e4, e5, e6, e7, f0, f1, f2, f3, f4, f5, f6]; rfl
theorem top_of {fuel : Nat} {cs : List Value} {x : DataW H × List MemPlace} (h : DataW.trod enc Try.prog W 0 (fun _ => true) true fuel 38 cs = some x) (hw : ∀ n ∈ x.1.weights Try.prog 38, n ≤ reachBytes) : ∃ p : TOp, cs = p.vals ∧ ArgM W p.m ∧ p.wf := by
  obtain ⟨xs, n, _, rfl, hl, hlen, hf⟩ := DataW.trod_struct Try.underlying38 h
  rw [Try.cellsTo] at hl
  obtain ⟨c0, c1, cs', rfl⟩ : ∃ c0 c1 cs', cs = c0 :: c1 :: cs' := by
    cases cs with
    | nil => simp at hl
    | cons c0 cs =>
      cases cs with
      | nil => simp at hl
      | cons c1 cs' => exact ⟨c0, c1, cs', rfl⟩
  obtain ⟨y0, y1, y2, rfl⟩ := three (l := xs) (by simpa using hlen)
  have h0 : DataW.trod enc Try.prog W 0 (fun _ => true) true n 4 (((c0 :: c1 :: cs').drop 0).take (Try.prog.cellsOf 4)) = some y0 := hf 0 _ rfl
  have h1 : DataW.trod enc Try.prog W 0 (fun _ => true) true n 3 (((c0 :: c1 :: cs').drop 1).take (Try.prog.cellsOf 3)) = some y1 := hf 1 _ rfl
  have h2 : DataW.trod enc Try.prog W 0 (fun _ => true) true n 36 (((c0 :: c1 :: cs').drop 2).take (Try.prog.cellsOf 36)) = some y2 := hf 2 _ rfl
  rw [Try.cellsYes] at h0
  rw [Try.cellsWord] at h1
  rw [Try.cellsMm] at h2
  obtain ⟨p0, e0, _⟩ := DataW.trod_bool Try.underlying4 h0
  obtain ⟨p1, e1, _, _⟩ := DataW.trod_int Try.underlying3 h1
  simp at e0 e1
  have hl' : cs'.length = 17 := by simpa using hl
  have e2 : (((c0 :: c1 :: cs').drop 2).take 17) = cs' := by
    rw [List.drop_succ_cons, List.drop_succ_cons, List.drop_zero, List.take_of_length_le (by omega)]
  rw [e2] at h2
  obtain ⟨m, rfl, hm, we, wn⟩ := mmF_of h2 (fun n hn => hw n (by
    simp only [DataW.weights, Try.underlying38]
    exact DataW.weights_mem_each (j := 2) rfl rfl n hn))
  subst e0 e1
  exact ⟨⟨p0, p1, m⟩, rfl, hm, we, wn⟩
theorem rowT_of {a : Option Addr} {len cap : Nat} {d : DataW H} {ps : List MemPlace} (h : DataW.Trod enc Try.prog W 0 (fun _ => true) true 22 (.slice a len cap) d ps) (hw : ∀ n ∈ d.weights Try.prog 22, n ≤ reachBytes) :
    ∃ ops : List TOp, ops.length = len ∧ RowT W a ops ∧ len ≤ 700000000000 := by
  obtain ⟨fuel, hf⟩ := h
  rcases Go.Deep.open_slice Try.underlying22 hf with ⟨hcs, hx⟩ | ⟨a', len', cap', m, n, D, Pl, hcs, hb, hl, hm, hmm, hx, hel⟩
  · simp [Value.cells] at hcs
    obtain ⟨rfl, rfl, rfl⟩ := hcs
    exact ⟨[], rfl, .inl rfl, by omega⟩
  · simp [Value.cells] at hcs
    obtain ⟨rfl, rfl, rfl⟩ := hcs
    simp only [if_true] at hmm
    subst hmm
    simp only [Prod.mk.injEq] at hx
    obtain ⟨rfl, -⟩ := hx
    have w1 := weights_slice Try.underlying22 hw
    have w2 := weights_elems Try.underlying22 hw
    rw [Try.bytesTo] at w1
    simp [reachBytes] at w1
    by_cases h0 : len = 0
    · exact ⟨[], h0.symm, .inl rfl, by omega⟩
    have key : ∀ i, i < len → ∃ o : TOp, (∀ r u, o.vals[r]? = some u → W.cell? ((a'.add (i * 19)).add r) = some u) ∧ ArgM W o.m ∧ o.wf := by
      intro i hi
      obtain ⟨cs', hc, ht⟩ := hel i (by omega)
      rw [Try.cellsTo] at hc
      obtain ⟨_, hlen, hget⟩ := World.cells?_some hc
      obtain ⟨o, rfl, hk, ho⟩ := top_of ht (w2 (D i) (List.mem_map.2 ⟨i, List.mem_range.2 hi, rfl⟩))
      refine ⟨o, fun r u hu => ?_, hk, ho⟩
      have hr : r < 19 := by have := (List.getElem?_eq_some_iff.1 hu).1; rw [hlen] at this; exact this
      have := hget r (by omega)
      rw [hu] at this
      exact this
    have iO : Inhabited TOp := ⟨⟨false, 0, ⟨0, 0, 0, 0, 0, 0, 0, 0, ⟨0, 0, ⟨#[]⟩, 0, ⟨#[]⟩, 0, ⟨#[]⟩⟩, .slice none 0 0, .slice none 0 0, [], []⟩⟩⟩
    obtain ⟨X, hX⟩ := Go.Deep.choose_lt (α := TOp) key
    obtain ⟨b, off, spot⟩ := a'
    have hc0 := (hX 0 (by omega)).1 0 _ rfl
    have hs := World.cell?_spot hc0
    have hspot : spot = none := by simpa [Addr.add] using hs
    subst hspot
    refine ⟨(List.range len).map X, by simp, .inr ⟨b, off, rfl, cellLt hc0, fun i o ho => ?_⟩, by omega⟩
    have hi : i < len := by have := (List.getElem?_eq_some_iff.1 ho).1; simpa using this
    rw [List.getElem?_map, List.getElem?_range hi] at ho
    cases ho
    refine ⟨fun j u hu => ?_, (hX i hi).2⟩
    have := (hX i hi).1 j u hu
    rw [add_plain', add_plain'] at this
    exact this
end
/-- a message as plain data loaded whole, shut -/
theorem Try.sizeMmm : (Try.prog.info? 36).map (·.size) = some 17 := by kernel_rfl
def mmLd (v : Value) : Sem Value := Instr.loadAt 36 v
theorem loadMm (v : Value) : Instr.loadAt 36 v = mmLd v := rfl
theorem mmLd_at {w : World} {g o : Nat} {cs : Array Value} (h : ∀ j v, cs[j]? = some v → w.cell? ⟨g, o + j, none⟩ = some v) (hs : cs.size = 17) : (mmLd (.pointer (some ⟨g, o, none⟩))).run Try.prog w = .ok (.agg cs) w := by
  have := run_loadAt_mid (P := Try.prog) w g o 36 cs.toList _ (fun j v hv => h j v (by rw [← Array.getElem?_toList]; exact hv)) Try.underlying36 rfl (by rw [Array.length_toList, hs]; exact Try.sizeMmm)
  unfold mmLd
  rw [this, Array.toArray_toList]
theorem mmLd_of {w : World} {g : Nat} {cs : Array Value} {t : TypeId} {fr : Nat × Nat} (h : w.heap[g]? = some (.cells cs t fr)) (hs : cs.size = 17) : (mmLd (.pointer (some ⟨g, 0, none⟩))).run Try.prog w = .ok (.agg cs) w := by
  unfold mmLd Instr.loadAt Instr.sureAddr
  simp [run_loadVar_row w g t 36 cs fr _ h Try.underlying36 rfl (by rw [hs]; exact Try.sizeMmm)]
attribute [irreducible] mmLd
def mmSt (a v : Value) : Sem Unit := Instr.storeAt 36 a v
theorem storeMm (a v : Value) : Instr.storeAt 36 a v = mmSt a v := rfl
theorem mmSt_of {w W : World} {g : Nat} {old cs : Array Value} {t : TypeId} (h : w.heap[g]? = some (.cells old t (0, 0))) (ho : old.size = 17) (hs : cs.size = 17) (h1 : cs.all (·.oneCell') = true) (hW : w.setRow g cs = W) : (mmSt (.pointer (some ⟨g, 0, none⟩)) (.agg cs)).run Try.prog w = .ok () W := by
  subst hW
  unfold mmSt Instr.storeAt Instr.sureAddr
  simp [run_storeVar_row w g t 36 old cs h (by rw [hs]; exact Try.sizeMmm) (by rw [ho, hs]) h1]
attribute [irreducible] mmSt
theorem Mm.size (m : Mm) : m.arr.size = 17 := rfl
theorem RowT.msg {w : World} {b off i : Nat} {x : TOp} (h : ∀ j u, x.vals[j]? = some u → w.cell? ⟨b, off + i * 19 + j, none⟩ = some u) : (mmLd (.pointer (some ⟨b, off + i * 19 + 2, none⟩))).run Try.prog w = .ok (.agg x.m.arr) w :=
  mmLd_at (fun j v hv => by
    have := h (j + 2) v (by unfold TOp.vals; rw [List.getElem?_cons_succ, List.getElem?_cons_succ, Array.getElem?_toList]; exact hv)
    rw [show off + i * 19 + (j + 2) = off + i * 19 + 2 + j by omega] at this; exact this) x.m.size
end
end Go.Proofs.Ytpmcecenhgppbaa
