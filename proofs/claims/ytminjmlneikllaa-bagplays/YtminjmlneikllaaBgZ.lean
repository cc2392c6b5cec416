/- A bag and the document's, side by side. -/
import Derived.Test.YtminjmlneikllaaBgM
namespace Go.Proofs.Ytminjmlneikllaa
open Go.RowKit

structure Px (w wr : World) (N b r : Nat) (s R : Bg) : Prop where
  bx : Bx w wr w.heap.size b s
  is : IsB TR wr w.heap.size r R
  lr : w.heap.size ≤ r
  lv : ∀ q, R.v.ownBlock = some q → w.heap.size ≤ q
  n : s.n = N
  rn : R.n = N
  far : ∀ q, R.v.ownBlock = some q → s.v.ownBlock ≠ some q
theorem Px.below {w wr w' : World} {N b r : Nat} {s R : Bg} (h : Px w wr N b r s R) (hb : Below wr.heap.size wr w') : Px w w' N b r s R := ⟨h.bx.below hb, h.is.below hb, h.lr, h.lv, h.n, h.rn, h.far⟩
theorem Px.alloc {w wr : World} {N b r : Nat} {s R : Bg} (h : Px w wr N b r s R) (o : Obj) : Px w (wr.alloc o) N b r s R := h.below (below_alloc _ _)
theorem Px.drew {w wr : World} {N b r : Nat} {s R : Bg} (h : Px w wr N b r s R) : Px w wr.drew N b r s R := h.below (Below.refl _ _).drew
theorem Px.bag {w wr w' : World} {N b r : Nat} {s s' R : Bg} {L : List (Int × List Int)} (h : Px w wr N b r s R) (hs : Step TB wr w' w.heap.size b s s' L) : Px w w' N b r s' R := by
  refine ⟨h.bx.step hs, h.is.only hs.only (fun e => e.elim (fun e => h.is.tb.ne h.bx.is.tb (by decide) e) (fun e => h.is.tb.ne (h.bx.is.tv e) (by decide) rfl)) (fun k hk e => e.elim (fun e => (h.is.tv hk).ne h.bx.is.tb (by decide) e) (fun e => h.far k hk e)) (fun k hk _ e => e.elim (fun e => hk.ne h.bx.is.tb (by decide) e) (fun e => hk.ne (h.bx.is.tv e) (by decide) rfl)), h.lr, h.lv, hs.n.trans h.n, h.rn, fun q hq e => ?_⟩
  rcases hs.v with e' | e'
  · exact h.far q hq (by rw [← e']; exact e)
  · have := e' q e
    have := (h.is.tv hq).lt
    omega
theorem Px.ref {w wr w' : World} {N b r : Nat} {s R R' : Bg} {L : List (Int × List Int)} (h : Px w wr N b r s R) (hs : Step TR wr w' w.heap.size r R R' L) : Px w w' N b r s R' := by
  have hb : Bx w w' w.heap.size b s := by
    refine ⟨h.bx.is.only hs.only (fun e => e.elim (fun e => h.bx.is.tb.ne h.is.tb (by decide) e) (fun e => h.bx.is.tb.ne (h.is.tv e) (by decide) rfl)) (fun k hk e => e.elim (fun e => (h.bx.is.tv hk).ne h.is.tb (by decide) e) (fun e => h.far k e hk)) (fun k hk _ e => e.elim (fun e => hk.ne h.is.tb (by decide) e) (fun e => hk.ne (h.is.tv e) (by decide) rfl)), hs.only.below h.bx.bel h.bx.bel.size (fun k e => e.elim (fun e => e ▸ h.lr) (fun e => h.lv k e)), h.bx.lb, h.bx.lv, Nat.le_trans h.bx.hB hs.only.size⟩
  refine ⟨hb, hs.is, h.lr, fun q hq => ?_, h.n, hs.n.trans h.rn, fun q hq e => ?_⟩
  · rcases hs.v with e' | e'
    · exact h.lv q (e' ▸ hq)
    · exact Nat.le_trans h.bx.bel.size (e' q hq)
  · rcases hs.v with e' | e'
    · exact h.far q (e' ▸ hq) e
    · have := e' q hq
      have := (h.bx.is.tv e).lt
      omega
/-- a variable of the law's own stays -/
theorem Px.varB {w wr w' : World} {N b r k : Nat} {s s' R : Bg} {L : List (Int × List Int)} {cs : Array Value} {t : TypeId} (h : Px w wr N b r s R) (hs : Step TB wr w' w.heap.size b s s' L) (ht : t ≠ TB ∧ t ≠ 37) (hk : wr.heap[k]? = some (.cells cs t (0, 0))) : w'.heap[k]? = some (.cells cs t (0, 0)) := by
  have hg : Tag wr k t := ⟨_, _, hk⟩
  exact (hs.only.block k hg.lt (fun e => e.elim (fun e => hg.ne h.bx.is.tb ht.1 e) (fun e => hg.ne (h.bx.is.tv e) ht.2 rfl))).trans hk
theorem Px.varR {w wr w' : World} {N b r k : Nat} {s R R' : Bg} {L : List (Int × List Int)} {cs : Array Value} {t : TypeId} (h : Px w wr N b r s R) (hs : Step TR wr w' w.heap.size r R R' L) (ht : t ≠ TR ∧ t ≠ 37) (hk : wr.heap[k]? = some (.cells cs t (0, 0))) : w'.heap[k]? = some (.cells cs t (0, 0)) := by
  have hg : Tag wr k t := ⟨_, _, hk⟩
  exact (hs.only.block k hg.lt (fun e => e.elim (fun e => hg.ne h.is.tb ht.1 e) (fun e => hg.ne (h.is.tv e) ht.2 rfl))).trans hk
theorem Px.start {w w1 w2 : World} {N b r : Nat} (hb : w.heap.size ≤ b) (hB : ∀ B, IsB TB w1 B b (Bg.new N)) (hW : Below w.heap.size w w1) (hr : w1.heap.size ≤ r) (hR : ∀ B, IsB TR w2 B r (Bg.new N)) (hW2 : Below w1.heap.size w1 w2) : Px w w2 N b r (Bg.new N) (Bg.new N) :=
  ⟨(Bx.new w.heap.size hb hB hW hW.size).below hW2, hR _, Nat.le_trans hW.size hr, fun q hq => (by cases hq), rfl, rfl, fun q hq => (by cases hq)⟩
theorem cells4 {W : World} {k : Nat} {x y u v : Value} {t : TypeId} (h : W.heap[k]? = some (.cells #[x, y, u, v] t (0, 0))) : W.cell? ⟨k, 0, none⟩ = some x ∧ W.cell? ⟨k, 1, none⟩ = some y ∧ W.cell? ⟨k, 2, none⟩ = some u ∧ W.cell? ⟨k, 3, none⟩ = some v :=
  ⟨by rw [cell_of h]; rfl, by rw [cell_of h]; rfl, by rw [cell_of h]; rfl, by rw [cell_of h]; rfl⟩
theorem heap_below {W W' : World} {k : Nat} {o : Obj} (h : W.heap[k]? = some o) (hb : Below W.heap.size W W') : W'.heap[k]? = some o := (hb.block _ (Array.getElem?_eq_some_iff.1 h).1).trans h
/-- the document's calls, by what it says -/
theorem rtake_x (B b i : Nat) (s : Bg) (t : Int) (l : List Int) (w : World) (h : IsB TR w B b s) (hi : s.say[i]? = some (t, l)) :
    Calls Try.prog 16 #[.pointer (some ⟨b, 0, none⟩), .int .i64 i] w fun e w' => ∃ v', e = .returned (.tuple #[.agg #[.int .i64 t, v'], .int .i64 0]) ∧ OwnB w' w.heap.size v' l ∧ ∃ s', Step TR w w' B b s s' (s.say.eraseIdx i) := by
  obtain ⟨p, hp, rfl, rfl⟩ := say_get hi
  exact rtake_ok B b i s p w h hp
theorem rdouble_x (B b i : Nat) (s : Bg) (t : Int) (l : List Int) (w : World) (h : IsB TR w B b s) (hB : B ≤ w.heap.size) (hi : s.say[i]? = some (t, l)) (hf : s.say.length < s.n) :
    Calls Try.prog 21 #[.pointer (some ⟨b, 0, none⟩), .int .i64 i] w fun e w' => e = .returned (.int .i64 0) ∧ ∃ s', Step TR w w' B b s s' (s.say ++ [(t, l)]) := by
  obtain ⟨p, hp, rfl, rfl⟩ := say_get hi
  exact rdouble_ok B b i s p w h hB hp (by rw [← say_len]; exact hf)
theorem rdouble_fx (B b i : Nat) (s : Bg) (w : World) (h : IsB TR w B b s) (hi : i < s.say.length) (hf : s.say.length = s.n) :
    Calls Try.prog 21 #[.pointer (some ⟨b, 0, none⟩), .int .i64 i] w fun e w' => e = .returned (.int .i64 2) ∧ Below w.heap.size w w' := by
  rw [say_len] at hi hf
  exact rdouble_full B b i s _ w h (List.getElem?_eq_getElem hi) hf
/-- behind both Takes: the first letter's variable and bytes stand -/
structure TakeTwo (w w2 w3 : World) (N b r : Nat) (s R : Bg) (t : Int) (v : Value) (l : List Int) (L : List (Int × List Int)) : Prop where
  px : Px w w3 N b r s R
  say : R.say = L
  own : OwnB w3 0 v l
  var : w3.heap[w2.heap.size]? = some (.cells #[.int .i64 t, v] 37 (0, 0))
theorem TakeTwo.cells {w w2 w3 : World} {N b r : Nat} {s R : Bg} {t : Int} {v : Value} {l : List Int} {L : List (Int × List Int)} (h : TakeTwo w w2 w3 N b r s R t v l L) : w3.cell? ⟨w2.heap.size, 0, none⟩ = some (.int .i64 t) ∧ w3.cell? ⟨w2.heap.size, 1, none⟩ = some v :=
  ⟨by rw [cell_of h.var]; rfl, by rw [cell_of h.var]; rfl⟩
theorem TakeTwo.lt {w w2 w3 : World} {N b r : Nat} {s R : Bg} {t : Int} {v : Value} {l : List Int} {L : List (Int × List Int)} (h : TakeTwo w w2 w3 N b r s R t v l L) : w2.heap.size < w3.heap.size := (Array.getElem?_eq_some_iff.1 h.var).1
theorem takeTwo {w w2 w3 : World} {N b r : Nat} {s R R3 : Bg} {t : Int} {v : Value} {l : List Int} {L : List (Int × List Int)} (h : Px w w2 N b r s R) (ho : OwnB w2 0 v l) (hs : Step TR (w2.alloc (.cells #[.int .i64 t, v] 37)) w3 w.heap.size r R R3 L) : TakeTwo w w2 w3 N b r s R3 t v l L := by
  have ha := h.alloc (.cells #[.int .i64 t, v] 37)
  have ho' := ho.below (below_alloc w2 (.cells #[.int .i64 t, v] 37))
  refine ⟨ha.ref hs, hs.say, ho'.moved fun k hk => hs.only.block k (ho'.at k hk).2 (fun e => e.elim (fun e => (ho'.tag hk).ne ha.is.tb (by decide) e) (fun e => (ho'.tag hk).ne (ha.is.tv e) (by decide) rfl)), ?_⟩
  rw [hs.only.block _ (by simp) (fun e => e.elim (fun e => by have := h.is.tb.lt; omega) (fun e => by have := (h.is.tv e).lt; omega))]
  exact heap_new _ _
end Go.Proofs.Ytminjmlneikllaa
