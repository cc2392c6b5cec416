/- What BagNothing keeps in mind: the bag and what was posted. -/
import Derived.Test.YtminjmlneikllaaBgK
namespace Go.Proofs.Ytminjmlneikllaa
open Go.RowKit

structure Nx (w wr : World) (N b : Nat) (s : Bg) (v : Value) (ps : List Lt) (k : Nat) : Prop where
  bx : Bx w wr w.heap.size b s
  n : s.n = N
  mail : Mail wr w.heap.size w.heap.size v ps
  few : ps.length ≤ k
  far : ∀ q, v.ownBlock = some q → s.v.ownBlock ≠ some q
theorem Nx.below {w wr w' : World} {N b k : Nat} {s : Bg} {v : Value} {ps : List Lt} (h : Nx w wr N b s v ps k) (hb : Below wr.heap.size wr w') : Nx w w' N b s v ps k := ⟨h.bx.below hb, h.n, h.mail.below hb, h.few, h.far⟩
theorem Nx.alloc {w wr : World} {N b k : Nat} {s : Bg} {v : Value} {ps : List Lt} (h : Nx w wr N b s v ps k) (o : Obj) : Nx w (wr.alloc o) N b s v ps k := h.below (below_alloc _ _)
theorem Nx.mono {w wr : World} {N b k k' : Nat} {s : Bg} {v : Value} {ps : List Lt} (h : Nx w wr N b s v ps k) (hk : k ≤ k') : Nx w wr N b s v ps k' := ⟨h.bx, h.n, h.mail, Nat.le_trans h.few hk, h.far⟩
theorem Nx.step {w wr w' : World} {N b k : Nat} {s s' : Bg} {v : Value} {ps : List Lt} {L : List (Int × List Int)} (h : Nx w wr N b s v ps k) (hs : Step TB wr w' w.heap.size b s s' L) : Nx w w' N b s' v ps k := by
  have hm : ∀ j t, Tag wr j t → t ≠ TB → t ≠ 37 → w'.heap[j]? = wr.heap[j]? := fun j t ht h1 h2 => hs.only.block j ht.lt (fun e => e.elim (fun e => ht.ne h.bx.is.tb h1 e) (fun e => ht.ne (h.bx.is.tv e) h2 rfl))
  refine ⟨h.bx.step hs, hs.n.trans h.n, ⟨owns_moved h.mail.row fun j hj => hs.only.block j (Tag.own h.mail.row hj).lt (fun e => e.elim (fun e => (Tag.own h.mail.row hj).ne h.bx.is.tb (by decide) e) (fun e => h.far j hj e)), fun p hp => ⟨(h.mail.each p hp).1.moved fun j hj => hm j _ ((h.mail.each p hp).1.tag hj) (by decide) (by decide), (h.mail.each p hp).2⟩⟩, h.few, fun q hq e => ?_⟩
  rcases hs.v with e' | e'
  · exact h.far q hq (by rw [← e']; exact e)
  · have := e' q e
    have := (Tag.own h.mail.row hq).lt
    omega
/-- one more is noted as posted -/
theorem Nx.push {w wr w1 : World} {N b k : Nat} {s : Bg} {v v' v1 : Value} {ps : List Lt} {t : Int} {l : List Int} {o : Obj} (h : Nx w wr N b s v ps k) (ho : OwnB wr w.heap.size v1 l) (hl : l.length ≤ LB) (hown : w1.ownsRow w.heap.size 37 2 v' (ps.length + 1) (lc ps ++ [.int .i64 t, v1])) (hgrow : (wr.alloc o).grownBy w1 v.ownBlock) (hat : v'.ownBlock = v.ownBlock ∨ v'.ownBlock = some (wr.alloc o).heap.size) :
    Nx w w1 N b s v' (ps ++ [⟨t, v1, l⟩]) (k + 1) := by
  have hO : Only (fun q => v.ownBlock = some q) wr w1 :=
    ⟨hgrow.os, hgrow.tape, hgrow.output, Nat.le_trans (by simp) hgrow.size, fun j hj hn => (hgrow.block j (by simp; omega) (fun e => hn e.symm)).trans (Below.heap_alloc _ _ _ hj)⟩
  have h8 : ∀ j, Tag wr j 5 → w1.heap[j]? = wr.heap[j]? := fun j hj => hO.block j hj.lt (fun e => hj.ne (Tag.own h.mail.row e) (by decide) rfl)
  have hb : Bx w w1 w.heap.size b s := by
    refine ⟨h.bx.is.only hO (fun e => h.bx.is.tb.ne (Tag.own h.mail.row e) (by decide) rfl) (fun j hj e => h.far j e hj) (fun j hj _ e => hj.ne (Tag.own h.mail.row e) (by decide) rfl), hO.below h.bx.bel h.bx.bel.size (fun j e => (World.ownsRow.lt h.mail.row j e).1), h.bx.lb, h.bx.lv, Nat.le_trans h.bx.hB hO.size⟩
  refine ⟨hb, h.n, ⟨by rw [List.length_append, lc_app]; exact hown, fun p hp => ?_⟩, by rw [List.length_append]; have := h.few; simp; exact this, fun q hq e => ?_⟩
  · rcases List.mem_append.1 hp with hp | hp
    · exact ⟨(h.mail.each p hp).1.moved fun j hj => h8 j ((h.mail.each p hp).1.tag hj), (h.mail.each p hp).2⟩
    · obtain rfl := List.mem_singleton.1 hp
      exact ⟨ho.moved fun j hj => h8 j (ho.tag hj), hl⟩
  · rcases hat with e' | e'
    · exact h.far q (e' ▸ hq) e
    · rw [e'] at hq
      have := (h.bx.is.tv e).lt
      simp at hq; omega
theorem Nx.start {w w1 : World} {N b : Nat} (h : Bx w w1 w.heap.size b (Bg.new N)) : Nx w w1 N b (Bg.new N) (.slice none 0 0) [] 0 :=
  ⟨h, rfl, ⟨World.ownsRow_nil _ _ _ _, fun p hp => (by cases hp)⟩, Nat.le_refl _, fun q hq => (by cases hq)⟩
theorem sayL_snoc (ps : List Lt) (t : Int) (v : Value) (l : List Int) : sayL (ps ++ [⟨t, v, l⟩]) = sayL ps ++ [(t, l)] := by unfold sayL; rw [List.map_append]; rfl
theorem sub_snoc {A B : List (Int × List Int)} (x : Int × List Int) (h : ∀ y ∈ A, y ∈ B) : ∀ y ∈ A ++ [x], y ∈ B ++ [x] := by
  intro y hy
  rcases List.mem_append.1 hy with hy | hy
  · exact List.mem_append_left _ (h y hy)
  · exact List.mem_append_right _ hy
theorem sub_same {A B : List (Int × List Int)} (x : Int × List Int) (h : ∀ y ∈ A, y ∈ B) (hx : x ∈ A) : ∀ y ∈ A ++ [x], y ∈ B := by
  intro y hy
  rcases List.mem_append.1 hy with hy | hy
  · exact h y hy
  · rw [List.mem_singleton.1 hy]; exact h x hx
theorem sub_erase {A B : List (Int × List Int)} (i : Nat) (h : ∀ y ∈ A, y ∈ B) : ∀ y ∈ A.eraseIdx i, y ∈ B := fun y hy => h y (List.mem_of_mem_eraseIdx hy)
theorem sayL_mem {ps : List Lt} {x : Int × List Int} (h : x ∈ sayL ps) : ∃ (j : Nat) (p : Lt), j < ps.length ∧ ps[j]? = some p ∧ p.n = x.1 ∧ p.l = x.2 := by
  obtain ⟨j, hj⟩ := List.getElem?_of_mem h
  obtain ⟨p, hp, e⟩ := sayL_at hj
  exact ⟨j, p, (List.getElem?_eq_some_iff.1 hp).1, hp, e⟩
/-- a script's entry -/
theorem RowQ.at {w wr : World} {a : Option Addr} {len : Nat} {K A T : Nat → Int} {V : Nat → Value} {L : Nat → List Int} (h : RowQ w a len K A T V L) (hb : Below w.heap.size w wr) (i : Nat) (hi : i < len) : ∃ g off av cv, a = some ⟨g, off, none⟩ ∧ wr.cell? ⟨g, off + i * 4, none⟩ = some (.int .i64 (K i)) ∧ wr.cell? ⟨g, off + i * 4 + 1, none⟩ = some (.int .i64 (A i)) ∧ wr.cell? ⟨g, off + i * 4 + 2, none⟩ = some (.int .i64 (T i)) ∧ wr.cell? ⟨g, off + i * 4 + 3, none⟩ = some (.slice av (L i).length cv) ∧ RB wr (.slice av (L i).length cv) (L i) ∧ (L i).length ≤ LB := by
  rcases h with rfl | ⟨g, off, e, hg, hh⟩
  · omega
  · obtain ⟨h0, h1, h2, h3, h4, h5⟩ := hh i hi
    obtain ⟨av, cv, ev, _⟩ := id h4
    rw [ev] at h3 h4
    exact ⟨g, off, av, cv, e, (hb.cell (p := ⟨g, off + i * 4, none⟩) hg).trans h0, (hb.cell (p := ⟨g, off + i * 4 + 1, none⟩) hg).trans h1, (hb.cell (p := ⟨g, off + i * 4 + 2, none⟩) hg).trans h2, (hb.cell (p := ⟨g, off + i * 4 + 3, none⟩) hg).trans h3, h4.below hb, h5⟩
theorem place4 (x : Int) : ∃ c : Nat, c < 4 ∧ ∀ w1, Calls Try.prog 11 #[.int .i64 x, .int .i64 4] w1 fun e w' => e = .returned (.int .i64 (c : Int)) ∧ w' = w1 :=
  ⟨pl x 4, pl_lt x 4 (by decide), fun w1 => place_any x 4 w1 (by decide) (by decide)⟩
end Go.Proofs.Ytminjmlneikllaa
