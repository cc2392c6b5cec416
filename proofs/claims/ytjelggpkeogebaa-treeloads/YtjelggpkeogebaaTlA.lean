/- Single steps of a region that draws its order: an operation that is wanted, one that is not. -/
import Derived.Test.YtjelggpkeogebaaBgP
import Derived.Test.YtjelggpkeogebaaTrZ
import Derived.Test.YtjelggpkeogebaaTsB
import Derived.Test.YtjelggpkeogebaaArE
namespace Go.Proofs.Ytjelggpkeogebaa
section
open Go.RowKit Go.Lib
theorem take_no2 {P : Program} {md : Region.Mode} {ops : Array Oper} {Q : Exit → Act → World → Prop} {S : World → Prop} {i : Nat} {oi : Oper} {fuel : Nat} {listed : Array Bool} {a : Act} {w : World} (d : Option Nat) (hi : ops[i]? = some oi) (hd : oi.dst = d)
    (hs : Region.noSelect ops = true) (hf : Region.free md ops listed i = true) (hr : (Region.ready md ops listed).contains i = true)
    (hQ : ∀ c a w, Q (.panic c) (a.put d undef) w → Q (.panic c) a w) (hn : Region.wanted oi (yielded ops a.tmps) = false) (hS : S w)
    (h : wpAnyH P md ops Q S fuel (listed.setIfInBounds i true) (a.put d undef) w) : wpAnyH P md ops Q S (fuel + 1) listed a w := by
  subst hd
  exact wpAnyH_take hi hs hf hr hQ (Or.inr ⟨hn, rfl⟩) hS h
theorem take_yes2 {P : Program} {md : Region.Mode} {ops : Array Oper} {Q : Exit → Act → World → Prop} {S : World → Prop} {i : Nat} {oi : Oper} {fuel : Nat} {listed : Array Bool} {a : Act} {w : World} (d : Option Nat) (hi : ops[i]? = some oi) (hd : oi.dst = d)
    (hs : Region.noSelect ops = true) (hf : Region.free md ops listed i = true) (hr : (Region.ready md ops listed).contains i = true)
    (hn : Region.wanted oi (yielded ops a.tmps) = true) (hS : S w)
    (h : ∃ v, (∀ w, S w → (execOp a.eval oi).run P w = .ok (.value v) w) ∧ (∀ c a w, Q (.panic c) (a.put d v) w → Q (.panic c) a w) ∧ wpAnyH P md ops Q S fuel (listed.setIfInBounds i true) (a.put d v) w) : wpAnyH P md ops Q S (fuel + 1) listed a w := by
  subst hd
  obtain ⟨v, hy, hQ, h⟩ := h
  exact wpAnyH_take hi hs hf hr hQ (Or.inl ⟨hn, hy⟩) hS h
theorem tkn {P : Program} {md : Region.Mode} {ops : Array Oper} {Q : Exit → Act → World → Prop} {S : World → Prop} (i : Nat) {oi : Oper} {fuel : Nat} {listed : Array Bool} {a : Act} {w : World} (d : Option Nat) (hi : ops[i]? = some oi) (hd : oi.dst = d)
    (h : wpAnyH P md ops Q S fuel (listed.setIfInBounds i true) (a.put d undef) w) (hQ : ∀ c a w, Q (.panic c) (a.put d undef) w → Q (.panic c) a w := by exact fun _ _ _ h => h)
    (hs : Region.noSelect ops = true := by kernel_rfl) (hf : Region.free md ops listed i = true := by kernel_rfl) (hr : (Region.ready md ops listed).contains i = true := by kernel_rfl)
    (hn : Region.wanted oi (yielded ops a.tmps) = false := by rfl) (hS : S w := by assumption) : wpAnyH P md ops Q S (fuel + 1) listed a w := take_no2 d hi hd hs hf hr hQ hn hS h
theorem tky {P : Program} {md : Region.Mode} {ops : Array Oper} {Q : Exit → Act → World → Prop} {S : World → Prop} (i : Nat) {oi : Oper} {fuel : Nat} {listed : Array Bool} {a : Act} {w : World} (d : Option Nat) (hi : ops[i]? = some oi) (hd : oi.dst = d)
    (h : ∃ v, (∀ w, S w → (execOp a.eval oi).run P w = .ok (.value v) w) ∧ (∀ c a w, Q (.panic c) (a.put d v) w → Q (.panic c) a w) ∧ wpAnyH P md ops Q S fuel (listed.setIfInBounds i true) (a.put d v) w)
    (hs : Region.noSelect ops = true := by kernel_rfl) (hf : Region.free md ops listed i = true := by kernel_rfl) (hr : (Region.ready md ops listed).contains i = true := by kernel_rfl)
    (hn : Region.wanted oi (yielded ops a.tmps) = true := by rfl) (hS : S w := by assumption) : wpAnyH P md ops Q S (fuel + 1) listed a w := take_yes2 d hi hd hs hf hr hn hS h
end
section
open Go.RowKit

/-- what the document's Load asks of the entry at a place -/
structure DocE (M : Nms) (es : List En) (next : Int) (i : Nat) (e : En) : Prop where
  neg : e.neg = false
  lo : 1 < e.id
  hi : e.id < next
  k1 : 1 ≤ e.kind
  k3 : e.kind ≤ 3
  m0 : 0 ≤ e.mode
  m1 : e.mode ≤ 511
  lnk : e.kind = 3 → M.tgt e.tg = 0
  plain : e.kind ≠ 3 → e.tg = ⟨#[]⟩
  chk : M.chk e.nm = 0
  dir : dirE es e.d = 0
  less : ∀ j f, j + 1 = i → es[j]? = some f → lessE f e
  ids : ∀ j f, j < i → es[j]? = some f → f.id ≠ e.id
  root : withinF es (es.length + 1) e.d 1 = true
theorem argE_cells {w : World} {ad : Addr} {n cap : Nat} {es : List En} (h : ArgE w (.slice (some ad) n cap) es) : es.length = n ∧ es.length * 72 ≤ 140737488351232 ∧ (∀ j u, (ec es)[j]? = some u → w.cell? (ad.add j) = some u) ∧ ∀ k e, es[k]? = some e → ∃ b off, ad = ⟨b, off, none⟩ ∧ b < w.heap.size ∧ Cells7 w b (off + k * 7) e := by
  obtain ⟨a, c, e, hl, h⟩ := h
  cases e
  refine ⟨rfl, hl, fun j u hu => ?_, fun k e he => ?_⟩
  · rcases h with h | ⟨b, off, e', hg, hc⟩
    · subst h; simp [ec] at hu
    · cases e'; rw [add_plain']; exact hc j u hu
  · rcases h with h | ⟨b, off, e', hg, hc⟩
    · subst h; simp at he
    · cases e'
      have g : ∀ j v, j < 7 → e.vals[j]? = some v → w.cell? ⟨b, off + k * 7 + j, none⟩ = some v := fun j v hj hv => by
        have := hc (k * 7 + j) v (by rw [ec_get es k j e he hj]; exact hv)
        rw [show off + k * 7 + j = off + (k * 7 + j) by omega]; exact this
      exact ⟨b, off, rfl, hg, g 0 _ (by decide) rfl, g 1 _ (by decide) rfl, g 2 _ (by decide) rfl, g 3 _ (by decide) rfl, g 4 _ (by decide) rfl, g 5 _ (by decide) rfl, g 6 _ (by decide) rfl⟩
end
end Go.Proofs.Ytjelggpkeogebaa
