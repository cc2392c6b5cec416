/- A list of whole numbers beside a tree. -/
import Derived.Test.YtjkgafbknjpjbabTqF
namespace Go.Proofs.Ytjkgafbknjpjbab
open Go.RowKit

def ic (ks : List Int) : List Value := ks.map (Value.int .i64)
def RowI (w : World) (base : Nat) (v : Value) (ks : List Int) : Prop := w.ownsRow base 3 1 v ks.length (ic ks)
theorem RowI.below {w w' : World} {base : Nat} {v : Value} {ks : List Int} (h : RowI w base v ks) (hb : Below w.heap.size w w') : RowI w' base v ks := owns_below h hb
theorem rowI_step {B : Nat} {w w' : World} {t : Nat} {s s' : Tr} {v : Value} {ks : List Int} (h : RowI w B v ks) (hi : IsP w t s) (k : PS w w' t s s') : RowI w' B v ks :=
  owns_moved h fun q hq => k.keep (Tag.own h hq).lt ((Tag.own h hq).ne hi.tt (by decide)) (fun e => (Tag.own h hq).ne (hi.tv e) (by decide) rfl)
theorem RowI.num {w : World} {base n cap j : Nat} {a : Option Addr} {ks : List Int} {x : Int} (h : RowI w base (.slice a n cap) ks) (hj : ks[j]? = some x) : ∃ g, a = some ⟨g, 0, none⟩ ∧ g < w.heap.size ∧ w.cell? ⟨g, j, none⟩ = some (.int .i64 x) := by
  have hlt : j < ks.length := (List.getElem?_eq_some_iff.1 hj).1
  obtain ⟨N, hN⟩ : ∃ N, ks.length = N + 1 := ⟨ks.length - 1, by omega⟩
  unfold RowI at h
  rw [hN] at h
  obtain ⟨g, cap', e'⟩ := owns_form h
  cases e'
  obtain ⟨hc, hf, _, _, hb, hg⟩ := owns_cells h
  exact ⟨g, rfl, hg, hc _ _ (by unfold ic; rw [List.getElem?_map, hj]; rfl)⟩
theorem Try.infoI : (Try.prog.info? 3).map (fun i => (i.zero, i.size, i.bytes)) = some (some (.int .i64 0), 1, 8) := by kernel_rfl
theorem ival_at (w : World) (x : Value) (t : TypeId) : ∀ j u, [x][j]? = some u → (w.alloc (.cells #[x] t)).cell? ((⟨w.heap.size, 0, none⟩ : Addr).add j) = some u := by
  intro j u hu
  rw [add_plain', Nat.zero_add, cell_of (heap_new _ _)]; simpa using hu
theorem ival_one (x : Int) : ∀ u ∈ [Value.int .i64 x], u.oneCell' = true := by intro u hu; rw [List.mem_singleton] at hu; subst hu; rfl
theorem ic_snoc (ks : List Int) (x : Int) : ic (ks ++ [x]) = ic ks ++ [.int .i64 x] := by unfold ic; simp
theorem Law.grown {w0 w w' : World} {t : Nat} {s : Tr} {k : Int} {v : Value} {ks : List Int} (h : Law w0 w t s k) (hr : RowI w w0.heap.size v ks) (o : Obj) (hg : (w.alloc o).grownBy w' v.ownBlock) : Law w0 w' t s k := by
  have hA := h.alloc o
  have hz := (below_alloc w o).size
  refine ⟨⟨hA.own.is.moved (hg.block t hA.own.is.tt.lt fun e => ?_) (fun q hq => hg.block q (hA.own.is.tv hq).lt fun e => ?_), h.own.t0, h.own.v0⟩, Below.grown hA.bel hg hA.bel.size (fun q hq => (World.ownsRow.lt hr q hq).1), h.good⟩
  · exact (Tag.own hr e.symm).ne h.own.is.tt (by decide) rfl
  · exact (Tag.own hr e.symm).ne (h.own.is.tv hq) (by decide) rfl
end Go.Proofs.Ytjkgafbknjpjbab
