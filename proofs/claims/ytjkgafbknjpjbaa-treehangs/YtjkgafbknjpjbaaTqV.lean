/- Two cells of a row over a look-up that makes a box. -/
import Derived.Test.YtjkgafbknjpjbaaTqF
namespace Go.Proofs.Ytjkgafbknjpjbaa
open Go.RowKit

theorem mv_keep {W0 W W' : World} {g i : Nat} {d : Int} {nm : ByteArray} (h : W.cell? ⟨g, i, none⟩ = some (.int .i64 d) ∧ W.cell? ⟨g, i + 1, none⟩ = some (.string nm) ∧ Below W0.heap.size W0 W) (hb : Below W.heap.size W W') :
    W'.cell? ⟨g, i, none⟩ = some (.int .i64 d) ∧ W'.cell? ⟨g, i + 1, none⟩ = some (.string nm) ∧ Below W0.heap.size W0 W' :=
  ⟨(hb.cell (cellLt h.1)).trans h.1, (hb.cell (cellLt h.2.1)).trans h.2.1, chainB h.2.2 hb⟩
theorem mv_put {W0 W : World} {g i b : Nat} {d : Int} {nm : ByteArray} {e : En} (h : W.cell? ⟨g, i, none⟩ = some (.int .i64 d) ∧ W.cell? ⟨g, i + 1, none⟩ = some (.string nm) ∧ Below W0.heap.size W0 W) (hg : g ≠ b) (hb : W0.heap.size ≤ b) :
    (put7 W b e).cell? ⟨g, i, none⟩ = some (.int .i64 d) ∧ (put7 W b e).cell? ⟨g, i + 1, none⟩ = some (.string nm) ∧ Below W0.heap.size W0 (put7 W b e) :=
  have hh : (put7 W b e).heap[g]? = W.heap[g]? := (put7_only W b e).block g (cellLt h.1) hg
  have hc : ∀ j, (put7 W b e).cell? ⟨g, j, none⟩ = W.cell? ⟨g, j, none⟩ := fun j => by unfold World.cell?; rw [hh]
  ⟨(hc _).trans h.1, (hc _).trans h.2.1, (put7_only W b e).below h.2.2 h.2.2.size (fun k hk => by omega)⟩
end Go.Proofs.Ytjkgafbknjpjbaa
