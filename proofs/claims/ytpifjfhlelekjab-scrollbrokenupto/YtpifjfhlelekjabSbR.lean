/- A script that came in, and a law's own list of records. -/
import Derived.Test.YtpifjfhlelekjabSbL
namespace Go.Proofs.Ytpifjfhlelekjab
open Go.RowKit

/-- a script that came in: five numbers a call -/
def RowV (w : World) (a : Option Addr) (len : Nat) (K A L F M : Nat → Int) : Prop :=
  len = 0 ∨ ∃ b off, a = some ⟨b, off, none⟩ ∧ b < w.heap.size ∧ ∀ i, i < len → w.cell? ⟨b, off + i * 5, none⟩ = some (.int .i64 (K i)) ∧ w.cell? ⟨b, off + i * 5 + 1, none⟩ = some (.int .i64 (A i)) ∧ w.cell? ⟨b, off + i * 5 + 2, none⟩ = some (.int .i64 (L i)) ∧ w.cell? ⟨b, off + i * 5 + 3, none⟩ = some (.int .i64 (F i)) ∧ w.cell? ⟨b, off + i * 5 + 4, none⟩ = some (.int .i64 (M i)) ∧ (Lit.int .i64 (A i)).wf = true ∧ (Lit.int .i64 (F i)).wf = true ∧ (Lit.int .i64 (L i)).wf = true
theorem RowV.at {w wr : World} {a : Option Addr} {len : Nat} {K A L F M : Nat → Int} (h : RowV w a len K A L F M) (hb : Below w.heap.size w wr) {k : Nat} (hk : k < len) : ∃ b off, a = some ⟨b, off, none⟩ ∧ b < w.heap.size ∧ wr.cell? ⟨b, off + k * 5, none⟩ = some (.int .i64 (K k)) ∧ wr.cell? ⟨b, off + k * 5 + 1, none⟩ = some (.int .i64 (A k)) ∧ wr.cell? ⟨b, off + k * 5 + 2, none⟩ = some (.int .i64 (L k)) ∧ wr.cell? ⟨b, off + k * 5 + 3, none⟩ = some (.int .i64 (F k)) ∧ wr.cell? ⟨b, off + k * 5 + 4, none⟩ = some (.int .i64 (M k)) ∧ (Lit.int .i64 (A k)).wf = true ∧ (Lit.int .i64 (F k)).wf = true ∧ (Lit.int .i64 (L k)).wf = true := by
  rcases h with h0 | ⟨b, off, rfl, hs, hc⟩
  · omega
  · obtain ⟨h0, h1, h2, h3, h4, h5⟩ := hc k hk
    exact ⟨b, off, rfl, hs, (hb.cell (p := ⟨b, off + k * 5, none⟩) hs).trans h0, (hb.cell (p := ⟨b, off + k * 5 + 1, none⟩) hs).trans h1, (hb.cell (p := ⟨b, off + k * 5 + 2, none⟩) hs).trans h2, (hb.cell (p := ⟨b, off + k * 5 + 3, none⟩) hs).trans h3, (hb.cell (p := ⟨b, off + k * 5 + 4, none⟩) hs).trans h4, h5⟩
/-- the call's own copy of an entry of the script -/
def Bx5 (w : World) (x : Nat) (k a l f m : Int) : Prop := w.heap[x]? = some (.cells #[.int .i64 k, .int .i64 a, .int .i64 l, .int .i64 f, .int .i64 m] 31 (0, 0))
theorem Bx5.cells {w : World} {x : Nat} {k a l f m : Int} (h : Bx5 w x k a l f m) : w.cell? ⟨x, 0, none⟩ = some (.int .i64 k) ∧ w.cell? ⟨x, 1, none⟩ = some (.int .i64 a) ∧ w.cell? ⟨x, 2, none⟩ = some (.int .i64 l) ∧ w.cell? ⟨x, 3, none⟩ = some (.int .i64 f) ∧ w.cell? ⟨x, 4, none⟩ = some (.int .i64 m) :=
  ⟨by rw [cell_of h]; rfl, by rw [cell_of h]; rfl, by rw [cell_of h]; rfl, by rw [cell_of h]; rfl, by rw [cell_of h]; rfl⟩
theorem Bx5.tag {w : World} {x : Nat} {k a l f m : Int} (h : Bx5 w x k a l f m) : Tag w x 31 := ⟨_, _, h⟩
theorem Bx5.below {w w' : World} {x : Nat} {k a l f m : Int} (h : Bx5 w x k a l f m) (hb : Below w.heap.size w w') : Bx5 w' x k a l f m := (hb.block _ h.tag.lt).trans h
theorem Bx5.law {w0 w w' : World} {b g sb G Hh u : Nat} {s : Dsk} {R : List (List Int)} {N : Nat} {K : Int} {x : Nat} {k a l f m : Int} (hx : Bx5 w x k a l f m) (h : Lw w0 w b g sb G Hh u s R N K) (ho : Only (fun x => x = b ∨ x = g ∨ x = sb) w w') : Bx5 w' x k a l f m :=
  (ho.block _ hx.tag.lt (fun hk => by
    rcases hk with e | e | e
    · exact hx.tag.ne h.dk.tagb (by decide) e
    · exact hx.tag.ne h.dk.tagg (by decide) e
    · exact hx.tag.ne h.ss.tag (by decide) e)).trans hx
theorem Lw.list {w0 w w' : World} {b g sb G Hh u : Nat} {s : Dsk} {R : List (List Int)} {N : Nat} {K : Int} {m : Nat} {v : Value} {R2 : List (List Int)} (h : Lw w0 w b g sb G Hh u s R N K) (hv : OwnR w w0.heap.size m v R2) (ho : Only (fun x => v.ownBlock = some x) w w') : Lw w0 w' b g sb G Hh u s R N K :=
  ⟨h.dk.only ho (fun e => (hv.tag e).ne h.dk.tagb (by decide) rfl) (fun e => (hv.tag e).ne h.dk.tagg (by decide) rfl), h.ss.only ho (fun e => (hv.tag e).ne h.ss.tag (by decide) rfl), h.sc, h.ok, h.by', h.len, ho.below h.bel h.bel.size (fun _ hk => (hv.at hk).1), h.lb, h.lg, h.ls⟩
theorem Lw.le {w0 w : World} {b g sb G Hh u : Nat} {s : Dsk} {R : List (List Int)} {N : Nat} {K K' : Int} (h : Lw w0 w b g sb G Hh u s R N K) (hK : K ≤ K') : Lw w0 w b g sb G Hh u s R N K' := ⟨h.dk, h.ss, h.sc, h.ok.le hK, h.by', h.len, h.bel, h.lb, h.lg, h.ls⟩
theorem Lw.few {w0 w : World} {b g sb G Hh u : Nat} {s : Dsk} {R : List (List Int)} {N : Nat} {K : Int} (h : Lw w0 w b g sb G Hh u s R N K) (hN : N ≤ 1024) : R.length ≤ 1024 := by have := h.bound; have := h.hS; omega
theorem Bx5.list {w w' : World} {x : Nat} {k a l f m : Int} {base m' : Nat} {v : Value} {R2 : List (List Int)} (hx : Bx5 w x k a l f m) (hv : OwnR w base m' v R2) (ho : Only (fun x => v.ownBlock = some x) w w') : Bx5 w' x k a l f m := (ho.block _ hx.tag.lt (fun e => (hv.tag e).ne hx.tag (by decide) rfl)).trans hx
theorem OwnR.lower {w : World} {b0 b1 m : Nat} {v : Value} {R : List (List Int)} (h : OwnR w b1 m v R) (hb : b0 ≤ b1) : OwnR w b0 m v R := by
  obtain ⟨vs, hr, he⟩ := h
  exact ⟨vs, Go.Joins.ownsRow_le hr hb, ⟨he.len, fun i x l h1 h2 => Go.Joins.ownsRow_le (he.own i x l h1 h2) hb, he.lt, he.ne⟩⟩
def Sm (R : List (List Int)) : Prop := ∀ l ∈ R, l.length ≤ 1000000
theorem Sm.app {R : List (List Int)} {l : List Int} (h : Sm R) (hl : l.length ≤ 1000000) : Sm (R ++ [l]) := fun x hx => by
  rcases List.mem_append.1 hx with h1 | h1
  · exact h x h1
  · rw [List.mem_singleton.1 h1]; exact hl

end Go.Proofs.Ytpifjfhlelekjab
