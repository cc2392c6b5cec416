/- The document's own disk in memory; the contracts of its small functions. -/
import Derived.Test.YtihjhaafmdobmabSaW
namespace Go.Proofs.Ytihjhaafmdobmab
open Go.RowKit

/-- the document's disk: its size, the writes that were done (place, slice, bytes), whether it is on, its fuse -/
structure Rf where
  n : Nat
  v : Value
  did : List (Nat × Value × List Int)
  lit : Bool
  fz : Int
def wcells (did : List (Nat × Value × List Int)) : List Value := did.flatMap fun p => [.int .i64 p.1, p.2.1]
structure IsRf (w : World) (r : Nat) (R : Rf) : Prop where
  head : w.heap[r]? = some (.cells #[.int .i64 R.n, R.v, .bool R.lit, .int .i64 R.fz] 155 (0, 0))
  row : w.ownsRow 0 196 2 R.v R.did.length (wcells R.did)
  each : ∀ p ∈ R.did, OwnB w 0 p.2.1 p.2.2 ∧ p.2.2.length = 64

theorem IsD.tb {w : World} {b g : Nat} {s : Dsk} (h : IsD w b g s) : Tag w b 152 := ⟨_, _, h.head⟩
theorem IsD.tg {w : World} {b g : Nat} {s : Dsk} (h : IsD w b g s) : Tag w g 194 := ⟨_, _, h.body⟩
theorem IsRf.tr {w : World} {r : Nat} {R : Rf} (h : IsRf w r R) : Tag w r 155 := ⟨_, _, h.head⟩
theorem IsRf.tv {w : World} {r : Nat} {R : Rf} (h : IsRf w r R) {k : Nat} (hk : R.v.ownBlock = some k) : Tag w k 196 := Tag.own h.row hk
theorem IsRf.moved {w w' : World} {r : Nat} {R : Rf} (h : IsRf w r R) (hr : w'.heap[r]? = w.heap[r]?) (hv : ∀ k, R.v.ownBlock = some k → w'.heap[k]? = w.heap[k]?) (hb : ∀ k, Tag w k 5 → w'.heap[k]? = w.heap[k]?) : IsRf w' r R :=
  ⟨hr.trans h.head, owns_moved h.row hv, fun p hp => ⟨(h.each p hp).1.moved fun k hk => hb k ((h.each p hp).1.tag hk), (h.each p hp).2⟩⟩
theorem IsRf.below {w w' : World} {r : Nat} {R : Rf} (h : IsRf w r R) (hb : Below w.heap.size w w') : IsRf w' r R :=
  h.moved (hb.block r h.tr.lt) (fun k hk => hb.block k (h.tv hk).lt) (fun k hk => hb.block k hk.lt)
/-- a write into a disk leaves the document's -/
theorem IsRf.disk {w w' : World} {r b g : Nat} {R : Rf} {s : Dsk} (h : IsRf w r R) (hD : IsD w b g s) (hO : Only (fun x => x = b ∨ x = g) w w') : IsRf w' r R := by
  have key : ∀ k t, Tag w k t → t ≠ 152 → t ≠ 194 → w'.heap[k]? = w.heap[k]? := fun k t ht h1 h2 =>
    hO.block k ht.lt (fun e => e.elim (ht.ne hD.tb h1) (ht.ne hD.tg h2))
  exact h.moved (key r _ h.tr (by decide) (by decide)) (fun k hk => key k _ (h.tv hk) (by decide) (by decide)) (fun k hk => key k _ hk (by decide) (by decide))
/-- a write into a document's disk leaves the others -/
theorem IsRf.other {w w' : World} {r r0 : Nat} {R R0 : Rf} (h : IsRf w r R) (h0 : IsRf w r0 R0) (hr : r ≠ r0) (hv : ∀ k, R.v.ownBlock = some k → R0.v.ownBlock ≠ some k) (hO : Only (fun x => x = r0 ∨ R0.v.ownBlock = some x) w w') : IsRf w' r R :=
  h.moved (hO.block r h.tr.lt (fun e => e.elim hr (fun e => h.tr.ne (h0.tv e) (by decide) rfl)))
    (fun k hk => hO.block k (h.tv hk).lt (fun e => e.elim (fun e => (h.tv hk).ne h0.tr (by decide) e) (hv k hk)))
    (fun k hk => hO.block k hk.lt (fun e => e.elim (fun e => hk.ne h0.tr (by decide) e) (fun e => hk.ne (h0.tv e) (by decide) rfl)))
theorem IsD.ref {w w' : World} {r b g : Nat} {R : Rf} {s : Dsk} (h : IsD w b g s) (h0 : IsRf w r R) (hO : Only (fun x => x = r ∨ R.v.ownBlock = some x) w w') : IsD w' b g s :=
  h.only hO (fun e => e.elim (fun e => h.tb.ne h0.tr (by decide) e) (fun e => h.tb.ne (h0.tv e) (by decide) rfl)) (fun e => e.elim (fun e => h.tg.ne h0.tr (by decide) e) (fun e => h.tg.ne (h0.tv e) (by decide) rfl))
theorem IsD.other {w w' : World} {b g b0 g0 : Nat} {s s0 : Dsk} (h : IsD w b g s) (h0 : IsD w b0 g0 s0) (hb : b ≠ b0) (hg : g ≠ g0) (hO : Only (fun x => x = b0 ∨ x = g0) w w') : IsD w' b g s :=
  h.only hO (fun e => e.elim hb (fun e => h.tb.ne h0.tg (by decide) e)) (fun e => e.elim (fun e => h.tg.ne h0.tb (by decide) e) hg)

theorem IsRf.cells {w : World} {r : Nat} {R : Rf} (h : IsRf w r R) :
    w.cell? ⟨r, 0, none⟩ = some (.int .i64 R.n) ∧ w.cell? ⟨r, 1, none⟩ = some R.v ∧ w.cell? ⟨r, 2, none⟩ = some (.bool R.lit) ∧ w.cell? ⟨r, 3, none⟩ = some (.int .i64 R.fz) ∧ ∀ i, w.frozen? ⟨r, i, none⟩ = false :=
  ⟨by rw [cell_of h.head]; rfl, by rw [cell_of h.head]; rfl, by rw [cell_of h.head]; rfl, by rw [cell_of h.head]; rfl, free_of h.head⟩
theorem IsRf.form {w : World} {r : Nat} {R : Rf} (h : IsRf w r R) : ∃ a cap, R.v = .slice a R.did.length cap := by
  rcases h.row.2 with ⟨e, e2⟩ | ⟨g, cap, cur, e, _⟩
  · exact ⟨none, 0, by rw [e, e2]⟩
  · exact ⟨_, _, e⟩
/-- the head turned -/
theorem IsRf.put {w : World} {r : Nat} {R R' : Rf} (h : IsRf w r R) (i : Nat) (x : Value) (hc : (#[.int .i64 R.n, R.v, .bool R.lit, .int .i64 R.fz] : Array Value).setIfInBounds i x = #[.int .i64 R'.n, R'.v, .bool R'.lit, .int .i64 R'.fz]) (hv : R'.v = R.v) (hd : R'.did = R.did) : IsRf (w.setCell ⟨r, i, none⟩ x) r R' := by
  have hne : ∀ k t, Tag w k t → t ≠ 155 → (w.setCell ⟨r, i, none⟩ x).heap[k]? = w.heap[k]? := fun k t ht h1 => heap_set_ne (ht.ne h.tr h1)
  refine ⟨(heap_set h.head i x).trans (by rw [hc]), ?_, ?_⟩
  · rw [hv, hd]; exact owns_moved h.row fun k hk => hne k _ (h.tv hk) (by decide)
  · rw [hd]; exact fun p hp => ⟨(h.each p hp).1.moved fun k hk => hne k _ ((h.each p hp).1.tag hk) (by decide), (h.each p hp).2⟩
theorem IsRf.lit {w : World} {r : Nat} {R : Rf} (h : IsRf w r R) (x : Bool) : IsRf (w.setCell ⟨r, 2, none⟩ (.bool x)) r { R with lit := x } := h.put 2 _ rfl rfl rfl
theorem IsRf.fz {w : World} {r : Nat} {R : Rf} (h : IsRf w r R) (x : Int) : IsRf (w.setCell ⟨r, 3, none⟩ (.int .i64 x)) r { R with fz := x } := h.put 3 _ rfl rfl rfl

def Rf.new (n : Nat) : Rf := ⟨n, .slice none 0 0, [], true, -1⟩
def Rf.cut (R : Rf) : Rf := { R with lit := false, fz := -1 }
def Rf.power (R : Rf) : Rf := { R with lit := true, fz := -1 }
def Rf.fuseE (R : Rf) (n : Int) : Int := if n < 0 then 1 else if R.lit then 0 else 21
def Rf.fuse (R : Rf) (n : Int) : Rf := if n < 0 then R else if R.lit then { R with fz := n } else R

theorem rnew_no (n : Int) (w : World) (h : n < 1 ∨ 1024 < n) :
    Calls Try.prog 71 #[.int .i64 n] w fun e w' => e = .returned (.tuple #[.pointer none, .int .i64 1]) ∧ w' = w := by
  rcases h with h | h
  · go_enter Try.func71, Try.ntmps71
    go_wp2
    go_ret2
    exact ⟨rfl, rfl⟩
  · have h' : ¬ n < 1 := by omega
    go_enter Try.func71, Try.ntmps71
    go_wp2
    go_ret2
    exact ⟨rfl, rfl⟩
theorem rnew_yes (n : Nat) (w : World) (h1 : 1 ≤ n) (h2 : n ≤ 1024) :
    Calls Try.prog 71 #[.int .i64 n] w fun e w' => ∃ r, e = .returned (.tuple #[.pointer (some ⟨r, 0, none⟩), .int .i64 0]) ∧ w.heap.size ≤ r ∧ IsRf w' r (Rf.new n) ∧ Below w.heap.size w w' := by
  go_enter Try.func71, Try.ntmps71
  go_wp2
  go_ret2
  exact ⟨w.heap.size, rfl, Nat.le_refl _, ⟨heap_new _ _, World.ownsRow_nil _ _ _ _, fun p hp => by cases hp⟩, (Below.refl _ _).alloc (Nat.le_refl _) _⟩
theorem rpower_any (r : Nat) (R : Rf) (w : World) (h : IsRf w r R) :
    Calls Try.prog 36 #[.pointer (some ⟨r, 0, none⟩)] w fun e w' => e = .returned (.tuple #[]) ∧ IsRf w' r R.power ∧ Only (· = r) w w' := by
  obtain ⟨_, _, c2, c3, hf⟩ := h.cells
  have H : Hid (IsRf w r R) := h
  clear h
  go_enter Try.func36, Try.ntmps36
  go_wp2
  go_end0
  exact ⟨rfl, (H.out.lit true).fz (-1), (only1 _ r 2 _).trans (only1 _ r 3 _)⟩
theorem rfuse_any (r : Nat) (R : Rf) (n : Int) (w : World) (h : IsRf w r R) :
    Calls Try.prog 34 #[.pointer (some ⟨r, 0, none⟩), .int .i64 n] w fun e w' => e = .returned (.int .i64 (R.fuseE n)) ∧ IsRf w' r (R.fuse n) ∧ Only (· = r) w w' := by
  obtain ⟨_, _, c2, c3, hf⟩ := h.cells
  unfold Rf.fuseE Rf.fuse
  have H : Hid (IsRf w r R) := h
  clear h
  by_cases hn : n < 0
  · rw [if_pos hn, if_pos hn]
    go_enter Try.func34, Try.ntmps34
    go_wp2
    go_ret
    exact ⟨rfl, H.out, Only.refl _ _⟩
  · rw [if_neg hn, if_neg hn]
    by_cases ho : R.lit = true
    · rw [if_pos ho, if_pos ho]
      rw [ho] at c2
      clear ho
      go_enter Try.func34, Try.ntmps34
      go_wp2
      go_ret
      exact ⟨rfl, H.out.fz n, only1 _ r 3 _⟩
    · rw [if_neg ho, if_neg ho]
      rw [Bool.eq_false_iff.2 ho] at c2
      clear ho
      go_enter Try.func34, Try.ntmps34
      go_wp2
      go_ret
      exact ⟨rfl, H.out, Only.refl _ _⟩
end Go.Proofs.Ytihjhaafmdobmab
