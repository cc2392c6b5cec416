/- Disks in memory; the contracts of package block's small functions. -/
import Derived.Test.YtfomnnlilmahhaaProg
import Derived.WalkKit
import Derived.WalkSpells
import Derived.WalkLawsBesides
import Derived.WalkSmall
import Derived.Laws.CopyOwn
import Derived.Lib.SmallJoins
import Derived.Maps.AppendAt
import Derived.Deep.RegionHeld3
import Derived.BigQuiet
import Derived.Deep.QuietTactic
namespace Go.Proofs.Ytfomnnlilmahhaa
open Go.RowKit

theorem chainB {w W w' : World} (h : Below w.heap.size w W) (hb : Below W.heap.size W w') : Below w.heap.size w w' := h.trans (hb.mono h.size)

/-- but for the blocks of S nothing that was there has turned -/
structure Only (S : Nat → Prop) (w w' : World) : Prop where
  os : w'.os = w.os
  tape : w'.tape = w.tape
  output : w'.output = w.output
  size : w.heap.size ≤ w'.heap.size
  block : ∀ k, k < w.heap.size → ¬ S k → w'.heap[k]? = w.heap[k]?
theorem Only.of {S : Nat → Prop} {w w' : World} (h : Below w.heap.size w w') : Only S w w' := ⟨h.os, h.tape, h.output, h.size, fun k hk _ => h.block k hk⟩
theorem Only.refl (S : Nat → Prop) (w : World) : Only S w w := ⟨rfl, rfl, rfl, Nat.le_refl _, fun _ _ _ => rfl⟩
theorem Only.trans {S : Nat → Prop} {a b c : World} (h : Only S a b) (k : Only S b c) : Only S a c :=
  ⟨k.os.trans h.os, k.tape.trans h.tape, k.output.trans h.output, Nat.le_trans h.size k.size, fun i hi hs => (k.block i (Nat.lt_of_lt_of_le hi h.size) hs).trans (h.block i hi hs)⟩
theorem Only.mono {S T : Nat → Prop} {w w' : World} (h : Only S w w') (hS : ∀ k, S k → T k) : Only T w w' := ⟨h.os, h.tape, h.output, h.size, fun k hk hn => h.block k hk (fun hs => hn (hS k hs))⟩
/-- what is written is the call's own -/
theorem Only.below {S : Nat → Prop} {B : Nat} {w w1 w2 : World} (hb : Below B w w1) (h : Only S w1 w2) (hB : B ≤ w1.heap.size) (hS : ∀ k, S k → B ≤ k) : Below B w w2 :=
  ⟨h.os.trans hb.os, h.tape.trans hb.tape, h.output.trans hb.output, Nat.le_trans hb.size h.size, fun k hk => (h.block k (by omega) (fun hs => by have := hS k hs; omega)).trans (hb.block k hk)⟩
theorem Only.setCell {S : Nat → Prop} {a w : World} (h : Only S a w) {p : Addr} (hp : S p.block) (u : Value) : Only S a (w.setCell p u) :=
  h.trans ⟨rfl, rfl, rfl, by simp [World.setCell], fun k _ hs => Below.heap_setCell _ _ _ _ (fun e => hs (e ▸ hp))⟩
theorem Only.setRow {S : Nat → Prop} {a w : World} (h : Only S a w) {g : Nat} (hp : S g) (cs : Array Value) : Only S a (w.setRow g cs) :=
  h.trans ⟨rfl, rfl, rfl, by simp [World.setRow], fun k _ hs => setRow_other w g k cs (fun e => hs (e ▸ hp))⟩
theorem Only.drew {S : Nat → Prop} {a w : World} (h : Only S a w) : Only S a w.drew := ⟨h.os, h.tape, h.output, h.size, h.block⟩

/-- bytes as cells -/
def ub (l : List Int) : List Value := l.map (Value.int .u8)
theorem ub_len (l : List Int) : (ub l).length = l.length := List.length_map ..
theorem ub_get (l : List Int) (i : Nat) : (ub l)[i]? = (l[i]?).map (Value.int .u8) := List.getElem?_map ..

/-- a row of bytes that a call has made -/
def OwnB (w : World) (base : Nat) (v : Value) (l : List Int) : Prop := w.ownsRow base 5 1 v l.length (ub l)
theorem OwnB.nil (w : World) (base : Nat) : OwnB w base (.slice none 0 0) [] := World.ownsRow_nil _ _ _ _
theorem OwnB.moved {w w' : World} {base : Nat} {v : Value} {l : List Int} (h : OwnB w base v l) (hk : ∀ k, v.ownBlock = some k → w'.heap[k]? = w.heap[k]?) : OwnB w' base v l := by
  refine ⟨h.1, ?_⟩
  rcases h.2 with h2 | ⟨g, cap, cur, hv, hg, hh, r⟩
  · exact .inl h2
  · subst hv
    exact .inr ⟨g, cap, cur, rfl, hg, (hk g rfl).trans hh, r⟩
theorem OwnB.le {w : World} {base base' : Nat} {v : Value} {l : List Int} (h : OwnB w base v l) (hb : base' ≤ base) : OwnB w base' v l := by
  refine ⟨h.1, ?_⟩
  rcases h.2 with h2 | ⟨g, cap, cur, hv, hg, hh, r⟩
  · exact .inl h2
  · exact .inr ⟨g, cap, cur, hv, by omega, hh, r⟩
theorem OwnB.at {w : World} {base : Nat} {v : Value} {l : List Int} (h : OwnB w base v l) : ∀ k, v.ownBlock = some k → base ≤ k ∧ k < w.heap.size := fun k hk => World.ownsRow.lt h k hk
theorem OwnB.only {S : Nat → Prop} {w w' : World} {base : Nat} {v : Value} {l : List Int} (h : OwnB w base v l) (ho : Only S w w') (hS : ∀ k, S k → k < base) : OwnB w' base v l :=
  h.moved fun k hk => ho.block k (h.at k hk).2 (fun hs => by have := hS k hs; have := h.at k hk; omega)
theorem OwnB.below {w w' : World} {base : Nat} {v : Value} {l : List Int} (h : OwnB w base v l) (hb : Below w.heap.size w w') : OwnB w' base v l :=
  h.moved fun k hk => hb.block k (h.at k hk).2
/-- its shape, and its cells -/
theorem OwnB.form {w : World} {base : Nat} {v : Value} {l : List Int} (h : OwnB w base v l) : (v = .slice none 0 0 ∧ l = []) ∨ ∃ g cap, v = .slice (some ⟨g, 0, none⟩) l.length cap ∧ base ≤ g ∧ g < w.heap.size ∧ l.length ≤ cap ∧
    (∀ i x, l[i]? = some x → w.cell? ⟨g, i, none⟩ = some (.int .u8 x)) ∧ ∀ i, w.frozen? ⟨g, i, none⟩ = false := by
  have h' := h
  unfold OwnB at h'
  rcases h.2 with ⟨rfl, h2⟩ | ⟨g, cap, cur, rfl, hg, hh, r⟩
  · exact .inl ⟨rfl, List.length_eq_zero_iff.1 h2⟩
  · refine .inr ⟨g, cap, rfl, hg, (h'.lt g rfl).2, r.1, fun i x hx => ?_, fun i => h'.frozenAt i⟩
    have hi : i < l.length := (List.getElem?_eq_some_iff.1 hx).1
    rw [h'.cellAt i (by omega), ub_get, hx]; rfl

/-- what a disk holds -/
structure Dsk where
  cs : List (List Int)
  on : Bool
  burns : Bool
  left : Int
  writes : Int
/-- a disk in memory: its head and its blocks -/
structure IsD (w : World) (b g : Nat) (s : Dsk) : Prop where
  head : w.heap[b]? = some (.cells #[.slice (some ⟨g, 0, none⟩) s.cs.length s.cs.length, .bool s.on, .bool s.burns, .int .i64 s.left, .int .i64 s.writes] 67 (0, 0))
  body : w.heap[g]? = some (.cells (ub s.cs.flatten).toArray 69 (0, 0))
  each : ∀ l ∈ s.cs, l.length = 64
  apart : b ≠ g
  few : s.cs.length ≤ 1024
theorem IsD.lb {w : World} {b g : Nat} {s : Dsk} (h : IsD w b g s) : b < w.heap.size := (Array.getElem?_eq_some_iff.1 h.head).1
theorem IsD.lg {w : World} {b g : Nat} {s : Dsk} (h : IsD w b g s) : g < w.heap.size := (Array.getElem?_eq_some_iff.1 h.body).1
theorem IsD.only {S : Nat → Prop} {w w' : World} {b g : Nat} {s : Dsk} (h : IsD w b g s) (ho : Only S w w') (hb : ¬ S b) (hg : ¬ S g) : IsD w' b g s :=
  ⟨(ho.block b h.lb hb).trans h.head, (ho.block g h.lg hg).trans h.body, h.each, h.apart, h.few⟩
theorem IsD.below {w w' : World} {b g : Nat} {s : Dsk} (h : IsD w b g s) (hb : Below w.heap.size w w') : IsD w' b g s :=
  ⟨(hb.block b h.lb).trans h.head, (hb.block g h.lg).trans h.body, h.each, h.apart, h.few⟩
theorem cell_of {w : World} {b : Nat} {cs : Array Value} {t : TypeId} (h : w.heap[b]? = some (.cells cs t (0, 0))) (i : Nat) : w.cell? ⟨b, i, none⟩ = cs[i]? := by
  simp [World.cell?, h]
theorem free_of {w : World} {b : Nat} {cs : Array Value} {t : TypeId} (h : w.heap[b]? = some (.cells cs t (0, 0))) (i : Nat) : w.frozen? ⟨b, i, none⟩ = false := by
  simp [World.frozen?, h]
theorem IsD.cells {w : World} {b g : Nat} {s : Dsk} (h : IsD w b g s) :
    w.cell? ⟨b, 0, none⟩ = some (.slice (some ⟨g, 0, none⟩) s.cs.length s.cs.length) ∧ w.cell? ⟨b, 1, none⟩ = some (.bool s.on) ∧ w.cell? ⟨b, 2, none⟩ = some (.bool s.burns) ∧ w.cell? ⟨b, 3, none⟩ = some (.int .i64 s.left) ∧ w.cell? ⟨b, 4, none⟩ = some (.int .i64 s.writes) ∧ ∀ i, w.frozen? ⟨b, i, none⟩ = false :=
  ⟨by rw [cell_of h.head]; rfl, by rw [cell_of h.head]; rfl, by rw [cell_of h.head]; rfl, by rw [cell_of h.head]; rfl, by rw [cell_of h.head]; rfl, free_of h.head⟩
theorem heap_set {w : World} {b : Nat} {cs : Array Value} {t : TypeId} {fr : Nat × Nat} (h : w.heap[b]? = some (.cells cs t fr)) (i : Nat) (v : Value) : (w.setCell ⟨b, i, none⟩ v).heap[b]? = some (.cells (cs.setIfInBounds i v) t fr) := by
  rw [setCell_eq_setRow w b i cs t fr v h]; exact setRow_heap w b _ _ t _ h
theorem heap_set_ne {w : World} {b k i : Nat} {v : Value} (h : k ≠ b) : (w.setCell ⟨b, i, none⟩ v).heap[k]? = w.heap[k]? := Below.heap_setCell _ _ _ _ h

/-- the head turned -/
theorem IsD.on {w : World} {b g : Nat} {s : Dsk} (h : IsD w b g s) (x : Bool) : IsD (w.setCell ⟨b, 1, none⟩ (.bool x)) b g { s with on := x } :=
  ⟨(heap_set h.head 1 _).trans rfl, (heap_set_ne (Ne.symm h.apart)).trans h.body, h.each, h.apart, h.few⟩
theorem IsD.burns {w : World} {b g : Nat} {s : Dsk} (h : IsD w b g s) (x : Bool) : IsD (w.setCell ⟨b, 2, none⟩ (.bool x)) b g { s with burns := x } :=
  ⟨(heap_set h.head 2 _).trans rfl, (heap_set_ne (Ne.symm h.apart)).trans h.body, h.each, h.apart, h.few⟩
theorem IsD.left {w : World} {b g : Nat} {s : Dsk} (h : IsD w b g s) (x : Int) : IsD (w.setCell ⟨b, 3, none⟩ (.int .i64 x)) b g { s with left := x } :=
  ⟨(heap_set h.head 3 _).trans rfl, (heap_set_ne (Ne.symm h.apart)).trans h.body, h.each, h.apart, h.few⟩
theorem IsD.writes {w : World} {b g : Nat} {s : Dsk} (h : IsD w b g s) (x : Int) : IsD (w.setCell ⟨b, 4, none⟩ (.int .i64 x)) b g { s with writes := x } :=
  ⟨(heap_set h.head 4 _).trans rfl, (heap_set_ne (Ne.symm h.apart)).trans h.body, h.each, h.apart, h.few⟩

def Dsk.has (s : Dsk) (i : Int) : Bool := decide (0 ≤ i) && decide (i < s.cs.length)
theorem has_any (b g : Nat) (s : Dsk) (i : Int) (w : World) (h : IsD w b g s) :
    Calls Try.prog 33 #[.pointer (some ⟨b, 0, none⟩), .int .i64 i] w fun e w' => e = .returned (.bool (s.has i)) ∧ w' = w := by
  obtain ⟨c0, _⟩ := h.cells
  unfold Dsk.has
  clear h
  by_cases h0 : 0 ≤ i
  · have hd : decide (0 ≤ i) = true := decide_eq_true h0
    go_enter Try.func33, Try.ntmps33
    go_wp2
    go_ret
    exact ⟨by simp [h0], rfl⟩
  · have hd : decide (0 ≤ i) = false := decide_eq_false h0
    go_enter Try.func33, Try.ntmps33
    go_wp2
    go_ret
    exact ⟨by simp, rfl⟩
theorem on_any (b g : Nat) (s : Dsk) (w : World) (h : IsD w b g s) :
    Calls Try.prog 27 #[.pointer (some ⟨b, 0, none⟩)] w fun e w' => e = .returned (.bool s.on) ∧ w' = w := by
  obtain ⟨_, c1, _⟩ := h.cells
  clear h
  go_enter Try.func27, Try.ntmps27
  go_wp2
  go_ret
  exact ⟨rfl, rfl⟩
theorem writes_any (b g : Nat) (s : Dsk) (w : World) (h : IsD w b g s) :
    Calls Try.prog 28 #[.pointer (some ⟨b, 0, none⟩)] w fun e w' => e = .returned (.int .i64 s.writes) ∧ w' = w := by
  obtain ⟨_, _, _, _, c4, _⟩ := h.cells
  clear h
  go_enter Try.func28, Try.ntmps28
  go_wp2
  go_ret
  exact ⟨rfl, rfl⟩
theorem size_any (b g : Nat) (s : Dsk) (w : World) (h : IsD w b g s) :
    Calls Try.prog 32 #[.pointer (some ⟨b, 0, none⟩)] w fun e w' => e = .returned (.int .i64 s.cs.length) ∧ w' = w := by
  obtain ⟨c0, _⟩ := h.cells
  clear h
  go_enter Try.func32, Try.ntmps32
  go_wp2
  go_ret
  exact ⟨rfl, rfl⟩

def Dsk.cut (s : Dsk) : Dsk := { s with on := false, burns := false, left := 0 }
def Dsk.power (s : Dsk) : Dsk := { s with on := true, burns := false, left := 0 }
theorem only1 (w : World) (b i : Nat) (u : Value) : Only (· = b) w (w.setCell ⟨b, i, none⟩ u) := (Only.refl (· = b) w).setCell (p := ⟨b, i, none⟩) (rfl : b = b) u
theorem only3 (w : World) (b : Nat) (u v x : Value) : Only (· = b) w (((w.setCell ⟨b, 1, none⟩ u).setCell ⟨b, 2, none⟩ v).setCell ⟨b, 3, none⟩ x) :=
  ((only1 w b 1 u).trans (only1 _ b 2 v)).trans (only1 _ b 3 x)
theorem cut_any (b g : Nat) (s : Dsk) (w : World) (h : IsD w b g s) :
    Calls Try.prog 21 #[.pointer (some ⟨b, 0, none⟩)] w fun e w' => e = .returned (.tuple #[]) ∧ IsD w' b g s.cut ∧ Only (· = b) w w' := by
  obtain ⟨_, c1, c2, c3, _, hf⟩ := h.cells
  have H : Hid (IsD w b g s) := h
  clear h
  go_enter Try.func21, Try.ntmps21
  go_wp2
  go_end0
  exact ⟨rfl, (((H.out.on false).burns false).left 0), only3 _ _ _ _ _⟩
theorem power_any (b g : Nat) (s : Dsk) (w : World) (h : IsD w b g s) :
    Calls Try.prog 23 #[.pointer (some ⟨b, 0, none⟩)] w fun e w' => e = .returned (.tuple #[]) ∧ IsD w' b g s.power ∧ Only (· = b) w w' := by
  obtain ⟨_, c1, c2, c3, _, hf⟩ := h.cells
  have H : Hid (IsD w b g s) := h
  clear h
  go_enter Try.func23, Try.ntmps23
  go_wp2
  go_end0
  exact ⟨rfl, (((H.out.on true).burns false).left 0), only3 _ _ _ _ _⟩
end Go.Proofs.Ytfomnnlilmahhaa
