/- Two trees, and lists that a law writes over. -/
import Derived.Test.YtjkgafbknjpjbabTqT
import Derived.Test.YtjkgafbknjpjbabTqR
namespace Go.Proofs.Ytjkgafbknjpjbab
open Go.RowKit

theorem Pair.only {P : Nat → Prop} {w0 w w' : World} {t u : Nat} {s r : Tr} {k k' : Int} (h : Pair w0 w t s k u r k') (ho : Only P w w') (hP : ∀ q, P q → w0.heap.size ≤ q ∧ q ≠ t ∧ q ≠ u ∧ s.v.ownBlock ≠ some q ∧ r.v.ownBlock ≠ some q) : Pair w0 w' t s k u r k' :=
  ⟨⟨⟨h.one.own.is.moved (ho.block t h.one.own.is.tt.lt fun hp => (hP _ hp).2.1 rfl) (fun q hq => ho.block q (h.one.own.is.tv hq).lt fun hp => (hP q hp).2.2.2.1 hq), h.one.own.t0, h.one.own.v0⟩, ho.below h.one.bel h.one.bel.size (fun q hq => (hP q hq).1), h.one.good⟩,
   ⟨⟨h.two.own.is.moved (ho.block u h.two.own.is.tt.lt fun hp => (hP _ hp).2.2.1 rfl) (fun q hq => ho.block q (h.two.own.is.tv hq).lt fun hp => (hP q hp).2.2.2.2 hq), h.two.own.t0, h.two.own.v0⟩, ho.below h.two.bel h.two.bel.size (fun q hq => (hP q hq).1), h.two.good⟩, h.ne, h.off⟩
theorem row7_pre {w : World} {base g N cap : Nat} {A B : List En} (h : Row7 w base (.slice (some ⟨g, 0, none⟩) N cap) (A ++ B)) : Row7 w base (.slice (some ⟨g, 0, none⟩) A.length cap) A := by
  rcases h.2 with ⟨e, _⟩ | ⟨g', cap', cur, e, hg, hh, r1, r2, r3, r4⟩
  · cases e
  · cases e
    refine ⟨ec_len A, .inr ⟨g, cap, cur, rfl, hg, hh, ?_, r2, r3, ?_⟩⟩
    · rw [List.length_append] at r1; omega
    · rw [ec_app] at r4
      have h1 := congrArg (List.take (A.length * 7)) r4
      rw [List.take_take, List.length_append, Nat.min_eq_left (by omega), ← ec_len A, List.take_left] at h1
      rw [← ec_len A]
      exact h1
theorem Law.load {w0 w w' : World} {t : Nat} {s : Tr} {k : Int} {e : Ending} (h : Law w0 w t s k) (hr : LoadR s.es s.vers s.next w w' e) : ∃ u r, e = .returned (.tuple #[.pointer (some ⟨u, 0, none⟩), .int .i64 0]) ∧ Hid (Pair w0 w' t s k u r k ∧ Alike s r ∧ w.heap.size ≤ u ∧ ∀ q, r.v.ownBlock = some q → w.heap.size ≤ q) ∧ Below w.heap.size w w' := by
  rcases hr with ⟨u, r, he, -, -, ho, h1, h2, h3, hb⟩ | ⟨-, hn, -⟩
  · refine ⟨u, r, he, ⟨⟨h.below hb, ⟨⟨ho.is, Nat.le_trans h.bel.size ho.t0, fun q hq => Nat.le_trans h.bel.size (ho.v0 q hq)⟩, chainB h.bel hb, h.good.alike ⟨h1.symm, h2.symm, h3.symm⟩⟩, ?_, fun q hq e => ?_⟩, ⟨h1.symm, h2.symm, h3.symm⟩, ho.t0, ho.v0⟩, hb⟩
    · have := h.own.is.tt.lt; have := ho.t0; omega
    · have := (h.own.is.tv hq).lt; have := ho.v0 q e; omega
  · exact absurd ⟨h.good.wf, h.good.v0⟩ hn
/-- an entry that a law puts into a list of its own -/
def mEn (i : Int) : En := ⟨-9, ⟨#[109]⟩, false, i, 0, 0, ⟨#[]⟩⟩
def mEns (k : Nat) : List En := (List.range k).map fun i : Nat => mEn i
theorem mEns_len (k : Nat) : (mEns k).length = k := by unfold mEns; simp
theorem mEns_succ (k : Nat) : mEns (k + 1) = mEns k ++ [mEn k] := by unfold mEns; rw [List.range_succ, List.map_append]; rfl
theorem mEns_get {k i : Nat} (h : i < k) : (mEns k)[i]? = some (mEn i) := by unfold mEns; rw [List.getElem?_map, List.getElem?_range h]; rfl
/-- a list that lies apart from two trees -/
def Lone (w0 : World) (t : Nat) (s : Tr) (u : Nat) (r : Tr) (v : Value) : Prop := ∀ q, v.ownBlock = some q → w0.heap.size ≤ q ∧ q ≠ t ∧ q ≠ u ∧ s.v.ownBlock ≠ some q ∧ r.v.ownBlock ≠ some q
theorem Pair.lone {w0 w : World} {t u : Nat} {s r : Tr} {k k' : Int} (h : Pair w0 w t s k u r k') {v : Value} {es : List En} (h1 : Lst w0.heap.size w s v es) (h2 : Lst w0.heap.size w r v es) : Lone w0 t s u r v := fun q hq =>
  ⟨(World.ownsRow.lt h1.row q hq).1, (Tag.own h1.row hq).ne h.one.own.is.tt (by decide), (Tag.own h1.row hq).ne h.two.own.is.tt (by decide), h1.off q hq, h2.off q hq⟩
theorem Pair.loneK {w0 w : World} {t u : Nat} {s r : Tr} {k k' : Int} (h : Pair w0 w t s k u r k') {v : Value} {ks : List Ky} (h1 : RowK w w0.heap.size v ks) : Lone w0 t s u r v := fun q hq =>
  ⟨(World.ownsRow.lt h1 q hq).1, (Tag.own h1 hq).ne h.one.own.is.tt (by decide), (Tag.own h1 hq).ne h.two.own.is.tt (by decide), fun e => (Tag.own h1 hq).ne (h.one.own.is.tv e) (by decide) rfl, fun e => (Tag.own h1 hq).ne (h.two.own.is.tv e) (by decide) rfl⟩
theorem Pair.did' {w0 w w' : World} {t u : Nat} {s r : Tr} {k k' : Int} {o : Opn} {e : Ending} (h : Pair w0 w t s k u r k') (ha : AppR Mn t s o w w' e) : ∃ v kv s', e = .returned (.tuple #[v, kv, .int .i64 (doesE Mn s o)]) ∧ Did2 w0 w' t s s' k u r k' o v kv ∧ PS w w' t s s' ∧ (∀ q, v.ownBlock = some q → w.heap.size ≤ q) ∧ (∀ q, kv.ownBlock = some q → w.heap.size ≤ q) := by
  obtain ⟨v, kv, s', he, hd, hps⟩ := h.did ha
  obtain ⟨v2, kv2, s2, he2, -, -, hr, hk, -⟩ := ha
  rw [he] at he2
  simp at he2
  obtain ⟨rfl, rfl⟩ := he2
  exact ⟨v, kv, s', he, hd, hps, fun q hq => (World.ownsRow.lt hr q hq).1, fun q hq => (World.ownsRow.lt hk q hq).1⟩
def aEn : En := ⟨3, ⟨#[122]⟩, false, 0, 0, 0, ⟨#[]⟩⟩
/-- a key laid over two cells of a row -/
def put2o (w : World) (g o : Nat) : World := (w.setCell ⟨g, o, none⟩ (.int .i64 0)).setCell ⟨g, o + 1, none⟩ (.string ⟨#[]⟩)
theorem put2o_row {w : World} {base g n cap : Nat} {xs : List Value} (h : w.ownsRow base 37 2 (.slice (some ⟨g, 0, none⟩) n cap) n xs) (o : Nat) : ∃ xs', (put2o w g o).ownsRow base 37 2 (.slice (some ⟨g, 0, none⟩) n cap) n xs' :=
  ⟨_, ((h.stored o (.int .i64 0)).1.stored (o + 1) (.string ⟨#[]⟩)).1⟩
theorem put2o_only (w : World) (g o : Nat) : Only (· = g) w (put2o w g o) := (only1 _ g _ _).trans (only1 _ g _ _)
end Go.Proofs.Ytjkgafbknjpjbab
