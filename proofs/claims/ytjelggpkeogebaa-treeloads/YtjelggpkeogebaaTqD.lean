/- A script in memory; a tree behind it. -/
import Derived.Test.YtjelggpkeogebaaTqC
import Derived.Test.YtjelggpkeogebaaPuE
namespace Go.Proofs.Ytjelggpkeogebaa
open Go.RowKit
attribute [local go_sem high] eqK' neqK' eqE neqE eqN neqN guardK guardE guardN

structure CellsO (w : World) (g o : Nat) (p : Opn) : Prop where
  c0 : w.cell? ⟨g, o, none⟩ = some (.int .i64 p.kind)
  c1 : w.cell? ⟨g, o + 1, none⟩ = some (.int .i64 p.dir)
  c2 : w.cell? ⟨g, o + 2, none⟩ = some (.string p.nm)
  c3 : w.cell? ⟨g, o + 3, none⟩ = some (.int .i64 p.dst)
  c4 : w.cell? ⟨g, o + 4, none⟩ = some (.string p.new)
  c5 : w.cell? ⟨g, o + 5, none⟩ = some (.int .i64 p.mode)
  c6 : w.cell? ⟨g, o + 6, none⟩ = some (.string p.tg)
theorem CellsO.below {w w' : World} {g o B : Nat} {p : Opn} (h : CellsO w g o p) (hB : g < B) (hb : Below B w w') : CellsO w' g o p :=
  ⟨(hb.cell (p := ⟨g, o, none⟩) hB).trans h.c0, (hb.cell (p := ⟨g, o + 1, none⟩) hB).trans h.c1, (hb.cell (p := ⟨g, o + 2, none⟩) hB).trans h.c2, (hb.cell (p := ⟨g, o + 3, none⟩) hB).trans h.c3, (hb.cell (p := ⟨g, o + 4, none⟩) hB).trans h.c4, (hb.cell (p := ⟨g, o + 5, none⟩) hB).trans h.c5, (hb.cell (p := ⟨g, o + 6, none⟩) hB).trans h.c6⟩
/-- a script that came in -/
def RowOps (w : World) (a : Option Addr) (ops : List Opn) : Prop := ops = [] ∨ ∃ b off, a = some ⟨b, off, none⟩ ∧ b < w.heap.size ∧ ∀ i p, ops[i]? = some p → CellsO w b (off + i * 7) p
theorem RowOps.below {w w' : World} {a : Option Addr} {ops : List Opn} (h : RowOps w a ops) (hb : Below w.heap.size w w') : RowOps w' a ops := by
  rcases h with h | ⟨b, off, rfl, hl, hc⟩
  · exact .inl h
  · exact .inr ⟨b, off, rfl, Nat.lt_of_lt_of_le hl hb.size, fun i p hp => (hc i p hp).below hl hb⟩
/-- a tree of the law's own -/
structure Own5 (B : Nat) (w : World) (t : Nat) (s : Tr) : Prop where
  is : IsP w t s
  t0 : B ≤ t
  v0 : ∀ q, s.v.ownBlock = some q → B ≤ q
theorem Own5.below {B : Nat} {w w' : World} {t : Nat} {s : Tr} (h : Own5 B w t s) (hb : Below w.heap.size w w') : Own5 B w' t s := ⟨h.is.below hb, h.t0, h.v0⟩
theorem Own5.step {B : Nat} {w0 w w' : World} {t : Nat} {s s' : Tr} (h : Own5 B w t s) (hb : Below B w0 w) (hB : B ≤ w.heap.size) (k : PS w w' t s s') : Own5 B w' t s' ∧ Below B w0 w' :=
  ⟨⟨k.is, h.t0, fun q hq => by
    rcases k.v with e | e
    · exact h.v0 q (by rw [← e]; exact hq)
    · exact Nat.le_trans hB (e q hq)⟩, k.only.below hb hB (fun q hq => hq.elim (fun e => e ▸ h.t0) (h.v0 q))⟩
/-- Apply, on a right tree -/
theorem apply_g (t : Nat) (s : Tr) (o : Opn) (k : Int) (w : World) (h : IsP w t s) (hg : Good Mn s k) (hk : k ≤ 4000000000000000000) :
    Calls Try.prog 10 #[.pointer (some ⟨t, 0, none⟩), .agg o.arr] w fun e w' => AppR Mn t s o w w' e :=
  apply_p Mn nmsP t s o w h hg.wf (by have := hg.n1; omega) hg.v0 (by have := hg.v1; omega)
theorem Step.alike {M : Nms} {s s' : Tr} {o : Opn} (h : Step M s s' o) : Alike s' (stepT M s o) := by
  unfold stepT
  by_cases hE : doesE M s o = 0
  · rw [if_pos hE]; exact ⟨by rw [h.es, if_pos hE], by rw [h.vers, if_pos hE], by rw [h.next, if_pos hE]⟩
  · rw [if_neg hE]; exact ⟨by rw [h.es, if_neg hE], by rw [h.vers, if_neg hE], by rw [h.next, if_neg hE]⟩
theorem take_op {ops : List Opn} {k : Nat} {o : Opn} (h : ops[k]? = some o) : ops.take (k + 1) = ops.take k ++ [o] := by rw [List.take_add_one, h]; rfl

/-- what behind answers -/
def BehR (ops : List Opn) (w w' : World) (e : Ending) : Prop := ∃ t s, e = .returned (.tuple #[.pointer (some ⟨t, 0, none⟩), .bool true]) ∧ Own5 w.heap.size w' t s ∧ Alike s (runT Mn emptyT ops) ∧ Below w.heap.size w w'
set_option maxRecDepth 20000 in
set_option maxHeartbeats 8000000 in
theorem behind_p (a : Option Addr) (cap : Nat) (ops : List Opn) (w : World) (h : RowOps w a ops) (hl : ops.length ≤ 3000000000000) :
    Calls Try.prog 14 #[.slice a ops.length cap] w fun e w' => BehR ops w w' e := by
  obtain ⟨n, hn⟩ : ∃ n, ops.length = n := ⟨_, rfl⟩
  rw [hn] at hl ⊢
  have H : Hid (RowOps w a ops ∧ ops.length = n) := ⟨h, hn⟩
  clear h hn
  go_enter Try.func14, Try.ntmps14
  go_wp2_with (go_at_call 29; refine (new_p _).mono ?_; rintro x w1 ⟨rfl, hi1, hb1⟩)
  have H1 : Hid (Own5 w.heap.size w1 w.heap.size emptyT ∧ Below w.heap.size w w1) := ⟨⟨hi1, Nat.le_refl _, fun q hq => by cases hq⟩, hb1⟩
  clear hi1 hb1
  go_loopw [5] (fun i wr => ∃ (k : Nat) (s : Tr), k ≤ n ∧ i = .int .i64 k ∧ Hid (Own5 w.heap.size wr w.heap.size s ∧ Alike s (runT Mn emptyT (ops.take k)) ∧ Below w.heap.size w wr)) (fun i _ => n - (intOf i).toNat)
  case atStart => exact ⟨0, emptyT, Nat.zero_le _, rfl, H1.out.1, Alike.refl _, H1.out.2⟩
  case round =>
    obtain ⟨k, s, hk, rfl, hI⟩ := hrel
    by_cases hkn : k < n
    · obtain ⟨o, ho⟩ : ∃ o, ops[k]? = some o := ⟨_, List.getElem?_eq_getElem (by rw [H.out.2]; exact hkn)⟩
      rcases H.out.1 with h0 | ⟨b, off, rfl, hbl, hcs⟩
      · rw [h0] at ho; simp at ho
      · have hc := (hcs k o ho).below hbl hI.out.2.2
        have x0 := hc.c0
        have x1 := hc.c1
        have x2 := hc.c2
        have x3 := hc.c3
        have x4 := hc.c4
        have x5 := hc.c5
        have x6 := hc.c6
        have hki : (k : Int) < (n : Int) := by omega
        have hgood : Good Mn s k := by
          have := (good_behind Mn (ops.take k)).alike hI.out.2.1.symm
          rw [List.length_take, H.out.2, Nat.min_eq_left hk] at this
          exact this
        have hap := apply_g w.heap.size s o k wr hI.out.1.is hgood (by omega)
        unfold Opn.arr at hap
        have HAp : Hid (Calls Try.prog 10 #[.pointer (some ⟨w.heap.size, 0, none⟩), .agg #[.int .i64 o.kind, .int .i64 o.dir, .string o.nm, .int .i64 o.dst, .string o.new, .int .i64 o.mode, .string o.tg]] wr fun e w' => AppR Mn w.heap.size s o wr w' e) := hap
        have HO : Hid (ops[k]? = some o) := ho
        clear hap hgood hc hcs ho
        go_wp2_with (go_at_call 10; refine HAp.out.mono ?_; rintro x w2 ⟨v2, k2, s2, rfl, hps, hst, -, -, -⟩; have H2 : Hid (Own5 w.heap.size w2 w.heap.size s2 ∧ Below w.heap.size w w2) := hI.out.1.step hI.out.2.2 hI.out.2.2.size hps; have HSt : Hid (Alike s2 (runT Mn emptyT (ops.take (k + 1)))) := (by rw [take_op HO.out, runT_snoc]; exact hst.alike.trans (stepT_alike Mn hI.out.2.1 o)); clear hps hst)
        exact ⟨⟨k + 1, s2, by omega, by simp, H2.out.1, HSt.out, H2.out.2⟩, by simp [intOf]; omega⟩
    · have hkn' : ¬ (k : Int) < (n : Int) := by omega
      have hke : ops.take k = ops := List.take_of_length_le (by rw [H.out.2]; omega)
      have HA : Hid (Alike s (runT Mn emptyT ops)) := by have := hI.out.2.1; rw [hke] at this; exact this
      clear hke
      go_wp2
      go_ret2
      exact ⟨_, s, rfl, hI.out.1, HA.out, hI.out.2.2⟩
end Go.Proofs.Ytjelggpkeogebaa
