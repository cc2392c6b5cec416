/- A script in memory; a tree behind it. -/
import Derived.Test.YtppbbddlbfgpfaaJWUps33
import Derived.Test.YtppbbddlbfgpfaaJWUps09
import Derived.Test.YtppbbddlbfgpfaaJWUps02
import Derived.Test.YtppbbddlbfgpfaaJWUps25
import Derived.Test.YtppbbddlbfgpfaaJWUps14
namespace Go.Proofs.Ytppbbddlbfgpfaa
section
open Go.RowKit
attribute [local go_sem high] eqK' neqK' eqE neqE eqN neqN guardK guardE guardN

structure CellsO (w : World) (g o : Nat) (p : Opn) : Prop where
  c0 : w.cell? ⟨g, o, none⟩ = some (.int .i64 p.kind)
  c1 : w.cell? ⟨g, o + 1, none⟩ = some (.int .i64 p.dir)
  c2 : w.cell? ⟨g, o + 2, none⟩ = some (.string p.nm)
  c3 : w.cell? ⟨g, o + 3, none⟩ = some (.int .i64 p.dst)
  c4 : w.cell? ⟨g, o + 4, none⟩ = some (.string p.new)
  c5 : w.cell? ⟨g, o + 5, none⟩ = some (.int .i64 p.mode)
  c6 : w.cell? ⟨g, o + 6, none⟩ = some (.string p.tg)
theorem CellsO.below {w w' : World} {g o B : Nat} {p : Opn} (h : CellsO w g o p) (hB : g < B) (hb : Below B w w') : CellsO w' g o p :=
  ⟨(hb.cell (p := ⟨g, o, none⟩) hB).trans h.c0, (hb.cell (p := ⟨g, o + 1, none⟩) hB).trans h.c1, (hb.cell (p := ⟨g, o + 2, none⟩) hB).trans h.c2, (hb.cell (p := ⟨g, o + 3, none⟩) hB).trans h.c3, (hb.cell (p := ⟨g, o + 4, none⟩) hB).trans h.c4, (hb.cell (p := ⟨g, o + 5, none⟩) hB).trans h.c5, (hb.cell (p := ⟨g, o + 6, none⟩) hB).trans h.c6⟩
/-- a script that came in -/
def RowOps (w : World) (a : Option Addr) (ops : List Opn) : Prop := ops = [] ∨ ∃ b off, a = some ⟨b, off, none⟩ ∧ b < w.heap.size ∧ ∀ i p, ops[i]? = some p → CellsO w b (off + i * 7) p
theorem RowOps.below {w w' : World} {a : Option Addr} {ops : List Opn} (h : RowOps w a ops) (hb : Below w.heap.size w w') : RowOps w' a ops := by
  rcases h with h | ⟨b, off, rfl, hl, hc⟩
  · exact .inl h
  · exact .inr ⟨b, off, rfl, Nat.lt_of_lt_of_le hl hb.size, fun i p hp => (hc i p hp).below hl hb⟩
/-- a tree of the law's own -/
structure Own5 (B : Nat) (w : World) (t : Nat) (s : Tr) : Prop where
  is : IsP w t s
  t0 : B ≤ t
  v0 : ∀ q, s.v.ownBlock = some q → B ≤ q
theorem Own5.below {B : Nat} {w w' : World} {t : Nat} {s : Tr} (h : Own5 B w t s) (hb : Below w.heap.size w w') : Own5 B w' t s := ⟨h.is.below hb, h.t0, h.v0⟩
theorem Own5.step {B : Nat} {w0 w w' : World} {t : Nat} {s s' : Tr} (h : Own5 B w t s) (hb : Below B w0 w) (hB : B ≤ w.heap.size) (k : PS w w' t s s') : Own5 B w' t s' ∧ Below B w0 w' :=
  ⟨⟨k.is, h.t0, fun q hq => by
    rcases k.v with e | e
    · exact h.v0 q (by rw [← e]; exact hq)
    · exact Nat.le_trans hB (e q hq)⟩, k.only.below hb hB (fun q hq => hq.elim (fun e => e ▸ h.t0) (h.v0 q))⟩
/-- Apply, on a right tree -/
theorem apply_g (t : Nat) (s : Tr) (o : Opn) (k : Int) (w : World) (h : IsP w t s) (hg : Good Mn s k) (hk : k ≤ 4000000000000000000) :
    Calls Try.prog 23 #[.pointer (some ⟨t, 0, none⟩), .agg o.arr] w fun e w' => AppR Mn t s o w w' e :=
  apply_p Mn nmsP t s o w h hg.wf (by have := hg.n1; omega) hg.v0 (by have := hg.v1; omega)
theorem Step.alike {M : Nms} {s s' : Tr} {o : Opn} (h : Step M s s' o) : Alike s' (stepT M s o) := by
  unfold stepT
  by_cases hE : doesE M s o = 0
  · rw [if_pos hE]; exact ⟨by rw [h.es, if_pos hE], by rw [h.vers, if_pos hE], by rw [h.next, if_pos hE]⟩
  · rw [if_neg hE]; exact ⟨by rw [h.es, if_neg hE], by rw [h.vers, if_neg hE], by rw [h.next, if_neg hE]⟩
theorem take_op {ops : List Opn} {k : Nat} {o : Opn} (h : ops[k]? = some o) : ops.take (k + 1) = ops.take k ++ [o] := by rw [List.take_add_one, h]; rfl

/-- what behind answers -/
def BehR (ops : List Opn) (w w' : World) (e : Ending) : Prop := ∃ t s, e = .returned (.tuple #[.pointer (some ⟨t, 0, none⟩), .bool true]) ∧ Own5 w.heap.size w' t s ∧ Alike s (runT Mn emptyT ops) ∧ Below w.heap.size w w'
end
section
open Go.RowKit

/-- a list of entries that is not the tree's -/
structure Lst (B : Nat) (w : World) (s : Tr) (v : Value) (es : List En) : Prop where
  row : Row7 w B v es
  off : ∀ q, v.ownBlock = some q → s.v.ownBlock ≠ some q
theorem Lst.below {B : Nat} {w w' : World} {s : Tr} {v : Value} {es : List En} (h : Lst B w s v es) (hb : Below w.heap.size w w') : Lst B w' s v es := ⟨h.row.below hb, h.off⟩
theorem Lst.step {B : Nat} {w w' : World} {t : Nat} {s s' : Tr} {v : Value} {es : List En} (h : Lst B w s v es) (hi : IsP w t s) (k : PS w w' t s s') : Lst B w' s' v es :=
  ⟨owns_moved h.row fun q hq => k.keep (Tag.own h.row hq).lt ((Tag.own h.row hq).ne hi.tt (by decide)) (h.off q hq), fun q hq => by
    rcases k.v with e | e
    · rw [e]; exact h.off q hq
    · intro hh; have := e q hh; have := (Tag.own h.row hq).lt; omega⟩
theorem Lst.of {B : Nat} {w w' : World} {t : Nat} {s : Tr} {v : Value} {es : List En} (hi : IsP w t s) (h : Row7 w' w.heap.size v es) (hB : B ≤ w.heap.size) : Lst B w' s v es :=
  ⟨owns_le h hB, fun q hq e => by have := (World.ownsRow.lt h q hq).1; have := (hi.tv e).lt; omega⟩
/-- the state of a law that has one tree -/
structure Law (w0 w : World) (t : Nat) (s : Tr) (k : Int) : Prop where
  own : Own5 w0.heap.size w t s
  bel : Below w0.heap.size w0 w
  good : Good Mn s k
theorem Law.below {w0 w w' : World} {t : Nat} {s : Tr} {k : Int} (h : Law w0 w t s k) (hb : Below w.heap.size w w') : Law w0 w' t s k := ⟨h.own.below hb, chainB h.bel hb, h.good⟩
theorem Law.alloc {w0 w : World} {t : Nat} {s : Tr} {k : Int} (h : Law w0 w t s k) (o : Obj) : Law w0 (w.alloc o) t s k := h.below (below_alloc _ _)
theorem Law.step {w0 w w' : World} {t : Nat} {s s' : Tr} {k : Int} {o : Opn} (h : Law w0 w t s k) (p : PS w w' t s s') (hs : Step Mn s s' o) : Law w0 w' t s' (k + 1) :=
  ⟨(h.own.step h.bel h.bel.size p).1, (h.own.step h.bel h.bel.size p).2, (h.good.step o).alike hs.alike.symm⟩
theorem Law.of {ops : List Opn} {w w' : World} {e : Ending} (h : BehR ops w w' e) : ∃ t s, e = .returned (.tuple #[.pointer (some ⟨t, 0, none⟩), .bool true]) ∧ Law w w' t s ops.length := by
  obtain ⟨t, s, he, ho, ha, hb⟩ := h
  exact ⟨t, s, he, ho, hb, (good_behind Mn ops).alike ha.symm⟩
theorem Law.len {w0 w : World} {t : Nat} {s : Tr} {k : Int} (h : Law w0 w t s k) : s.es.length ≤ 1000000000 := by have := h.good.wf.len; omega
/-- what is refused turns nothing -/
theorem Step.no {s s' : Tr} {o : Opn} (h : Step Mn s s' o) (hE : doesE Mn s o ≠ 0) : s'.es = s.es ∧ s'.vers = s.vers ∧ s'.next = s.next := ⟨by rw [h.es, if_neg hE], by rw [h.vers, if_neg hE], by rw [h.next, if_neg hE]⟩
theorem Step.yes {s s' : Tr} {o : Opn} (h : Step Mn s s' o) (hE : doesE Mn s o = 0) : s'.es = srt (doesL s o) ∧ s'.vers = s.vers + 1 ∧ s'.next = doesN s o := ⟨by rw [h.es, if_pos hE], by rw [h.vers, if_pos hE], by rw [h.next, if_pos hE]⟩
theorem does_named {s : Tr} {o : Opn} (h5 : 5 ≤ o.kind) (h11 : o.kind ≤ 11) (hn : namedE Mn s.es o.dir o.nm ≠ 0) : doesE Mn s o = namedE Mn s.es o.dir o.nm := by
  unfold doesE; rw [if_neg (by omega), if_pos hn]
end
section
open Go.RowKit

theorem below_turn {W w : World} {b i : Nat} {u : Value} {cs : Array Value} {ty : TypeId} (h : Below W.heap.size W w) (hb : W.heap[b]? = some (.cells cs ty (0, 0))) : Below (W.setCell ⟨b, i, none⟩ u).heap.size (W.setCell ⟨b, i, none⟩ u) (w.setCell ⟨b, i, none⟩ u) := by
  have hz : (W.setCell ⟨b, i, none⟩ u).heap.size = W.heap.size := by simp [World.setCell]
  have hz' : (w.setCell ⟨b, i, none⟩ u).heap.size = w.heap.size := by simp [World.setCell]
  have hlt := (Array.getElem?_eq_some_iff.1 hb).1
  refine ⟨h.os, h.tape, h.output, by rw [hz, hz']; exact h.size, fun k hk => ?_⟩
  rw [hz] at hk
  by_cases e : k = b
  · subst e
    rw [heap_set hb i u, heap_set ((h.block k hk).trans hb) i u]
  · rw [heap_set_ne e, heap_set_ne e]; exact h.block k hk
theorem Law.turn {W w : World} {t : Nat} {s : Tr} {k : Int} {b i : Nat} {u : Value} {cs : Array Value} {ty : TypeId} (h : Law W w t s k) (hb : W.heap[b]? = some (.cells cs ty (0, 0))) : Law (W.setCell ⟨b, i, none⟩ u) (w.setCell ⟨b, i, none⟩ u) t s k := by
  have hz : (W.setCell ⟨b, i, none⟩ u).heap.size = W.heap.size := by simp [World.setCell]
  have hlt := (Array.getElem?_eq_some_iff.1 hb).1
  have ht := h.own.t0
  refine ⟨⟨h.own.is.moved (heap_set_ne (by omega)) (fun q hq => heap_set_ne (by have := h.own.v0 q hq; omega)), by rw [hz]; exact ht, by rw [hz]; exact h.own.v0⟩, below_turn h.bel hb, h.good⟩
theorem Lst.turn {B : Nat} {w : World} {s : Tr} {v : Value} {es : List En} {b i : Nat} {u : Value} (h : Lst B w s v es) (hb : b < B) : Lst B (w.setCell ⟨b, i, none⟩ u) s v es :=
  ⟨owns_moved h.row fun q hq => heap_set_ne (by have := (World.ownsRow.lt h.row q hq).1; omega), h.off⟩
/-- Apply, on a law's tree -/
theorem Law.apply {w0 w : World} {t : Nat} {s : Tr} {k : Int} (h : Law w0 w t s k) (o : Opn) (hk : k ≤ 4000000000000000000) : Calls Try.prog 23 #[.pointer (some ⟨t, 0, none⟩), .agg o.arr] w fun e w' => AppR Mn t s o w w' e := apply_g t s o k w h.own.is h.good hk
/-- what a mutation leaves to a law: what is told, the tree, its lists -/
structure Did (w0 w : World) (t : Nat) (s s' : Tr) (k : Int) (o : Opn) (v kv : Value) : Prop where
  law : Law w0 w t s' (k + 1)
  step : Step Mn s s' o
  told : Lst w0.heap.size w s' v (toldE Mn s o)
  keys : RowK w w0.heap.size kv (toldK Mn s o)
theorem Law.did {w0 w w' : World} {t : Nat} {s : Tr} {k : Int} {o : Opn} {e : Ending} (h : Law w0 w t s k) (ha : AppR Mn t s o w w' e) : ∃ v kv s', e = .returned (.tuple #[v, kv, .int .i64 (doesE Mn s o)]) ∧ Did w0 w' t s s' k o v kv ∧ PS w w' t s s' := by
  obtain ⟨v, kv, s', he, hps, hst, hr, hk, hoff⟩ := ha
  exact ⟨v, kv, s', he, ⟨h.step hps hst, hst, ⟨owns_le hr h.bel.size, hoff⟩, owns_le hk h.bel.size⟩, hps⟩
theorem Did.below {w0 w w' : World} {t : Nat} {s s' : Tr} {k : Int} {o : Opn} {v kv : Value} (h : Did w0 w t s s' k o v kv) (hb : Below w.heap.size w w') : Did w0 w' t s s' k o v kv := ⟨h.law.below hb, h.step, h.told.below hb, h.keys.below hb⟩
theorem keys_step {B : Nat} {w w' : World} {t : Nat} {s s' : Tr} {v : Value} {ks : List Ky} (h : RowK w B v ks) (hi : IsP w t s) (k : PS w w' t s s') : RowK w' B v ks :=
  owns_moved h fun q hq => k.keep (Tag.own h hq).lt ((Tag.own h hq).ne hi.tt (by decide)) (fun e => (Tag.own h hq).ne (hi.tv e) (by decide) rfl)
end
section
open Go.RowKit
attribute [local go_sem ↓ high] loadEn storeEn

/-- the blocks of a tree -/
def TB (t : Nat) (s : Tr) : Nat → Prop := fun b => b = t ∨ s.v.ownBlock = some b
/-- the cache has changed, the tree has not -/
theorem Law.kept {w0 wr w' : World} {t : Nat} {s : Tr} {k : Int} (h : Law w0 wr t s k) (hk : ∀ b, TB t s b → w'.heap[b]? = wr.heap[b]?) (hb : Below w0.heap.size w0 w') : Law w0 w' t s k :=
  ⟨⟨h.own.is.moved (hk _ (.inl rfl)) fun q hq => hk q (.inr hq), h.own.t0, h.own.v0⟩, hb, h.good⟩
/-- the tree has changed, the cache has not -/
theorem Ld.tree {w0 wr w' : World} {t p n : Nat} {s s' : Tr} {c : Cs} (h : Ld w0 wr p c n (TB t s)) (ps : PS wr w' t s s') (h0 : ∀ b, TB t s b → w0.heap.size ≤ b) : Ld w0 w' p c n (TB t s') := by
  refine (h.own ps.only h0).mono (fun b hb => ?_) (Nat.le_refl _)
  rcases hb with hb | hb
  · exact .inl (.inl hb)
  · rcases ps.v with e | e
    · exact .inl (.inr (e ▸ hb))
    · exact .inr ⟨e b hb, (ps.is.tv hb).lt⟩
theorem Law.tb {w0 wr : World} {t : Nat} {s : Tr} {k : Int} (h : Law w0 wr t s k) : ∀ b, TB t s b → w0.heap.size ≤ b ∧ b < wr.heap.size := fun b hb => by
  rcases hb with rfl | hb
  · exact ⟨h.own.t0, h.own.is.tt.lt⟩
  · exact ⟨h.own.v0 b hb, (h.own.is.tv hb).lt⟩
def FilR (ops : List Opn) (w w' : World) (e : Ending) : Prop := ∃ p t s, e = .returned (.tuple #[.pointer (some ⟨p, 0, none⟩), .pointer (some ⟨t, 0, none⟩), .bool true]) ∧ Law w w' t s ops.length ∧ Alike s (runT Mn emptyT ops) ∧ Ld w w' p (fillS s.es) 47 (TB t s)
set_option maxRecDepth 20000 in
set_option maxHeartbeats 8000000 in
theorem filled_p (a : Option Addr) (cap : Nat) (ops : List Opn) (w : World) (h : RowOps w a ops) (hl : ops.length ≤ 3000000000000) :
    Calls Try.prog 7 #[.slice a ops.length cap] w fun e w' => FilR ops w w' e := by
  obtain ⟨n, hn⟩ : ∃ n, ops.length = n := ⟨_, rfl⟩
  rw [hn] at hl ⊢
  have H : Hid (RowOps w a ops ∧ ops.length = n) := ⟨h, hn⟩
  clear h hn
  go_enter Try.func7, Try.ntmps7
  go_wp2_with (first
    | (go_at_call 12; refine (ld_new w w1 (TB w.heap.size emptyT) H1.out.2 (fun b hb => hb.elim (fun e => e ▸ H1.out.1.tt.lt) (fun e => nomatch e))).mono ?_; rintro x w2 ⟨p, rfl, hc⟩; have H2 : Hid (Law w w2 w.heap.size emptyT 0 ∧ Ld w w2 p Cs.clear 0 (TB w.heap.size emptyT)) := ⟨Law.kept ⟨⟨H1.out.1, Nat.le_refl _, fun q hq => by cases hq⟩, H1.out.2, Good.new Mn⟩ hc.kept hc.ld.below, hc.ld⟩; clear hc)
    | (go_at_call 22; refine (new_p _).mono ?_; rintro x w1 ⟨rfl, hi1, hb1⟩; have H1 : Hid (IsP w1 w.heap.size emptyT ∧ Below w.heap.size w w1) := ⟨hi1, hb1⟩; clear hi1 hb1))
  go_loopw [7] (fun i wr => ∃ (k : Nat) (s : Tr), k ≤ n ∧ i = .int .i64 k ∧ Hid (Law w wr w.heap.size s k ∧ Alike s (runT Mn emptyT (ops.take k)) ∧ Ld w wr p Cs.clear 0 (TB w.heap.size s))) (fun i _ => n - (intOf i).toNat)
  case atStart => exact ⟨0, emptyT, Nat.zero_le _, rfl, H2.out.1, Alike.refl _, H2.out.2⟩
  case round =>
    obtain ⟨k, s, hk, rfl, hI⟩ := hrel
    by_cases hkn : k < n
    · obtain ⟨o, ho⟩ : ∃ o, ops[k]? = some o := ⟨_, List.getElem?_eq_getElem (by rw [H.out.2]; exact hkn)⟩
      rcases H.out.1 with h0 | ⟨b, off, rfl, hbl, hcs⟩
      · rw [h0] at ho; simp at ho
      · have hc := (hcs k o ho).below hbl hI.out.1.bel
        have x0 := hc.c0
        have x1 := hc.c1
        have x2 := hc.c2
        have x3 := hc.c3
        have x4 := hc.c4
        have x5 := hc.c5
        have x6 := hc.c6
        have hki : (k : Int) < (n : Int) := by omega
        have hap := hI.out.1.apply o (by omega)
        unfold Opn.arr at hap
        have HAp : Hid (Calls Try.prog 23 #[.pointer (some ⟨w.heap.size, 0, none⟩), .agg #[.int .i64 o.kind, .int .i64 o.dir, .string o.nm, .int .i64 o.dst, .string o.new, .int .i64 o.mode, .string o.tg]] wr fun e w' => AppR Mn w.heap.size s o wr w' e) := hap
        have HO : Hid (ops[k]? = some o) := ho
        clear hap hc hcs ho
        go_wp2_with (go_at_call 23; refine HAp.out.mono ?_; rintro x w2 ⟨v2, k2, s2, rfl, hps, hst, -, -, -⟩; have H3 : Hid (Law w w2 w.heap.size s2 ((k + 1 : Nat) : Int) ∧ Alike s2 (runT Mn emptyT (ops.take (k + 1))) ∧ Ld w w2 p Cs.clear 0 (TB w.heap.size s2)) := ⟨hI.out.1.step hps hst, (by rw [take_op HO.out, runT_snoc]; exact hst.alike.trans (stepT_alike Mn hI.out.2.1 o)), hI.out.2.2.tree hps fun b hb => (hI.out.1.tb b hb).1⟩; clear hps hst)
        exact ⟨⟨k + 1, s2, by omega, by simp, H3.out⟩, by simp [intOf]; omega⟩
    · have hkn' : ¬ (k : Int) < (n : Int) := by omega
      obtain rfl : k = n := by omega
      have hke : ops.take k = ops := List.take_of_length_le (by rw [H.out.2]; omega)
      have HA : Hid (Law w wr w.heap.size s k ∧ Alike s (runT Mn emptyT ops) ∧ Ld w wr p Cs.clear 0 (TB w.heap.size s)) := by have := hI.out; rw [hke] at this; exact this
      clear hke hI
      obtain ⟨Wo, hWo⟩ : ∃ W, W = wr := ⟨_, rfl⟩
      subst hWo
      obtain ⟨es, hes⟩ : ∃ es, s.es = es := ⟨_, rfl⟩
      have hlen : es.length ≤ 47 := by rw [← hes]; exact HA.out.1.good.wf.len
      have HDu : Hid (Calls Try.prog 24 #[.pointer (some ⟨w.heap.size, 0, none⟩)] Wo fun e w' => ∃ v', e = .returned v' ∧ Row7 w' Wo.heap.size v' es ∧ Below Wo.heap.size Wo w') := by rw [← hes]; exact dump_p _ s Wo HA.out.1.own.is
      have HE : Hid (s.es = es ∧ (∀ e ∈ es, e.nm ≠ nob)) := ⟨hes, by rw [← hes]; exact wf_names HA.out.1.good.wf⟩
      clear hes
      go_upto_region 10 with (go_at_call 24; refine HDu.out.mono ?_; rintro x w3 ⟨v3, rfl, hr3, hb3⟩)
      obtain ⟨a3, c3, rfl⟩ := owns_len hr3
      obtain ⟨m, hm⟩ : ∃ m, es.length = m := ⟨_, rfl⟩
      rw [hm] at hr3 hlen ⊢
      have H3 : Hid (Row7 w3 Wo.heap.size (.slice a3 m c3) es ∧ Law w w3 w.heap.size s k ∧ Ld w w3 p Cs.clear 0 (fun b => TB w.heap.size s b ∨ (Value.slice a3 m c3).ownBlock = some b)) := ⟨hr3, HA.out.1.below hb3, (HA.out.2.2.on hb3).mono (fun b hb => by
        rcases hb with hb | hb
        · exact .inl hb
        · exact .inr (World.ownsRow.lt hr3 b hb)) (Nat.le_refl _)⟩
      clear hr3 hb3
      have HSW : Hid (Calls Try.prog 25 #[.pointer (some ⟨p, 0, none⟩), .int .i64 1] w3 fun x w' => x = .returned (.tuple #[]) ∧ Ldc w w3 w' p (fillS []) 0 (fun b => TB w.heap.size s b ∨ (Value.slice a3 m c3).ownBlock = some b)) := ld_setW H3.out.2.2 1
      go_wp2_with (go_at_call 25; refine HSW.out.mono ?_; rintro x w4 ⟨rfl, hc⟩; have H4 : Hid (Row7 w4 Wo.heap.size (.slice a3 m c3) es ∧ Law w w4 w.heap.size s k ∧ Ld w w4 p (fillS []) 0 (fun b => TB w.heap.size s b ∨ (Value.slice a3 m c3).ownBlock = some b)) := ⟨owns_moved H3.out.1 fun b hb => hc.kept b (.inr hb), H3.out.2.1.kept (fun b hb => hc.kept b (.inl hb)) hc.ld.below, hc.ld⟩; clear hc)
      go_loopw [9] (fun i wx => ∃ j : Nat, j ≤ m ∧ i = .int .i64 j ∧ Hid (Row7 wx Wo.heap.size (.slice a3 m c3) es ∧ Law w wx w.heap.size s k ∧ Ld w wx p (fillS (es.take j)) j (fun b => TB w.heap.size s b ∨ (Value.slice a3 m c3).ownBlock = some b))) (fun i _ => m - (intOf i).toNat)
      case atStart => exact ⟨0, Nat.zero_le _, rfl, H4.out⟩
      case round =>
        obtain ⟨j, hj, rfl, HJ⟩ := hrel
        by_cases hjm : j < m
        · have hji : (j : Int) < (m : Int) := by omega
          obtain ⟨e, he⟩ : ∃ e, es[j]? = some e := ⟨_, List.getElem?_eq_getElem (by rw [hm]; exact hjm)⟩
          obtain ⟨g, rfl, -, -, -, hc, -⟩ := owns_entry HJ.out.1 he
          have lE := enLd_at hc
          have HP : Hid (Calls Try.prog 14 #[.pointer (some ⟨p, 0, none⟩), e.agg] wr fun x w' => ∃ z, x = .returned (.int .i64 z) ∧ Ldc w wr w' p (putS (fillS (es.take j)) e) (j + 1) (fun b => TB w.heap.size s b ∨ (Value.slice (some ⟨g, 0, none⟩) m c3).ownBlock = some b)) := by
            refine (ld_put HJ.out.2.2 e (by omega)).mono ?_
            rintro x w' ⟨rfl, hc⟩
            exact ⟨_, rfl, hc⟩
          have HX : Hid (es[j]? = some e) := he
          clear hc he
          go_upto_region 15 with (go_at_call 14; refine HP.out.mono ?_; rintro x w5 ⟨z5, rfl, hc⟩; have H5 : Hid (Row7 w5 Wo.heap.size (.slice (some ⟨g, 0, none⟩) m c3) es ∧ Law w w5 w.heap.size s k ∧ Ld w w5 p (putS (fillS (es.take j)) e) (j + 1) (fun b => TB w.heap.size s b ∨ (Value.slice (some ⟨g, 0, none⟩) m c3).ownBlock = some b)) := ⟨owns_moved HJ.out.1 fun b hb => hc.kept b (.inr hb), HJ.out.2.1.kept (fun b hb => hc.kept b (.inl hb)) hc.ld.below, hc.ld⟩; clear hc lE)
          obtain ⟨g', hg', -, -, -, hc, -⟩ := owns_entry H5.out.1 HX.out
          obtain rfl : g = g' := by injection hg' with q; injection q
          have c3' := hc.c3
          have HS : Hid (Calls Try.prog 25 #[.pointer (some ⟨p, 0, none⟩), .int .i64 e.id] w5 fun x w' => x = .returned (.tuple #[]) ∧ Ldc w w5 w' p (fillS (es.take (j + 1))) (j + 1) (fun b => TB w.heap.size s b ∨ (Value.slice (some ⟨g, 0, none⟩) m c3).ownBlock = some b)) := by
            rw [List.take_add_one, HX.out]
            show Calls _ _ _ _ (fun x w' => x = _ ∧ Ldc w w5 w' p (fillS (es.take j ++ [e])) _ _)
            rw [fillS_snoc]
            exact ld_setW H5.out.2.2 e.id
          clear hc hg'
          go_wp2_with (go_at_call 25; refine HS.out.mono ?_; rintro x w6 ⟨rfl, hc⟩; have H6 : Hid (Row7 w6 Wo.heap.size (.slice (some ⟨g, 0, none⟩) m c3) es ∧ Law w w6 w.heap.size s k ∧ Ld w w6 p (fillS (es.take (j + 1))) (j + 1) (fun b => TB w.heap.size s b ∨ (Value.slice (some ⟨g, 0, none⟩) m c3).ownBlock = some b)) := ⟨owns_moved H5.out.1 fun b hb => hc.kept b (.inr hb), H5.out.2.1.kept (fun b hb => hc.kept b (.inl hb)) hc.ld.below, hc.ld⟩; clear hc)
          exact ⟨⟨j + 1, by omega, by simp, H6.out⟩, by simp [intOf]; omega⟩
        · obtain rfl : j = m := by omega
          have hji : ¬ (j : Int) < (j : Int) := by omega
          have hje : es.take j = es := List.take_of_length_le (by omega)
          have HZ : Hid (Law w wr w.heap.size s k ∧ Ld w wr p (fillS s.es) 47 (TB w.heap.size s)) := by
            have := HJ.out.2
            rw [hje] at this
            rw [HE.out.1]
            exact ⟨this.1, this.2.mono (fun b hb => .inl hb) hlen⟩
          clear hje HJ
          go_wp2
          go_ret3
          exact ⟨p, _, s, rfl, by rw [H.out.2]; exact HZ.out.1, HA.out.2.1, HZ.out.2⟩
end
end Go.Proofs.Ytppbbddlbfgpfaa
