/- The law's own example is answered: awake. -/
import Derived.Test.YtppbbddlbfgpfaaJWOme19
import Derived.Test.YtppbbddlbfgpfaaJWOme09
import Derived.Test.YtppbbddlbfgpfaaJWOme02
namespace Go.Proofs.Ytppbbddlbfgpfaa
section
open Go.RowKit
attribute [local go_sem high] eqK' neqK' eqE neqE eqN neqN guardK guardE guardN

def exS : Tr := ⟨.slice none 0 0, [], 0, 2⟩
def exO : Opn := ⟨6, 1, ⟨#[97]⟩, 0, ⟨#[]⟩, 7, ⟨#[]⟩⟩
def exE : En := ⟨1, ⟨#[97]⟩, false, 2, 1, 7, ⟨#[]⟩⟩
/-- a name of one letter -/
theorem chk_one (b : UInt8) (h0 : b ≠ 0) (h1 : b ≠ 46) (h2 : b ≠ 47) : chkE ⟨#[b]⟩ = 0 := by
  have e1 : (⟨#[b]⟩ : ByteArray).size = 1 := rfl
  have e2 : (⟨#[b]⟩ : ByteArray).toList = [b] := by rw [ByteArray.toList_eq]
  have hb : ∀ c : UInt8, b ≠ c → b.toNat ≠ c.toNat := fun c hc h => hc (UInt8.toNat_inj.1 h)
  have h3 : ∀ c : Nat, b.toNat ≠ c → hasB ⟨#[b]⟩ c = false := by
    intro c hc
    unfold hasB
    rw [e1]
    have : bt ⟨#[b]⟩ 0 = b.toNat := rfl
    simp [hasF, this, hc]
  unfold chkE dotsB
  rw [e1, e2, h3 0 (hb 0 h0), h3 47 (hb 47 h2)]
  simp [h1]
theorem ex_chk : chkE ⟨#[97]⟩ = 0 := chk_one 97 (by decide) (by decide) (by decide)
theorem ex_dir (es : List En) : dirE es 1 = 0 := rfl
theorem named_one (es : List En) (nm : ByteArray) (h : chkE nm = 0) : namedE Mn es 1 nm = 0 := by unfold namedE; rw [ex_dir, if_pos rfl]; exact h
theorem ex_does : doesE Mn exS exO = 0 := by
  unfold doesE
  rw [show namedE Mn exS.es exO.dir exO.nm = 0 from named_one _ _ ex_chk]
  rfl
theorem ex_list : srt (doesL exS exO) = [exE] := rfl
theorem ex_tell : tellL exS exO = [exE] := rfl
theorem ex_keys : keysL exO = [⟨1, ⟨#[97]⟩⟩] := rfl
theorem ex_look : namedE Mn [exE] 1 ⟨#[97]⟩ = 0 := named_one _ _ ex_chk
theorem ex_now : nowE [exE] 1 ⟨#[97]⟩ = exE := by rfl
/-- what the example's mutation leaves -/
theorem ex_step {t : Nat} {w w' : World} {e : Ending} (h : AppR Mn t exS exO w w' e) : ∃ g c g' c' s', e = .returned (.tuple #[.slice (some ⟨g, 0, none⟩) 1 c, .slice (some ⟨g', 0, none⟩) 1 c', .int .i64 0]) ∧ PS w w' t exS s' ∧ s'.es = [exE] ∧ s'.vers = 1 ∧ Cells7 w' g 0 exE ∧ w'.cell? ⟨g', 0, none⟩ = some (.int .i64 1) ∧ w'.cell? ⟨g', 1, none⟩ = some (.string ⟨#[97]⟩) := by
  obtain ⟨v, k, s', he, hps, hst, hr, hk, _⟩ := h
  unfold toldE at hr
  unfold toldK at hk
  rw [ex_does] at he
  rw [ex_does, if_pos rfl, ex_tell] at hr
  rw [ex_does, if_pos rfl, ex_keys] at hk
  have h1 := hst.es
  have h2 := hst.vers
  rw [ex_does, if_pos rfl] at h1 h2
  obtain ⟨a, c, rfl⟩ := owns_len hr
  obtain ⟨g, rfl, _, _, _, hc, _⟩ := owns_entry hr (i := 0) (e := exE) rfl
  obtain ⟨a', c', rfl⟩ := owns_len hk
  obtain ⟨g', rfl, _, _, k0, k1, _⟩ := RowK.key hk (i := 0) (p := ⟨1, ⟨#[97]⟩⟩) rfl
  exact ⟨g, c, g', c', s', he, hps, h1, h2, hc, k0, k1⟩
theorem look_ex {t : Nat} {s : Tr} (h : s.es = [exE]) (w : World) (hw : IsP w t s) : Calls Try.prog 11 #[.pointer (some ⟨t, 0, none⟩), .int .i64 1, .string ⟨#[97]⟩] w fun e w' => e = .returned (.tuple #[.agg #[.int .i64 1, .string ⟨#[97]⟩, .bool false, .int .i64 2, .int .i64 1, .int .i64 7, .string ⟨#[]⟩], .int .i64 0]) ∧ Below w.heap.size w w' := by
  have := Look_p Mn nmsP t s 1 ⟨#[97]⟩ w hw
  rw [lookV_form, h, ex_look, if_pos rfl, ex_now] at this
  exact this
theorem ps_below {w w1 w' : World} {t : Nat} {s s' : Tr} (h : PS w1 w' t s s') (hb : Below w.heap.size w w1) (ht : w.heap.size ≤ t) (hs : ∀ q, s.v.ownBlock = some q → w.heap.size ≤ q) : Below w.heap.size w w' ∧ ∀ q, s'.v.ownBlock = some q → w.heap.size ≤ q :=
  ⟨h.only.below hb hb.size (fun k hk => hk.elim (fun e => e ▸ ht) (hs k)), fun q hq => by
    rcases h.v with e | e
    · exact hs q (by rw [← e]; exact hq)
    · exact Nat.le_trans hb.size (e q hq)⟩
end
section
open Go.RowKit
attribute [local go_sem high] eqK' neqK' eqE neqE eqN neqN guardK guardE guardN

structure CellsO (w : World) (g o : Nat) (p : Opn) : Prop where
  c0 : w.cell? ⟨g, o, none⟩ = some (.int .i64 p.kind)
  c1 : w.cell? ⟨g, o + 1, none⟩ = some (.int .i64 p.dir)
  c2 : w.cell? ⟨g, o + 2, none⟩ = some (.string p.nm)
  c3 : w.cell? ⟨g, o + 3, none⟩ = some (.int .i64 p.dst)
  c4 : w.cell? ⟨g, o + 4, none⟩ = some (.string p.new)
  c5 : w.cell? ⟨g, o + 5, none⟩ = some (.int .i64 p.mode)
  c6 : w.cell? ⟨g, o + 6, none⟩ = some (.string p.tg)
theorem CellsO.below {w w' : World} {g o B : Nat} {p : Opn} (h : CellsO w g o p) (hB : g < B) (hb : Below B w w') : CellsO w' g o p :=
  ⟨(hb.cell (p := ⟨g, o, none⟩) hB).trans h.c0, (hb.cell (p := ⟨g, o + 1, none⟩) hB).trans h.c1, (hb.cell (p := ⟨g, o + 2, none⟩) hB).trans h.c2, (hb.cell (p := ⟨g, o + 3, none⟩) hB).trans h.c3, (hb.cell (p := ⟨g, o + 4, none⟩) hB).trans h.c4, (hb.cell (p := ⟨g, o + 5, none⟩) hB).trans h.c5, (hb.cell (p := ⟨g, o + 6, none⟩) hB).trans h.c6⟩
/-- a script that came in -/
def RowOps (w : World) (a : Option Addr) (ops : List Opn) : Prop := ops = [] ∨ ∃ b off, a = some ⟨b, off, none⟩ ∧ b < w.heap.size ∧ ∀ i p, ops[i]? = some p → CellsO w b (off + i * 7) p
theorem RowOps.below {w w' : World} {a : Option Addr} {ops : List Opn} (h : RowOps w a ops) (hb : Below w.heap.size w w') : RowOps w' a ops := by
  rcases h with h | ⟨b, off, rfl, hl, hc⟩
  · exact .inl h
  · exact .inr ⟨b, off, rfl, Nat.lt_of_lt_of_le hl hb.size, fun i p hp => (hc i p hp).below hl hb⟩
/-- a tree of the law's own -/
structure Own5 (B : Nat) (w : World) (t : Nat) (s : Tr) : Prop where
  is : IsP w t s
  t0 : B ≤ t
  v0 : ∀ q, s.v.ownBlock = some q → B ≤ q
theorem Own5.below {B : Nat} {w w' : World} {t : Nat} {s : Tr} (h : Own5 B w t s) (hb : Below w.heap.size w w') : Own5 B w' t s := ⟨h.is.below hb, h.t0, h.v0⟩
theorem Own5.step {B : Nat} {w0 w w' : World} {t : Nat} {s s' : Tr} (h : Own5 B w t s) (hb : Below B w0 w) (hB : B ≤ w.heap.size) (k : PS w w' t s s') : Own5 B w' t s' ∧ Below B w0 w' :=
  ⟨⟨k.is, h.t0, fun q hq => by
    rcases k.v with e | e
    · exact h.v0 q (by rw [← e]; exact hq)
    · exact Nat.le_trans hB (e q hq)⟩, k.only.below hb hB (fun q hq => hq.elim (fun e => e ▸ h.t0) (h.v0 q))⟩
/-- Apply, on a right tree -/
theorem apply_g (t : Nat) (s : Tr) (o : Opn) (k : Int) (w : World) (h : IsP w t s) (hg : Good Mn s k) (hk : k ≤ 4000000000000000000) :
    Calls Try.prog 23 #[.pointer (some ⟨t, 0, none⟩), .agg o.arr] w fun e w' => AppR Mn t s o w w' e :=
  apply_p Mn nmsP t s o w h hg.wf (by have := hg.n1; omega) hg.v0 (by have := hg.v1; omega)
theorem Step.alike {M : Nms} {s s' : Tr} {o : Opn} (h : Step M s s' o) : Alike s' (stepT M s o) := by
  unfold stepT
  by_cases hE : doesE M s o = 0
  · rw [if_pos hE]; exact ⟨by rw [h.es, if_pos hE], by rw [h.vers, if_pos hE], by rw [h.next, if_pos hE]⟩
  · rw [if_neg hE]; exact ⟨by rw [h.es, if_neg hE], by rw [h.vers, if_neg hE], by rw [h.next, if_neg hE]⟩
theorem take_op {ops : List Opn} {k : Nat} {o : Opn} (h : ops[k]? = some o) : ops.take (k + 1) = ops.take k ++ [o] := by rw [List.take_add_one, h]; rfl

/-- what behind answers -/
def BehR (ops : List Opn) (w w' : World) (e : Ending) : Prop := ∃ t s, e = .returned (.tuple #[.pointer (some ⟨t, 0, none⟩), .bool true]) ∧ Own5 w.heap.size w' t s ∧ Alike s (runT Mn emptyT ops) ∧ Below w.heap.size w w'
end
section
open Go.RowKit

/-- a list of entries that is not the tree's -/
structure Lst (B : Nat) (w : World) (s : Tr) (v : Value) (es : List En) : Prop where
  row : Row7 w B v es
  off : ∀ q, v.ownBlock = some q → s.v.ownBlock ≠ some q
theorem Lst.below {B : Nat} {w w' : World} {s : Tr} {v : Value} {es : List En} (h : Lst B w s v es) (hb : Below w.heap.size w w') : Lst B w' s v es := ⟨h.row.below hb, h.off⟩
theorem Lst.step {B : Nat} {w w' : World} {t : Nat} {s s' : Tr} {v : Value} {es : List En} (h : Lst B w s v es) (hi : IsP w t s) (k : PS w w' t s s') : Lst B w' s' v es :=
  ⟨owns_moved h.row fun q hq => k.keep (Tag.own h.row hq).lt ((Tag.own h.row hq).ne hi.tt (by decide)) (h.off q hq), fun q hq => by
    rcases k.v with e | e
    · rw [e]; exact h.off q hq
    · intro hh; have := e q hh; have := (Tag.own h.row hq).lt; omega⟩
theorem Lst.of {B : Nat} {w w' : World} {t : Nat} {s : Tr} {v : Value} {es : List En} (hi : IsP w t s) (h : Row7 w' w.heap.size v es) (hB : B ≤ w.heap.size) : Lst B w' s v es :=
  ⟨owns_le h hB, fun q hq e => by have := (World.ownsRow.lt h q hq).1; have := (hi.tv e).lt; omega⟩
/-- the state of a law that has one tree -/
structure Law (w0 w : World) (t : Nat) (s : Tr) (k : Int) : Prop where
  own : Own5 w0.heap.size w t s
  bel : Below w0.heap.size w0 w
  good : Good Mn s k
theorem Law.below {w0 w w' : World} {t : Nat} {s : Tr} {k : Int} (h : Law w0 w t s k) (hb : Below w.heap.size w w') : Law w0 w' t s k := ⟨h.own.below hb, chainB h.bel hb, h.good⟩
theorem Law.alloc {w0 w : World} {t : Nat} {s : Tr} {k : Int} (h : Law w0 w t s k) (o : Obj) : Law w0 (w.alloc o) t s k := h.below (below_alloc _ _)
theorem Law.step {w0 w w' : World} {t : Nat} {s s' : Tr} {k : Int} {o : Opn} (h : Law w0 w t s k) (p : PS w w' t s s') (hs : Step Mn s s' o) : Law w0 w' t s' (k + 1) :=
  ⟨(h.own.step h.bel h.bel.size p).1, (h.own.step h.bel h.bel.size p).2, (h.good.step o).alike hs.alike.symm⟩
theorem Law.of {ops : List Opn} {w w' : World} {e : Ending} (h : BehR ops w w' e) : ∃ t s, e = .returned (.tuple #[.pointer (some ⟨t, 0, none⟩), .bool true]) ∧ Law w w' t s ops.length := by
  obtain ⟨t, s, he, ho, ha, hb⟩ := h
  exact ⟨t, s, he, ho, hb, (good_behind Mn ops).alike ha.symm⟩
theorem Law.len {w0 w : World} {t : Nat} {s : Tr} {k : Int} (h : Law w0 w t s k) : s.es.length ≤ 1000000000 := by have := h.good.wf.len; omega
/-- what is refused turns nothing -/
theorem Step.no {s s' : Tr} {o : Opn} (h : Step Mn s s' o) (hE : doesE Mn s o ≠ 0) : s'.es = s.es ∧ s'.vers = s.vers ∧ s'.next = s.next := ⟨by rw [h.es, if_neg hE], by rw [h.vers, if_neg hE], by rw [h.next, if_neg hE]⟩
theorem Step.yes {s s' : Tr} {o : Opn} (h : Step Mn s s' o) (hE : doesE Mn s o = 0) : s'.es = srt (doesL s o) ∧ s'.vers = s.vers + 1 ∧ s'.next = doesN s o := ⟨by rw [h.es, if_pos hE], by rw [h.vers, if_pos hE], by rw [h.next, if_pos hE]⟩
theorem does_named {s : Tr} {o : Opn} (h5 : 5 ≤ o.kind) (h11 : o.kind ≤ 11) (hn : namedE Mn s.es o.dir o.nm ≠ 0) : doesE Mn s o = namedE Mn s.es o.dir o.nm := by
  unfold doesE; rw [if_neg (by omega), if_pos hn]
end
section
open Go.RowKit

theorem below_turn {W w : World} {b i : Nat} {u : Value} {cs : Array Value} {ty : TypeId} (h : Below W.heap.size W w) (hb : W.heap[b]? = some (.cells cs ty (0, 0))) : Below (W.setCell ⟨b, i, none⟩ u).heap.size (W.setCell ⟨b, i, none⟩ u) (w.setCell ⟨b, i, none⟩ u) := by
  have hz : (W.setCell ⟨b, i, none⟩ u).heap.size = W.heap.size := by simp [World.setCell]
  have hz' : (w.setCell ⟨b, i, none⟩ u).heap.size = w.heap.size := by simp [World.setCell]
  have hlt := (Array.getElem?_eq_some_iff.1 hb).1
  refine ⟨h.os, h.tape, h.output, by rw [hz, hz']; exact h.size, fun k hk => ?_⟩
  rw [hz] at hk
  by_cases e : k = b
  · subst e
    rw [heap_set hb i u, heap_set ((h.block k hk).trans hb) i u]
  · rw [heap_set_ne e, heap_set_ne e]; exact h.block k hk
theorem Law.turn {W w : World} {t : Nat} {s : Tr} {k : Int} {b i : Nat} {u : Value} {cs : Array Value} {ty : TypeId} (h : Law W w t s k) (hb : W.heap[b]? = some (.cells cs ty (0, 0))) : Law (W.setCell ⟨b, i, none⟩ u) (w.setCell ⟨b, i, none⟩ u) t s k := by
  have hz : (W.setCell ⟨b, i, none⟩ u).heap.size = W.heap.size := by simp [World.setCell]
  have hlt := (Array.getElem?_eq_some_iff.1 hb).1
  have ht := h.own.t0
  refine ⟨⟨h.own.is.moved (heap_set_ne (by omega)) (fun q hq => heap_set_ne (by have := h.own.v0 q hq; omega)), by rw [hz]; exact ht, by rw [hz]; exact h.own.v0⟩, below_turn h.bel hb, h.good⟩
theorem Lst.turn {B : Nat} {w : World} {s : Tr} {v : Value} {es : List En} {b i : Nat} {u : Value} (h : Lst B w s v es) (hb : b < B) : Lst B (w.setCell ⟨b, i, none⟩ u) s v es :=
  ⟨owns_moved h.row fun q hq => heap_set_ne (by have := (World.ownsRow.lt h.row q hq).1; omega), h.off⟩
/-- Apply, on a law's tree -/
theorem Law.apply {w0 w : World} {t : Nat} {s : Tr} {k : Int} (h : Law w0 w t s k) (o : Opn) (hk : k ≤ 4000000000000000000) : Calls Try.prog 23 #[.pointer (some ⟨t, 0, none⟩), .agg o.arr] w fun e w' => AppR Mn t s o w w' e := apply_g t s o k w h.own.is h.good hk
/-- what a mutation leaves to a law: what is told, the tree, its lists -/
structure Did (w0 w : World) (t : Nat) (s s' : Tr) (k : Int) (o : Opn) (v kv : Value) : Prop where
  law : Law w0 w t s' (k + 1)
  step : Step Mn s s' o
  told : Lst w0.heap.size w s' v (toldE Mn s o)
  keys : RowK w w0.heap.size kv (toldK Mn s o)
theorem Law.did {w0 w w' : World} {t : Nat} {s : Tr} {k : Int} {o : Opn} {e : Ending} (h : Law w0 w t s k) (ha : AppR Mn t s o w w' e) : ∃ v kv s', e = .returned (.tuple #[v, kv, .int .i64 (doesE Mn s o)]) ∧ Did w0 w' t s s' k o v kv ∧ PS w w' t s s' := by
  obtain ⟨v, kv, s', he, hps, hst, hr, hk, hoff⟩ := ha
  exact ⟨v, kv, s', he, ⟨h.step hps hst, hst, ⟨owns_le hr h.bel.size, hoff⟩, owns_le hk h.bel.size⟩, hps⟩
theorem Did.below {w0 w w' : World} {t : Nat} {s s' : Tr} {k : Int} {o : Opn} {v kv : Value} (h : Did w0 w t s s' k o v kv) (hb : Below w.heap.size w w') : Did w0 w' t s s' k o v kv := ⟨h.law.below hb, h.step, h.told.below hb, h.keys.below hb⟩
theorem keys_step {B : Nat} {w w' : World} {t : Nat} {s s' : Tr} {v : Value} {ks : List Ky} (h : RowK w B v ks) (hi : IsP w t s) (k : PS w w' t s s') : RowK w' B v ks :=
  owns_moved h fun q hq => k.keep (Tag.own h hq).lt ((Tag.own h hq).ne hi.tt (by decide)) (fun e => (Tag.own h hq).ne (hi.tv e) (by decide) rfl)
end
end Go.Proofs.Ytppbbddlbfgpfaa
