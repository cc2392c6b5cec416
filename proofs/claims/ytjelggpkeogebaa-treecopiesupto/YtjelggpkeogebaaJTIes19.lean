/- The tree, plainly: scripts of mutations. -/
import Derived.Test.YtjelggpkeogebaaJTIes06
import Derived.Test.YtjelggpkeogebaaJTIes18
import Derived.Test.YtjelggpkeogebaaJTIes02
namespace Go.Proofs.Ytjelggpkeogebaa
section
open Go.RowKit

/-- the same tree, wherever its list lies -/
structure Alike (s s' : Tr) : Prop where
  es : s.es = s'.es
  vers : s.vers = s'.vers
  next : s.next = s'.next
theorem Alike.refl (s : Tr) : Alike s s := ⟨rfl, rfl, rfl⟩
theorem Alike.symm {s s' : Tr} (h : Alike s s') : Alike s' s := ⟨h.es.symm, h.vers.symm, h.next.symm⟩
theorem Alike.trans {s s' s'' : Tr} (h : Alike s s') (k : Alike s' s'') : Alike s s'' := ⟨h.es.trans k.es, h.vers.trans k.vers, h.next.trans k.next⟩
theorem doesE_eq (M : Nms) {s s' : Tr} (h : s.es = s'.es) (o : Opn) : doesE M s o = doesE M s' o := by unfold doesE; rw [h]
theorem doesL_eq {s s' : Tr} (h : Alike s s') (o : Opn) : doesL s o = doesL s' o := by unfold doesL; rw [h.es, h.next]
theorem doesN_eq {s s' : Tr} (h : Alike s s') (o : Opn) : doesN s o = doesN s' o := by unfold doesN; rw [h.next]
theorem tellL_eq {s s' : Tr} (h : Alike s s') (o : Opn) : tellL s o = tellL s' o := by unfold tellL; rw [h.es, h.next]
/-- one mutation -/
def stepT (M : Nms) (s : Tr) (o : Opn) : Tr := if doesE M s o = 0 then ⟨s.v, srt (doesL s o), s.vers + 1, doesN s o⟩ else s
theorem stepT_alike (M : Nms) {s s' : Tr} (h : Alike s s') (o : Opn) : Alike (stepT M s o) (stepT M s' o) := by
  unfold stepT
  rw [doesE_eq M h.es, doesL_eq h, doesN_eq h, h.vers]
  split
  · exact ⟨rfl, rfl, rfl⟩
  · exact h
def runT (M : Nms) (s : Tr) (ops : List Opn) : Tr := ops.foldl (stepT M) s
theorem runT_snoc (M : Nms) (s : Tr) (ops : List Opn) (o : Opn) : runT M s (ops ++ [o]) = stepT M (runT M s ops) o := by unfold runT; rw [List.foldl_append]; rfl
theorem runT_app (M : Nms) (s : Tr) (a b : List Opn) : runT M s (a ++ b) = runT M (runT M s a) b := by unfold runT; rw [List.foldl_append]
theorem runT_alike (M : Nms) {s s' : Tr} (h : Alike s s') (ops : List Opn) : Alike (runT M s ops) (runT M s' ops) := by
  induction ops generalizing s s' with
  | nil => exact h
  | cons o ops ih => exact ih (stepT_alike M h o)
/-- a right tree, with room in its numbers for so many more mutations -/
structure Good (M : Nms) (s : Tr) (k : Int) : Prop where
  wf : WF M s.es s.next
  v0 : 0 ≤ s.vers
  v1 : s.vers ≤ k
  n1 : s.next ≤ 2 + k
theorem Good.mono {M : Nms} {s : Tr} {k k' : Int} (h : Good M s k) (hk : k ≤ k') : Good M s k' := ⟨h.wf, h.v0, by have := h.v1; omega, by have := h.n1; omega⟩
theorem Good.alike {M : Nms} {s s' : Tr} {k : Int} (h : Good M s k) (ha : Alike s s') : Good M s' k := ⟨by rw [← ha.es, ← ha.next]; exact h.wf, by rw [← ha.vers]; exact h.v0, by rw [← ha.vers]; exact h.v1, by rw [← ha.next]; exact h.n1⟩
theorem doesN_le {s : Tr} {o : Opn} : doesN s o ≤ s.next + 1 := by unfold doesN; split <;> omega
theorem Good.step {M : Nms} {s : Tr} {k : Int} (h : Good M s k) (o : Opn) : Good M (stepT M s o) (k + 1) := by
  unfold stepT
  split
  · rename_i hE
    refine ⟨h.wf.step (deed h.wf hE), ?_, ?_, ?_⟩
    · show 0 ≤ s.vers + 1; have := h.v0; omega
    · show s.vers + 1 ≤ _; have := h.v1; omega
    · show doesN s o ≤ _; have := h.n1; have := doesN_le (s := s) (o := o); omega
  · exact h.mono (by omega)
theorem Good.run {M : Nms} {s : Tr} {k : Int} (h : Good M s k) (ops : List Opn) : Good M (runT M s ops) (k + ops.length) := by
  induction ops generalizing s k with
  | nil => simpa [runT] using h
  | cons o ops ih =>
    have := ih (h.step o)
    have e : k + 1 + (ops.length : Int) = k + ((o :: ops).length : Nat) := by simp; omega
    rw [e] at this
    exact this
def emptyT : Tr := ⟨.slice none 0 0, [], 0, 2⟩
theorem Good.new (M : Nms) : Good M emptyT 0 := ⟨WF.new M, Int.le_refl _, Int.le_refl _, Int.le_refl _⟩
theorem good_behind (M : Nms) (ops : List Opn) : Good M (runT M emptyT ops) ops.length := by simpa using (Good.new M).run ops
end
section
open Go.RowKit
attribute [local go_sem high] eqK' neqK' eqE neqE eqN neqN guardK guardE guardN

structure CellsO (w : World) (g o : Nat) (p : Opn) : Prop where
  c0 : w.cell? ⟨g, o, none⟩ = some (.int .i64 p.kind)
  c1 : w.cell? ⟨g, o + 1, none⟩ = some (.int .i64 p.dir)
  c2 : w.cell? ⟨g, o + 2, none⟩ = some (.string p.nm)
  c3 : w.cell? ⟨g, o + 3, none⟩ = some (.int .i64 p.dst)
  c4 : w.cell? ⟨g, o + 4, none⟩ = some (.string p.new)
  c5 : w.cell? ⟨g, o + 5, none⟩ = some (.int .i64 p.mode)
  c6 : w.cell? ⟨g, o + 6, none⟩ = some (.string p.tg)
theorem CellsO.below {w w' : World} {g o B : Nat} {p : Opn} (h : CellsO w g o p) (hB : g < B) (hb : Below B w w') : CellsO w' g o p :=
  ⟨(hb.cell (p := ⟨g, o, none⟩) hB).trans h.c0, (hb.cell (p := ⟨g, o + 1, none⟩) hB).trans h.c1, (hb.cell (p := ⟨g, o + 2, none⟩) hB).trans h.c2, (hb.cell (p := ⟨g, o + 3, none⟩) hB).trans h.c3, (hb.cell (p := ⟨g, o + 4, none⟩) hB).trans h.c4, (hb.cell (p := ⟨g, o + 5, none⟩) hB).trans h.c5, (hb.cell (p := ⟨g, o + 6, none⟩) hB).trans h.c6⟩
/-- a script that came in -/
def RowOps (w : World) (a : Option Addr) (ops : List Opn) : Prop := ops = [] ∨ ∃ b off, a = some ⟨b, off, none⟩ ∧ b < w.heap.size ∧ ∀ i p, ops[i]? = some p → CellsO w b (off + i * 7) p
theorem RowOps.below {w w' : World} {a : Option Addr} {ops : List Opn} (h : RowOps w a ops) (hb : Below w.heap.size w w') : RowOps w' a ops := by
  rcases h with h | ⟨b, off, rfl, hl, hc⟩
  · exact .inl h
  · exact .inr ⟨b, off, rfl, Nat.lt_of_lt_of_le hl hb.size, fun i p hp => (hc i p hp).below hl hb⟩
/-- a tree of the law's own -/
structure Own5 (B : Nat) (w : World) (t : Nat) (s : Tr) : Prop where
  is : IsP w t s
  t0 : B ≤ t
  v0 : ∀ q, s.v.ownBlock = some q → B ≤ q
theorem Own5.below {B : Nat} {w w' : World} {t : Nat} {s : Tr} (h : Own5 B w t s) (hb : Below w.heap.size w w') : Own5 B w' t s := ⟨h.is.below hb, h.t0, h.v0⟩
theorem Own5.step {B : Nat} {w0 w w' : World} {t : Nat} {s s' : Tr} (h : Own5 B w t s) (hb : Below B w0 w) (hB : B ≤ w.heap.size) (k : PS w w' t s s') : Own5 B w' t s' ∧ Below B w0 w' :=
  ⟨⟨k.is, h.t0, fun q hq => by
    rcases k.v with e | e
    · exact h.v0 q (by rw [← e]; exact hq)
    · exact Nat.le_trans hB (e q hq)⟩, k.only.below hb hB (fun q hq => hq.elim (fun e => e ▸ h.t0) (h.v0 q))⟩
/-- Apply, on a right tree -/
theorem apply_g (t : Nat) (s : Tr) (o : Opn) (k : Int) (w : World) (h : IsP w t s) (hg : Good Mn s k) (hk : k ≤ 4000000000000000000) :
    Calls Try.prog 10 #[.pointer (some ⟨t, 0, none⟩), .agg o.arr] w fun e w' => AppR Mn t s o w w' e :=
  apply_p Mn nmsP t s o w h hg.wf (by have := hg.n1; omega) hg.v0 (by have := hg.v1; omega)
theorem Step.alike {M : Nms} {s s' : Tr} {o : Opn} (h : Step M s s' o) : Alike s' (stepT M s o) := by
  unfold stepT
  by_cases hE : doesE M s o = 0
  · rw [if_pos hE]; exact ⟨by rw [h.es, if_pos hE], by rw [h.vers, if_pos hE], by rw [h.next, if_pos hE]⟩
  · rw [if_neg hE]; exact ⟨by rw [h.es, if_neg hE], by rw [h.vers, if_neg hE], by rw [h.next, if_neg hE]⟩
theorem take_op {ops : List Opn} {k : Nat} {o : Opn} (h : ops[k]? = some o) : ops.take (k + 1) = ops.take k ++ [o] := by rw [List.take_add_one, h]; rfl

/-- what behind answers -/
def BehR (ops : List Opn) (w w' : World) (e : Ending) : Prop := ∃ t s, e = .returned (.tuple #[.pointer (some ⟨t, 0, none⟩), .bool true]) ∧ Own5 w.heap.size w' t s ∧ Alike s (runT Mn emptyT ops) ∧ Below w.heap.size w w'
set_option maxRecDepth 20000 in
set_option maxHeartbeats 8000000 in
theorem behind_p (a : Option Addr) (cap : Nat) (ops : List Opn) (w : World) (h : RowOps w a ops) (hl : ops.length ≤ 3000000000000) :
    Calls Try.prog 14 #[.slice a ops.length cap] w fun e w' => BehR ops w w' e := by
  obtain ⟨n, hn⟩ : ∃ n, ops.length = n := ⟨_, rfl⟩
  rw [hn] at hl ⊢
  have H : Hid (RowOps w a ops ∧ ops.length = n) := ⟨h, hn⟩
  clear h hn
  go_enter Try.func14, Try.ntmps14
  go_wp2_with (go_at_call 29; refine (new_p _).mono ?_; rintro x w1 ⟨rfl, hi1, hb1⟩)
  have H1 : Hid (Own5 w.heap.size w1 w.heap.size emptyT ∧ Below w.heap.size w w1) := ⟨⟨hi1, Nat.le_refl _, fun q hq => by cases hq⟩, hb1⟩
  clear hi1 hb1
  go_loopw [5] (fun i wr => ∃ (k : Nat) (s : Tr), k ≤ n ∧ i = .int .i64 k ∧ Hid (Own5 w.heap.size wr w.heap.size s ∧ Alike s (runT Mn emptyT (ops.take k)) ∧ Below w.heap.size w wr)) (fun i _ => n - (intOf i).toNat)
  case atStart => exact ⟨0, emptyT, Nat.zero_le _, rfl, H1.out.1, Alike.refl _, H1.out.2⟩
  case round =>
    obtain ⟨k, s, hk, rfl, hI⟩ := hrel
    by_cases hkn : k < n
    · obtain ⟨o, ho⟩ : ∃ o, ops[k]? = some o := ⟨_, List.getElem?_eq_getElem (by rw [H.out.2]; exact hkn)⟩
      rcases H.out.1 with h0 | ⟨b, off, rfl, hbl, hcs⟩
      · rw [h0] at ho; simp at ho
      · have hc := (hcs k o ho).below hbl hI.out.2.2
        have x0 := hc.c0
        have x1 := hc.c1
        have x2 := hc.c2
        have x3 := hc.c3
        have x4 := hc.c4
        have x5 := hc.c5
        have x6 := hc.c6
        have hki : (k : Int) < (n : Int) := by omega
        have hgood : Good Mn s k := by
          have := (good_behind Mn (ops.take k)).alike hI.out.2.1.symm
          rw [List.length_take, H.out.2, Nat.min_eq_left hk] at this
          exact this
        have hap := apply_g w.heap.size s o k wr hI.out.1.is hgood (by omega)
        unfold Opn.arr at hap
        have HAp : Hid (Calls Try.prog 10 #[.pointer (some ⟨w.heap.size, 0, none⟩), .agg #[.int .i64 o.kind, .int .i64 o.dir, .string o.nm, .int .i64 o.dst, .string o.new, .int .i64 o.mode, .string o.tg]] wr fun e w' => AppR Mn w.heap.size s o wr w' e) := hap
        have HO : Hid (ops[k]? = some o) := ho
        clear hap hgood hc hcs ho
        go_wp2_with (go_at_call 10; refine HAp.out.mono ?_; rintro x w2 ⟨v2, k2, s2, rfl, hps, hst, -, -, -⟩; have H2 : Hid (Own5 w.heap.size w2 w.heap.size s2 ∧ Below w.heap.size w w2) := hI.out.1.step hI.out.2.2 hI.out.2.2.size hps; have HSt : Hid (Alike s2 (runT Mn emptyT (ops.take (k + 1)))) := (by rw [take_op HO.out, runT_snoc]; exact hst.alike.trans (stepT_alike Mn hI.out.2.1 o)); clear hps hst)
        exact ⟨⟨k + 1, s2, by omega, by simp, H2.out.1, HSt.out, H2.out.2⟩, by simp [intOf]; omega⟩
    · have hkn' : ¬ (k : Int) < (n : Int) := by omega
      have hke : ops.take k = ops := List.take_of_length_le (by rw [H.out.2]; omega)
      have HA : Hid (Alike s (runT Mn emptyT ops)) := by have := hI.out.2.1; rw [hke] at this; exact this
      clear hke
      go_wp2
      go_ret2
      exact ⟨_, s, rfl, hI.out.1, HA.out, hI.out.2.2⟩
end
section
open Go.RowKit
attribute [local go_sem high] eqK neqK eqE neqE eqN neqN guardK guardE guardN

/-- are two lists the same -/
def sameEs : List En → List En → Bool
  | [], [] => true
  | a :: l, b :: m => eqEn a b && sameEs l m
  | _, _ => false
theorem sameEs_iff : ∀ (l m : List En), sameEs l m = true ↔ l = m
  | [], [] => by simp [sameEs]
  | [], b :: m => by simp [sameEs]
  | a :: l, [] => by simp [sameEs]
  | a :: l, b :: m => by
    rw [sameEs, Bool.and_eq_true, sameEs_iff l m]
    rw [eqEn_iff, List.cons.injEq]
theorem sameEs_no {l m : List En} (h : ¬ l = m) : sameEs l m = false := by
  cases k : sameEs l m with
  | false => rfl
  | true => exact absurd ((sameEs_iff l m).1 k) h
set_option maxHeartbeats 4000000 in
theorem sameE_any (v v' : Value) (l l' : List En) (base base' : Nat) (w : World) (h : Row7 w base v l) (h' : Row7 w base' v' l') (hl : l.length ≤ 1000000000) (hl' : l'.length ≤ 1000000000) :
    Calls Try.prog 12 #[v, v'] w fun e w' => e = .returned (.bool (sameEs l l')) ∧ Below w.heap.size w w' := by
  obtain ⟨a, cap, rfl⟩ := owns_len h
  obtain ⟨a', cap', rfl⟩ := owns_len h'
  by_cases hn : l.length = l'.length
  · obtain ⟨n, hn1⟩ : ∃ n, l.length = n := ⟨_, rfl⟩
    have hn2 : l'.length = n := by omega
    rw [hn1] at hl
    have HC : Hid (Row7 w base (.slice a n cap) l ∧ Row7 w base' (.slice a' n cap') l' ∧ l.length = n ∧ l'.length = n) := ⟨by rw [← hn1]; exact h, by rw [← hn2]; exact h', hn1, hn2⟩
    rw [hn1, hn2]
    clear h h' hn hn1 hn2 hl'
    go_enter Try.func12, Try.ntmps12
    go_wp2
    go_loopw [5] (fun i wr => ∃ k : Nat, k ≤ n ∧ i = .int .i64 k ∧ l.take k = l'.take k ∧ Below w.heap.size w wr) (fun i _ => n - (intOf i).toNat)
    case atStart => exact ⟨0, Nat.zero_le _, rfl, rfl, Below.refl _ _⟩
    case round =>
      obtain ⟨k, hk, rfl, ht, hb⟩ := hrel
      by_cases hlt : k < n
      · obtain ⟨e, he⟩ : ∃ x, l[k]? = some x := ⟨_, List.getElem?_eq_getElem (by rw [HC.out.2.2.1]; exact hlt)⟩
        obtain ⟨f, hf⟩ : ∃ x, l'[k]? = some x := ⟨_, List.getElem?_eq_getElem (by rw [HC.out.2.2.2]; exact hlt)⟩
        obtain ⟨g, rfl, -, -, -, hc, -⟩ := owns_entry (HC.out.1.below hb) he
        obtain ⟨g', rfl, -, -, -, hc', -⟩ := owns_entry (HC.out.2.1.below hb) hf
        have x0 := hc.c0
        have x1 := hc.c1
        have x2 := hc.c2
        have x3 := hc.c3
        have x4 := hc.c4
        have x5 := hc.c5
        have x6 := hc.c6
        have y0 := hc'.c0
        have y1 := hc'.c1
        have y2 := hc'.c2
        have y3 := hc'.c3
        have y4 := hc'.c4
        have y5 := hc'.c5
        have y6 := hc'.c6
        have hki : (k : Int) < (n : Int) := by omega
        by_cases hxx : e = f
        · have HT : Hid (l.take (k + 1) = l'.take (k + 1)) := take_snocE ht he (hxx ▸ hf)
          subst hxx
          obtain ⟨e0, e1, e2, e3, e4, e5, e6⟩ := e
          have heq : eqEn ⟨e0, e1, e2, e3, e4, e5, e6⟩ ⟨e0, e1, e2, e3, e4, e5, e6⟩ = true := (eqEn_iff _ _).2 rfl
          clear he hf ht hc hc'
          go_upto_region 6 with fail
          go_quiet (fail)
          go_wp2
          exact ⟨⟨k + 1, by omega, by simp, HT.out, below_drewN hb _⟩, by simp [intOf]; omega⟩
        · have HE : Hid (sameEs l l' = false) := sameEs_no (by rintro rfl; rw [he] at hf; exact hxx (Option.some.inj hf))
          obtain ⟨e0, e1, e2, e3, e4, e5, e6⟩ := e
          obtain ⟨f0, f1, f2, f3, f4, f5, f6⟩ := f
          have hne : eqEn ⟨e0, e1, e2, e3, e4, e5, e6⟩ ⟨f0, f1, f2, f3, f4, f5, f6⟩ = false := eqEn_no hxx
          clear he hf ht hc hc' hxx
          go_upto_region 6 with fail
          go_quiet (fail)
          go_wp2
          go_ret
          exact ⟨by rw [HE.out]; rfl, below_drewN hb _⟩
      · have hkl : k = n := by omega
        subst hkl
        have HE : Hid (sameEs l l' = true) := (sameEs_iff l l').2 (take_eqE ht HC.out.2.2.1.symm HC.out.2.2.2.symm)
        clear ht
        go_wp2
        go_ret
        exact ⟨by rw [HE.out]; rfl, hb⟩
  · have HE : Hid (sameEs l l' = false) := sameEs_no (by rintro rfl; exact hn rfl)
    have hne : ((l.length : Int) != (l'.length : Int)) = true := by simp; omega
    clear h h'
    go_enter Try.func12, Try.ntmps12
    go_wp2
    go_ret
    exact ⟨by rw [HE.out]; rfl, Below.refl _ _⟩
end
section
open Go.RowKit

/-- a list of entries that is not the tree's -/
structure Lst (B : Nat) (w : World) (s : Tr) (v : Value) (es : List En) : Prop where
  row : Row7 w B v es
  off : ∀ q, v.ownBlock = some q → s.v.ownBlock ≠ some q
theorem Lst.below {B : Nat} {w w' : World} {s : Tr} {v : Value} {es : List En} (h : Lst B w s v es) (hb : Below w.heap.size w w') : Lst B w' s v es := ⟨h.row.below hb, h.off⟩
theorem Lst.step {B : Nat} {w w' : World} {t : Nat} {s s' : Tr} {v : Value} {es : List En} (h : Lst B w s v es) (hi : IsP w t s) (k : PS w w' t s s') : Lst B w' s' v es :=
  ⟨owns_moved h.row fun q hq => k.keep (Tag.own h.row hq).lt ((Tag.own h.row hq).ne hi.tt (by decide)) (h.off q hq), fun q hq => by
    rcases k.v with e | e
    · rw [e]; exact h.off q hq
    · intro hh; have := e q hh; have := (Tag.own h.row hq).lt; omega⟩
theorem Lst.of {B : Nat} {w w' : World} {t : Nat} {s : Tr} {v : Value} {es : List En} (hi : IsP w t s) (h : Row7 w' w.heap.size v es) (hB : B ≤ w.heap.size) : Lst B w' s v es :=
  ⟨owns_le h hB, fun q hq e => by have := (World.ownsRow.lt h q hq).1; have := (hi.tv e).lt; omega⟩
/-- the state of a law that has one tree -/
structure Law (w0 w : World) (t : Nat) (s : Tr) (k : Int) : Prop where
  own : Own5 w0.heap.size w t s
  bel : Below w0.heap.size w0 w
  good : Good Mn s k
theorem Law.below {w0 w w' : World} {t : Nat} {s : Tr} {k : Int} (h : Law w0 w t s k) (hb : Below w.heap.size w w') : Law w0 w' t s k := ⟨h.own.below hb, chainB h.bel hb, h.good⟩
theorem Law.alloc {w0 w : World} {t : Nat} {s : Tr} {k : Int} (h : Law w0 w t s k) (o : Obj) : Law w0 (w.alloc o) t s k := h.below (below_alloc _ _)
theorem Law.step {w0 w w' : World} {t : Nat} {s s' : Tr} {k : Int} {o : Opn} (h : Law w0 w t s k) (p : PS w w' t s s') (hs : Step Mn s s' o) : Law w0 w' t s' (k + 1) :=
  ⟨(h.own.step h.bel h.bel.size p).1, (h.own.step h.bel h.bel.size p).2, (h.good.step o).alike hs.alike.symm⟩
theorem Law.of {ops : List Opn} {w w' : World} {e : Ending} (h : BehR ops w w' e) : ∃ t s, e = .returned (.tuple #[.pointer (some ⟨t, 0, none⟩), .bool true]) ∧ Law w w' t s ops.length := by
  obtain ⟨t, s, he, ho, ha, hb⟩ := h
  exact ⟨t, s, he, ho, hb, (good_behind Mn ops).alike ha.symm⟩
/-- two lists that are the same -/
theorem same_yes {v v' : Value} {l : List En} {B B' : Nat} {w : World} (h : Row7 w B v l) (h' : Row7 w B' v' l) (hl : l.length ≤ 1000000000) :
    Calls Try.prog 12 #[v, v'] w fun e w' => e = .returned (.bool true) ∧ Below w.heap.size w w' := by
  have := sameE_any v v' l l B B' w h h' hl hl
  rw [(sameEs_iff l l).2 rfl] at this
  exact this
theorem Law.len {w0 w : World} {t : Nat} {s : Tr} {k : Int} (h : Law w0 w t s k) : s.es.length ≤ 1000000000 := by have := h.good.wf.len; omega
/-- what is refused turns nothing -/
theorem Step.no {s s' : Tr} {o : Opn} (h : Step Mn s s' o) (hE : doesE Mn s o ≠ 0) : s'.es = s.es ∧ s'.vers = s.vers ∧ s'.next = s.next := ⟨by rw [h.es, if_neg hE], by rw [h.vers, if_neg hE], by rw [h.next, if_neg hE]⟩
theorem Step.yes {s s' : Tr} {o : Opn} (h : Step Mn s s' o) (hE : doesE Mn s o = 0) : s'.es = srt (doesL s o) ∧ s'.vers = s.vers + 1 ∧ s'.next = doesN s o := ⟨by rw [h.es, if_pos hE], by rw [h.vers, if_pos hE], by rw [h.next, if_pos hE]⟩
theorem does_named {s : Tr} {o : Opn} (h5 : 5 ≤ o.kind) (h11 : o.kind ≤ 11) (hn : namedE Mn s.es o.dir o.nm ≠ 0) : doesE Mn s o = namedE Mn s.es o.dir o.nm := by
  unfold doesE; rw [if_neg (by omega), if_pos hn]
end
section
open Go.RowKit

theorem below_turn {W w : World} {b i : Nat} {u : Value} {cs : Array Value} {ty : TypeId} (h : Below W.heap.size W w) (hb : W.heap[b]? = some (.cells cs ty (0, 0))) : Below (W.setCell ⟨b, i, none⟩ u).heap.size (W.setCell ⟨b, i, none⟩ u) (w.setCell ⟨b, i, none⟩ u) := by
  have hz : (W.setCell ⟨b, i, none⟩ u).heap.size = W.heap.size := by simp [World.setCell]
  have hz' : (w.setCell ⟨b, i, none⟩ u).heap.size = w.heap.size := by simp [World.setCell]
  have hlt := (Array.getElem?_eq_some_iff.1 hb).1
  refine ⟨h.os, h.tape, h.output, by rw [hz, hz']; exact h.size, fun k hk => ?_⟩
  rw [hz] at hk
  by_cases e : k = b
  · subst e
    rw [heap_set hb i u, heap_set ((h.block k hk).trans hb) i u]
  · rw [heap_set_ne e, heap_set_ne e]; exact h.block k hk
theorem Law.turn {W w : World} {t : Nat} {s : Tr} {k : Int} {b i : Nat} {u : Value} {cs : Array Value} {ty : TypeId} (h : Law W w t s k) (hb : W.heap[b]? = some (.cells cs ty (0, 0))) : Law (W.setCell ⟨b, i, none⟩ u) (w.setCell ⟨b, i, none⟩ u) t s k := by
  have hz : (W.setCell ⟨b, i, none⟩ u).heap.size = W.heap.size := by simp [World.setCell]
  have hlt := (Array.getElem?_eq_some_iff.1 hb).1
  have ht := h.own.t0
  refine ⟨⟨h.own.is.moved (heap_set_ne (by omega)) (fun q hq => heap_set_ne (by have := h.own.v0 q hq; omega)), by rw [hz]; exact ht, by rw [hz]; exact h.own.v0⟩, below_turn h.bel hb, h.good⟩
theorem Lst.turn {B : Nat} {w : World} {s : Tr} {v : Value} {es : List En} {b i : Nat} {u : Value} (h : Lst B w s v es) (hb : b < B) : Lst B (w.setCell ⟨b, i, none⟩ u) s v es :=
  ⟨owns_moved h.row fun q hq => heap_set_ne (by have := (World.ownsRow.lt h.row q hq).1; omega), h.off⟩
/-- Apply, on a law's tree -/
theorem Law.apply {w0 w : World} {t : Nat} {s : Tr} {k : Int} (h : Law w0 w t s k) (o : Opn) (hk : k ≤ 4000000000000000000) : Calls Try.prog 10 #[.pointer (some ⟨t, 0, none⟩), .agg o.arr] w fun e w' => AppR Mn t s o w w' e := apply_g t s o k w h.own.is h.good hk
/-- what a mutation leaves to a law: what is told, the tree, its lists -/
structure Did (w0 w : World) (t : Nat) (s s' : Tr) (k : Int) (o : Opn) (v kv : Value) : Prop where
  law : Law w0 w t s' (k + 1)
  step : Step Mn s s' o
  told : Lst w0.heap.size w s' v (toldE Mn s o)
  keys : RowK w w0.heap.size kv (toldK Mn s o)
theorem Law.did {w0 w w' : World} {t : Nat} {s : Tr} {k : Int} {o : Opn} {e : Ending} (h : Law w0 w t s k) (ha : AppR Mn t s o w w' e) : ∃ v kv s', e = .returned (.tuple #[v, kv, .int .i64 (doesE Mn s o)]) ∧ Did w0 w' t s s' k o v kv ∧ PS w w' t s s' := by
  obtain ⟨v, kv, s', he, hps, hst, hr, hk, hoff⟩ := ha
  exact ⟨v, kv, s', he, ⟨h.step hps hst, hst, ⟨owns_le hr h.bel.size, hoff⟩, owns_le hk h.bel.size⟩, hps⟩
theorem Did.below {w0 w w' : World} {t : Nat} {s s' : Tr} {k : Int} {o : Opn} {v kv : Value} (h : Did w0 w t s s' k o v kv) (hb : Below w.heap.size w w') : Did w0 w' t s s' k o v kv := ⟨h.law.below hb, h.step, h.told.below hb, h.keys.below hb⟩
theorem keys_step {B : Nat} {w w' : World} {t : Nat} {s s' : Tr} {v : Value} {ks : List Ky} (h : RowK w B v ks) (hi : IsP w t s) (k : PS w w' t s s') : RowK w' B v ks :=
  owns_moved h fun q hq => k.keep (Tag.own h hq).lt ((Tag.own h hq).ne hi.tt (by decide)) (fun e => (Tag.own h hq).ne (hi.tv e) (by decide) rfl)
end
end Go.Proofs.Ytjelggpkeogebaa
