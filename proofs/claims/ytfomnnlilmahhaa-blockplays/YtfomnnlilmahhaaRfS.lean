/- Scripts: how a disk and the document's go on alike; pairs of them, apart. -/
import Derived.Test.YtfomnnlilmahhaaRfL
namespace Go.Proofs.Ytfomnnlilmahhaa
open Go.RowKit

theorem Sim.new (N : Nat) : Sim (Dsk.new N) (Rf.new N) :=
  ⟨new_len N, rfl, rfl, .inl ⟨rfl, rfl⟩, fun i hi => by have hi' : i < N := hi; show (List.replicate N zeros)[i]? = some zeros; rw [List.getElem?_replicate, if_pos hi']⟩
theorem Sim.cut {s : Dsk} {R : Rf} (h : Sim s R) : Sim s.cut R.cut := ⟨h.n, rfl, h.wr, .inl ⟨rfl, rfl⟩, h.cs⟩
theorem Sim.power {s : Dsk} {R : Rf} (h : Sim s R) : Sim s.power R.power := ⟨h.n, rfl, h.wr, .inl ⟨rfl, rfl⟩, h.cs⟩
theorem Sim.fuse {s : Dsk} {R : Rf} (h : Sim s R) (n : Int) (hn : n ≤ 9223372036854775807) : s.fuseE n = R.fuseE n ∧ Sim (s.fuse n) (R.fuse n) := by
  unfold Dsk.fuseE Dsk.fuse Rf.fuseE Rf.fuse
  rw [h.on]
  by_cases h0 : n < 0
  · simp only [if_pos h0]; exact ⟨trivial, h⟩
  · simp only [if_neg h0]
    by_cases ho : R.lit = true
    · simp only [if_pos ho]
      exact ⟨trivial, ⟨h.n, rfl, h.wr, .inr ⟨rfl, ho, by show 0 ≤ n; omega, hn, rfl⟩, h.cs⟩⟩
    · simp only [if_neg ho]; exact ⟨trivial, h⟩
theorem Sim.spend {s : Dsk} {R : Rf} (h : Sim s R) : s.spend.on = (R.lit && !decide (R.fz = 0)) := by
  unfold Dsk.spend
  rcases h.fz with ⟨e1, e2⟩ | ⟨e1, e2, e3, _, e4⟩
  · rw [e1, if_neg (by decide), h.on, e2]; simp
  · rw [e1, if_pos rfl, e4]
    by_cases hz : s.left = 0
    · rw [if_pos hz, decide_eq_true hz]; simp [Dsk.cut]
    · rw [if_neg hz, decide_eq_false hz, ← h.on]; simp
theorem Sim.wrE {s : Dsk} {R : Rf} (h : Sim s R) (i : Int) (n : Nat) : s.wrE i n = R.rwE i n := by
  unfold Dsk.wrE Rf.rwE
  rw [has_iff, h.n, h.spend]
  by_cases hi : 0 ≤ i ∧ i < R.n
  · rw [decide_eq_true hi, if_pos rfl, if_pos hi]
    by_cases hn : n = 64
    · rw [if_pos hn, if_pos hn]
      by_cases hz : R.fz = 0
      · rw [decide_eq_true hz, if_pos hz]; cases R.lit <;> rfl
      · rw [decide_eq_false hz, if_neg hz]; cases R.lit <;> rfl
    · rw [if_neg hn, if_neg hn]
  · rw [decide_eq_false hi, if_neg hi]; rfl
theorem Sim.good {s : Dsk} {R : Rf} (h : Sim s R) (hd : R.did.length < 9223372036854775807) : s.good := by
  refine ⟨fun e => ?_, by rw [h.wr]; omega, by rw [h.wr]; omega⟩
  rcases h.fz with ⟨e1, _⟩ | ⟨_, _, e3, e4, _⟩
  · rw [e1] at e; cases e
  · exact ⟨e3, e4⟩
theorem Sim.fzb {s : Dsk} {R : Rf} (h : Sim s R) : -1 ≤ R.fz ∧ R.fz ≤ 9223372036854775807 := by
  rcases h.fz with ⟨_, e⟩ | ⟨_, _, e3, e4, e5⟩ <;> omega
theorem Sim.write {s : Dsk} {R R' : Rf} (h : Sim s R) (i : Int) (l : List Int) (hA : R.After R' i l) : Sim (s.wr i l) R' ∧ R'.n = R.n ∧ R'.did.length ≤ R.did.length + 1 := by
  unfold Rf.After at hA
  unfold Dsk.wr
  rw [has_iff, h.n]
  by_cases hi : 0 ≤ i ∧ i < R.n
  · rw [decide_eq_true hi, if_pos rfl]
    by_cases hl : l.length = 64
    · rw [if_pos hl]
      by_cases ho : R.lit = true
      · rw [if_pos ⟨hi.1, hi.2, hl, ho⟩] at hA
        by_cases hz : R.fz = 0
        · rw [if_pos hz] at hA
          subst hA
          rw [if_neg (by rw [h.spend, hz]; simp)]
          have hs : s.spend = s.cut := by
            unfold Dsk.spend
            rcases h.fz with ⟨_, e⟩ | ⟨e1, _, _, _, e5⟩
            · omega
            · rw [if_pos e1, if_pos (by omega)]
          rw [hs]
          exact ⟨h.cut, rfl, Nat.le_succ _⟩
        · rw [if_neg hz] at hA
          obtain ⟨a1, a2, a3, v, a4⟩ := hA
          rw [if_pos (by rw [h.spend, ho, decide_eq_false hz]; rfl)]
          have hiN : i.toNat < s.cs.length := by rw [h.n]; omega
          refine ⟨⟨?_, ?_, ?_, ?_, ?_⟩, a1, by rw [a4, List.length_append]; exact Nat.le_refl _⟩
          · show (s.cs.set _ _).length = _; rw [List.length_set, h.n, a1]
          · show s.spend.on = _; rw [a2, h.spend, ho, decide_eq_false hz]; rfl
          · show s.writes + 1 = _; rw [h.wr, a4, List.length_append]; simp
          · rcases h.fz with ⟨e1, e2⟩ | ⟨e1, e2, e3, e4, e5⟩
            · have hs : s.spend = s := by unfold Dsk.spend; rw [e1]; rfl
              exact .inl ⟨by show s.spend.burns = _; rw [hs]; exact e1, by rw [a3, if_neg (by omega)]; exact e2⟩
            · have hs : s.spend = { s with left := s.left - 1 } := by unfold Dsk.spend; rw [if_pos e1, if_neg (by omega)]
              refine .inr ⟨by show s.spend.burns = _; rw [hs]; exact e1, by show s.spend.on = _; rw [hs]; exact e2, ?_, ?_, ?_⟩
              · show 0 ≤ s.spend.left; rw [hs]; show 0 ≤ s.left - 1; omega
              · show s.spend.left ≤ _; rw [hs]; show s.left - 1 ≤ _; omega
              · show R'.fz = s.spend.left; rw [hs, a3, if_pos (by omega)]; show R.fz - 1 = s.left - 1; omega
          · intro j hj
            rw [a1] at hj
            show (s.cs.set _ _)[j]? = _
            rw [a4, lastW_snoc]
            by_cases e : i.toNat = j
            · rw [if_pos e, e]; exact set_same _ _ _ (by omega)
            · rw [if_neg e, set_other _ _ _ _ e]; exact h.cs j hj
      · rw [if_neg (fun e => ho e.2.2.2)] at hA
        subst hA
        rw [if_neg (by rw [h.spend]; simp [ho])]
        have hs : s.spend = s := by
          unfold Dsk.spend
          rcases h.fz with ⟨e1, _⟩ | ⟨_, e2, _⟩
          · rw [e1]; rfl
          · rw [← h.on] at ho; exact absurd e2 ho
        rw [hs]
        exact ⟨h, rfl, Nat.le_succ _⟩
    · rw [if_neg (fun e => hl e.2.2.1)] at hA
      subst hA
      rw [if_neg hl]
      exact ⟨h, rfl, Nat.le_succ _⟩
  · rw [if_neg (fun e => hi ⟨e.1, e.2.1⟩)] at hA
    subst hA
    rw [decide_eq_false hi]
    exact ⟨h, rfl, Nat.le_succ _⟩

/-- a disk and the document's, in memory -/
structure Pr where
  b : Nat
  g : Nat
  s : Dsk
  r : Nat
  R : Rf
structure Pr.ok (p : Pr) (w0 : World) (N k : Nat) (w : World) : Prop where
  d : IsD w p.b p.g p.s
  r : IsR w p.r p.R
  n : p.R.n = N
  did : p.R.did.length ≤ k
  lb : w0.heap.size ≤ p.b
  lg : w0.heap.size ≤ p.g
  lr : w0.heap.size ≤ p.r
  lv : ∀ q, p.R.v.ownBlock = some q → w0.heap.size ≤ q
structure Pr.far (p q : Pr) : Prop where
  b : q.b ≠ p.b
  g : q.g ≠ p.g
  r : q.r ≠ p.r
  v : ∀ k, q.R.v.ownBlock = some k → p.R.v.ownBlock ≠ some k
theorem Pr.ok.below {p : Pr} {w0 w w' : World} {N k : Nat} (h : p.ok w0 N k w) (hb : Below w.heap.size w w') : p.ok w0 N k w' := ⟨h.d.below hb, h.r.below hb, h.n, h.did, h.lb, h.lg, h.lr, h.lv⟩
theorem Pr.ok.mono {p : Pr} {w0 w : World} {N k k' : Nat} (h : p.ok w0 N k w) (hk : k ≤ k') : p.ok w0 N k' w := ⟨h.d, h.r, h.n, Nat.le_trans h.did hk, h.lb, h.lg, h.lr, h.lv⟩
def ptrB (q : Pr) : Value := .pointer (some ⟨q.b, 0, none⟩)
def ptrR (q : Pr) : Value := .pointer (some ⟨q.r, 0, none⟩)

/-- the pair that goes on, and those that were left behind -/
structure All (w0 : World) (N k : Nat) (w : World) (p : Pr) (qs : List Pr) (vd vw : Value) : Prop where
  cur : p.ok w0 N k w
  old : ∀ q ∈ qs, q.ok w0 N k w ∧ Sim q.s q.R
  far : ∀ q ∈ qs, p.far q
  bel : Below w0.heap.size w0 w
  ds : w.ownsRow w0.heap.size 23 1 vd qs.length (qs.map ptrB)
  ws : w.ownsRow w0.heap.size 27 1 vw qs.length (qs.map ptrR)
theorem All.below {w0 w w' : World} {N k : Nat} {p : Pr} {qs : List Pr} {vd vw : Value} (h : All w0 N k w p qs vd vw) (hb : Below w.heap.size w w') : All w0 N k w' p qs vd vw :=
  ⟨h.cur.below hb, fun q hq => ⟨(h.old q hq).1.below hb, (h.old q hq).2⟩, h.far, chainB h.bel hb, owns_moved h.ds fun j hj => hb.block j (Tag.own h.ds hj).lt, owns_moved h.ws fun j hj => hb.block j (Tag.own h.ws hj).lt⟩
theorem All.drew {w0 w : World} {N k : Nat} {p : Pr} {qs : List Pr} {vd vw : Value} (h : All w0 N k w p qs vd vw) : All w0 N k w.drew p qs vd vw := h.below (Below.refl _ _).drew
theorem All.mono {w0 w : World} {N k k' : Nat} {p : Pr} {qs : List Pr} {vd vw : Value} (h : All w0 N k w p qs vd vw) (hk : k ≤ k') : All w0 N k' w p qs vd vw :=
  ⟨h.cur.mono hk, fun q hq => ⟨(h.old q hq).1.mono hk, (h.old q hq).2⟩, h.far, h.bel, h.ds, h.ws⟩
/-- the disk that goes on is written -/
theorem All.disk {w0 w w' : World} {N k : Nat} {p : Pr} {qs : List Pr} {vd vw : Value} {s' : Dsk} (h : All w0 N k w p qs vd vw) (hD : IsD w' p.b p.g s') (hO : Only (fun x => x = p.b ∨ x = p.g) w w') : All w0 N k w' { p with s := s' } qs vd vw := by
  have key : ∀ k t, Tag w k t → t ≠ 67 → t ≠ 69 → w'.heap[k]? = w.heap[k]? := fun k t ht h1 h2 =>
    hO.block k ht.lt (fun e => e.elim (ht.ne h.cur.d.tb h1) (ht.ne h.cur.d.tg h2))
  refine ⟨⟨hD, h.cur.r.disk h.cur.d hO, h.cur.n, h.cur.did, h.cur.lb, h.cur.lg, h.cur.lr, h.cur.lv⟩, fun q hq => ?_, fun q hq => ⟨(h.far q hq).b, (h.far q hq).g, (h.far q hq).r, (h.far q hq).v⟩, ?_, ?_, ?_⟩
  · obtain ⟨o, hs⟩ := h.old q hq
    exact ⟨⟨o.d.other h.cur.d (h.far q hq).b (h.far q hq).g hO, o.r.disk h.cur.d hO, o.n, o.did, o.lb, o.lg, o.lr, o.lv⟩, hs⟩
  · exact hO.below h.bel h.bel.size (fun _ e => e.elim (fun e => e ▸ h.cur.lb) (fun e => e ▸ h.cur.lg))
  · exact owns_moved h.ds fun j hj => key j _ (Tag.own h.ds hj) (by decide) (by decide)
  · exact owns_moved h.ws fun j hj => key j _ (Tag.own h.ws hj) (by decide) (by decide)
/-- the document's is written -/
theorem All.ref {w0 w w' : World} {N k k' : Nat} {p : Pr} {qs : List Pr} {vd vw : Value} {R' : Rf} (h : All w0 N k w p qs vd vw) (hR : IsR w' p.r R') (hO : Only (fun x => x = p.r ∨ p.R.v.ownBlock = some x) w w') (hn : R'.n = p.R.n) (hd : R'.did.length ≤ k') (hk : k ≤ k')
    (hv : R'.v.ownBlock = p.R.v.ownBlock ∨ ∀ q, R'.v.ownBlock = some q → w.heap.size ≤ q) : All w0 N k' w' { p with R := R' } qs vd vw := by
  have key : ∀ k t, Tag w k t → t ≠ 51 → t ≠ 71 → w'.heap[k]? = w.heap[k]? := fun k t ht h1 h2 =>
    hO.block k ht.lt (fun e => e.elim (ht.ne h.cur.r.tr h1) (fun e => ht.ne (h.cur.r.tv e) h2 rfl))
  refine ⟨⟨h.cur.d.ref h.cur.r hO, hR, hn.trans h.cur.n, hd, h.cur.lb, h.cur.lg, h.cur.lr, fun q hq => ?_⟩, fun q hq => ?_, fun q hq => ⟨(h.far q hq).b, (h.far q hq).g, (h.far q hq).r, fun j hj e => ?_⟩, ?_, ?_, ?_⟩
  · rcases hv with e | e
    · exact h.cur.lv q (by rw [← e]; exact hq)
    · exact Nat.le_trans h.bel.size (e q hq)
  · obtain ⟨o, hs⟩ := (h.mono hk).old q hq
    exact ⟨⟨o.d.ref h.cur.r hO, o.r.other h.cur.r (h.far q hq).r (h.far q hq).v hO, o.n, o.did, o.lb, o.lg, o.lr, o.lv⟩, hs⟩
  · rcases hv with e' | e'
    · exact (h.far q hq).v j hj (by rw [← e']; exact e)
    · have := e' j e
      have := ((h.old q hq).1.r.tv hj).lt
      omega
  · exact hO.below h.bel h.bel.size (fun q e => e.elim (fun e => e ▸ h.cur.lr) (fun e => h.cur.lv q e))
  · exact owns_moved h.ds fun j hj => key j _ (Tag.own h.ds hj) (by decide) (by decide)
  · exact owns_moved h.ws fun j hj => key j _ (Tag.own h.ws hj) (by decide) (by decide)
theorem All.refB {w0 w w' : World} {N k : Nat} {p : Pr} {qs : List Pr} {vd vw : Value} {R' : Rf} (h : All w0 N k w p qs vd vw) (hR : IsR w' p.r R') (hO : Only (· = p.r) w w') (hn : R'.n = p.R.n) (hd : R'.did = p.R.did) (hv : R'.v = p.R.v) : All w0 N k w' { p with R := R' } qs vd vw :=
  h.ref hR (hO.mono fun _ e => .inl e) hn (by rw [hd]; exact h.cur.did) (Nat.le_refl _) (.inl (by rw [hv]))
theorem All.diskB {w0 w w' : World} {N k : Nat} {p : Pr} {qs : List Pr} {vd vw : Value} {s' : Dsk} (h : All w0 N k w p qs vd vw) (hD : IsD w' p.b p.g s') (hO : Only (· = p.b) w w') : All w0 N k w' { p with s := s' } qs vd vw :=
  h.disk hD (hO.mono fun _ e => .inl e)

/-- blocks of another make are written -/
theorem Pr.ok.apart {S : Nat → Prop} {p : Pr} {w0 w w' : World} {N k : Nat} (h : p.ok w0 N k w) (hO : Only S w w') (hS : ∀ j t, Tag w j t → (t = 67 ∨ t = 69 ∨ t = 51 ∨ t = 71 ∨ t = 5) → ¬ S j) : p.ok w0 N k w' :=
  ⟨h.d.only hO (hS _ _ h.d.tb (by decide)) (hS _ _ h.d.tg (by decide)), h.r.moved (hO.block _ h.r.tr.lt (hS _ _ h.r.tr (by decide))) (fun j hj => hO.block _ (h.r.tv hj).lt (hS _ _ (h.r.tv hj) (by decide))) (fun j hj => hO.block _ hj.lt (hS _ _ hj (by decide))), h.n, h.did, h.lb, h.lg, h.lr, h.lv⟩
theorem only_grown {wr w1 : World} {o : Obj} {r : Option Nat} (h : (wr.alloc o).grownBy w1 r) : Only (fun q => r = some q) wr w1 :=
  ⟨h.os, h.tape, h.output, Nat.le_trans (by simp) h.size, fun k hk hn => (h.block k (by simp; omega) (fun e => hn e.symm)).trans (Below.heap_alloc _ _ _ hk)⟩
theorem All.ws_on {w0 w w1 : World} {N k : Nat} {p : Pr} {qs : List Pr} {vd vw : Value} {o : Obj} (h : All w0 N k w p qs vd vw) (hg : (w.alloc o).grownBy w1 vd.ownBlock) : w1.ownsRow w0.heap.size 27 1 vw qs.length (qs.map ptrR) :=
  owns_moved h.ws fun j hj => (only_grown hg).block j (Tag.own h.ws hj).lt (fun e => (Tag.own h.ws hj).ne (Tag.own h.ds e) (by decide) rfl)
/-- one more is left behind -/
theorem All.push {w0 w w1 w2 : World} {N k : Nat} {p c : Pr} {qs : List Pr} {vd vw vd' vw' : Value} {o o' : Obj} (h : All w0 N k w p qs vd vw) (hc : c.ok w0 N k w) (hcs : Sim c.s c.R) (hcf : p.far c) (hg : (w.alloc o).grownBy w1 vd.ownBlock) (ho : w1.ownsRow w0.heap.size 23 1 vd' (qs.length + 1) (qs.map ptrB ++ [ptrB c]))
    (hg' : (w1.alloc o').grownBy w2 vw.ownBlock) (ho' : w2.ownsRow w0.heap.size 27 1 vw' (qs.length + 1) (qs.map ptrR ++ [ptrR c])) : All w0 N k w2 p (qs ++ [c]) vd' vw' := by
  have hO := only_grown hg
  have hO' := only_grown hg'
  have hws := h.ws_on hg
  have t1 : ∀ j t, Tag w j t → (t = 67 ∨ t = 69 ∨ t = 51 ∨ t = 71 ∨ t = 5) → ¬ (vd.ownBlock = some j) := fun j t ht he e => by
    refine ht.ne (Tag.own h.ds e) ?_ rfl
    rcases he with rfl | rfl | rfl | rfl | rfl <;> decide
  have t2 : ∀ j t, Tag w1 j t → (t = 67 ∨ t = 69 ∨ t = 51 ∨ t = 71 ∨ t = 5) → ¬ (vw.ownBlock = some j) := fun j t ht he e => by
    refine ht.ne (Tag.own hws e) ?_ rfl
    rcases he with rfl | rfl | rfl | rfl | rfl <;> decide
  have key : ∀ q : Pr, q.ok w0 N k w → q.ok w0 N k w2 := fun q hq => (hq.apart hO t1).apart hO' t2
  refine ⟨key p h.cur, fun q hq => ?_, fun q hq => ?_, ?_, ?_, ?_⟩
  · rcases List.mem_append.1 hq with hq | hq
    · exact ⟨key q (h.old q hq).1, (h.old q hq).2⟩
    · obtain rfl := List.mem_singleton.1 hq
      exact ⟨key q hc, hcs⟩
  · rcases List.mem_append.1 hq with hq | hq
    · exact h.far q hq
    · obtain rfl := List.mem_singleton.1 hq
      exact hcf
  · have b1 := hO.below h.bel h.bel.size (fun q e => (World.ownsRow.lt h.ds q e).1)
    exact hO'.below b1 b1.size (fun q e => (World.ownsRow.lt hws q e).1)
  · rw [List.length_append, List.map_append]
    exact owns_moved ho fun j hj => hO'.block j (Tag.own ho hj).lt (fun e => (Tag.own ho hj).ne (Tag.own hws e) (by decide) rfl)
  · rw [List.length_append, List.map_append]
    exact ho'
/-- a copy of the pair that goes on -/
theorem All.copied {w0 w w1 w2 : World} {N k b g b' g' r r' : Nat} {s : Dsk} {R : Rf} {v' : Value} {qs : List Pr} {vd vw : Value} (h : All w0 N k w ⟨b, g, s, r, R⟩ qs vd vw) (hb : w.heap.size ≤ b') (hg : w.heap.size ≤ g') (hD : IsD w1 b' g' s) (hB : Below w.heap.size w w1)
    (hr : w1.heap.size ≤ r') (hR : IsR w2 r' { R with v := v' }) (hv : ∀ q, v'.ownBlock = some q → w1.heap.size ≤ q) (hB2 : Below w1.heap.size w1 w2) :
    All w0 N k w2 ⟨b, g, s, r, R⟩ qs vd vw ∧ All w0 N k w2 ⟨b', g', s, r', { R with v := v' }⟩ qs vd vw ∧ Pr.far ⟨b, g, s, r, R⟩ ⟨b', g', s, r', { R with v := v' }⟩ ∧ Pr.far ⟨b', g', s, r', { R with v := v' }⟩ ⟨b, g, s, r, R⟩ := by
  have h2 := (h.below hB).below hB2
  have z1 := h.bel.size
  have z2 := hB.size
  have x1 : b < w.heap.size := h.cur.d.lb
  have x2 : g < w.heap.size := h.cur.d.lg
  have x3 : r < w.heap.size := h.cur.r.tr.lt
  have x4 : ∀ j, R.v.ownBlock = some j → j < w.heap.size := fun j hj => (h.cur.r.tv hj).lt
  refine ⟨h2, ⟨⟨hD.below hB2, hR, h.cur.n, h.cur.did, by show w0.heap.size ≤ b'; omega, by show w0.heap.size ≤ g'; omega, by show w0.heap.size ≤ r'; omega, fun q hq => by have := hv q hq; omega⟩, h2.old, fun q hq => ?_, h2.bel, h2.ds, h2.ws⟩, ⟨by show b' ≠ b; omega, by show g' ≠ g; omega, by show r' ≠ r; omega, fun j hj e => ?_⟩, ⟨by show b ≠ b'; omega, by show g ≠ g'; omega, by show r ≠ r'; omega, fun j hj e => ?_⟩⟩
  · have o := (h.old q hq).1
    have y1 := o.d.lb
    have y2 := o.d.lg
    have y3 := o.r.tr.lt
    refine ⟨by show q.b ≠ b'; omega, by show q.g ≠ g'; omega, by show q.r ≠ r'; omega, fun j hj e => ?_⟩
    have := (o.r.tv hj).lt
    have := hv j e
    omega
  · have := hv j hj
    have := x4 j e
    omega
  · have := x4 j hj
    have := hv j e
    omega

theorem rfuse_n (R : Rf) (n : Int) : (R.fuse n).n = R.n := by
  unfold Rf.fuse; repeat' split
  all_goals rfl
theorem rfuse_did (R : Rf) (n : Int) : (R.fuse n).did = R.did := by
  unfold Rf.fuse; repeat' split
  all_goals rfl
theorem rfuse_v (R : Rf) (n : Int) : (R.fuse n).v = R.v := by
  unfold Rf.fuse; repeat' split
  all_goals rfl

/-- the script's call, in memory -/
def XB (w : World) (X : Nat) (xs : Array Value) : Prop := w.heap[X]? = some (.cells xs 34 (0, 0))
theorem XB.tag {w : World} {X : Nat} {xs : Array Value} (h : XB w X xs) : Tag w X 34 := ⟨_, _, h⟩
theorem XB.below {w w' : World} {X : Nat} {xs : Array Value} (h : XB w X xs) (hb : Below w.heap.size w w') : XB w' X xs := (hb.block X h.tag.lt).trans h
theorem XB.disk {w w' : World} {X b g : Nat} {s : Dsk} {xs : Array Value} (h : XB w X xs) (hD : IsD w b g s) (hO : Only (fun x => x = b ∨ x = g) w w') : XB w' X xs :=
  (hO.block X h.tag.lt (fun e => e.elim (fun e => h.tag.ne hD.tb (by decide) e) (fun e => h.tag.ne hD.tg (by decide) e))).trans h
theorem XB.ref {w w' : World} {X r : Nat} {R : Rf} {xs : Array Value} (h : XB w X xs) (hR : IsR w r R) (hO : Only (fun x => x = r ∨ R.v.ownBlock = some x) w w') : XB w' X xs :=
  (hO.block X h.tag.lt (fun e => e.elim (fun e => h.tag.ne hR.tr (by decide) e) (fun e => h.tag.ne (hR.tv e) (by decide) rfl))).trans h
end Go.Proofs.Ytfomnnlilmahhaa
