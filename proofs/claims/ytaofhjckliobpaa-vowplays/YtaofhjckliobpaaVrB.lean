/- The chapter's own table (package vistaref08) in memory. -/
import Derived.Test.YtaofhjckliobpaaVrA
namespace Go.Proofs.Ytaofhjckliobpaa
open Go.RowKit Go.Shelf
attribute [local go_sem high] eqK neqK guardK run_store_complex

structure IsW (w : World) (B t : Nat) (s : Vt) : Prop where
  head : w.heap[t]? = some (.cells #[.int .i64 s.mp, .int .i64 s.mq, s.pv, .complex .f64 s.a s.b, s.qv] 68 (0, 0))
  bt : B ≤ t
  rk : RowK w B s.pv s.ks
  rb : RowB w B s.qv s.bs
  each : ∀ b ∈ s.bs, RowK w B b.v b.ks ∧ b.ks.length * 24 ≤ LK ∧ Mk b.a b.b (part s.a) (part b.b) ∧ ∀ k, b.v.ownBlock = some k → s.pv.ownBlock ≠ some k
  mkk : Mk s.a s.b (part s.a) (part s.b)
  lk : s.ks.length ≤ 33
  lb : s.bs.length ≤ s.mq
  lp : s.mp ≤ 32
  lq : s.mq ≤ 16
theorem IsW.tt {w : World} {B t : Nat} {s : Vt} (h : IsW w B t s) : Tag w t 68 := ⟨_, _, h.head⟩
theorem IsW.tp {w : World} {B t : Nat} {s : Vt} (h : IsW w B t s) {k : Nat} (hk : s.pv.ownBlock = some k) : Tag w k 36 := Tag.own h.rk hk
theorem IsW.tq {w : World} {B t : Nat} {s : Vt} (h : IsW w B t s) {k : Nat} (hk : s.qv.ownBlock = some k) : Tag w k 57 := Tag.own h.rb hk
theorem IsW.te {w : World} {B t : Nat} {s : Vt} (h : IsW w B t s) {b : Br} (hb : b ∈ s.bs) {k : Nat} (hk : b.v.ownBlock = some k) : Tag w k 36 := Tag.own (h.each b hb).1 hk
theorem IsW.lt {w : World} {B t : Nat} {s : Vt} (h : IsW w B t s) {k : Nat} (hk : s.blk t k) : B ≤ k ∧ k < w.heap.size := by
  rcases hk with (rfl | hk | hk) | ⟨b, hb, hk⟩
  · exact ⟨h.bt, h.tt.lt⟩
  · exact h.rk.lt hk
  · exact h.rb.lt hk
  · exact (h.each b hb).1.lt hk
theorem IsW.moved {w w' : World} {B t : Nat} {s : Vt} (h : IsW w B t s) (hk : ∀ k, s.blk t k → w'.heap[k]? = w.heap[k]?) : IsW w' B t s :=
  ⟨(hk t (.inl (.inl rfl))).trans h.head, h.bt, h.rk.moved fun k e => hk k (.inl (.inr (.inl e))), h.rb.moved fun k e => hk k (.inl (.inr (.inr e))), fun b hb => ⟨(h.each b hb).1.moved fun k e => hk k (.inr ⟨b, hb, e⟩), (h.each b hb).2⟩, h.mkk, h.lk, h.lb, h.lp, h.lq⟩
theorem IsW.below {w w' : World} {B t : Nat} {s : Vt} (h : IsW w B t s) (hb : Below w.heap.size w w') : IsW w' B t s := h.moved fun k hk => hb.block k (h.lt hk).2
theorem IsW.cells {w : World} {B t : Nat} {s : Vt} (h : IsW w B t s) : w.cell? ⟨t, 3, none⟩ = some (.complex .f64 s.a s.b) ∧ w.cell? ⟨t, 2, none⟩ = some s.pv ∧ w.cell? ⟨t, 4, none⟩ = some s.qv ∧ w.cell? ⟨t, 0, none⟩ = some (.int .i64 s.mp) ∧ w.cell? ⟨t, 1, none⟩ = some (.int .i64 s.mq) ∧ ∀ i, w.frozen? ⟨t, i, none⟩ = false := by
  have h0 := cell_of h.head 0
  have h1 := cell_of h.head 1
  have h2 := cell_of h.head 2
  have h3 := cell_of h.head 3
  have h4 := cell_of h.head 4
  simp at h0 h1 h2 h3 h4
  exact ⟨h3, h2, h4, h0, h1, free_of h.head⟩
/-- one call on a table -/
structure SW (w w' : World) (B t : Nat) (s s' : Vt) : Prop where
  is : IsW w' B t s'
  only : Only (s.wr t) w w'
  nwr : ∀ k, s'.wr t k → s.wr t k ∨ w.heap.size ≤ k
  nblk : ∀ k, s'.blk t k → s.blk t k ∨ w.heap.size ≤ k
theorem SW.stay {w w' : World} {B t : Nat} {s : Vt} (h : IsW w B t s) (hb : Below w.heap.size w w') : SW w w' B t s s := ⟨h.below hb, Only.of hb, fun _ hk => .inl hk, fun _ hk => .inl hk⟩
theorem SW.trans {w w1 w2 : World} {B t : Nat} {s s1 s2 : Vt} (h : SW w w1 B t s s1) (k : SW w1 w2 B t s1 s2) : SW w w2 B t s s2 := by
  refine ⟨k.is, ⟨k.only.os.trans h.only.os, k.only.tape.trans h.only.tape, k.only.output.trans h.only.output, Nat.le_trans h.only.size k.only.size, fun i hi hs => ?_⟩, fun i hi => ?_, fun i hi => ?_⟩
  · refine (k.only.block i (Nat.lt_of_lt_of_le hi h.only.size) fun hn => ?_).trans (h.only.block i hi hs)
    rcases h.nwr i hn with e | e
    · exact hs e
    · omega
  · rcases k.nwr i hi with e | e
    · exact h.nwr i e
    · exact .inr (Nat.le_trans h.only.size e)
  · rcases k.nblk i hi with e | e
    · exact h.nblk i e
    · exact .inr (Nat.le_trans h.only.size e)
theorem SW.on {w w' w2 : World} {B t : Nat} {s s' : Vt} (h : SW w w' B t s s') (hb : Below w'.heap.size w' w2) : SW w w2 B t s s' := h.trans (SW.stay h.is hb)
theorem SW.pre {w0 w w' : World} {B t : Nat} {s s' : Vt} (hb : Below w0.heap.size w0 w) (h0 : IsW w0 B t s) (h : SW w w' B t s s') : SW w0 w' B t s s' := (SW.stay h0 hb).trans h

theorem IsW.p_t {w : World} {B t : Nat} {s : Vt} (h : IsW w B t s) {k : Nat} (hk : s.pv.ownBlock = some k) : k ≠ t := (h.tp hk).ne h.tt (by decide)
theorem IsW.q_t {w : World} {B t : Nat} {s : Vt} (h : IsW w B t s) {k : Nat} (hk : s.qv.ownBlock = some k) : k ≠ t := (h.tq hk).ne h.tt (by decide)
theorem IsW.e_t {w : World} {B t : Nat} {s : Vt} (h : IsW w B t s) {b : Br} (hb : b ∈ s.bs) {k : Nat} (hk : b.v.ownBlock = some k) : k ≠ t := (h.te hb hk).ne h.tt (by decide)
theorem IsW.p_q {w : World} {B t : Nat} {s : Vt} (h : IsW w B t s) {k : Nat} (hq : s.qv.ownBlock = some k) : s.pv.ownBlock ≠ some k := fun hk => (h.tp hk).ne (h.tq hq) (by decide) rfl
theorem IsW.e_q {w : World} {B t : Nat} {s : Vt} (h : IsW w B t s) {b : Br} (hb : b ∈ s.bs) {k : Nat} (hk : b.v.ownBlock = some k) : s.qv.ownBlock ≠ some k := fun hq => (h.te hb hk).ne (h.tq hq) (by decide) rfl
/-- the promises turned -/
theorem IsW.putP {w w1 : World} {B t : Nat} {s : Vt} (h : IsW w B t s) (hO : Only (fun x => s.pv.ownBlock = some x) w w1) (v' : Value) (ks' : List Ky) (hr : RowK w1 B v' ks') (hl : ks'.length ≤ 33) (hn : ∀ k, v'.ownBlock = some k → s.pv.ownBlock = some k ∨ w.heap.size ≤ k) :
    SW w (w1.setCell ⟨t, 2, none⟩ v') B t s { s with pv := v', ks := ks' } := by
  have ht := h.tt.lt
  have e1 : w1.heap[t]? = w.heap[t]? := hO.block t ht fun e => h.p_t e rfl
  have hh := e1.trans h.head
  have ht1 : Tag w1 t 68 := ⟨_, _, hh⟩
  have hq : ∀ k, s.qv.ownBlock = some k → (w1.setCell ⟨t, 2, none⟩ v').heap[k]? = w.heap[k]? := fun k hk => (heap_set_ne (h.q_t hk)).trans (hO.block k (h.rb.lt hk).2 (h.p_q hk))
  have he : ∀ b ∈ s.bs, ∀ k, b.v.ownBlock = some k → (w1.setCell ⟨t, 2, none⟩ v').heap[k]? = w.heap[k]? := fun b hb k hk => (heap_set_ne (h.e_t hb hk)).trans (hO.block k ((h.each b hb).1.lt hk).2 ((h.each b hb).2.2.2 k hk))
  refine ⟨⟨(heap_set hh 2 _).trans rfl, h.bt, hr.moved fun k hk => heap_set_ne ((Tag.own hr hk).ne ht1 (by decide)), h.rb.moved hq, fun b hb => ⟨(h.each b hb).1.moved (he b hb), (h.each b hb).2.1, (h.each b hb).2.2.1, fun k hk hp => ?_⟩, h.mkk, hl, h.lb, h.lp, h.lq⟩, ?_, ?_, ?_⟩
  · rcases hn k hp with e | e
    · exact (h.each b hb).2.2.2 k hk e
    · have := ((h.each b hb).1.lt hk).2; omega
  · exact (hO.mono fun k hk => .inr (.inl hk)).trans ((only1 w1 t 2 v').mono fun k hk => .inl hk)
  · rintro k (hk | hk | hk)
    · exact .inl (.inl hk)
    · exact (hn k hk).imp (fun e => .inr (.inl e)) id
    · exact .inl (.inr (.inr hk))
  · rintro k ((hk | hk | hk) | hk)
    · exact .inl (.inl (.inl hk))
    · exact (hn k hk).imp (fun e => .inl (.inr (.inl e))) id
    · exact .inl (.inl (.inr (.inr hk)))
    · exact .inl (.inr hk)
/-- a call that may keep blocks of X -/
structure SX (w w' : World) (B t : Nat) (s s' : Vt) (X : Nat → Prop) : Prop where
  is : IsW w' B t s'
  only : Only (s.wr t) w w'
  nwr : ∀ k, s'.wr t k → s.wr t k ∨ w.heap.size ≤ k
  nblk : ∀ k, s'.blk t k → s.blk t k ∨ w.heap.size ≤ k ∨ X k
theorem SW.st {w w' : World} {B t : Nat} {s s' : Vt} (h : SW w w' B t s s') (X : Nat → Prop) : SX w w' B t s s' X := ⟨h.is, h.only, h.nwr, fun k hk => (h.nblk k hk).imp id .inl⟩
theorem SX.sv {w w' : World} {B t : Nat} {s s' : Vt} {X : Nat → Prop} (h : SX w w' B t s s' X) (hX : ∀ k, X k → s.blk t k ∨ w.heap.size ≤ k) : SW w w' B t s s' := ⟨h.is, h.only, h.nwr, fun k hk => by
  rcases h.nblk k hk with e | e | e
  · exact .inl e
  · exact .inr e
  · exact hX k e⟩
theorem SX.trans {w w1 w2 : World} {B t : Nat} {s s1 s2 : Vt} {X : Nat → Prop} (h : SX w w1 B t s s1 X) (k : SX w1 w2 B t s1 s2 X) : SX w w2 B t s s2 X := by
  refine ⟨k.is, ⟨k.only.os.trans h.only.os, k.only.tape.trans h.only.tape, k.only.output.trans h.only.output, Nat.le_trans h.only.size k.only.size, fun i hi hs => ?_⟩, fun i hi => ?_, fun i hi => ?_⟩
  · refine (k.only.block i (Nat.lt_of_lt_of_le hi h.only.size) fun hn => ?_).trans (h.only.block i hi hs)
    rcases h.nwr i hn with e | e
    · exact hs e
    · omega
  · rcases k.nwr i hi with e | e
    · exact h.nwr i e
    · exact .inr (Nat.le_trans h.only.size e)
  · rcases k.nblk i hi with e | e | e
    · exact h.nblk i e
    · exact .inr (.inl (Nat.le_trans h.only.size e))
    · exact .inr (.inr e)
theorem SX.on {w w' w2 : World} {B t : Nat} {s s' : Vt} {X : Nat → Prop} (h : SX w w' B t s s' X) (hb : Below w'.heap.size w' w2) : SX w w2 B t s s' X := h.trans ((SW.stay h.is hb).st X)
/-- the queue turned -/
theorem IsW.putQ {w w1 : World} {B t : Nat} {s : Vt} (h : IsW w B t s) (hO : Only (fun x => s.qv.ownBlock = some x) w w1) (v' : Value) (bs' : List Br) (hr : RowB w1 B v' bs') (hl : bs'.length ≤ s.mq) (hn : ∀ k, v'.ownBlock = some k → s.qv.ownBlock = some k ∨ w.heap.size ≤ k)
    (he : ∀ b ∈ bs', RowK w B b.v b.ks ∧ b.ks.length * 24 ≤ LK ∧ Mk b.a b.b (part s.a) (part b.b) ∧ ∀ k, b.v.ownBlock = some k → s.pv.ownBlock ≠ some k) (X : Nat → Prop) (hX : ∀ b ∈ bs', b ∈ s.bs ∨ ∀ k, b.v.ownBlock = some k → X k) :
    SX w (w1.setCell ⟨t, 4, none⟩ v') B t s { s with qv := v', bs := bs' } X := by
  have ht := h.tt.lt
  have e1 : w1.heap[t]? = w.heap[t]? := hO.block t ht fun e => h.q_t e rfl
  have hh := e1.trans h.head
  have ht1 : Tag w1 t 68 := ⟨_, _, hh⟩
  have key : ∀ k, Tag w k 36 → (w1.setCell ⟨t, 4, none⟩ v').heap[k]? = w.heap[k]? := fun k hk => (heap_set_ne (hk.ne h.tt (by decide))).trans (hO.block k hk.lt fun e => hk.ne (h.tq e) (by decide) rfl)
  refine ⟨⟨(heap_set hh 4 _).trans rfl, h.bt, h.rk.moved fun k hk => key k (h.tp hk), hr.moved fun k hk => heap_set_ne ((Tag.own hr hk).ne ht1 (by decide)), fun b hb => ⟨(he b hb).1.moved fun k hk => key k (Tag.own (he b hb).1 hk), (he b hb).2⟩, h.mkk, h.lk, hl, h.lp, h.lq⟩, ?_, ?_, ?_⟩
  · exact (hO.mono fun k hk => .inr (.inr hk)).trans ((only1 w1 t 4 v').mono fun k hk => .inl hk)
  · rintro k (hk | hk | hk)
    · exact .inl (.inl hk)
    · exact .inl (.inr (.inl hk))
    · exact (hn k hk).imp (fun e => .inr (.inr e)) id
  · rintro k ((hk | hk | hk) | ⟨b, hb, hk⟩)
    · exact .inl (.inl (.inl hk))
    · exact .inl (.inl (.inr (.inl hk)))
    · rcases hn k hk with e | e
      · exact .inl (.inl (.inr (.inr e)))
      · exact .inr (.inl e)
    · rcases hX b hb with e | e
      · exact .inl (.inr ⟨b, e, hk⟩)
      · exact .inr (.inr (e k hk))
/-- the mark turned -/
theorem IsW.putM {w : World} {B t : Nat} {s : Vt} (h : IsW w B t s) {c d : Nat} {m : Int} (hm : Mk c d (part s.a) m) : SW w (w.setCell ⟨t, 3, none⟩ (.complex .f64 c d)) B t s { s with a := c, b := d } := by
  have key : ∀ k, k ≠ t → (w.setCell ⟨t, 3, none⟩ (.complex .f64 c d)).heap[k]? = w.heap[k]? := fun k hk => heap_set_ne hk
  refine ⟨⟨(heap_set h.head 3 _).trans rfl, h.bt, h.rk.moved fun k hk => key k (h.p_t hk), h.rb.moved fun k hk => key k (h.q_t hk), fun b hb => ⟨(h.each b hb).1.moved fun k hk => key k (h.e_t hb hk), (h.each b hb).2.1, ?_, (h.each b hb).2.2.2⟩, ?_, h.lk, h.lb, h.lp, h.lq⟩, (only1 w t 3 _).mono fun k hk => .inl hk, fun k hk => .inl hk, fun k hk => .inl hk⟩
  · show Mk b.a b.b (part c) (part b.b)
    rw [hm.pa]; exact (h.each b hb).2.2.1
  · show Mk c d (part c) (part d)
    rw [hm.pa, hm.pb]; exact hm
/-- behind the queue's append -/
theorem rtell_app {W w2 : World} {B t : Nat} {s : Vt} {m : Br} {v2 : Value} {o : Obj} {X : Nat → Prop} (h : IsW W B t s) (hown : w2.ownsRow B 57 4 v2 (s.bs.length + 1) (bc s.bs ++ m.vals)) (hgrow : (W.drew.alloc o).grownBy w2 s.qv.ownBlock) (hat : v2.ownBlock = s.qv.ownBlock ∨ v2.ownBlock = some (W.drew.alloc o).heap.size)
    (hl : s.bs.length + 1 ≤ s.mq) (hm : RowK W B m.v m.ks ∧ m.ks.length * 24 ≤ LK ∧ Mk m.a m.b (part s.a) (part m.b) ∧ ∀ k, m.v.ownBlock = some k → s.pv.ownBlock ≠ some k) (hX : ∀ k, m.v.ownBlock = some k → X k) :
    w2.cell? ⟨t, 4, none⟩ = some s.qv ∧ (∀ i, w2.frozen? ⟨t, i, none⟩ = false) ∧ Hid (SX W (w2.setCell ⟨t, 4, none⟩ v2) B t s { s with qv := v2, bs := s.bs ++ [m] } X) ∧ (∀ k cs T, W.heap[k]? = some (.cells cs T (0, 0)) → T ≠ 57 ∨ s.qv.ownBlock ≠ some k → w2.heap[k]? = some (.cells cs T (0, 0))) := by
  have hO : Only (fun q => s.qv.ownBlock = some q) W w2 :=
    ⟨hgrow.os, hgrow.tape, hgrow.output, Nat.le_trans (by simp) hgrow.size, fun k hk hn => (hgrow.block k (by simp; omega) (fun e => hn e.symm)).trans (Below.heap_alloc W.drew _ _ hk)⟩
  have e1 := (hO.block t h.tt.lt fun e => h.q_t e rfl).trans h.head
  refine ⟨by rw [cell_of e1]; rfl, free_of e1, ?_, fun k cs T hk hne => ?_⟩
  · refine h.putQ hO v2 (s.bs ++ [m]) ?_ (by rw [List.length_append]; exact hl) (fun k hk => ?_) (fun b hb => ?_) X fun b hb => ?_
    · show World.ownsRow _ _ _ _ _ _ _
      rw [List.length_append, bc_app]
      have : bc [m] = m.vals := by unfold bc; simp
      rw [this]; exact hown
    · rcases hat with e | e
      · exact .inl (by rw [← e]; exact hk)
      · rw [e] at hk
        simp at hk
        exact .inr (by omega)
    · rcases List.mem_append.1 hb with hb | hb
      · exact h.each b hb
      · rw [List.mem_singleton.1 hb]; exact hm
    · rcases List.mem_append.1 hb with hb | hb
      · exact .inl hb
      · rw [List.mem_singleton.1 hb]; exact .inr hX
  · have hlt := (Array.getElem?_eq_some_iff.1 hk).1
    refine (hO.block k hlt fun e => ?_).trans hk
    rcases hne with h1 | h1
    · exact Tag.ne (⟨_, _, hk⟩ : Tag W k T) (h.tq e) h1 rfl
    · exact h1 e
theorem rtell_fin {w W w2 : World} {B t gm L : Nat} {s s1 : Vt} {m : Br} {v2 V : Value} {o : Obj} {X : Nat → Prop} (hS : SX w W B t s s1 X) (hV : s1.qv = V) (hL : s1.bs.length = L) (hbx : BoxB W gm m) (hgm : s1.qv.ownBlock ≠ some gm) (hown : w2.ownsRow B 57 4 v2 (L + 1) (bc s1.bs ++ m.vals)) (hgrow : (W.drew.alloc o).grownBy w2 V.ownBlock) (hat : v2.ownBlock = V.ownBlock ∨ v2.ownBlock = some (W.drew.alloc o).heap.size)
    (hl : L + 1 ≤ s1.mq) (hm : RowK W B m.v m.ks ∧ m.ks.length * 24 ≤ LK ∧ Mk m.a m.b (part s1.a) (part m.b) ∧ ∀ k, m.v.ownBlock = some k → s1.pv.ownBlock ≠ some k) (hX : ∀ k, m.v.ownBlock = some k → X k) :
    w2.cell? ⟨t, 4, none⟩ = some V ∧ w2.frozen? ⟨t, 4, none⟩ = false ∧ Hid (SX w (w2.setCell ⟨t, 4, none⟩ v2) B t s { s1 with qv := v2, bs := s1.bs ++ [m] } X ∧ BoxB (w2.setCell ⟨t, 4, none⟩ v2) gm m) := by
  subst hV hL
  obtain ⟨c, f, hT, hk⟩ := rtell_app hS.is hown hgrow hat hl hm hX
  refine ⟨c, f 4, hS.trans hT.out, ?_⟩
  have e := hk gm _ _ hbx (.inr hgm)
  have hne : gm ≠ t := Tag.ne (⟨_, _, hbx⟩ : Tag W gm 57) hS.is.tt (by decide)
  exact (heap_set_ne hne).trans e
theorem rgrant_app {W w2 : World} {B t L : Nat} {s : Vt} {k : Ky} {v2 V : Value} {o : Obj} (h : IsW W B t s) (hV : s.pv = V) (hL : s.ks.length = L) (hown : w2.ownsRow B 36 2 v2 (L + 1) (kc s.ks ++ k.vals)) (hgrow : (W.drew.alloc o).grownBy w2 V.ownBlock) (hat : v2.ownBlock = V.ownBlock ∨ v2.ownBlock = some (W.drew.alloc o).heap.size) (hl : L + 1 ≤ 33) :
    w2.cell? ⟨t, 2, none⟩ = some V ∧ w2.frozen? ⟨t, 2, none⟩ = false ∧ Hid (SW W (w2.setCell ⟨t, 2, none⟩ v2) B t s { s with pv := v2, ks := s.ks ++ [k] }) := by
  subst hV hL
  have hO : Only (fun q => s.pv.ownBlock = some q) W w2 :=
    ⟨hgrow.os, hgrow.tape, hgrow.output, Nat.le_trans (by simp) hgrow.size, fun k hk hn => (hgrow.block k (by simp; omega) (fun e => hn e.symm)).trans (Below.heap_alloc W.drew _ _ hk)⟩
  have e1 := (hO.block t h.tt.lt fun e => h.p_t e rfl).trans h.head
  refine ⟨by rw [cell_of e1]; rfl, free_of e1 2, h.putP hO v2 (s.ks ++ [k]) ?_ (by rw [List.length_append]; exact hl) fun q hq => ?_⟩
  · show World.ownsRow _ _ _ _ _ _ _
    rw [List.length_append, kc_app]
    have : kc [k] = k.vals := by unfold kc; simp
    rw [this]; exact hown
  · rcases hat with e | e
    · exact .inl (by rw [← e]; exact hq)
    · rw [e] at hq
      simp at hq
      exact .inr (by omega)
theorem SW.box {w w' : World} {B t g : Nat} {s s' : Vt} {k : Ky} (h : SW w w' B t s s') (hb : BoxK w g k) (hg : ¬ s.wr t g) : BoxK w' g k := (h.only.block g (Array.getElem?_eq_some_iff.1 hb).1 hg).trans hb
end Go.Proofs.Ytaofhjckliobpaa
