/- Queue; tell: a break made. -/
import Derived.Test.YtaofhjckliobpaaVoH
namespace Go.Proofs.Ytaofhjckliobpaa
open Go.RowKit Go.Shelf
attribute [local go_sem high] eqK neqK guardK run_store_complex

theorem IsV.brs {w : World} {B t : Nat} {s : Vt} (h : IsV w B t s) : Brs w B s.qv s.bs := ⟨h.rb, fun b hb => (h.each b hb).1⟩
theorem queue_p (t B : Nat) (s : Vt) (w : World) (h : IsV w B t s) : Calls Try.prog 30 #[.pointer (some ⟨t, 0, none⟩)] w fun e w' => ∃ v', e = .returned v' ∧ ∃ bs', Brs w' w.heap.size v' bs' ∧ bs'.map Br.core = s.bs.map Br.core ∧ Below w.heap.size w w' := by
  obtain ⟨a, cap, hv⟩ := owns_len h.rb
  obtain ⟨-, -, c2, -, -, -⟩ := h.cells
  have hc := copied_p s.qv s.bs B w h.brs (by have := h.lb; have := h.lq; omega) fun b hb => (h.each b hb).2.1
  rw [hv] at c2 hc
  clear h hv
  go_enter Try.func30, Try.ntmps30
  go_wp2_with (go_at_call 49; refine hc.mono ?_; rintro e w' ⟨v', rfl, bs', hr, hcore, hb⟩; obtain ⟨av, cv, rfl⟩ := owns_len hr.row)
  go_ret
  exact ⟨_, rfl, bs', hr, hcore, hb⟩
/-- a call that may keep blocks of X -/
structure ST (w w' : World) (B t : Nat) (s s' : Vt) (X : Nat → Prop) : Prop where
  is : IsV w' B t s'
  only : Only (s.wr t) w w'
  nwr : ∀ k, s'.wr t k → s.wr t k ∨ w.heap.size ≤ k
  nblk : ∀ k, s'.blk t k → s.blk t k ∨ w.heap.size ≤ k ∨ X k
theorem SV.st {w w' : World} {B t : Nat} {s s' : Vt} (h : SV w w' B t s s') (X : Nat → Prop) : ST w w' B t s s' X := ⟨h.is, h.only, h.nwr, fun k hk => (h.nblk k hk).imp id .inl⟩
theorem ST.sv {w w' : World} {B t : Nat} {s s' : Vt} {X : Nat → Prop} (h : ST w w' B t s s' X) (hX : ∀ k, X k → s.blk t k ∨ w.heap.size ≤ k) : SV w w' B t s s' := ⟨h.is, h.only, h.nwr, fun k hk => by
  rcases h.nblk k hk with e | e | e
  · exact .inl e
  · exact .inr e
  · exact hX k e⟩
theorem ST.trans {w w1 w2 : World} {B t : Nat} {s s1 s2 : Vt} {X : Nat → Prop} (h : ST w w1 B t s s1 X) (k : ST w1 w2 B t s1 s2 X) : ST w w2 B t s s2 X := by
  refine ⟨k.is, ⟨k.only.os.trans h.only.os, k.only.tape.trans h.only.tape, k.only.output.trans h.only.output, Nat.le_trans h.only.size k.only.size, fun i hi hs => ?_⟩, fun i hi => ?_, fun i hi => ?_⟩
  · refine (k.only.block i (Nat.lt_of_lt_of_le hi h.only.size) fun hn => ?_).trans (h.only.block i hi hs)
    rcases h.nwr i hn with e | e
    · exact hs e
    · omega
  · rcases k.nwr i hi with e | e
    · exact h.nwr i e
    · exact .inr (Nat.le_trans h.only.size e)
  · rcases k.nblk i hi with e | e | e
    · exact h.nblk i e
    · exact .inr (.inl (Nat.le_trans h.only.size e))
    · exact .inr (.inr e)
theorem ST.on {w w' w2 : World} {B t : Nat} {s s' : Vt} {X : Nat → Prop} (h : ST w w' B t s s' X) (hb : Below w'.heap.size w' w2) : ST w w2 B t s s' X := h.trans ((SV.stay h.is hb).st X)
/-- the queue turned -/
theorem IsV.putQ {w w1 : World} {B t : Nat} {s : Vt} (h : IsV w B t s) (hO : Only (fun x => s.qv.ownBlock = some x) w w1) (v' : Value) (bs' : List Br) (hr : RowB w1 B v' bs') (hl : bs'.length ≤ s.mq) (hn : ∀ k, v'.ownBlock = some k → s.qv.ownBlock = some k ∨ w.heap.size ≤ k)
    (he : ∀ b ∈ bs', RowK w B b.v b.ks ∧ b.ks.length * 24 ≤ LK ∧ Mk b.a b.b (part s.a) (part b.b) ∧ ∀ k, b.v.ownBlock = some k → s.pv.ownBlock ≠ some k) (X : Nat → Prop) (hX : ∀ b ∈ bs', b ∈ s.bs ∨ ∀ k, b.v.ownBlock = some k → X k) :
    ST w (w1.setCell ⟨t, 2, none⟩ v') B t s { s with qv := v', bs := bs' } X := by
  have ht := h.tt.lt
  have e1 : w1.heap[t]? = w.heap[t]? := hO.block t ht fun e => h.q_t e rfl
  have hh := e1.trans h.head
  have ht1 : Tag w1 t 64 := ⟨_, _, hh⟩
  have key : ∀ k, Tag w k 36 → (w1.setCell ⟨t, 2, none⟩ v').heap[k]? = w.heap[k]? := fun k hk => (heap_set_ne (hk.ne h.tt (by decide))).trans (hO.block k hk.lt fun e => hk.ne (h.tq e) (by decide) rfl)
  refine ⟨⟨(heap_set hh 2 _).trans rfl, h.bt, h.rk.moved fun k hk => key k (h.tp hk), hr.moved fun k hk => heap_set_ne ((Tag.own hr hk).ne ht1 (by decide)), fun b hb => ⟨(he b hb).1.moved fun k hk => key k (Tag.own (he b hb).1 hk), (he b hb).2⟩, h.mkk, h.lk, hl, h.lp, h.lq⟩, ?_, ?_, ?_⟩
  · exact (hO.mono fun k hk => .inr (.inr hk)).trans ((only1 w1 t 2 v').mono fun k hk => .inl hk)
  · rintro k (hk | hk | hk)
    · exact .inl (.inl hk)
    · exact .inl (.inr (.inl hk))
    · exact (hn k hk).imp (fun e => .inr (.inr e)) id
  · rintro k ((hk | hk | hk) | ⟨b, hb, hk⟩)
    · exact .inl (.inl (.inl hk))
    · exact .inl (.inl (.inr (.inl hk)))
    · rcases hn k hk with e | e
      · exact .inl (.inl (.inr (.inr e)))
      · exact .inr (.inl e)
    · rcases hX b hb with e | e
      · exact .inl (.inr ⟨b, e, hk⟩)
      · exact .inr (.inr (e k hk))
/-- the mark turned -/
theorem IsV.putM {w : World} {B t : Nat} {s : Vt} (h : IsV w B t s) {c d : Nat} {m : Int} (hm : Mk c d (part s.a) m) : SV w (w.setCell ⟨t, 0, none⟩ (.complex .f64 c d)) B t s { s with a := c, b := d } := by
  have key : ∀ k, k ≠ t → (w.setCell ⟨t, 0, none⟩ (.complex .f64 c d)).heap[k]? = w.heap[k]? := fun k hk => heap_set_ne hk
  refine ⟨⟨(heap_set h.head 0 _).trans rfl, h.bt, h.rk.moved fun k hk => key k (h.p_t hk), h.rb.moved fun k hk => key k (h.q_t hk), fun b hb => ⟨(h.each b hb).1.moved fun k hk => key k (h.e_t hb hk), (h.each b hb).2.1, ?_, (h.each b hb).2.2.2⟩, ?_, h.lk, h.lb, h.lp, h.lq⟩, (only1 w t 0 _).mono fun k hk => .inl hk, fun k hk => .inl hk, fun k hk => .inl hk⟩
  · show Mk b.a b.b (part c) (part b.b)
    rw [hm.pa]; exact (h.each b hb).2.2.1
  · show Mk c d (part c) (part d)
    rw [hm.pa, hm.pb]; exact hm
/-- what tell leaves -/
def TellR (w w' : World) (B t : Nat) (s : Vt) (X : Nat → Prop) (v' : Value) (r : Vs × List Bs) : Prop :=
  ∃ bs' s' Bq, Brs w' Bq v' bs' ∧ (∀ k, s'.blk t k → k < Bq) ∧ w.heap.size ≤ Bq ∧ bs'.map Br.say = r.2 ∧ s'.say = r.1 ∧ ST w w' B t s s' X ∧ ∀ b ∈ bs', Mk b.a b.b (part s.a) (part b.b)
theorem tell_no (t B : Nat) (s : Vt) (v : Value) (ks : List Ky) (ver : Int) (X : Nat → Prop) (w : World) (h : IsV w B t s) (hm : ¬ part s.b < 1099511627776) :
    Calls Try.prog 37 #[.pointer (some ⟨t, 0, none⟩), v, .int .i64 ver] w fun e w' => ∃ v', e = .returned v' ∧ TellR w w' B t s X v' (s.say.tell ks ver) := by
  obtain ⟨c0, c1, -, -, -, cf⟩ := h.cells
  obtain ⟨a, cap, hv⟩ := owns_len h.rk
  have HR : Hid (TellR w (w.setCell ⟨t, 1, none⟩ (.slice none 0 0)) B t s X (.slice none 0 0) (s.say.tell ks ver)) := by
    have hs := h.putP (Only.refl _ w) (.slice none 0 0) [] (World.ownsRow_nil _ _ _ _) (Nat.zero_le _) (fun k hk => by cases hk)
    have e : s.say.tell ks ver = ({ s.say with ks := [] }, []) := by
      unfold Vs.tell
      rw [if_neg (show ¬ s.say.n < MX from hm)]
    rw [e]
    exact ⟨[], _, _, ⟨World.ownsRow_nil _ _ _ _, fun b hb => by cases hb⟩, fun k hk => (hs.is.lt hk).2, hs.only.size, rfl, rfl, hs.st X, fun b hb => by cases hb⟩
  have HN : Hid (∀ w, Calls Try.prog 31 #[.complex .f64 s.a s.b] w fun e w' => e = .returned (.tuple #[.complex .f64 0 0, .int .i64 1]) ∧ w' = w) := fun w => next_no s.a s.b w _ _ h.mkk.ha h.mkk.hb (fun k => hm k.2)
  rw [hv] at c1
  have cf1 := cf 1
  clear h hm hv cf
  go_enter Try.func37, Try.ntmps37
  go_wp2_with (go_at_call 31; refine (HN.out _).mono ?_; rintro e w' ⟨rfl, rfl⟩)
  go_ret
  exact ⟨_, rfl, HR.out⟩
end Go.Proofs.Ytaofhjckliobpaa
