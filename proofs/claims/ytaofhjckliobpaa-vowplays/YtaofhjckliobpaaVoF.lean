/- A table in memory; New, Holds, Promises, Mark, drop. -/
import Derived.Test.YtaofhjckliobpaaVoE
namespace Go.Proofs.Ytaofhjckliobpaa
open Go.RowKit Go.Shelf
attribute [local go_sem high] eqK neqK guardK run_store_complex

def LK : Nat := 140737488351232
/-- a table: its mark's bits, where its promises lie, its promises, where its queue lies, its breaks, its limits -/
structure Vt where
  a : Nat
  b : Nat
  pv : Value
  ks : List Ky
  qv : Value
  bs : List Br
  mp : Nat
  mq : Nat
def Br.say (x : Br) : Bs := ⟨part x.b, x.ver, x.all, x.ks⟩
def Vt.say (s : Vt) : Vs := ⟨part s.a, part s.b, s.ks, s.bs.map Br.say, s.mp, s.mq⟩
structure IsV (w : World) (B t : Nat) (s : Vt) : Prop where
  head : w.heap[t]? = some (.cells #[.complex .f64 s.a s.b, s.pv, s.qv, .int .i64 s.mp, .int .i64 s.mq] 64 (0, 0))
  bt : B ≤ t
  rk : RowK w B s.pv s.ks
  rb : RowB w B s.qv s.bs
  each : ∀ b ∈ s.bs, RowK w B b.v b.ks ∧ b.ks.length * 24 ≤ LK ∧ Mk b.a b.b (part s.a) (part b.b) ∧ ∀ k, b.v.ownBlock = some k → s.pv.ownBlock ≠ some k
  mkk : Mk s.a s.b (part s.a) (part s.b)
  lk : s.ks.length ≤ 33
  lb : s.bs.length ≤ s.mq
  lp : s.mp ≤ 32
  lq : s.mq ≤ 16
/-- the blocks that a call writes -/
def Vt.wr (s : Vt) (t k : Nat) : Prop := k = t ∨ s.pv.ownBlock = some k ∨ s.qv.ownBlock = some k
/-- all its blocks -/
def Vt.blk (s : Vt) (t k : Nat) : Prop := s.wr t k ∨ ∃ b ∈ s.bs, b.v.ownBlock = some k
theorem IsV.tt {w : World} {B t : Nat} {s : Vt} (h : IsV w B t s) : Tag w t 64 := ⟨_, _, h.head⟩
theorem IsV.tp {w : World} {B t : Nat} {s : Vt} (h : IsV w B t s) {k : Nat} (hk : s.pv.ownBlock = some k) : Tag w k 36 := Tag.own h.rk hk
theorem IsV.tq {w : World} {B t : Nat} {s : Vt} (h : IsV w B t s) {k : Nat} (hk : s.qv.ownBlock = some k) : Tag w k 57 := Tag.own h.rb hk
theorem IsV.te {w : World} {B t : Nat} {s : Vt} (h : IsV w B t s) {b : Br} (hb : b ∈ s.bs) {k : Nat} (hk : b.v.ownBlock = some k) : Tag w k 36 := Tag.own (h.each b hb).1 hk
theorem IsV.lt {w : World} {B t : Nat} {s : Vt} (h : IsV w B t s) {k : Nat} (hk : s.blk t k) : B ≤ k ∧ k < w.heap.size := by
  rcases hk with (rfl | hk | hk) | ⟨b, hb, hk⟩
  · exact ⟨h.bt, h.tt.lt⟩
  · exact h.rk.lt hk
  · exact h.rb.lt hk
  · exact (h.each b hb).1.lt hk
theorem IsV.moved {w w' : World} {B t : Nat} {s : Vt} (h : IsV w B t s) (hk : ∀ k, s.blk t k → w'.heap[k]? = w.heap[k]?) : IsV w' B t s :=
  ⟨(hk t (.inl (.inl rfl))).trans h.head, h.bt, h.rk.moved fun k e => hk k (.inl (.inr (.inl e))), h.rb.moved fun k e => hk k (.inl (.inr (.inr e))), fun b hb => ⟨(h.each b hb).1.moved fun k e => hk k (.inr ⟨b, hb, e⟩), (h.each b hb).2⟩, h.mkk, h.lk, h.lb, h.lp, h.lq⟩
theorem IsV.below {w w' : World} {B t : Nat} {s : Vt} (h : IsV w B t s) (hb : Below w.heap.size w w') : IsV w' B t s := h.moved fun k hk => hb.block k (h.lt hk).2
theorem IsV.cells {w : World} {B t : Nat} {s : Vt} (h : IsV w B t s) : w.cell? ⟨t, 0, none⟩ = some (.complex .f64 s.a s.b) ∧ w.cell? ⟨t, 1, none⟩ = some s.pv ∧ w.cell? ⟨t, 2, none⟩ = some s.qv ∧ w.cell? ⟨t, 3, none⟩ = some (.int .i64 s.mp) ∧ w.cell? ⟨t, 4, none⟩ = some (.int .i64 s.mq) ∧ ∀ i, w.frozen? ⟨t, i, none⟩ = false := by
  have h0 := cell_of h.head 0
  have h1 := cell_of h.head 1
  have h2 := cell_of h.head 2
  have h3 := cell_of h.head 3
  have h4 := cell_of h.head 4
  simp at h0 h1 h2 h3 h4
  exact ⟨h0, h1, h2, h3, h4, free_of h.head⟩
/-- one call on a table -/
structure SV (w w' : World) (B t : Nat) (s s' : Vt) : Prop where
  is : IsV w' B t s'
  only : Only (s.wr t) w w'
  nwr : ∀ k, s'.wr t k → s.wr t k ∨ w.heap.size ≤ k
  nblk : ∀ k, s'.blk t k → s.blk t k ∨ w.heap.size ≤ k
theorem SV.stay {w w' : World} {B t : Nat} {s : Vt} (h : IsV w B t s) (hb : Below w.heap.size w w') : SV w w' B t s s := ⟨h.below hb, Only.of hb, fun _ hk => .inl hk, fun _ hk => .inl hk⟩
theorem SV.trans {w w1 w2 : World} {B t : Nat} {s s1 s2 : Vt} (h : SV w w1 B t s s1) (k : SV w1 w2 B t s1 s2) : SV w w2 B t s s2 := by
  refine ⟨k.is, ⟨k.only.os.trans h.only.os, k.only.tape.trans h.only.tape, k.only.output.trans h.only.output, Nat.le_trans h.only.size k.only.size, fun i hi hs => ?_⟩, fun i hi => ?_, fun i hi => ?_⟩
  · refine (k.only.block i (Nat.lt_of_lt_of_le hi h.only.size) fun hn => ?_).trans (h.only.block i hi hs)
    rcases h.nwr i hn with e | e
    · exact hs e
    · omega
  · rcases k.nwr i hi with e | e
    · exact h.nwr i e
    · exact .inr (Nat.le_trans h.only.size e)
  · rcases k.nblk i hi with e | e
    · exact h.nblk i e
    · exact .inr (Nat.le_trans h.only.size e)
theorem SV.on {w w' w2 : World} {B t : Nat} {s s' : Vt} (h : SV w w' B t s s') (hb : Below w'.heap.size w' w2) : SV w w2 B t s s' := h.trans (SV.stay h.is hb)
theorem SV.pre {w0 w w' : World} {B t : Nat} {s s' : Vt} (hb : Below w0.heap.size w0 w) (h0 : IsV w0 B t s) (h : SV w w' B t s s') : SV w0 w' B t s s' := (SV.stay h0 hb).trans h

theorem mark_p (t B : Nat) (s : Vt) (w : World) (h : IsV w B t s) : Calls Try.prog 26 #[.pointer (some ⟨t, 0, none⟩)] w fun e w' => e = .returned (.complex .f64 s.a s.b) ∧ w' = w := by
  obtain ⟨c0, -, -, -, -, -⟩ := h.cells
  clear h
  go_enter Try.func26, Try.ntmps26
  go_wp2
  go_ret
  exact ⟨rfl, rfl⟩
theorem keep3 {W W' : World} {x y z : Addr} {u v s : Value} (h : W.cell? x = some u ∧ W.cell? y = some v ∧ W.cell? z = some s) (hb : Below W.heap.size W W') : W'.cell? x = some u ∧ W'.cell? y = some v ∧ W'.cell? z = some s :=
  ⟨(hb.cell (cellLt h.1)).trans h.1, (hb.cell (cellLt h.2.1)).trans h.2.1, (hb.cell (cellLt h.2.2)).trans h.2.2⟩
theorem undrew {W w1 : World} (h : Below W.drew.heap.size W.drew w1) : Below W.heap.size W w1 := ⟨h.os, h.tape, h.output, h.size, h.block⟩
theorem holds_p (t B : Nat) (s : Vt) (k : Ky) (w : World) (h : IsV w B t s) : Calls Try.prog 14 #[.pointer (some ⟨t, 0, none⟩), k.agg] w fun e w' => e = .returned (.bool (inK s.ks k)) ∧ Below w.heap.size w w' := by
  obtain ⟨a, cap, hv⟩ := owns_len h.rk
  have HB : Hid (∀ W, Below w.heap.size w W → W.cell? ⟨t, 1, none⟩ = some (.slice a s.ks.length cap)) := fun W hb => by rw [(h.below hb).cells.2.1, hv]
  have HC : Hid (∀ W, Below w.heap.size w W → Calls Try.prog 35 #[.slice a s.ks.length cap, .agg #[.int .i64 k.d, .string k.nm]] W fun e w' => e = .returned (.bool (inK s.ks k)) ∧ Below W.heap.size W w') := fun W hb => by
    have := contains_k s.pv k s.ks W ((h.rk.below hb).rd) (by have := h.lk; omega)
    rw [hv] at this; exact this
  clear h hv
  unfold Ky.agg
  go_enter Try.func14, Try.ntmps14
  go_upto_region 1 with fail
  obtain ⟨W, hW⟩ : ∃ W, w.alloc (.cells #[.int .i64 k.d, .string k.nm] 36) = W := ⟨_, rfl⟩
  rw [hW]
  obtain ⟨bx, bb⟩ := box_new (wr := w) (k := k)
  rw [hW] at bx bb
  obtain ⟨b0, b1, -⟩ := bx.cells
  have c1 := HB.out W bb
  have HW : Hid (Below w.heap.size w W) := bb
  clear hW bx bb
  go_region_held3 (fun w' => w'.cell? ⟨t, 1, none⟩ = some (.slice a s.ks.length cap) ∧ w'.cell? ⟨w.heap.size, 0, none⟩ = some (.int .i64 k.d) ∧ w'.cell? ⟨w.heap.size, 1, none⟩ = some (.string k.nm))
    (first | exact ⟨c1, b0, b1⟩ | exact keep3 ⟨c1, b0, b1⟩ hb | assumption)
    (first | (go_at_call 35; refine (HC.out _ (HW.out.drew)).mono ?_; rintro e w1 ⟨rfl, hb0⟩; have hb := undrew hb0))
  go_wp2
  go_ret
  exact ⟨rfl, chainB HW.out hb⟩
theorem promises_p (t B : Nat) (s : Vt) (w : World) (h : IsV w B t s) : Calls Try.prog 28 #[.pointer (some ⟨t, 0, none⟩)] w fun e w' => ∃ v', e = .returned v' ∧ RowK w' w.heap.size v' s.ks ∧ Below w.heap.size w w' := by
  obtain ⟨a, cap, hv⟩ := owns_len h.rk
  obtain ⟨-, c1, -, -, -, -⟩ := h.cells
  rw [hv] at c1
  have HC : Hid (Calls Try.prog 47 #[.slice a s.ks.length cap] w fun e w' => ∃ v', e = .returned v' ∧ RowK w' w.heap.size v' s.ks ∧ Below w.heap.size w w') := by
    have := clone_k s.pv s.ks w h.rk.rd (by have := h.lk; omega)
    rw [hv] at this; exact this
  clear h hv
  go_enter Try.func28, Try.ntmps28
  go_wp2_with (go_at_call 47; refine HC.out.mono ?_; rintro e w' ⟨v', rfl, hr, hb⟩; obtain ⟨av, cv, rfl⟩ := owns_len hr)
  go_ret
  exact ⟨_, rfl, hr, hb⟩
theorem new_no (e : Int) (p q : Int) (w : World) (h : withinB e = false ∨ p < 1 ∨ 32 < p ∨ q < 1 ∨ 16 < q) :
    Calls Try.prog 9 #[.int .i64 e, .int .i64 p, .int .i64 q] w fun x w' => x = .returned (.tuple #[.pointer none, .int .i64 1]) ∧ w' = w := by
  cases he : withinB e with
  | false =>
    have HA : Hid (∀ w, Calls Try.prog 33 #[.int .i64 e, .int .i64 0] w fun e w' => e = .returned (.tuple #[.complex .f64 0 0, .int .i64 1]) ∧ w' = w) := fun w => at_no e 0 w (by rw [he]; rfl)
    clear h
    go_enter Try.func9, Try.ntmps9
    go_wp2_with (go_at_call 33; refine (HA.out _).mono ?_; rintro e w' ⟨rfl, rfl⟩)
    go_ret2
    exact ⟨rfl, rfl⟩
  | true =>
    have HA : Hid (∀ w, Calls Try.prog 33 #[.int .i64 e, .int .i64 0] w fun x w' => x = .returned (.tuple #[.complex .f64 (floatOfInt .f64 e) (floatOfInt .f64 0), .int .i64 0]) ∧ w' = w) := fun w => at_yes e 0 w he rfl
    have h : p < 1 ∨ 32 < p ∨ q < 1 ∨ 16 < q := by rw [he] at h; simpa using h
    by_cases h1 : p < 1
    · clear h
      go_enter Try.func9, Try.ntmps9
      go_wp2_with (go_at_call 33; refine (HA.out _).mono ?_; rintro e w' ⟨rfl, rfl⟩)
      go_ret2
      exact ⟨rfl, rfl⟩
    by_cases h2 : 32 < p
    · clear h
      go_enter Try.func9, Try.ntmps9
      go_wp2_with (go_at_call 33; refine (HA.out _).mono ?_; rintro e w' ⟨rfl, rfl⟩)
      go_ret2
      exact ⟨rfl, rfl⟩
    by_cases h3 : q < 1
    · clear h
      go_enter Try.func9, Try.ntmps9
      go_wp2_with (go_at_call 33; refine (HA.out _).mono ?_; rintro e w' ⟨rfl, rfl⟩)
      go_ret2
      exact ⟨rfl, rfl⟩
    have h4 : 16 < q := by omega
    clear h
    go_enter Try.func9, Try.ntmps9
    go_wp2_with (go_at_call 33; refine (HA.out _).mono ?_; rintro e w' ⟨rfl, rfl⟩)
    go_ret2
    exact ⟨rfl, rfl⟩
theorem new_yes (e : Int) (p q : Nat) (w : World) (he0 : 0 ≤ e) (he1 : e ≤ 1099511627776) (hp0 : 1 ≤ p) (hp : p ≤ 32) (hq0 : 1 ≤ q) (hq : q ≤ 16) :
    Calls Try.prog 9 #[.int .i64 e, .int .i64 p, .int .i64 q] w fun x w' => x = .returned (.tuple #[.pointer (some ⟨w.heap.size, 0, none⟩), .int .i64 0]) ∧ (∃ s, IsV w' w.heap.size w.heap.size s ∧ s.say = Vs.new e p q ∧ ∀ k, s.blk w.heap.size k → w.heap.size ≤ k) ∧ Below w.heap.size w w' := by
  have he : withinB e = true := decide_eq_true ⟨he0, he1⟩
  have HA : Hid (∀ w, Calls Try.prog 33 #[.int .i64 e, .int .i64 0] w fun x w' => x = .returned (.tuple #[.complex .f64 (floatOfInt .f64 e) (floatOfInt .f64 0), .int .i64 0]) ∧ w' = w) := fun w => at_yes e 0 w he rfl
  have HM : Hid (Mk (floatOfInt .f64 e) (floatOfInt .f64 0) e 0) := Mk.of he0 he1 (Int.le_refl _) (by omega)
  obtain ⟨ea, hea⟩ : ∃ ea, floatOfInt .f64 e = ea := ⟨_, rfl⟩
  obtain ⟨eb, heb⟩ : ∃ eb, floatOfInt .f64 0 = eb := ⟨_, rfl⟩
  rw [hea, heb] at HA HM
  have h1 : ¬ (p : Int) < 1 := by omega
  have h2 : ¬ 32 < (p : Int) := by omega
  have h3 : ¬ (q : Int) < 1 := by omega
  have h4 : ¬ 16 < (q : Int) := by omega
  clear he hea heb
  go_enter Try.func9, Try.ntmps9
  go_wp2_with (go_at_call 33; refine (HA.out _).mono ?_; rintro x w' ⟨rfl, rfl⟩)
  go_ret2
  have hm := HM.out
  refine ⟨rfl, ⟨⟨ea, eb, .slice none 0 0, [], .slice none 0 0, [], p, q⟩, ⟨heap_new _ _, Nat.le_refl _, World.ownsRow_nil _ _ _ _, World.ownsRow_nil _ _ _ _, fun b hb => (by cases hb), ?_, Nat.zero_le _, Nat.zero_le _, hp, hq⟩, ?_, ?_⟩, below_alloc _ _⟩
  · show Mk ea eb (part ea) (part eb)
    rw [hm.pa, hm.pb]; exact hm
  · show Vs.mk (part ea) (part eb) [] [] p q = _
    rw [hm.pa, hm.pb]; rfl
  · rintro k ((rfl | hk | hk) | ⟨b, hb, -⟩)
    · exact Nat.le_refl _
    · cases hk
    · cases hk
    · cases hb
end Go.Proofs.Ytaofhjckliobpaa
