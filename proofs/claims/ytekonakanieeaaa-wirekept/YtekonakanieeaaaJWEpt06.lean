/- The contracts of package mark's functions of one mark that the wire reaches. -/
import Derived.Test.YtekonakanieeaaaJWEpt05
import Derived.Test.YtekonakanieeaaaJWEpt04
namespace Go.Proofs.Ytekonakanieeaaa
section
open Go.RowKit

def withinB (n : Int) : Bool := decide (0 ≤ n ∧ n ≤ 1099511627776)

set_option maxHeartbeats 400000 in
theorem within_any (n : Int) (w : World) : Calls Try.prog 79 #[.int .i64 n] w fun e w' => e = .returned (.bool (withinB n)) ∧ w' = w := by
  by_cases h0 : 0 ≤ n
  · have hw : withinB n = decide (n ≤ 1099511627776) := by unfold withinB; simp [h0]
    rw [hw]
    go_enter Try.func79, Try.ntmps79
    go_wp2
    go_ret
    exact ⟨rfl, rfl⟩
  · have hw : withinB n = false := by unfold withinB; simp [h0]
    rw [hw]
    go_enter Try.func79, Try.ntmps79
    go_wp2
    go_ret
    exact ⟨rfl, rfl⟩

set_option maxHeartbeats 400000 in
theorem at_yes (a b : Int) (w : World) (ha : withinB a = true) (hb : withinB b = true) :
    Calls Try.prog 45 #[.int .i64 a, .int .i64 b] w fun e w' => e = .returned (.tuple #[.complex .f64 (floatOfInt .f64 a) (floatOfInt .f64 b), .int .i64 0]) ∧ w' = w := by
  go_enter Try.func45, Try.ntmps45
  go_wp2_with (go_at_call 79; refine (within_any _ _).mono ?_; rintro e w' ⟨rfl, rfl⟩)
  go_ret2
  exact ⟨rfl, rfl⟩

theorem good_iff (a b : Nat) : goodB a b = true ↔ ∃ n k : Int, 0 ≤ n ∧ n ≤ 1099511627776 ∧ 0 ≤ k ∧ k ≤ 1099511627776 ∧ fval a = some (n * U) ∧ fval b = some (k * U) := by
  unfold goodB
  rw [Bool.and_eq_true, wholeB_iff, wholeB_iff]
  constructor
  · rintro ⟨⟨n, h1, h2, h3⟩, k, h4, h5, h6⟩; exact ⟨n, k, h1, h2, h4, h5, h3, h6⟩
  · rintro ⟨n, k, h1, h2, h4, h5, h3, h6⟩; exact ⟨⟨n, h1, h2, h3⟩, k, h4, h5, h6⟩

theorem good_parts {a b : Nat} (h : goodB a b = true) : 0 ≤ part a ∧ part a ≤ 1099511627776 ∧ 0 ≤ part b ∧ part b ≤ 1099511627776 ∧ fval a = some (part a * U) ∧ fval b = some (part b * U) := by
  obtain ⟨n, k, h1, h2, h4, h5, h3, h6⟩ := (good_iff a b).1 h
  rw [part_of h3, part_of h6]
  exact ⟨h1, h2, h4, h5, h3, h6⟩

theorem good_of {a b : Nat} {n k : Int} (ha : fval a = some (n * U)) (hb : fval b = some (k * U)) : goodB a b = decide (0 ≤ n ∧ n ≤ 1099511627776 ∧ 0 ≤ k ∧ k ≤ 1099511627776) := by
  by_cases h : 0 ≤ n ∧ n ≤ 1099511627776 ∧ 0 ≤ k ∧ k ≤ 1099511627776
  · rw [decide_eq_true h]; exact (good_iff a b).2 ⟨n, k, h.1, h.2.1, h.2.2.1, h.2.2.2, ha, hb⟩
  · rw [decide_eq_false h]
    cases hg : goodB a b
    · rfl
    · exfalso; apply h
      have := good_parts hg
      rw [part_of ha, part_of hb] at this
      exact ⟨this.1, this.2.1, this.2.2.1, this.2.2.2.1⟩
end
section
open Go.RowKit

def rwp (x : Nat) : Int := match fval x with
  | some a => if 0 ≤ a ∧ a ≤ 1099511627776 * U then a / U else 0
  | none => 0

theorem rwp_eq {x : Nat} (h : wholeB x = true) : rwp x = part x := by
  obtain ⟨n, h0, h1, hv⟩ := (wholeB_iff x).1 h
  rw [part_of hv]
  unfold rwp
  rw [hv]
  simp only
  rw [if_pos ⟨Int.mul_nonneg h0 (Int.le_of_lt U_pos), Int.mul_le_mul_of_nonneg_right h1 (Int.le_of_lt U_pos)⟩, Int.mul_ediv_cancel _ (Int.ne_of_gt U_pos)]

set_option maxHeartbeats 400000 in
theorem rwhole_no (x : Nat) (w : World) (c1 c2 : Option Ordering) (h1 : FloatKind.f64.format.order x 0 = c1) (h2 : FloatKind.f64.format.order x 4787326403894837248 = c2)
    (hn : ((c1 == some .gt || c1 == some .eq) && (c2 == some .lt || c2 == some .eq)) = false) :
    Calls Try.prog 76 #[.float .f64 x] w fun e w' => e = .returned (.tuple #[.int .i64 0, .bool false]) ∧ w' = w := by
  rcases c1 with _ | _ | _ | _ <;> rcases c2 with _ | _ | _ | _ <;> first | (exfalso; revert hn; decide) | skip
  all_goals
    clear hn
    go_enter Try.func76, Try.ntmps76
    go_wp2
    go_ret2
    exact ⟨rfl, rfl⟩

set_option maxHeartbeats 400000 in
theorem rwhole_mid (x : Nat) (n : Int) (w : World) (c1 c2 c3 : Option Ordering) (h1 : FloatKind.f64.format.order x 0 = c1) (h2 : FloatKind.f64.format.order x 4787326403894837248 = c2)
    (h3 : FloatKind.f64.format.order (floatOfInt .f64 n) x = c3) (hy : ((c1 == some .gt || c1 == some .eq) && (c2 == some .lt || c2 == some .eq)) = true)
    (hc : ∀ w, (convert 110 3 (.float .f64 x)).run Try.prog w = .ok (.int .i64 n) w) :
    Calls Try.prog 76 #[.float .f64 x] w fun e w' => e = .returned (.tuple #[.int .i64 n, .bool (c3 == some .eq)]) ∧ w' = w := by
  rcases c1 with _ | _ | _ | _ <;> rcases c2 with _ | _ | _ | _ <;> first | (exfalso; revert hy; decide) | skip
  all_goals
    clear hy
    go_enter Try.func76, Try.ntmps76
    go_wp2
    go_ret2
    exact ⟨rfl, rfl⟩

theorem rwhole_any (x : Nat) (w : World) : Calls Try.prog 76 #[.float .f64 x] w fun e w' => e = .returned (.tuple #[.int .i64 (rwp x), .bool (wholeB x)]) ∧ w' = w := by
  cases hx : fval x with
  | none =>
    have hf : wholeB x = false := by unfold wholeB; rw [hx]
    have hr : rwp x = 0 := by unfold rwp; rw [hx]
    rw [hf, hr]
    refine rwhole_no x w _ _ rfl rfl ?_
    rcases order_none hx with h | h | h
    · rw [order64, order64, h 0 _ val_zero, h _ _ val_max]; rfl
    · rw [order64, order64, h 0 _ val_zero, h _ _ val_max]; rfl
    · rw [order64, order64, h 0, h]; rfl
  | some a =>
    have e1 : FloatKind.f64.format.order x 0 = some (compare a 0) := order_val hx val_zero
    have e2 : FloatKind.f64.format.order x 4787326403894837248 = some (compare a (1099511627776 * U)) := order_val hx val_max
    have ht : ((some (compare a 0) == some Ordering.gt || some (compare a 0) == some Ordering.eq) && (some (compare a (1099511627776 * U)) == some Ordering.lt || some (compare a (1099511627776 * U)) == some Ordering.eq)) = decide (0 ≤ a ∧ a ≤ 1099511627776 * U) := by
      rw [beq_cmp_gt, beq_cmp_eq, beq_cmp_lt, beq_cmp_eq]
      generalize 1099511627776 * U = z
      rw [Bool.eq_iff_iff]; simp; omega
    by_cases hr : 0 ≤ a ∧ a ≤ 1099511627776 * U
    · have hu := U_pos
      have hd : a / U ≤ 1099511627776 := Int.le_of_mul_le_mul_right (Int.le_trans (Int.ediv_mul_le a (Int.ne_of_gt hu)) hr.2) hu
      have hd0 : 0 ≤ a / U := Int.ediv_nonneg hr.1 (Int.le_of_lt hu)
      have h3 := order_val (ofInt_val (a / U) (by omega)) hx
      have hc : ∀ w, (convert 110 3 (.float .f64 x)).run Try.prog w = .ok (.int .i64 (a / U)) w := by
        intro w
        refine run_convert_float_int w 110 3 .f64 .i64 x (a / U) (by rw [Try.underlying110]; rfl) Try.underlying3 ?_
        unfold floatToIntVal
        have ht : (FloatKind.f64.decode x).toInt .zero = some (a / U) := toInt_val hx hr.1
        rw [ht]
        have hb : IntKind.i64.min ≤ a / U ∧ a / U ≤ IntKind.i64.max := by
          have a1 : IntKind.i64.min = -9223372036854775808 := rfl
          have a2 : IntKind.i64.max = 9223372036854775807 := rfl
          omega
        simp only [if_pos hb]
      have := rwhole_mid x (a / U) w _ _ _ e1 e2 h3 (by rw [ht]; simpa using hr) hc
      rw [beq_cmp_eq] at this
      have hw : wholeB x = decide (a / U * U = a) := by
        unfold wholeB; rw [hx]; simp only [hr.1, hr.2, true_and]
      have hp : rwp x = a / U := by unfold rwp; rw [hx]; simp only; rw [if_pos hr]
      rw [hw, hp]; exact this
    · have hf : wholeB x = false := by unfold wholeB; rw [hx]; simp; intro h1 h2; exact absurd ⟨h1, h2⟩ hr
      have hp : rwp x = 0 := by unfold rwp; rw [hx]; simp only; rw [if_neg hr]
      rw [hf, hp]
      exact rwhole_no x w _ _ e1 e2 (by rw [ht]; simpa using hr)

set_option maxHeartbeats 400000 in
theorem parts_no (a b : Nat) (w : World) (h : (wholeB a && wholeB b) = false) :
    Calls Try.prog 38 #[.complex .f64 a b] w fun e w' => e = .returned (.tuple #[.int .i64 0, .int .i64 0, .bool false]) ∧ w' = w := by
  cases h1 : wholeB a
  · clear h
    go_enter Try.func38, Try.ntmps38
    go_wp2_with (go_at_call 76; refine (rwhole_any _ _).mono ?_; rintro e w' ⟨rfl, rfl⟩)
    go_ret3
    exact ⟨rfl, rfl⟩
  · have h2 : wholeB b = false := by rw [h1] at h; simpa using h
    clear h
    go_enter Try.func38, Try.ntmps38
    go_wp2_with (go_at_call 76; refine (rwhole_any _ _).mono ?_; rintro e w' ⟨rfl, rfl⟩)
    go_ret3
    exact ⟨rfl, rfl⟩

set_option maxHeartbeats 400000 in
theorem parts_yes (a b : Nat) (w : World) (h1 : wholeB a = true) (h2 : wholeB b = true) :
    Calls Try.prog 38 #[.complex .f64 a b] w fun e w' => e = .returned (.tuple #[.int .i64 (rwp a), .int .i64 (rwp b), .bool true]) ∧ w' = w := by
  go_enter Try.func38, Try.ntmps38
  go_wp2_with (go_at_call 76; refine (rwhole_any _ _).mono ?_; rintro e w' ⟨rfl, rfl⟩)
  go_ret3
  exact ⟨rfl, rfl⟩

theorem parts_any (a b : Nat) (w : World) : Calls Try.prog 38 #[.complex .f64 a b] w fun e w' => e = .returned (.tuple #[.int .i64 (if goodB a b then part a else 0), .int .i64 (if goodB a b then part b else 0), .bool (goodB a b)]) ∧ w' = w := by
  cases h : goodB a b
  · exact parts_no a b w h
  · have h' := h
    unfold goodB at h'
    simp only [Bool.and_eq_true] at h'
    have := parts_yes a b w h'.1 h'.2
    rw [rwp_eq h'.1, rwp_eq h'.2] at this
    exact this
end
section
open Go.RowKit Go.Lib

/-- a message in memory -/
structure Ms where
  kind : Int
  client : Int
  life : Int
  seq : Int
  re : Nat
  im : Nat
  vers : Int
  err : Int
  op : Opn
  ve : Value
  vk : Value
  es : List En
  ks : List Ky
def Ms.arr (m : Ms) : Array Value := #[.int .i64 m.kind, .int .i64 m.client, .int .i64 m.life, .int .i64 m.seq, .complex .f64 m.re m.im, .int .i64 m.vers, .int .i64 m.err, .int .i64 m.op.kind, .int .i64 m.op.dir, .string m.op.nm, .int .i64 m.op.dst, .string m.op.new, .int .i64 m.op.mode, .string m.op.tg, m.ve, m.vk]
/-- what it says, the mark by its parts -/
def Ms.mg (m : Ms) : Mg := ⟨m.kind, m.client, m.life, m.seq, part m.re, part m.im, m.vers, m.err, m.op, m.es, m.ks⟩
/-- its lists -/
structure Rows (w : World) (m : Ms) : Prop where
  es : Row7 w 0 m.ve m.es
  ks : RowK w 0 m.vk m.ks
theorem Rows.kp {t : Nat} {w w' : World} {m : Ms} (h : Rows w m) (k : Kp t w w') (ht : Tag w t 86) : Rows w' m := ⟨h.es.kp k ht, h.ks.kp k ht⟩
theorem Wrote.drew {w0 w wr : World} {t : Nat} {l : List Int} (h : Wrote w0 w wr t l) : Wrote w0 w wr.drew t l := by
  obtain ⟨⟨v, hv⟩, hk⟩ := h
  exact ⟨⟨v, hv.below (Below.refl _ _).drew⟩, hk.trans (Kp.of (Below.refl _ _).drew)⟩
theorem Wrote.numsD {w0 w wr : World} {t : Nat} {l : List Int} (h : Wrote w0 w wr t l) (xs : List Int) (hx : ∀ x ∈ xs, numOk x) (hl : l.length + xs.length * 6 ≤ 1000000) :
    Calls Try.prog 64 #[.pointer (some ⟨t, 0, none⟩), .slice (some ⟨wr.heap.size, 0, none⟩) xs.length xs.length] (wr.alloc (.cells (xs.map (Value.int .i64)).toArray 3)).drew fun e w' => WrR w0 w t (l ++ numsB xs) e w' := by
  have h1 := (h.alloc (.cells (xs.map (Value.int .i64)).toArray 3)).drew
  obtain ⟨⟨v, hv⟩, hk⟩ := h1
  have htl : t < wr.heap.size := by obtain ⟨⟨v, hv⟩, _⟩ := h; exact hv.tt.lt
  have hh : (wr.alloc (.cells (xs.map (Value.int .i64)).toArray 3)).drew.heap[wr.heap.size]? = some (.cells (xs.map (Value.int .i64)).toArray 3 (0, 0)) := heap_new _ _
  have hr : RowN (wr.alloc (.cells (xs.map (Value.int .i64)).toArray 3)).drew t (some ⟨wr.heap.size, 0, none⟩) xs := by
    refine ⟨wr.heap.size, 3, rfl, ⟨_, _, hh⟩, by decide, by omega, fun i x hx => ?_⟩
    rw [cell_of hh]
    simp [hx]
  exact (numbers_w t _ xs.length xs l v w0 _ hv hr hx hl).mono fun e w' ⟨he, hw⟩ => ⟨he, hw.1, hk.trans hw.2⟩
def headB (m : Mg) : List Int := numsB [m.client, m.life, m.seq, m.ep, m.nb, m.vers, m.err]
theorem msg_step (l : List Int) (m : Mg) : ((l ++ [m.kind]) ++ headB m) ++ bodyB m = l ++ msgB m := by
  unfold msgB headB numsB
  simp
theorem headB_len {m : Mg} (h : headOk m) : (headB m).length ≤ 42 := by
  unfold headB numsB
  have h1 := numI_len h.client
  have h2 := numI_len h.life
  have h3 := numI_len h.seq
  have h4 := numI_len h.ep
  have h5 := numI_len h.nb
  have h6 := numI_len h.vers
  have h7 := numI_len h.err
  simp only [List.flatMap_cons, List.flatMap_nil, List.length_append, List.length_nil]
  omega
theorem headOk.all {m : Mg} (h : headOk m) : ∀ x ∈ [m.client, m.life, m.seq, m.ep, m.nb, m.vers, m.err], numOk x := by
  intro x hx
  simp only [List.mem_cons, List.not_mem_nil, or_false] at hx
  rcases hx with rfl | rfl | rfl | rfl | rfl | rfl | rfl
  · exact h.client
  · exact h.life
  · exact h.seq
  · exact h.ep
  · exact h.nb
  · exact h.vers
  · exact h.err
set_option maxRecDepth 20000 in
set_option maxHeartbeats 4000000 in
theorem message_w {w0 w : World} {t : Nat} {l : List Int} (m : Ms) (h : Wg w0 w t l) (hr : Rows w m) (hg : goodB m.re m.im = true) (hk : msgOk m.mg) (hl : l.length ≤ 100) :
    Calls Try.prog 36 #[.pointer (some ⟨t, 0, none⟩), .agg m.arr] w fun e w' => WrR w0 w t (l ++ msgB m.mg) e w' := by
  rw [← msg_step]
  have HM : Hid (msgOk m.mg ∧ (l ++ [m.mg.kind] ++ headB m.mg).length ≤ 200) := ⟨hk, by have := headB_len hk.1; rw [List.length_append, List.length_append]; simp; omega⟩
  have hbody := hk.2
  obtain ⟨kind, client, life, seq, re, im, vers, err, op, ve, vk, es, ks⟩ := m
  unfold Ms.arr
  simp only []
  obtain ⟨W, hW⟩ : ∃ W, w.alloc (.cells #[.int .i64 kind, .int .i64 client, .int .i64 life, .int .i64 seq, .complex .f64 re im, .int .i64 vers, .int .i64 err, .int .i64 op.kind, .int .i64 op.dir, .string op.nm, .int .i64 op.dst, .string op.new, .int .i64 op.mode, .string op.tg, ve, vk] 30) = W := ⟨_, rfl⟩
  have hb := boxed h hW
  have HB : Hid (Wg w0 W t l ∧ W.heap[w.heap.size]? = some (.cells #[.int .i64 kind, .int .i64 client, .int .i64 life, .int .i64 seq, .complex .f64 re im, .int .i64 vers, .int .i64 err, .int .i64 op.kind, .int .i64 op.dir, .string op.nm, .int .i64 op.dst, .string op.new, .int .i64 op.mode, .string op.tg, ve, vk] 30 (0, 0)) ∧ w.heap.size ≠ t ∧ Kp t w W) := hb
  have HR : Hid (Rows W ⟨kind, client, life, seq, re, im, vers, err, op, ve, vk, es, ks⟩) := hr.kp hb.2.2.2 h.tt
  have x0 := cell_of hb.2.1 0
  simp at x0
  have hk0 : 0 ≤ kind ∧ kind < 256 := by have := hk.2; unfold bodyOk at this; simp only [Ms.mg] at this; omega
  obtain ⟨L1, hL1⟩ : ∃ L, l ++ [kind] = L := ⟨_, rfl⟩
  have HO : Hid (Calls Try.prog 63 #[.pointer (some ⟨t, 0, none⟩), .int .i64 kind] W fun e w' => e = .returned (.tuple #[]) ∧ Hid (Wrote w0 W w' t L1)) := by rw [← hL1]; exact hb.1.wrote.octet kind (by omega) hk0
  obtain ⟨L2, hL2⟩ : ∃ L, L1 ++ headB (Ms.mg ⟨kind, client, life, seq, re, im, vers, err, op, ve, vk, es, ks⟩) = L := ⟨_, rfl⟩
  have HNu : Hid (∀ W2, Wrote w0 W W2 t L1 → Calls Try.prog 64 #[.pointer (some ⟨t, 0, none⟩), .slice (some ⟨W2.heap.size, 0, none⟩) 7 7] (W2.alloc (.cells #[.int .i64 client, .int .i64 life, .int .i64 seq, .int .i64 (part re), .int .i64 (part im), .int .i64 vers, .int .i64 err] 3)).drew fun e w' => WrR w0 W t L2 e w') := fun W2 h2 => by
    rw [← hL2]
    exact h2.numsD _ hk.1.all (by rw [← hL1, List.length_append]; simp; omega)
  have HEp : Hid (∀ W, Calls Try.prog 65 #[.complex .f64 re im] W fun e w' => e = .returned (.int .i64 (part re)) ∧ W = w') := fun W => (epoch_any re im W).mono fun _ _ hh => ⟨by rw [hh.1, if_pos hg], hh.2.symm⟩
  have HNb : Hid (∀ W, Calls Try.prog 66 #[.complex .f64 re im] W fun e w' => e = .returned (.int .i64 (part im)) ∧ W = w') := fun W => (number_any re im W).mono fun _ _ hh => ⟨by rw [hh.1, if_pos hg], hh.2.symm⟩
  rw [show (Ms.mg ⟨kind, client, life, seq, re, im, vers, err, op, ve, vk, es, ks⟩).kind = kind from rfl, hL1, hL2] at HM ⊢
  clear hb h hr hk hg hL1 hL2
  go_enter Try.func36, Try.ntmps36
  go_upto_region 1 with fail
  clear hW
  go_upto_region 2 with (go_at_call 63; refine HO.out.mono ?_; rintro e w1 ⟨rfl, h1⟩)
  have y0 := h1.out.2.cell HB.out.2.1 (by decide) HB.out.2.2.1 0
  have y1 := h1.out.2.cell HB.out.2.1 (by decide) HB.out.2.2.1 1
  have y2 := h1.out.2.cell HB.out.2.1 (by decide) HB.out.2.2.1 2
  have y3 := h1.out.2.cell HB.out.2.1 (by decide) HB.out.2.2.1 3
  have y4 := h1.out.2.cell HB.out.2.1 (by decide) HB.out.2.2.1 4
  have y5 := h1.out.2.cell HB.out.2.1 (by decide) HB.out.2.2.1 5
  have y6 := h1.out.2.cell HB.out.2.1 (by decide) HB.out.2.2.1 6
  simp at y0 y1 y2 y3 y4 y5 y6
  clear x0 HO
  have HKp : Hid (∀ w', Kp t W w' → w'.cell? ⟨w.heap.size, 1, none⟩ = some (.int .i64 client) ∧ w'.cell? ⟨w.heap.size, 2, none⟩ = some (.int .i64 life) ∧ w'.cell? ⟨w.heap.size, 3, none⟩ = some (.int .i64 seq) ∧ w'.cell? ⟨w.heap.size, 4, none⟩ = some (.complex .f64 re im) ∧ w'.cell? ⟨w.heap.size, 5, none⟩ = some (.int .i64 vers) ∧ w'.cell? ⟨w.heap.size, 6, none⟩ = some (.int .i64 err)) := fun w' hk => by
    have z1 := hk.cell HB.out.2.1 (by decide) HB.out.2.2.1 1
    have z2 := hk.cell HB.out.2.1 (by decide) HB.out.2.2.1 2
    have z3 := hk.cell HB.out.2.1 (by decide) HB.out.2.2.1 3
    have z4 := hk.cell HB.out.2.1 (by decide) HB.out.2.2.1 4
    have z5 := hk.cell HB.out.2.1 (by decide) HB.out.2.2.1 5
    have z6 := hk.cell HB.out.2.1 (by decide) HB.out.2.2.1 6
    simp at z1 z2 z3 z4 z5 z6
    exact ⟨z1, z2, z3, z4, z5, z6⟩
  have k0 := HKp.out _ h1.out.drew.2
  have kA := HKp.out _ (h1.out.alloc (.cells #[.int .i64 client, .int .i64 life, .int .i64 seq, .int .i64 (part re), .int .i64 (part im), .int .i64 vers, .int .i64 err] 3)).drew.2
  go_region_held3 (fun w' => w'.cell? ⟨w.heap.size, 1, none⟩ = some (.int .i64 client) ∧ w'.cell? ⟨w.heap.size, 2, none⟩ = some (.int .i64 life) ∧ w'.cell? ⟨w.heap.size, 3, none⟩ = some (.int .i64 seq) ∧ w'.cell? ⟨w.heap.size, 4, none⟩ = some (.complex .f64 re im) ∧ w'.cell? ⟨w.heap.size, 5, none⟩ = some (.int .i64 vers) ∧ w'.cell? ⟨w.heap.size, 6, none⟩ = some (.int .i64 err))
    (with_reducible first | exact k2 | exact kA | exact k0)
    (first
      | (go_at_call 65; refine (HEp.out _).mono ?_; rintro x w4 ⟨rfl, rfl⟩)
      | (go_at_call 66; refine (HNb.out _).mono ?_; rintro x w4 ⟨rfl, rfl⟩)
      | (go_at_call 64; refine (HNu.out _ h1.out).mono ?_; rintro x w2 ⟨rfl, h2⟩; have k2 := HKp.out _ h2.out.2))
  have HR2 : Hid (Rows w2 ⟨kind, client, life, seq, re, im, vers, err, op, ve, vk, es, ks⟩) := HR.out.kp h2.out.2 HB.out.1.tt
  clear y0 y1 y2 y3 y4 y5 y6 HNu HEp HNb HR h1 k0 kA k2 HKp
  unfold bodyOk at hbody
  simp only [Ms.mg] at hbody
  have z0 := h2.out.2.cell HB.out.2.1 (by decide) HB.out.2.2.1 0
  simp at z0
  have HF : Hid (∀ w3 (B : List Int), Wrote w0 w2 w3 t (L2 ++ B) → bodyB (Ms.mg ⟨kind, client, life, seq, re, im, vers, err, op, ve, vk, es, ks⟩) = B → Wrote w0 w w3 t (L2 ++ bodyB (Ms.mg ⟨kind, client, life, seq, re, im, vers, err, op, ve, vk, es, ks⟩))) := fun w3 B h3 hB => by rw [hB]; exact ⟨h3.1, (HB.out.2.2.2.trans h2.out.2).trans h3.2⟩
  rcases hbody with ⟨rfl, h5, h6, h7⟩ | ⟨rfl, h5, h6, h7, h8⟩ | ⟨rfl, h5, h6, h7, h8, h9⟩ | ⟨rfl, h5, h6, h7⟩
  · have HC : Hid (Calls Try.prog 67 #[.pointer (some ⟨t, 0, none⟩), .agg #[.int .i64 op.kind, .int .i64 op.dir, .string op.nm, .int .i64 op.dst, .string op.new, .int .i64 op.mode, .string op.tg]] w2 fun e w' => WrR w0 w2 t (L2 ++ opB op) e w') := op_w h2.out.1 op h5 (by have := HM.out.2; omega)
    have q0 := h2.out.2.cell HB.out.2.1 (by decide) HB.out.2.2.1 7
    have q1 := h2.out.2.cell HB.out.2.1 (by decide) HB.out.2.2.1 8
    have q2 := h2.out.2.cell HB.out.2.1 (by decide) HB.out.2.2.1 9
    have q3 := h2.out.2.cell HB.out.2.1 (by decide) HB.out.2.2.1 10
    have q4 := h2.out.2.cell HB.out.2.1 (by decide) HB.out.2.2.1 11
    have q5 := h2.out.2.cell HB.out.2.1 (by decide) HB.out.2.2.1 12
    have q6 := h2.out.2.cell HB.out.2.1 (by decide) HB.out.2.2.1 13
    simp at q0 q1 q2 q3 q4 q5 q6
    clear h5 h6 h7
    go_wp2_with (go_at_call 67; refine HC.out.mono ?_; rintro x w3 ⟨rfl, h3⟩)
    go_end0
    exact ⟨rfl, HF.out _ _ h3.out rfl⟩
  · have HC : Hid (Calls Try.prog 68 #[.pointer (some ⟨t, 0, none⟩), ve, .func (.func 69) #[.pointer (some ⟨t, 0, none⟩)] #[]] w2 fun e w' => WrR w0 w2 t (L2 ++ (numI es.length ++ es.flatMap entB)) e w') := listE_w h2.out.1 HR2.out.es h7 h6 (by have := HM.out.2; omega)
    have q0 := h2.out.2.cell HB.out.2.1 (by decide) HB.out.2.2.1 14
    simp at q0
    obtain ⟨av, cv, ev⟩ := owns_len HR2.out.es
    simp only [] at ev
    subst ev
    clear h5 h6 h7 h8
    go_wp2_with (go_at_call 68; refine HC.out.mono ?_; rintro x w3 ⟨rfl, h3⟩)
    go_end0
    exact ⟨rfl, HF.out _ _ h3.out rfl⟩
  · have HC : Hid (Calls Try.prog 70 #[.pointer (some ⟨t, 0, none⟩), vk, .func (.func 71) #[.pointer (some ⟨t, 0, none⟩)] #[]] w2 fun e w' => WrR w0 w2 t (L2 ++ (numI ks.length ++ ks.flatMap keyB)) e w') := listK_w h2.out.1 HR2.out.ks h9 h8 (by have := HM.out.2; omega)
    have q0 := h2.out.2.cell HB.out.2.1 (by decide) HB.out.2.2.1 15
    simp at q0
    obtain ⟨av, cv, ev⟩ := owns_len HR2.out.ks
    simp only [] at ev
    subst ev
    clear h5 h6 h7 h8 h9
    go_wp2_with (go_at_call 70; refine HC.out.mono ?_; rintro x w3 ⟨rfl, h3⟩)
    go_end0
    exact ⟨rfl, HF.out _ _ h3.out rfl⟩
  · clear h5 h6 h7
    go_wp2
    go_end0
    exact ⟨rfl, HF.out _ [] (by simpa using ⟨h2.out.1, Kp.refl _ _⟩) rfl⟩
end
section
open Go.RowKit Go.Lib

/-- a row of plain cells at the beginning of a block -/
def RowV (w : World) (a : Option Addr) (vs : List Value) : Prop := ∃ g, a = some ⟨g, 0, none⟩ ∧ g < w.heap.size ∧ ∀ (i : Nat) (x : Value), vs[i]? = some x → w.cell? ⟨g, i, none⟩ = some x
theorem rowV_new (w : World) (vs : List Value) (ty : TypeId) : RowV (w.alloc (.cells vs.toArray ty)) (some ⟨w.heap.size, 0, none⟩) vs := by
  refine ⟨_, rfl, by simp, fun i x hx => ?_⟩
  rw [cell_of (heap_new _ _)]
  simpa using hx
theorem rowV_newD (w : World) (vs : List Value) (ty : TypeId) : RowV (w.alloc (.cells vs.toArray ty)).drew (some ⟨w.heap.size, 0, none⟩) vs := by
  refine ⟨_, rfl, by simp, fun i x hx => ?_⟩
  have hh : (w.alloc (.cells vs.toArray ty)).drew.heap[w.heap.size]? = some (.cells vs.toArray ty (0, 0)) := heap_new _ _
  rw [cell_of hh]
  simpa using hx
def numsOkB (xs : List Int) : Bool := xs.all fun x => decide (numOk x)
def sizesB (ss : List ByteArray) : Bool := ss.all fun s => decide (s.size ≤ 96)
theorem all_no {α : Type} (p : α → Bool) (xs : List α) (k : Nat) (x : α) (h : xs[k]? = some x) (hx : p x = false) : xs.all p = false := by
  rw [List.all_eq_false]
  exact ⟨x, List.mem_of_getElem? h, by simp [hx]⟩
theorem all_yes {α : Type} (p : α → Bool) (xs : List α) (n : Nat) (hn : xs.length = n) (h : ∀ j x, j < n → xs[j]? = some x → p x = true) : xs.all p = true := by
  rw [List.all_eq_true]
  intro x hx
  obtain ⟨i, hi⟩ := List.getElem?_of_mem hx
  exact h i x (by have := (List.getElem?_eq_some_iff.1 hi).1; omega) hi
set_option maxRecDepth 20000 in
set_option maxHeartbeats 4000000 in
theorem within_p (a : Option Addr) (cap : Nat) (xs : List Int) (w : World) (hr : RowV w a (xs.map (Value.int .i64))) (hl : xs.length ≤ 1000) :
    Calls Try.prog 51 #[.slice a xs.length cap] w fun e w' => e = .returned (.bool (numsOkB xs)) ∧ Below w.heap.size w w' := by
  obtain ⟨n, hn⟩ : ∃ n, xs.length = n := ⟨_, rfl⟩
  rw [hn] at hl ⊢
  obtain ⟨g, rfl, hg, hc⟩ := hr
  have H : Hid ((∀ (i : Nat) (x : Int), xs[i]? = some x → w.cell? ⟨g, i, none⟩ = some (.int .i64 x)) ∧ xs.length = n) := ⟨fun i x hx => hc i _ (by simp [hx]), hn⟩
  clear hc hn
  go_enter Try.func51, Try.ntmps51
  go_wp2
  go_loopw [7] (fun i wr => ∃ k : Nat, k ≤ n ∧ i = .int .i64 k ∧ Hid ((∀ (j : Nat) (x : Int), j < k → xs[j]? = some x → decide (numOk x) = true) ∧ Below w.heap.size w wr)) (fun i _ => n - (intOf i).toNat)
  case atStart => exact ⟨0, Nat.zero_le _, rfl, fun j x hj => (by omega), Below.refl _ _⟩
  case round =>
    obtain ⟨k, hk, rfl, hI⟩ := hrel
    by_cases hkn : k < n
    · obtain ⟨x, hx⟩ : ∃ x, xs[k]? = some x := ⟨_, List.getElem?_eq_getElem (by rw [H.out.2]; exact hkn)⟩
      have x0 := (hI.out.2.cell (p := ⟨g, k, none⟩) hg).trans (H.out.1 k x hx)
      have hki : (k : Int) < (n : Int) := by omega
      have HX : Hid (xs[k]? = some x) := hx
      by_cases h0 : x < 0
      · have hd : decide (x < 0) = true := decide_eq_true h0
        have HF : Hid (numsOkB xs = false) := all_no _ xs k x hx (decide_eq_false (by unfold numOk; omega))
        clear hx
        go_wp2
        go_ret
        exact ⟨by rw [HF.out]; rfl, hI.out.2⟩
      · have hd : decide (x < 0) = false := decide_eq_false h0
        by_cases h1 : 1099511627776 < x
        · have HF : Hid (numsOkB xs = false) := all_no _ xs k x hx (decide_eq_false (by unfold numOk; omega))
          clear hx
          go_wp2
          go_ret
          exact ⟨by rw [HF.out]; rfl, hI.out.2⟩
        · have HO : Hid (decide (numOk x) = true) := decide_eq_true (by unfold numOk; omega)
          clear hx
          go_wp2
          refine ⟨⟨k + 1, by omega, by simp, fun j y hj hy => ?_, hI.out.2⟩, by simp [intOf]; omega⟩
          by_cases hjk : j < k
          · exact hI.out.1 j y hjk hy
          · obtain rfl : j = k := by omega
            rw [HX.out] at hy
            cases hy
            exact HO.out
    · have hkn' : ¬ (k : Int) < (n : Int) := by omega
      obtain rfl : k = n := by omega
      have HF : Hid (numsOkB xs = true) := all_yes _ xs k H.out.2 hI.out.1
      go_wp2
      go_ret
      exact ⟨by rw [HF.out]; rfl, hI.out.2⟩
set_option maxRecDepth 20000 in
set_option maxHeartbeats 4000000 in
theorem short_p (a : Option Addr) (cap : Nat) (xs : List ByteArray) (w : World) (hr : RowV w a (xs.map Value.string)) (hl : xs.length ≤ 1000) :
    Calls Try.prog 83 #[.slice a xs.length cap] w fun e w' => e = .returned (.bool (sizesB xs)) ∧ Below w.heap.size w w' := by
  obtain ⟨n, hn⟩ : ∃ n, xs.length = n := ⟨_, rfl⟩
  rw [hn] at hl ⊢
  obtain ⟨g, rfl, hg, hc⟩ := hr
  have H : Hid ((∀ (i : Nat) (x : ByteArray), xs[i]? = some x → w.cell? ⟨g, i, none⟩ = some (.string x)) ∧ xs.length = n) := ⟨fun i x hx => hc i _ (by simp [hx]), hn⟩
  clear hc hn
  go_enter Try.func83, Try.ntmps83
  go_wp2
  go_loopw [7] (fun i wr => ∃ k : Nat, k ≤ n ∧ i = .int .i64 k ∧ Hid ((∀ (j : Nat) (x : ByteArray), j < k → xs[j]? = some x → decide (x.size ≤ 96) = true) ∧ Below w.heap.size w wr)) (fun i _ => n - (intOf i).toNat)
  case atStart => exact ⟨0, Nat.zero_le _, rfl, fun j x hj => (by omega), Below.refl _ _⟩
  case round =>
    obtain ⟨k, hk, rfl, hI⟩ := hrel
    by_cases hkn : k < n
    · obtain ⟨x, hx⟩ : ∃ x, xs[k]? = some x := ⟨_, List.getElem?_eq_getElem (by rw [H.out.2]; exact hkn)⟩
      have x0 := (hI.out.2.cell (p := ⟨g, k, none⟩) hg).trans (H.out.1 k x hx)
      have hki : (k : Int) < (n : Int) := by omega
      have HX : Hid (xs[k]? = some x) := hx
      by_cases h1 : 96 < x.size
      · have hd : (96 : Int) < (x.size : Int) := by omega
        have HF : Hid (sizesB xs = false) := all_no _ xs k x hx (decide_eq_false (by omega))
        clear hx
        go_wp2
        go_ret
        exact ⟨by rw [HF.out]; rfl, hI.out.2⟩
      · have hd : ¬ (96 : Int) < (x.size : Int) := by omega
        have HO : Hid (decide (x.size ≤ 96) = true) := decide_eq_true (by omega)
        clear hx
        go_wp2
        refine ⟨⟨k + 1, by omega, by simp, fun j y hj hy => ?_, hI.out.2⟩, by simp [intOf]; omega⟩
        by_cases hjk : j < k
        · exact hI.out.1 j y hjk hy
        · obtain rfl : j = k := by omega
          rw [HX.out] at hy
          cases hy
          exact HO.out
    · have hkn' : ¬ (k : Int) < (n : Int) := by omega
      obtain rfl : k = n := by omega
      have HF : Hid (sizesB xs = true) := all_yes _ xs k H.out.2 hI.out.1
      go_wp2
      go_ret
      exact ⟨by rw [HF.out]; rfl, hI.out.2⟩
end
section
open Go.RowKit Go.Lib

instance (k : Ky) : Decidable (keyOk k) := by unfold keyOk; infer_instance
instance (e : En) : Decidable (nodeOk e) := by unfold nodeOk; infer_instance
instance (e : En) : Decidable (nodeZ e) := by unfold nodeZ; infer_instance
instance (e : En) : Decidable (entOk e) := by unfold entOk; infer_instance
instance (o : Opn) : Decidable (opOk o) := by unfold opOk; infer_instance
theorem within_new (w : World) (xs : List Int) (hl : xs.length ≤ 1000) :
    Calls Try.prog 51 #[.slice (some ⟨w.heap.size, 0, none⟩) xs.length xs.length] (w.alloc (.cells (xs.map (Value.int .i64)).toArray 3)) fun e w' => e = .returned (.bool (numsOkB xs)) ∧ Below w.heap.size w w' :=
  (within_p _ xs.length xs _ (rowV_new w _ _) hl).mono fun _ _ h => ⟨h.1, chainB (below_alloc _ _) h.2⟩
theorem short_new (w : World) (xs : List ByteArray) (hl : xs.length ≤ 1000) :
    Calls Try.prog 83 #[.slice (some ⟨w.heap.size, 0, none⟩) xs.length xs.length] (w.alloc (.cells (xs.map Value.string).toArray 9)) fun e w' => e = .returned (.bool (sizesB xs)) ∧ Below w.heap.size w w' :=
  (short_p _ xs.length xs _ (rowV_new w _ _) hl).mono fun _ _ h => ⟨h.1, chainB (below_alloc _ _) h.2⟩
theorem numsOk1 (x : Int) : numsOkB [x] = decide (numOk x) := by simp [numsOkB]
theorem sizes1 (s : ByteArray) : sizesB [s] = decide (s.size ≤ 96) := by simp [sizesB]
/-- the box of a parameter -/
theorem boxB {w W : World} {cs : Array Value} {ty : TypeId} (hW : w.alloc (.cells cs ty) = W) : W.heap[w.heap.size]? = some (.cells cs ty (0, 0)) ∧ Below w.heap.size w W := by
  subst hW; exact ⟨heap_new _ _, below_alloc _ _⟩
set_option maxRecDepth 20000 in
set_option maxHeartbeats 4000000 in
theorem plainKey_p (k : Ky) (w : World) : Calls Try.prog 57 #[.agg #[.int .i64 k.d, .string k.nm]] w fun e w' => e = .returned (.bool (decide (keyOk k))) ∧ Below w.heap.size w w' := by
  obtain ⟨W, hW⟩ : ∃ W, w.alloc (.cells #[.int .i64 k.d, .string k.nm] 40) = W := ⟨_, rfl⟩
  have hb := boxB hW
  have HB : Hid (W.heap[w.heap.size]? = some (.cells #[.int .i64 k.d, .string k.nm] 40 (0, 0)) ∧ Below w.heap.size w W) := hb
  have x0 := cell_of hb.1 0
  simp at x0
  have HS : Hid (∀ W2, Calls Try.prog 83 #[.slice (some ⟨W2.heap.size, 0, none⟩) 1 1] (W2.alloc (.cells #[.string k.nm] 9)) fun e w' => e = .returned (.bool (sizesB [k.nm])) ∧ Below W2.heap.size W2 w') := fun W2 => short_new W2 [k.nm] (by simp)
  cases h1 : numsOkB [k.d] with
  | true =>
    have HN : Hid (∀ W2, Calls Try.prog 51 #[.slice (some ⟨W2.heap.size, 0, none⟩) 1 1] (W2.alloc (.cells #[.int .i64 k.d] 3)) fun e w' => e = .returned (.bool true) ∧ Below W2.heap.size W2 w') := fun W2 => by rw [← h1]; exact within_new W2 [k.d] (by simp)
    have HE : Hid (decide (keyOk k) = sizesB [k.nm]) := by
      show _ = _
      rw [numsOk1] at h1
      rw [sizes1]
      exact decide_eq_decide.2 ⟨fun h => h.2, fun h => ⟨of_decide_eq_true h1, h⟩⟩
    clear h1 hb
    go_enter Try.func57, Try.ntmps57
    go_upto_region 1 with fail
    clear hW
    go_wp2_with (first
      | (go_at_call 51; refine (HN.out _).mono ?_; rintro e w1 ⟨rfl, hb1⟩; have x1 := cell_of (hkeep HB.out.1 hb1) 1; simp at x1)
      | (go_at_call 83; refine (HS.out _).mono ?_; rintro e w2 ⟨rfl, hb2⟩))
    go_ret
    exact ⟨by rw [HE.out]; rfl, chainB HB.out.2 (chainB hb1 hb2)⟩
  | false =>
    have HN : Hid (∀ W2, Calls Try.prog 51 #[.slice (some ⟨W2.heap.size, 0, none⟩) 1 1] (W2.alloc (.cells #[.int .i64 k.d] 3)) fun e w' => e = .returned (.bool false) ∧ Below W2.heap.size W2 w') := fun W2 => by rw [← h1]; exact within_new W2 [k.d] (by simp)
    have HE : Hid (decide (keyOk k) = false) := decide_eq_false (fun h => by rw [numsOk1] at h1; exact of_decide_eq_false h1 h.1)
    clear h1 hb
    go_enter Try.func57, Try.ntmps57
    go_upto_region 1 with fail
    clear hW
    go_wp2_with (first
      | (go_at_call 51; refine (HN.out _).mono ?_; rintro e w1 ⟨rfl, hb1⟩)
      | (go_at_call 83; refine (HS.out _).mono ?_; rintro e w2 ⟨rfl, hb2⟩))
    go_ret
    exact ⟨by rw [HE.out]; rfl, chainB HB.out.2 hb1⟩
end
end Go.Proofs.Ytekonakanieeaaa
