/- What is plain: messages. -/
import Derived.Test.YtekonakanieeaaaJWEpt07
import Derived.ScopeJumps
import Derived.WalkMore
namespace Go.Proofs.Ytekonakanieeaaa
section
open Go.RowKit Go.Lib
attribute [local go_sem high] eqO neqO guardO

theorem len0 (n : Nat) : decide (n = 0) = ((n : Int) == 0) := by
  by_cases h : n = 0
  · subst h; rfl
  · rw [decide_eq_false h]; symm; rw [beq_eq_false_iff_ne]; omega
theorem kindOkB_no (m : Mg) (h1 : ¬ m.kind = 1) (h2 : ¬ m.kind = 2) (h3 : ¬ m.kind = 3) (h4 : ¬ m.kind = 4) : kindOkB m = false := by
  unfold kindOkB
  rw [if_neg h1, if_neg h2, if_neg h3, if_neg h4]
def plainB (m : Ms) : Bool := numsOkB [m.client, m.life, m.seq, m.vers, m.err] && (goodB m.re m.im && kindOkB m.mg)
theorem plainB_iff (m : Ms) : plainB m = true ↔ goodB m.re m.im = true ∧ msgOk m.mg := by
  unfold plainB
  rw [Bool.and_eq_true, Bool.and_eq_true, kindOkB_iff]
  unfold numsOkB
  simp only [List.all_cons, List.all_nil, Bool.and_true, Bool.and_eq_true, decide_eq_true_eq]
  constructor
  · rintro ⟨⟨h1, h2, h3, h4, h5⟩, hg, hb⟩
    have hp := good_parts hg
    exact ⟨hg, ⟨h1, h2, h3, ⟨hp.1, hp.2.1⟩, ⟨hp.2.2.1, hp.2.2.2.1⟩, h4, h5⟩, hb⟩
  · rintro ⟨hg, hh, hb⟩
    exact ⟨⟨hh.client, hh.life, hh.seq, hh.vers, hh.err⟩, hg, hb⟩
theorem within_newD (w : World) (xs : List Int) (hl : xs.length ≤ 1000) :
    Calls Try.prog 51 #[.slice (some ⟨w.heap.size, 0, none⟩) xs.length xs.length] (w.alloc (.cells (xs.map (Value.int .i64)).toArray 3)).drew fun e w' => e = .returned (.bool (numsOkB xs)) ∧ Below w.heap.size w w' :=
  (within_p _ xs.length xs _ (rowV_newD w _ _) hl).mono fun _ _ h => ⟨h.1, chainB (below_alloc _ _).drew h.2⟩
set_option maxRecDepth 20000 in
set_option maxHeartbeats 8000000 in
theorem plainMsg_p (m : Ms) (w : World) (hr : Rows w m) : Calls Try.prog 21 #[.agg m.arr] w fun e w' => e = .returned (.bool (plainB m)) ∧ Below w.heap.size w w' := by
  obtain ⟨kind, client, life, seq, re, im, vers, err, op, ve, vk, es, ks⟩ := m
  unfold Ms.arr
  simp only []
  obtain ⟨W, hW⟩ : ∃ W, w.alloc (.cells #[.int .i64 kind, .int .i64 client, .int .i64 life, .int .i64 seq, .complex .f64 re im, .int .i64 vers, .int .i64 err, .int .i64 op.kind, .int .i64 op.dir, .string op.nm, .int .i64 op.dst, .string op.new, .int .i64 op.mode, .string op.tg, ve, vk] 30) = W := ⟨_, rfl⟩
  have hb := boxB hW
  have HB : Hid (W.heap[w.heap.size]? = some (.cells #[.int .i64 kind, .int .i64 client, .int .i64 life, .int .i64 seq, .complex .f64 re im, .int .i64 vers, .int .i64 err, .int .i64 op.kind, .int .i64 op.dir, .string op.nm, .int .i64 op.dst, .string op.new, .int .i64 op.mode, .string op.tg, ve, vk] 30 (0, 0)) ∧ Below w.heap.size w W) := hb
  obtain ⟨av, cv, ev⟩ := owns_len hr.es
  obtain ⟨ak, ck, ek⟩ := owns_len hr.ks
  simp only [] at ev ek
  have HR : Hid (∀ W2, Below W.heap.size W W2 → Rows W2 ⟨kind, client, life, seq, re, im, vers, err, op, ve, vk, es, ks⟩) := fun W2 h2 => ⟨(hr.es.below hb.2).below h2, (hr.ks.below hb.2).below h2⟩
  have x1 := cell_of hb.1 1
  have x2 := cell_of hb.1 2
  have x3 := cell_of hb.1 3
  have x4 := cell_of hb.1 4
  have x5 := cell_of hb.1 5
  have x6 := cell_of hb.1 6
  simp at x1 x2 x3 x4 x5 x6
  have HN := fun W2 => within_new W2 [client, life, seq, vers, err] (by simp)
  obtain ⟨PB, hPB⟩ : ∃ x, plainB ⟨kind, client, life, seq, re, im, vers, err, op, ve, vk, es, ks⟩ = x := ⟨_, rfl⟩
  have HPB : Hid (plainB ⟨kind, client, life, seq, re, im, vers, err, op, ve, vk, es, ks⟩ = PB) := hPB
  rw [hPB]
  unfold plainB at hPB
  simp only [] at hPB
  cases h1 : numsOkB [client, life, seq, vers, err] with
  | false =>
    rw [h1] at HN hPB
    have HN2 : Hid (∀ W2, Calls Try.prog 51 #[.slice (some ⟨W2.heap.size, 0, none⟩) 5 5] (W2.alloc (.cells #[.int .i64 client, .int .i64 life, .int .i64 seq, .int .i64 vers, .int .i64 err] 3)) fun e w' => e = .returned (.bool false) ∧ Below W2.heap.size W2 w') := HN
    have HE : Hid (PB = false) := hPB.symm
    clear HN hPB h1 hb hr ev ek
    go_enter Try.func21, Try.ntmps21
    go_upto_region 1 with fail
    clear hW
    go_wp2_with (go_at_call 51; refine (HN2.out W).mono ?_; rintro e w1 ⟨rfl, hb1⟩)
    go_ret
    exact ⟨by rw [HE.out]; rfl, chainB HB.out.2 hb1⟩
  | true =>
    rw [h1] at HN hPB
    have HN2 : Hid (∀ W2, Calls Try.prog 51 #[.slice (some ⟨W2.heap.size, 0, none⟩) 5 5] (W2.alloc (.cells #[.int .i64 client, .int .i64 life, .int .i64 seq, .int .i64 vers, .int .i64 err] 3)) fun e w' => e = .returned (.bool true) ∧ Below W2.heap.size W2 w') := HN
    have HG := fun W2 => good_any re im W2
    cases h2 : goodB re im with
    | false =>
      rw [h2] at HG hPB
      have HG2 : Hid (∀ W2, Calls Try.prog 52 #[.complex .f64 re im] W2 fun e w' => e = .returned (.bool false) ∧ W2 = w') := fun W2 => (HG W2).mono fun _ _ h => ⟨h.1, h.2.symm⟩
      have HE : Hid (PB = false) := hPB.symm
      clear HN HG hPB h1 h2 hb hr ev ek
      go_enter Try.func21, Try.ntmps21
      go_upto_region 1 with fail
      clear hW
      go_wp2_with (first
        | (go_at_call 51; refine (HN2.out W).mono ?_; rintro e w1 ⟨rfl, hb1⟩; have y4 := cell_of (hkeep HB.out.1 hb1) 4; simp at y4)
        | (go_at_call 52; refine (HG2.out _).mono ?_; rintro e w2 ⟨rfl, rfl⟩))
      go_ret
      exact ⟨by rw [HE.out]; rfl, chainB HB.out.2 hb1⟩
    | true =>
      rw [h2] at HG hPB
      have HG2 : Hid (∀ W2, Calls Try.prog 52 #[.complex .f64 re im] W2 fun e w' => e = .returned (.bool true) ∧ W2 = w') := fun W2 => (HG W2).mono fun _ _ h => ⟨h.1, h.2.symm⟩
      have HE : Hid (PB = kindOkB (Ms.mg ⟨kind, client, life, seq, re, im, vers, err, op, ve, vk, es, ks⟩)) := hPB.symm
      have HV : Hid (ve = .slice av es.length cv ∧ vk = .slice ak ks.length ck) := ⟨ev, ek⟩
      clear HN HG hPB h1 h2 hb hr ev ek
      go_enter Try.func21, Try.ntmps21
      go_upto_region 1 with fail
      clear hW
      go_wp2_with (first
        | (go_at_call 51; refine (HN2.out W).mono ?_; rintro e w1 ⟨rfl, hb1⟩; have y4 := cell_of (hkeep HB.out.1 hb1) 4; simp at y4)
        | (go_at_call 52; refine (HG2.out _).mono ?_; rintro e w2 ⟨rfl, rfl⟩))
      have n1 := hkeep HB.out.1 hb1
      have HB1 : Hid (Below W.heap.size W w1) := hb1
      have y0 := cell_of n1 0
      have y7 := cell_of n1 7
      have y8 := cell_of n1 8
      have y9 := cell_of n1 9
      have y10 := cell_of n1 10
      have y11 := cell_of n1 11
      have y12 := cell_of n1 12
      have y13 := cell_of n1 13
      have y14 := cell_of n1 14
      have y15 := cell_of n1 15
      simp at y0 y7 y8 y9 y10 y11 y12 y13 y14 y15
      rw [HV.out.1] at y14
      rw [HV.out.2] at y15
      clear n1 x1 x2 x3 x4 x5 x6 y4 HN2 HG2 hb1
      go_quiet (fail)
      obtain ⟨W1, hW1⟩ : ∃ x, w1.drewN nq = x := ⟨_, rfl⟩
      have hb2 : Below w1.heap.size w1 W1 := by rw [← hW1]; exact below_drewN (Below.refl _ _) _
      rw [hW1]
      have n2 := hkeep (hkeep HB.out.1 HB1.out) hb2
      have HW1 : Hid (Below w.heap.size w W1) := chainB HB.out.2 (chainB HB1.out hb2)
      have HR2 : Hid (Rows W1 ⟨kind, client, life, seq, re, im, vers, err, op, ve, vk, es, ks⟩) := HR.out _ (chainB HB1.out hb2)
      obtain ⟨B3, hB3⟩ : ∃ b, eqOp ⟨op.kind, op.dir, op.nm, op.dst, op.new, op.mode, op.tg⟩ ⟨0, 0, ⟨#[]⟩, 0, ⟨#[]⟩, 0, ⟨#[]⟩⟩ = b := ⟨_, rfl⟩
      obtain ⟨B4, hB4⟩ : ∃ b, ((es.length : Int) == 0) = b := ⟨_, rfl⟩
      obtain ⟨B5, hB5⟩ : ∃ b, ((ks.length : Int) == 0) = b := ⟨_, rfl⟩
      rw [hB3, hB4, hB5]
      have HBs : Hid (eqOp op zeroOp = B3 ∧ decide (es.length = 0) = B4 ∧ decide (ks.length = 0) = B5) := ⟨hB3, by rw [← hB4]; exact len0 _, by rw [← hB5]; exact len0 _⟩
      have z0 := cell_of n2 0
      have z7 := cell_of n2 7
      have z8 := cell_of n2 8
      have z9 := cell_of n2 9
      have z10 := cell_of n2 10
      have z11 := cell_of n2 11
      have z12 := cell_of n2 12
      have z13 := cell_of n2 13
      have z14 := cell_of n2 14
      have z15 := cell_of n2 15
      simp at z0 z7 z8 z9 z10 z11 z12 z13 z14 z15
      rw [HV.out.1] at z14
      rw [HV.out.2] at z15
      clear hB3 hB4 hB5 n2 hW1 hb2 y0 y7 y8 y9 y10 y11 y12 y13 y14 y15 HB1
      by_cases k1 : kind = 1
      · subst k1
        have HP : Hid (Calls Try.prog 53 #[.agg #[.int .i64 op.kind, .int .i64 op.dir, .string op.nm, .int .i64 op.dst, .string op.new, .int .i64 op.mode, .string op.tg]] W1 fun e w' => e = .returned (.bool (decide (opOk op))) ∧ Below W1.heap.size W1 w') := plainOp_p op W1
        obtain ⟨B6, hB6⟩ : ∃ b, decide (opOk op) = b := ⟨_, rfl⟩
        rw [hB6] at HP
        have HQ : Hid (kindOkB (Ms.mg ⟨1, client, life, seq, re, im, vers, err, op, ve, vk, es, ks⟩) = (B6 && (B4 && B5))) := by
          show (decide (opOk op) && (decide (es.length = 0) && decide (ks.length = 0))) = _
          rw [hB6, HBs.out.2.1, HBs.out.2.2]
        clear hB6
        go_upto_region 13 with (go_at_call 53; refine HP.out.mono ?_; rintro e w7 ⟨rfl, hb7⟩)
        cases B6 <;> cases B4 <;> cases B5 <;> (go_wp2; go_ret; exact ⟨by rw [HE.out, HQ.out]; rfl, chainB HW1.out hb7⟩)
      have k1b : (kind == 1) = false := by simpa using k1
      by_cases k2 : kind = 2
      · subst k2
        have HP : Hid (Calls Try.prog 54 #[.slice av es.length cv, .func (.func 55) #[] #[]] W1 fun e w' => e = .returned (.bool (listOkB entOk es)) ∧ Below W1.heap.size W1 w') := plainListE_p _ es 0 W1 (by have := HR2.out.es; simp only [HV.out.1] at this; exact this)
        obtain ⟨B6, hB6⟩ : ∃ b, listOkB entOk es = b := ⟨_, rfl⟩
        rw [hB6] at HP
        have HQ : Hid (kindOkB (Ms.mg ⟨2, client, life, seq, re, im, vers, err, op, ve, vk, es, ks⟩) = (B3 && (B6 && B5))) := by
          show (eqOp op zeroOp && (listOkB entOk es && decide (ks.length = 0))) = _
          rw [hB6, HBs.out.1, HBs.out.2.2]
        clear hB6
        go_upto_region 13 with (go_at_call 54; refine HP.out.mono ?_; rintro e w7 ⟨rfl, hb7⟩)
        cases B3 <;> cases B6 <;> cases B5 <;> (go_wp2; go_ret; exact ⟨by rw [HE.out, HQ.out]; rfl, chainB HW1.out hb7⟩)
      have k2b : (kind == 2) = false := by simpa using k2
      by_cases k3 : kind = 3
      · subst k3
        by_cases hk0 : ks.length = 0
        · have hd : ¬ (0 : Int) < (ks.length : Int) := by omega
          have hd2 : decide ((0 : Int) < (ks.length : Int)) = false := decide_eq_false hd
          have HQ : Hid (kindOkB (Ms.mg ⟨3, client, life, seq, re, im, vers, err, op, ve, vk, es, ks⟩) = (B3 && (B4 && false))) := by
            show (eqOp op zeroOp && (decide (es.length = 0) && (decide (0 < ks.length) && listOkB keyOk ks))) = _
            rw [HBs.out.1, HBs.out.2.1, decide_eq_false (by omega), Bool.false_and]
          clear hk0
          go_upto_region 13 with fail
          cases B3 <;> cases B4 <;> (go_wp2; go_ret; exact ⟨by rw [HE.out, HQ.out]; rfl, HW1.out⟩)
        · have hd : (0 : Int) < (ks.length : Int) := by omega
          have hd2 : decide ((0 : Int) < (ks.length : Int)) = true := decide_eq_true hd
          have HP : Hid (Calls Try.prog 56 #[.slice ak ks.length ck, .func (.func 57) #[] #[]] W1 fun e w' => e = .returned (.bool (listOkB keyOk ks)) ∧ Below W1.heap.size W1 w') := plainListK_p _ ks 0 W1 (by have := HR2.out.ks; simp only [HV.out.2] at this; exact this)
          obtain ⟨B6, hB6⟩ : ∃ b, listOkB keyOk ks = b := ⟨_, rfl⟩
          rw [hB6] at HP
          have HQ : Hid (kindOkB (Ms.mg ⟨3, client, life, seq, re, im, vers, err, op, ve, vk, es, ks⟩) = (B3 && (B4 && B6))) := by
            show (eqOp op zeroOp && (decide (es.length = 0) && (decide (0 < ks.length) && listOkB keyOk ks))) = _
            rw [HBs.out.1, HBs.out.2.1, hB6, decide_eq_true (by omega), Bool.true_and]
          clear hB6 hk0
          go_upto_region 13 with (go_at_call 56; refine HP.out.mono ?_; rintro e w7 ⟨rfl, hb7⟩)
          cases B3 <;> cases B4 <;> cases B6 <;> (go_wp2; go_ret; exact ⟨by rw [HE.out, HQ.out]; rfl, chainB HW1.out hb7⟩)
      have k3b : (kind == 3) = false := by simpa using k3
      by_cases k4 : kind = 4
      · subst k4
        have HQ : Hid (kindOkB (Ms.mg ⟨4, client, life, seq, re, im, vers, err, op, ve, vk, es, ks⟩) = (B3 && (B4 && B5))) := by
          show (eqOp op zeroOp && (decide (es.length = 0) && decide (ks.length = 0))) = _
          rw [HBs.out.1, HBs.out.2.1, HBs.out.2.2]
        go_upto_region 13 with fail
        cases B3 <;> cases B4 <;> cases B5 <;> (go_wp2; go_ret; exact ⟨by rw [HE.out, HQ.out]; rfl, HW1.out⟩)
      have k4b : (kind == 4) = false := by simpa using k4
      have HQ : Hid (kindOkB (Ms.mg ⟨kind, client, life, seq, re, im, vers, err, op, ve, vk, es, ks⟩) = false) := by
        exact kindOkB_no _ k1 k2 k3 k4
      clear k1 k2 k3 k4
      go_wp2
      go_ret
      exact ⟨by rw [HE.out, HQ.out]; rfl, HW1.out⟩
end
section
open Go.RowKit Go.Lib

/-- what Encode and Pack answer -/
def EncR (ok : Bool) (B : List Int) (w w' : World) (e : Ending) : Prop :=
  (ok = true ∧ ∃ v, e = .returned (.tuple #[v, .int .i64 0]) ∧ OwnB w' w.heap.size v B ∧ Below w.heap.size w w') ∨ (ok = false ∧ e = .returned (.tuple #[.slice none 0 0, .int .i64 50]) ∧ Below w.heap.size w w')
theorem new_writer {w W W2 : World} (hb : Below w.heap.size w W) (h : W.alloc (.cells #[.slice none 0 0] 86) = W2) : Wg w W2 W.heap.size [] := by
  subst h
  exact ⟨.slice none 0 0, heap_new _ _, OwnB.nil _ _, hb.size, chainB hb (below_alloc _ _)⟩
set_option maxRecDepth 20000 in
set_option maxHeartbeats 8000000 in
theorem encode_p (m : Ms) (w : World) (hr : Rows w m) : Calls Try.prog 16 #[.agg m.arr] w fun e w' => EncR (plainB m) (msgB m.mg) w w' e := by
  obtain ⟨W, hW⟩ : ∃ W, w.alloc (.cells m.arr 30) = W := ⟨_, rfl⟩
  have hb := boxB hW
  have HB : Hid (Below w.heap.size w W) := hb.2
  obtain ⟨av, cv, ev⟩ := owns_len hr.es
  obtain ⟨ak, ck, ek⟩ := owns_len hr.ks
  have HR : Hid (∀ W2, Below W.heap.size W W2 → Rows W2 m) := fun W2 h2 => ⟨(hr.es.below hb.2).below h2, (hr.ks.below hb.2).below h2⟩
  have HPl : Hid (∀ W2, Below W.heap.size W W2 → Calls Try.prog 21 #[.agg m.arr] W2 fun e w' => e = .returned (.bool (plainB m)) ∧ Below W2.heap.size W2 w') := fun W2 h2 => plainMsg_p m W2 (HR.out W2 h2)
  have HM : Hid (plainB m = true → ∀ w0 W2 t, Wg w0 W2 t [] → Below W.heap.size W W2 → Calls Try.prog 36 #[.pointer (some ⟨t, 0, none⟩), .agg m.arr] W2 fun e w' => e = .returned (.tuple #[]) ∧ Hid (Wrote w0 W2 w' t (msgB m.mg))) := fun hp w0 W2 t h2 hb2 => by
    obtain ⟨hg, hk⟩ := (plainB_iff m).1 hp
    exact message_w m h2 (HR.out W2 hb2) hg hk (by simp)
  obtain ⟨B, hB⟩ : ∃ x, msgB m.mg = x := ⟨_, rfl⟩
  obtain ⟨P, hP⟩ : ∃ x, plainB m = x := ⟨_, rfl⟩
  rw [hB] at HM ⊢
  rw [hP] at HM HPl ⊢
  obtain ⟨kind, client, life, seq, re, im, vers, err, op, ve, vk, es, ks⟩ := m
  simp only [] at ev ek
  subst ev ek
  unfold Ms.arr at *
  simp only [] at *
  have x0 := cell_of hb.1 0
  have x1 := cell_of hb.1 1
  have x2 := cell_of hb.1 2
  have x3 := cell_of hb.1 3
  have x4 := cell_of hb.1 4
  have x5 := cell_of hb.1 5
  have x6 := cell_of hb.1 6
  have x7 := cell_of hb.1 7
  have x8 := cell_of hb.1 8
  have x9 := cell_of hb.1 9
  have x10 := cell_of hb.1 10
  have x11 := cell_of hb.1 11
  have x12 := cell_of hb.1 12
  have x13 := cell_of hb.1 13
  have x14 := cell_of hb.1 14
  have x15 := cell_of hb.1 15
  simp at x0 x1 x2 x3 x4 x5 x6 x7 x8 x9 x10 x11 x12 x13 x14 x15
  have HBx : Hid (W.heap[w.heap.size]? = some (.cells #[.int .i64 kind, .int .i64 client, .int .i64 life, .int .i64 seq, .complex .f64 re im, .int .i64 vers, .int .i64 err, .int .i64 op.kind, .int .i64 op.dir, .string op.nm, .int .i64 op.dst, .string op.new, .int .i64 op.mode, .string op.tg, .slice av es.length cv, .slice ak ks.length ck] 30 (0, 0))) := hb.1
  clear hr hB hP hb
  cases P with
  | false =>
    go_enter Try.func16, Try.ntmps16
    go_upto_region 1 with fail
    clear hW
    go_wp2_with (go_at_call 21; refine (HPl.out W (Below.refl _ _)).mono ?_; rintro e w1 ⟨rfl, hb1⟩)
    go_ret2
    exact .inr ⟨rfl, rfl, chainB HB.out hb1⟩
  | true =>
    go_enter Try.func16, Try.ntmps16
    go_upto_region 1 with fail
    clear hW
    go_upto_region 4 with (go_at_call 21; refine (HPl.out W (Below.refl _ _)).mono ?_; rintro e w1 ⟨rfl, hb1⟩)
    obtain ⟨W2, hW2⟩ : ∃ W2, w1.alloc (.cells #[.slice none 0 0] 86) = W2 := ⟨_, rfl⟩
    have hg := new_writer (chainB HB.out hb1) hW2
    have hb2 := chainB hb1 (boxB hW2).2
    have HG : Hid (Wg w W2 w1.heap.size [] ∧ Below W.heap.size W W2) := ⟨hg, hb2⟩
    have n2 := hkeep HBx.out hb2
    have z0 := cell_of n2 0
    have z1 := cell_of n2 1
    have z2 := cell_of n2 2
    have z3 := cell_of n2 3
    have z4 := cell_of n2 4
    have z5 := cell_of n2 5
    have z6 := cell_of n2 6
    have z7 := cell_of n2 7
    have z8 := cell_of n2 8
    have z9 := cell_of n2 9
    have z10 := cell_of n2 10
    have z11 := cell_of n2 11
    have z12 := cell_of n2 12
    have z13 := cell_of n2 13
    have z14 := cell_of n2 14
    have z15 := cell_of n2 15
    simp at z0 z1 z2 z3 z4 z5 z6 z7 z8 z9 z10 z11 z12 z13 z14 z15
    rw [hW2]
    clear hW2 n2 hg hb2 x0 x1 x2 x3 x4 x5 x6 x7 x8 x9 x10 x11 x12 x13 x14 x15
    go_wp2_with (go_at_call 36; (refine (HM.out (by simp) w W2 w1.heap.size HG.out.1 HG.out.2).mono ?_; rintro e w3 ⟨rfl, h3⟩; obtain ⟨⟨v3, hv3⟩, hk3⟩ := h3.out; have y0 := hv3.cells.1; obtain ⟨a3, c3, hv3e⟩ := owns_len hv3.row; subst hv3e; have HF : Hid (IsW w w3 w1.heap.size B (.slice a3 B.length c3)) := hv3; clear hv3 hk3 h3))
    go_ret2
    exact .inl ⟨rfl, _, rfl, HF.out.row, HF.out.bel⟩
end
section
open Go.RowKit Go.Lib

/-- as Q; by a goto to l: what stands behind the label -/
def Fwd (P : Program) (l : Nat) (rest : Code) (Q : Exit → Act → World → Prop) : Exit → Act → World → Prop := Exit.jump l (fun a w => rest.wp P (Exit.noGoto Q) a w) Q
theorem fwd_goto {P : Program} {l : Nat} {rest : Code} {Q : Exit → Act → World → Prop} {a : Act} {w : World} (h : rest.wp P (Exit.noGoto Q) a w) : Fwd P l rest Q (.goto l) a w := ⟨rfl, h⟩
theorem fwd_ret {P : Program} {l : Nat} {rest : Code} {Q : Exit → Act → World → Prop} {a : Act} {w : World} (h : Q .ret a w) : Fwd P l rest Q .ret a w := h
theorem wp_scope_once {P : Program} {a : Act} {w : World} {Q : Exit → Act → World → Prop} {c rest : Code} (l : Nat) (hf : findLabel c l = some rest) (first : c.wp P (Fwd P l rest Q) a w) : (Code.scope c).wp P Q a w := by
  refine wp_scope_jumps l _ (fun _ _ => 0) hf first fun a w hJ => ?_
  intro b k cs
  obtain ⟨e, a1, w1, hq, harr⟩ := hJ b k cs
  refine ⟨e, a1, w1, ?_, harr⟩
  cases e with
  | goto l' => exact hq.elim
  | normal => exact hq
  | exit id => exact hq
  | ret => exact hq
  | panic ch => exact hq
  | outgrown => exact hq
end
section
open Go.RowKit Go.Lib

/-- a slice that reads as these bytes, wherever it lies, with its room -/
def RC (w : World) (v : Value) (l : List Int) : Prop :=
  ∃ a cap, v = .slice a l.length cap ∧ l.length ≤ cap ∧ (l = [] ∨ ∃ g off, a = some ⟨g, off, none⟩ ∧ g < w.heap.size ∧ ∀ i x, l[i]? = some x → w.cell? ⟨g, off + i, none⟩ = some (.int .u8 x))
theorem OwnB.rc {w : World} {base : Nat} {v : Value} {l : List Int} (h : OwnB w base v l) : RC w v l := by
  rcases h.form with ⟨rfl, rfl⟩ | ⟨g, cap, rfl, _, hg, hc, hx, _⟩
  · exact ⟨_, _, rfl, Nat.le_refl _, .inl rfl⟩
  · exact ⟨_, _, rfl, hc, .inr ⟨g, 0, rfl, hg, fun i x hx' => by rw [Nat.zero_add]; exact hx i x hx'⟩⟩
theorem RC.below {w w' : World} {v : Value} {l : List Int} (h : RC w v l) (hb : Below w.heap.size w w') : RC w' v l := by
  obtain ⟨a, cap, rfl, hcap, h⟩ := h
  refine ⟨a, cap, rfl, hcap, ?_⟩
  rcases h with h | ⟨g, off, rfl, hg, hc⟩
  · exact .inl h
  · exact .inr ⟨g, off, rfl, Nat.lt_of_lt_of_le hg hb.size, fun i x hx => (hb.cell (p := ⟨g, off + i, none⟩) hg).trans (hc i x hx)⟩
theorem RC.rb {w : World} {v : Value} {l : List Int} (h : RC w v l) : RB w v l := by
  obtain ⟨a, cap, rfl, _, h⟩ := h
  exact ⟨a, cap, rfl, h⟩
/-- a reader, and what is left of its bytes -/
structure IsR (w : World) (r : Nat) (v : Value) (l : List Int) (s : St) (at_ : Nat) (st : Bool) : Prop where
  head : w.heap[r]? = some (.cells #[v, .int .i64 at_, .bool st] 65 (0, 0))
  state : (s = none ∧ st = true ∧ at_ = l.length) ∨ (s = some (l.drop at_) ∧ st = false ∧ at_ ≤ l.length)
  rb : RC w v l
  off : ∀ g off cap n, v = .slice (some ⟨g, off, none⟩) n cap → l ≠ [] → g ≠ r
  byt : Byt l
  lim : l.length ≤ 140737488355328
def Rg (w : World) (r : Nat) (v : Value) (l : List Int) (s : St) : Prop := ∃ a st, IsR w r v l s a st
theorem IsR.tt {w : World} {r : Nat} {v : Value} {l : List Int} {s : St} {a : Nat} {st : Bool} (h : IsR w r v l s a st) : Tag w r 65 := ⟨_, _, h.head⟩
theorem IsR.cells {w : World} {r : Nat} {v : Value} {l : List Int} {s : St} {a : Nat} {st : Bool} (h : IsR w r v l s a st) : w.cell? ⟨r, 0, none⟩ = some v ∧ w.cell? ⟨r, 1, none⟩ = some (.int .i64 a) ∧ w.cell? ⟨r, 2, none⟩ = some (.bool st) ∧ ∀ i, w.frozen? ⟨r, i, none⟩ = false :=
  ⟨by rw [cell_of h.head]; rfl, by rw [cell_of h.head]; rfl, by rw [cell_of h.head]; rfl, free_of h.head⟩
theorem RC.only {w w' : World} {v : Value} {l : List Int} {r : Nat} (h : RC w v l) (hO : Only (· = r) w w') (hoff : ∀ g off cap n, v = .slice (some ⟨g, off, none⟩) n cap → l ≠ [] → g ≠ r) : RC w' v l := by
  obtain ⟨a, cap, rfl, hcap, h⟩ := h
  refine ⟨a, cap, rfl, hcap, ?_⟩
  rcases h with h | ⟨g, off, rfl, hg, hc⟩
  · exact .inl h
  · by_cases h0 : l = []
    · exact .inl h0
    · have hgr := hoff g off cap _ rfl h0
      refine .inr ⟨g, off, rfl, Nat.lt_of_lt_of_le hg hO.size, fun i x hx => ?_⟩
      exact (World.cell?_of_block (hO.block g hg hgr)).trans (hc i x hx)
/-- its fields turned -/
theorem IsR.turn {w w' : World} {r : Nat} {v : Value} {l : List Int} {s s' : St} {a b : Nat} {st st' : Bool} (h : IsR w r v l s a st) (hh : w'.heap[r]? = some (.cells #[v, .int .i64 b, .bool st'] 65 (0, 0))) (hO : Only (· = r) w w') (hs : (s' = none ∧ st' = true ∧ b = l.length) ∨ (s' = some (l.drop b) ∧ st' = false ∧ b ≤ l.length)) : IsR w' r v l s' b st' :=
  ⟨hh, hs, h.rb.only hO h.off, h.off, h.byt, h.lim⟩
theorem IsR.below {w w' : World} {r : Nat} {v : Value} {l : List Int} {s : St} {a : Nat} {st : Bool} (h : IsR w r v l s a st) (hb : Below w.heap.size w w') : IsR w' r v l s a st :=
  ⟨(hb.block _ h.tt.lt).trans h.head, h.state, h.rb.below hb, h.off, h.byt, h.lim⟩
theorem Rg.below {w w' : World} {r : Nat} {v : Value} {l : List Int} {s : St} (h : Rg w r v l s) (hb : Below w.heap.size w w') : Rg w' r v l s := by obtain ⟨a, st, h⟩ := h; exact ⟨a, st, h.below hb⟩
/-- what a call of the reader's leaves -/
def Red (w w' : World) (r : Nat) (v : Value) (l : List Int) (s : St) : Prop := Rg w' r v l s ∧ Only (· = r) w w'
/-- the byte at its place -/
theorem IsR.byte {w : World} {r : Nat} {v : Value} {l : List Int} {x : Int} {rest : List Int} {a : Nat} {st : Bool} (h : IsR w r v l (some (x :: rest)) a st) : a < l.length ∧ l[a]? = some x ∧ l.drop (a + 1) = rest ∧ st = false ∧ ∃ g off cap, v = .slice (some ⟨g, off, none⟩) l.length cap ∧ w.cell? ⟨g, off + a, none⟩ = some (.int .u8 x) ∧ g ≠ r ∧ g < w.heap.size := by
  rcases h.state with ⟨e, _⟩ | ⟨e, hst, ha⟩
  · cases e
  · have e2 := Option.some.inj e
    have hlt : a < l.length := by
      rcases Nat.lt_or_ge a l.length with h | h
      · exact h
      · rw [List.drop_of_length_le h] at e2; cases e2
    have hx : l[a]? = some x := by
      have := congrArg (fun m => m[0]?) e2
      simp only [List.getElem?_cons_zero, List.getElem?_drop, Nat.add_zero] at this
      exact this.symm
    have hr : l.drop (a + 1) = rest := by
      have := congrArg List.tail e2
      rw [List.tail_drop] at this
      exact this.symm
    obtain ⟨ad, cap, hv, _, hc⟩ := h.rb
    rcases hc with h0 | ⟨g, off, rfl, hg, hc⟩
    · rw [h0] at hlt; simp at hlt
    · exact ⟨hlt, hx, hr, hst, g, off, cap, hv, hc a x hx, h.off g off cap _ hv (by intro h0; rw [h0] at hlt; simp at hlt), hg⟩
theorem IsR.end {w : World} {r : Nat} {v : Value} {l : List Int} {s : St} {a : Nat} {st : Bool} (h : IsR w r v l s a st) (hs : s = none ∨ s = some []) : a = l.length := by
  rcases h.state with ⟨_, _, e⟩ | ⟨e, _, ha⟩
  · exact e
  · rcases hs with hs | hs
    · rw [hs] at e; cases e
    · rw [hs] at e
      have e2 := Option.some.inj e
      have : (l.drop a).length = 0 := by rw [← e2]; rfl
      rw [List.length_drop] at this
      omega
set_option maxRecDepth 20000 in
set_option maxHeartbeats 4000000 in
theorem stop_r {w : World} {r : Nat} {v : Value} {l : List Int} {s : St} (h : Rg w r v l s) : Calls Try.prog 78 #[.pointer (some ⟨r, 0, none⟩)] w fun e w' => e = .returned (.tuple #[]) ∧ Hid (Red w w' r v l none) := by
  obtain ⟨a, st, h⟩ := h
  have H : Hid (IsR w r v l s a st) := h
  obtain ⟨c0, c1, c2, cf⟩ := h.cells
  obtain ⟨ad, cap, rfl, _, _⟩ := id h.rb
  clear h
  go_enter Try.func78, Try.ntmps78
  go_wp2
  go_end0
  have hh := heap_set (heap_set H.out.head 1 (.int .i64 (l.length : Nat))) 2 (.bool true)
  refine ⟨rfl, ⟨l.length, true, H.out.turn (hh.trans rfl) ?_ (.inl ⟨rfl, rfl, rfl⟩)⟩, ?_⟩
  · exact (only1 w r 1 _).trans (only1 _ r 2 _)
  · exact (only1 w r 1 _).trans (only1 _ r 2 _)
/-- what a call of the reader's answers -/
def RdR (w : World) (r : Nat) (v : Value) (l : List Int) (s : St) (x : Value) (e : Ending) (w' : World) : Prop := e = .returned x ∧ Hid (Red w w' r v l s)
set_option maxRecDepth 20000 in
set_option maxHeartbeats 4000000 in
theorem octet_r {w : World} {r : Nat} {v : Value} {l : List Int} {s : St} (h : Rg w r v l s) : Calls Try.prog 43 #[.pointer (some ⟨r, 0, none⟩)] w fun e w' => RdR w r v l (octP s).2 (.int .i64 (octP s).1) e w' := by
  obtain ⟨a, st, h⟩ := h
  have H : Hid (IsR w r v l s a st) := h
  obtain ⟨c0, c1, c2, cf⟩ := h.cells
  by_cases hs : s = none ∨ s = some []
  · have ha := h.end hs
    have HO : Hid (octP s = (0, none)) := by rcases hs with rfl | rfl <;> rfl
    have HS : Hid (∀ W, Below w.heap.size w W → Calls Try.prog 78 #[.pointer (some ⟨r, 0, none⟩)] W fun e w' => e = .returned (.tuple #[]) ∧ Hid (Red W w' r v l none)) := fun W hb => stop_r ⟨a, st, H.out.below hb⟩
    obtain ⟨ad, cap, rfl, _, _⟩ := id h.rb
    subst ha
    clear h hs
    go_enter Try.func43, Try.ntmps43
    go_wp2
    refine wp_scope_once 0 (by rfl) ?_
    go_upto_region 1 with fail
    go_quiet (fail)
    obtain ⟨W, hW⟩ : ∃ W, w.drewN nq = W := ⟨_, rfl⟩
    have hb : Below w.heap.size w W := by rw [← hW]; exact below_drewN (Below.refl _ _) _
    rw [hW]
    clear hW
    go_wp2
    go_step3
    refine fwd_goto (l := 0) ?_
    go_wp2_with (go_at_call 78; refine (HS.out _ hb).mono ?_; rintro e w1 ⟨rfl, h1⟩)
    rw [Exit.noGoto_ret]
    go_ret
    rw [HO.out]
    exact ⟨rfl, h1.out.1, (Only.of hb).trans h1.out.2⟩
  · obtain ⟨x, rest, rfl⟩ : ∃ x rest, s = some (x :: rest) := by
      match s, hs with
      | none, hs => exact absurd (.inl rfl) hs
      | some [], hs => exact absurd (.inr rfl) hs
      | some (x :: rest), _ => exact ⟨x, rest, rfl⟩
    obtain ⟨ha, hx, hrest, rfl, g, off, cap, rfl, hcx, hgr, hgl⟩ := h.byte
    have hne : ((a : Int) == (l.length : Int)) = false := by rw [beq_eq_false_iff_ne]; omega
    have hlim := h.lim
    have hwr : IntKind.i64.wrap ((a : Int) + 1) = (a : Int) + 1 := IntWalk.i64_in _ (by omega)
    have hwr2 : IntKind.i64.wrap ((a : Int) + 1 - 1) = (a : Int) := by rw [IntWalk.i64_in _ (by omega)]; omega
    have hai : (a : Int) < (l.length : Int) := by omega
    have hxb := h.byt x (List.mem_of_getElem? hx)
    have hxw : IntKind.i64.wrap x = x := IntWalk.i64_in _ (by omega)
    have HI : Hid (l.drop (a + 1) = rest ∧ a + 1 ≤ l.length) := ⟨hrest, by omega⟩
    obtain ⟨n, hn⟩ : ∃ n, l.length = n := ⟨_, rfl⟩
    rw [hn] at c0 ha hne hai H hlim ⊢
    clear h hs hx hrest hxb
    go_enter Try.func43, Try.ntmps43
    go_wp2
    refine wp_scope_once 0 (by rfl) ?_
    go_upto_region 1 with fail
    go_quiet (fail)
    obtain ⟨W, hW⟩ : ∃ W, w.drewN nq = W := ⟨_, rfl⟩
    have hb : Below w.heap.size w W := by rw [← hW]; exact below_drewN (Below.refl _ _) _
    rw [hW]
    have HB : Hid (Below w.heap.size w W) := hb
    have d0 := (hb.cell (cellLt c0)).trans c0
    have d1 := (hb.cell (cellLt c1)).trans c1
    have df : ∀ i, W.frozen? ⟨r, i, none⟩ = false := fun i => (hb.frozen (p := ⟨r, i, none⟩) (show r < w.heap.size from cellLt (p := ⟨r, 0, none⟩) c0)).trans (cf i)
    have dx := (hb.cell (cellLt hcx)).trans hcx
    clear hW hb c0 c1 c2 cf hcx
    have hH := (H.out.below HB.out).head
    go_upto_region 3 with fail
    obtain ⟨W2, hW2⟩ : ∃ W2, W.setCell ⟨r, 1, none⟩ (.int .i64 ((a : Int) + 1)) = W2 := ⟨_, rfl⟩
    have hO : Only (· = r) W W2 := by rw [← hW2]; exact only1 W r 1 _
    have hh : W2.heap[r]? = some (.cells #[.slice (some ⟨g, off, none⟩) n cap, .int .i64 ((a : Int) + 1), .bool false] 65 (0, 0)) := by rw [← hW2]; exact (heap_set hH 1 _).trans rfl
    have e0 := cell_of hh 0
    have e1 := cell_of hh 1
    simp at e0 e1
    have ex : W2.cell? ⟨g, off + a, none⟩ = some (.int .u8 x) := by rw [← hW2]; exact (World.cell?_of_block (heap_set_ne hgr)).trans dx
    rw [hW2]
    have HF : Hid (Only (· = r) w W2 ∧ W2.heap[r]? = some (.cells #[.slice (some ⟨g, off, none⟩) n cap, .int .i64 ((a + 1 : Nat) : Int), .bool false] 65 (0, 0))) := ⟨(Only.of HB.out).trans hO, by rw [hh]; simp⟩
    clear hW2 hO hh hH d0 d1 df dx
    go_quiet (fail)
    obtain ⟨W3, hW3⟩ : ∃ W3, W2.drewN nq = W3 := ⟨_, rfl⟩
    have hb3 : Below W2.heap.size W2 W3 := by rw [← hW3]; exact below_drewN (Below.refl _ _) _
    rw [hW3]
    clear hW3
    go_wp2
    refine fwd_ret ?_
    go_ret
    refine ⟨rfl, ⟨a + 1, false, ?_⟩, HF.out.1.trans (Only.of hb3)⟩
    have h1 := H.out.turn (s' := some rest) (b := a + 1) (st' := false) HF.out.2 HF.out.1 (.inr ⟨by rw [HI.out.1], rfl, HI.out.2⟩)
    exact h1.below hb3
end
end Go.Proofs.Ytekonakanieeaaa
