/- What is plain: messages. -/
import Derived.Test.YtihjhaafmdobmaaWpF
namespace Go.Proofs.Ytihjhaafmdobmaa
open Go.RowKit Go.Lib
attribute [local go_sem high] eqO neqO guardO

theorem len0 (n : Nat) : decide (n = 0) = ((n : Int) == 0) := by
  by_cases h : n = 0
  · subst h; rfl
  · rw [decide_eq_false h]; symm; rw [beq_eq_false_iff_ne]; omega
theorem kindOkB_no (m : Mg) (h1 : ¬ m.kind = 1) (h2 : ¬ m.kind = 2) (h3 : ¬ m.kind = 3) (h4 : ¬ m.kind = 4) : kindOkB m = false := by
  unfold kindOkB
  rw [if_neg h1, if_neg h2, if_neg h3, if_neg h4]
def plainB (m : Ms) : Bool := numsOkB [m.client, m.life, m.seq, m.vers, m.err] && (goodB m.re m.im && kindOkB m.mg)
theorem plainB_iff (m : Ms) : plainB m = true ↔ goodB m.re m.im = true ∧ msgOk m.mg := by
  unfold plainB
  rw [Bool.and_eq_true, Bool.and_eq_true, kindOkB_iff]
  unfold numsOkB
  simp only [List.all_cons, List.all_nil, Bool.and_true, Bool.and_eq_true, decide_eq_true_eq]
  constructor
  · rintro ⟨⟨h1, h2, h3, h4, h5⟩, hg, hb⟩
    have hp := good_parts hg
    exact ⟨hg, ⟨h1, h2, h3, ⟨hp.1, hp.2.1⟩, ⟨hp.2.2.1, hp.2.2.2.1⟩, h4, h5⟩, hb⟩
  · rintro ⟨hg, hh, hb⟩
    exact ⟨⟨hh.client, hh.life, hh.seq, hh.vers, hh.err⟩, hg, hb⟩
theorem within_newD (w : World) (xs : List Int) (hl : xs.length ≤ 1000) :
    Calls Try.prog 96 #[.slice (some ⟨w.heap.size, 0, none⟩) xs.length xs.length] (w.alloc (.cells (xs.map (Value.int .i64)).toArray 3)).drew fun e w' => e = .returned (.bool (numsOkB xs)) ∧ Below w.heap.size w w' :=
  (within_p _ xs.length xs _ (rowV_newD w _ _) hl).mono fun _ _ h => ⟨h.1, chainB (below_alloc _ _).drew h.2⟩
set_option maxRecDepth 20000 in
set_option maxHeartbeats 8000000 in
theorem plainMsg_p (m : Ms) (w : World) (hr : Rows w m) : Calls Try.prog 53 #[.agg m.arr] w fun e w' => e = .returned (.bool (plainB m)) ∧ Below w.heap.size w w' := by
  obtain ⟨kind, client, life, seq, re, im, vers, err, op, ve, vk, es, ks⟩ := m
  unfold Ms.arr
  simp only []
  obtain ⟨W, hW⟩ : ∃ W, w.alloc (.cells #[.int .i64 kind, .int .i64 client, .int .i64 life, .int .i64 seq, .complex .f64 re im, .int .i64 vers, .int .i64 err, .int .i64 op.kind, .int .i64 op.dir, .string op.nm, .int .i64 op.dst, .string op.new, .int .i64 op.mode, .string op.tg, ve, vk] 58) = W := ⟨_, rfl⟩
  have hb := boxB hW
  have HB : Hid (W.heap[w.heap.size]? = some (.cells #[.int .i64 kind, .int .i64 client, .int .i64 life, .int .i64 seq, .complex .f64 re im, .int .i64 vers, .int .i64 err, .int .i64 op.kind, .int .i64 op.dir, .string op.nm, .int .i64 op.dst, .string op.new, .int .i64 op.mode, .string op.tg, ve, vk] 58 (0, 0)) ∧ Below w.heap.size w W) := hb
  obtain ⟨av, cv, ev⟩ := owns_len hr.es
  obtain ⟨ak, ck, ek⟩ := owns_len hr.ks
  simp only [] at ev ek
  have HR : Hid (∀ W2, Below W.heap.size W W2 → Rows W2 ⟨kind, client, life, seq, re, im, vers, err, op, ve, vk, es, ks⟩) := fun W2 h2 => ⟨(hr.es.below hb.2).below h2, (hr.ks.below hb.2).below h2⟩
  have x1 := cell_of hb.1 1
  have x2 := cell_of hb.1 2
  have x3 := cell_of hb.1 3
  have x4 := cell_of hb.1 4
  have x5 := cell_of hb.1 5
  have x6 := cell_of hb.1 6
  simp at x1 x2 x3 x4 x5 x6
  have HN := fun W2 => within_new W2 [client, life, seq, vers, err] (by simp)
  obtain ⟨PB, hPB⟩ : ∃ x, plainB ⟨kind, client, life, seq, re, im, vers, err, op, ve, vk, es, ks⟩ = x := ⟨_, rfl⟩
  have HPB : Hid (plainB ⟨kind, client, life, seq, re, im, vers, err, op, ve, vk, es, ks⟩ = PB) := hPB
  rw [hPB]
  unfold plainB at hPB
  simp only [] at hPB
  cases h1 : numsOkB [client, life, seq, vers, err] with
  | false =>
    rw [h1] at HN hPB
    have HN2 : Hid (∀ W2, Calls Try.prog 96 #[.slice (some ⟨W2.heap.size, 0, none⟩) 5 5] (W2.alloc (.cells #[.int .i64 client, .int .i64 life, .int .i64 seq, .int .i64 vers, .int .i64 err] 3)) fun e w' => e = .returned (.bool false) ∧ Below W2.heap.size W2 w') := HN
    have HE : Hid (PB = false) := hPB.symm
    clear HN hPB h1 hb hr ev ek
    go_enter Try.func53, Try.ntmps53
    go_upto_region 1 with fail
    clear hW
    go_wp2_with (go_at_call 96; refine (HN2.out W).mono ?_; rintro e w1 ⟨rfl, hb1⟩)
    go_ret
    exact ⟨by rw [HE.out]; rfl, chainB HB.out.2 hb1⟩
  | true =>
    rw [h1] at HN hPB
    have HN2 : Hid (∀ W2, Calls Try.prog 96 #[.slice (some ⟨W2.heap.size, 0, none⟩) 5 5] (W2.alloc (.cells #[.int .i64 client, .int .i64 life, .int .i64 seq, .int .i64 vers, .int .i64 err] 3)) fun e w' => e = .returned (.bool true) ∧ Below W2.heap.size W2 w') := HN
    have HG := fun W2 => good_any re im W2
    cases h2 : goodB re im with
    | false =>
      rw [h2] at HG hPB
      have HG2 : Hid (∀ W2, Calls Try.prog 97 #[.complex .f64 re im] W2 fun e w' => e = .returned (.bool false) ∧ W2 = w') := fun W2 => (HG W2).mono fun _ _ h => ⟨h.1, h.2.symm⟩
      have HE : Hid (PB = false) := hPB.symm
      clear HN HG hPB h1 h2 hb hr ev ek
      go_enter Try.func53, Try.ntmps53
      go_upto_region 1 with fail
      clear hW
      go_wp2_with (first
        | (go_at_call 96; refine (HN2.out W).mono ?_; rintro e w1 ⟨rfl, hb1⟩; have y4 := cell_of (hkeep HB.out.1 hb1) 4; simp at y4)
        | (go_at_call 97; refine (HG2.out _).mono ?_; rintro e w2 ⟨rfl, rfl⟩))
      go_ret
      exact ⟨by rw [HE.out]; rfl, chainB HB.out.2 hb1⟩
    | true =>
      rw [h2] at HG hPB
      have HG2 : Hid (∀ W2, Calls Try.prog 97 #[.complex .f64 re im] W2 fun e w' => e = .returned (.bool true) ∧ W2 = w') := fun W2 => (HG W2).mono fun _ _ h => ⟨h.1, h.2.symm⟩
      have HE : Hid (PB = kindOkB (Ms.mg ⟨kind, client, life, seq, re, im, vers, err, op, ve, vk, es, ks⟩)) := hPB.symm
      have HV : Hid (ve = .slice av es.length cv ∧ vk = .slice ak ks.length ck) := ⟨ev, ek⟩
      clear HN HG hPB h1 h2 hb hr ev ek
      go_enter Try.func53, Try.ntmps53
      go_upto_region 1 with fail
      clear hW
      go_wp2_with (first
        | (go_at_call 96; refine (HN2.out W).mono ?_; rintro e w1 ⟨rfl, hb1⟩; have y4 := cell_of (hkeep HB.out.1 hb1) 4; simp at y4)
        | (go_at_call 97; refine (HG2.out _).mono ?_; rintro e w2 ⟨rfl, rfl⟩))
      have n1 := hkeep HB.out.1 hb1
      have HB1 : Hid (Below W.heap.size W w1) := hb1
      have y0 := cell_of n1 0
      have y7 := cell_of n1 7
      have y8 := cell_of n1 8
      have y9 := cell_of n1 9
      have y10 := cell_of n1 10
      have y11 := cell_of n1 11
      have y12 := cell_of n1 12
      have y13 := cell_of n1 13
      have y14 := cell_of n1 14
      have y15 := cell_of n1 15
      simp at y0 y7 y8 y9 y10 y11 y12 y13 y14 y15
      rw [HV.out.1] at y14
      rw [HV.out.2] at y15
      clear n1 x1 x2 x3 x4 x5 x6 y4 HN2 HG2 hb1
      go_quiet (fail)
      obtain ⟨W1, hW1⟩ : ∃ x, w1.drewN nq = x := ⟨_, rfl⟩
      have hb2 : Below w1.heap.size w1 W1 := by rw [← hW1]; exact below_drewN (Below.refl _ _) _
      rw [hW1]
      have n2 := hkeep (hkeep HB.out.1 HB1.out) hb2
      have HW1 : Hid (Below w.heap.size w W1) := chainB HB.out.2 (chainB HB1.out hb2)
      have HR2 : Hid (Rows W1 ⟨kind, client, life, seq, re, im, vers, err, op, ve, vk, es, ks⟩) := HR.out _ (chainB HB1.out hb2)
      obtain ⟨B3, hB3⟩ : ∃ b, eqOp ⟨op.kind, op.dir, op.nm, op.dst, op.new, op.mode, op.tg⟩ ⟨0, 0, ⟨#[]⟩, 0, ⟨#[]⟩, 0, ⟨#[]⟩⟩ = b := ⟨_, rfl⟩
      obtain ⟨B4, hB4⟩ : ∃ b, ((es.length : Int) == 0) = b := ⟨_, rfl⟩
      obtain ⟨B5, hB5⟩ : ∃ b, ((ks.length : Int) == 0) = b := ⟨_, rfl⟩
      rw [hB3, hB4, hB5]
      have HBs : Hid (eqOp op zeroOp = B3 ∧ decide (es.length = 0) = B4 ∧ decide (ks.length = 0) = B5) := ⟨hB3, by rw [← hB4]; exact len0 _, by rw [← hB5]; exact len0 _⟩
      have z0 := cell_of n2 0
      have z7 := cell_of n2 7
      have z8 := cell_of n2 8
      have z9 := cell_of n2 9
      have z10 := cell_of n2 10
      have z11 := cell_of n2 11
      have z12 := cell_of n2 12
      have z13 := cell_of n2 13
      have z14 := cell_of n2 14
      have z15 := cell_of n2 15
      simp at z0 z7 z8 z9 z10 z11 z12 z13 z14 z15
      rw [HV.out.1] at z14
      rw [HV.out.2] at z15
      clear hB3 hB4 hB5 n2 hW1 hb2 y0 y7 y8 y9 y10 y11 y12 y13 y14 y15 HB1
      by_cases k1 : kind = 1
      · subst k1
        have HP : Hid (Calls Try.prog 98 #[.agg #[.int .i64 op.kind, .int .i64 op.dir, .string op.nm, .int .i64 op.dst, .string op.new, .int .i64 op.mode, .string op.tg]] W1 fun e w' => e = .returned (.bool (decide (opOk op))) ∧ Below W1.heap.size W1 w') := plainOp_p op W1
        obtain ⟨B6, hB6⟩ : ∃ b, decide (opOk op) = b := ⟨_, rfl⟩
        rw [hB6] at HP
        have HQ : Hid (kindOkB (Ms.mg ⟨1, client, life, seq, re, im, vers, err, op, ve, vk, es, ks⟩) = (B6 && (B4 && B5))) := by
          show (decide (opOk op) && (decide (es.length = 0) && decide (ks.length = 0))) = _
          rw [hB6, HBs.out.2.1, HBs.out.2.2]
        clear hB6
        go_upto_region 13 with (go_at_call 98; refine HP.out.mono ?_; rintro e w7 ⟨rfl, hb7⟩)
        cases B6 <;> cases B4 <;> cases B5 <;> (go_wp2; go_ret; exact ⟨by rw [HE.out, HQ.out]; rfl, chainB HW1.out hb7⟩)
      have k1b : (kind == 1) = false := by simpa using k1
      by_cases k2 : kind = 2
      · subst k2
        have HP : Hid (Calls Try.prog 99 #[.slice av es.length cv, .func (.func 100) #[] #[]] W1 fun e w' => e = .returned (.bool (listOkB entOk es)) ∧ Below W1.heap.size W1 w') := plainListE_p _ es 0 W1 (by have := HR2.out.es; simp only [HV.out.1] at this; exact this)
        obtain ⟨B6, hB6⟩ : ∃ b, listOkB entOk es = b := ⟨_, rfl⟩
        rw [hB6] at HP
        have HQ : Hid (kindOkB (Ms.mg ⟨2, client, life, seq, re, im, vers, err, op, ve, vk, es, ks⟩) = (B3 && (B6 && B5))) := by
          show (eqOp op zeroOp && (listOkB entOk es && decide (ks.length = 0))) = _
          rw [hB6, HBs.out.1, HBs.out.2.2]
        clear hB6
        go_upto_region 13 with (go_at_call 99; refine HP.out.mono ?_; rintro e w7 ⟨rfl, hb7⟩)
        cases B3 <;> cases B6 <;> cases B5 <;> (go_wp2; go_ret; exact ⟨by rw [HE.out, HQ.out]; rfl, chainB HW1.out hb7⟩)
      have k2b : (kind == 2) = false := by simpa using k2
      by_cases k3 : kind = 3
      · subst k3
        by_cases hk0 : ks.length = 0
        · have hd : ¬ (0 : Int) < (ks.length : Int) := by omega
          have hd2 : decide ((0 : Int) < (ks.length : Int)) = false := decide_eq_false hd
          have HQ : Hid (kindOkB (Ms.mg ⟨3, client, life, seq, re, im, vers, err, op, ve, vk, es, ks⟩) = (B3 && (B4 && false))) := by
            show (eqOp op zeroOp && (decide (es.length = 0) && (decide (0 < ks.length) && listOkB keyOk ks))) = _
            rw [HBs.out.1, HBs.out.2.1, decide_eq_false (by omega), Bool.false_and]
          clear hk0
          go_upto_region 13 with fail
          cases B3 <;> cases B4 <;> (go_wp2; go_ret; exact ⟨by rw [HE.out, HQ.out]; rfl, HW1.out⟩)
        · have hd : (0 : Int) < (ks.length : Int) := by omega
          have hd2 : decide ((0 : Int) < (ks.length : Int)) = true := decide_eq_true hd
          have HP : Hid (Calls Try.prog 101 #[.slice ak ks.length ck, .func (.func 102) #[] #[]] W1 fun e w' => e = .returned (.bool (listOkB keyOk ks)) ∧ Below W1.heap.size W1 w') := plainListK_p _ ks 0 W1 (by have := HR2.out.ks; simp only [HV.out.2] at this; exact this)
          obtain ⟨B6, hB6⟩ : ∃ b, listOkB keyOk ks = b := ⟨_, rfl⟩
          rw [hB6] at HP
          have HQ : Hid (kindOkB (Ms.mg ⟨3, client, life, seq, re, im, vers, err, op, ve, vk, es, ks⟩) = (B3 && (B4 && B6))) := by
            show (eqOp op zeroOp && (decide (es.length = 0) && (decide (0 < ks.length) && listOkB keyOk ks))) = _
            rw [HBs.out.1, HBs.out.2.1, hB6, decide_eq_true (by omega), Bool.true_and]
          clear hB6 hk0
          go_upto_region 13 with (go_at_call 101; refine HP.out.mono ?_; rintro e w7 ⟨rfl, hb7⟩)
          cases B3 <;> cases B4 <;> cases B6 <;> (go_wp2; go_ret; exact ⟨by rw [HE.out, HQ.out]; rfl, chainB HW1.out hb7⟩)
      have k3b : (kind == 3) = false := by simpa using k3
      by_cases k4 : kind = 4
      · subst k4
        have HQ : Hid (kindOkB (Ms.mg ⟨4, client, life, seq, re, im, vers, err, op, ve, vk, es, ks⟩) = (B3 && (B4 && B5))) := by
          show (eqOp op zeroOp && (decide (es.length = 0) && decide (ks.length = 0))) = _
          rw [HBs.out.1, HBs.out.2.1, HBs.out.2.2]
        go_upto_region 13 with fail
        cases B3 <;> cases B4 <;> cases B5 <;> (go_wp2; go_ret; exact ⟨by rw [HE.out, HQ.out]; rfl, HW1.out⟩)
      have k4b : (kind == 4) = false := by simpa using k4
      have HQ : Hid (kindOkB (Ms.mg ⟨kind, client, life, seq, re, im, vers, err, op, ve, vk, es, ks⟩) = false) := by
        exact kindOkB_no _ k1 k2 k3 k4
      clear k1 k2 k3 k4
      go_wp2
      go_ret
      exact ⟨by rw [HE.out, HQ.out]; rfl, HW1.out⟩
end Go.Proofs.Ytihjhaafmdobmaa
