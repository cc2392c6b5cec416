/- due: what is to be met next. -/
import Derived.Test.YtpmcecenhgppbaaJTEpt13
namespace Go.Proofs.Ytpmcecenhgppbaa
section
open Go.RowKit Go.Shelf
attribute [local go_sem ↓ high] loadMsg storeMsg buildMsg storeAct loadAct
attribute [local go_sem high] run_store_complex eqC

def due1B (a b : Nat) (y : Pm) : Bool := decide (y.kind = 3) && decide (aheadV a b y = 1)
theorem eg_due1 : ∀ args w, (callFunc 50 args).run Try.prog w = .ok (.enter 50 args) w := enters_of Try.func50 (by kernel_rfl) rfl
set_option maxHeartbeats 2000000 in
theorem due1_p (y : Hm) (t b0 a b : Nat) (w : World) (h0 : w.cell? ⟨b0, 0, none⟩ = some (.pointer (some ⟨t, 0, none⟩))) (h : w.cell? ⟨t, 2, none⟩ = some (.complex .f64 a b)) : Calls Try.prog 50 #[.agg y.arr, .pointer (some ⟨b0, 0, none⟩)] w fun e w' => e = .returned (.bool (due1B a b y.m)) ∧ Below w.heap.size w w' := by
  obtain ⟨W, hW⟩ : ∃ W, w.alloc (.cells y.arr 45) = W := ⟨_, rfl⟩
  have bx := boxB hW
  have p0 := (bx.2.cell (p := ⟨b0, 0, none⟩) (cellLt h0)).trans h0
  have c2 := (bx.2.cell (p := ⟨t, 2, none⟩) (cellLt h)).trans h
  have y0 : W.cell? ⟨w.heap.size, 0, none⟩ = some (.int .i64 y.m.kind) := by rw [cell_of bx.1]; rfl
  have HA : Hid (Calls Try.prog 45 #[.pointer (some ⟨t, 0, none⟩), .agg y.arr] W fun e w' => e = .returned (.int .i64 (aheadV a b y.m)) ∧ Below W.heap.size W w') := ahead_c t a b y W c2
  obtain ⟨Y, hY⟩ : ∃ Y, y.arr = Y := ⟨_, rfl⟩
  have ml := msgLd_of bx.1 y.size
  rw [hY] at HA hW ml ⊢
  have HB : Hid (Below w.heap.size w W) := bx.2
  obtain ⟨A, hA⟩ : ∃ A, aheadV a b y.m = A := ⟨_, rfl⟩
  rw [hA] at HA
  unfold due1B
  rw [hA]
  clear h h0 bx hY hA c2
  by_cases hk : y.m.kind = 3
  · rw [decide_eq_true hk, Bool.true_and]
    rw [hk] at y0
    clear hk
    go_enter Try.func50, Try.ntmps50
    go_wp2_with (go_at_call 45; refine HA.out.mono ?_; rintro e w1 ⟨rfl, hb1⟩)
    go_ret
    exact ⟨rfl, chainB HB.out hb1⟩
  · have q1 : (y.m.kind == 3) = false := beq_eq_false_iff_ne.2 hk
    rw [decide_eq_false hk, Bool.false_and]
    go_enter Try.func50, Try.ntmps50
    go_wp2
    go_ret
    exact ⟨rfl, HB.out⟩
def due2B (a b : Nat) (y : Pm) : Bool := decide (y.kind = 2) && decide (aheadV a b y = 0)
theorem eg_due2 : ∀ args w, (callFunc 51 args).run Try.prog w = .ok (.enter 51 args) w := enters_of Try.func51 (by kernel_rfl) rfl
set_option maxHeartbeats 2000000 in
theorem due2_p (y : Hm) (t b0 a b : Nat) (w : World) (h0 : w.cell? ⟨b0, 0, none⟩ = some (.pointer (some ⟨t, 0, none⟩))) (h : w.cell? ⟨t, 2, none⟩ = some (.complex .f64 a b)) : Calls Try.prog 51 #[.agg y.arr, .pointer (some ⟨b0, 0, none⟩)] w fun e w' => e = .returned (.bool (due2B a b y.m)) ∧ Below w.heap.size w w' := by
  obtain ⟨W, hW⟩ : ∃ W, w.alloc (.cells y.arr 45) = W := ⟨_, rfl⟩
  have bx := boxB hW
  have p0 := (bx.2.cell (p := ⟨b0, 0, none⟩) (cellLt h0)).trans h0
  have c2 := (bx.2.cell (p := ⟨t, 2, none⟩) (cellLt h)).trans h
  have y0 : W.cell? ⟨w.heap.size, 0, none⟩ = some (.int .i64 y.m.kind) := by rw [cell_of bx.1]; rfl
  have HA : Hid (Calls Try.prog 45 #[.pointer (some ⟨t, 0, none⟩), .agg y.arr] W fun e w' => e = .returned (.int .i64 (aheadV a b y.m)) ∧ Below W.heap.size W w') := ahead_c t a b y W c2
  obtain ⟨Y, hY⟩ : ∃ Y, y.arr = Y := ⟨_, rfl⟩
  have ml := msgLd_of bx.1 y.size
  rw [hY] at HA hW ml ⊢
  have HB : Hid (Below w.heap.size w W) := bx.2
  obtain ⟨A, hA⟩ : ∃ A, aheadV a b y.m = A := ⟨_, rfl⟩
  rw [hA] at HA
  unfold due2B
  rw [hA]
  clear h h0 bx hY hA c2
  by_cases hk : y.m.kind = 2
  · rw [decide_eq_true hk, Bool.true_and]
    rw [hk] at y0
    clear hk
    go_enter Try.func51, Try.ntmps51
    go_wp2_with (go_at_call 45; refine HA.out.mono ?_; rintro e w1 ⟨rfl, hb1⟩)
    go_ret
    exact ⟨rfl, chainB HB.out hb1⟩
  · have q1 : (y.m.kind == 2) = false := beq_eq_false_iff_ne.2 hk
    rw [decide_eq_false hk, Bool.false_and]
    go_enter Try.func51, Try.ntmps51
    go_wp2
    go_ret
    exact ⟨rfl, HB.out⟩
def due3B (a b : Nat) (y : Pm) : Bool := decide (aheadV a b y = 0)
theorem eg_due3 : ∀ args w, (callFunc 52 args).run Try.prog w = .ok (.enter 52 args) w := enters_of Try.func52 (by kernel_rfl) rfl
set_option maxHeartbeats 2000000 in
theorem due3_p (y : Hm) (t b0 a b : Nat) (w : World) (h0 : w.cell? ⟨b0, 0, none⟩ = some (.pointer (some ⟨t, 0, none⟩))) (h : w.cell? ⟨t, 2, none⟩ = some (.complex .f64 a b)) : Calls Try.prog 52 #[.agg y.arr, .pointer (some ⟨b0, 0, none⟩)] w fun e w' => e = .returned (.bool (due3B a b y.m)) ∧ Below w.heap.size w w' := by
  obtain ⟨W, hW⟩ : ∃ W, w.alloc (.cells y.arr 45) = W := ⟨_, rfl⟩
  have bx := boxB hW
  have p0 := (bx.2.cell (p := ⟨b0, 0, none⟩) (cellLt h0)).trans h0
  have c2 := (bx.2.cell (p := ⟨t, 2, none⟩) (cellLt h)).trans h
  have HA : Hid (Calls Try.prog 45 #[.pointer (some ⟨t, 0, none⟩), .agg y.arr] W fun e w' => e = .returned (.int .i64 (aheadV a b y.m)) ∧ Below W.heap.size W w') := ahead_c t a b y W c2
  obtain ⟨Y, hY⟩ : ∃ Y, y.arr = Y := ⟨_, rfl⟩
  have ml := msgLd_of bx.1 y.size
  rw [hY] at HA hW ml ⊢
  have HB : Hid (Below w.heap.size w W) := bx.2
  obtain ⟨A, hA⟩ : ∃ A, aheadV a b y.m = A := ⟨_, rfl⟩
  rw [hA] at HA
  unfold due3B
  rw [hA]
  clear h h0 bx hY hA c2
  go_enter Try.func52, Try.ntmps52
  go_wp2_with (go_at_call 45; refine HA.out.mono ?_; rintro e w1 ⟨rfl, hb1⟩)
  go_ret
  exact ⟨rfl, chainB HB.out hb1⟩
/-- the place of what is due -/
def dueV (s : Ts) : Int := match s.due with | some i => (i : Int) | none => -1
theorem idx_say (s : Td) (p : Pm → Bool) (q : Pm → Bool) (hpq : ∀ y ∈ s.hs, p y.m = q y.m) : idxP (fun y : Hm => p y.m) s.hs = match s.say.held.findIdx? q with | some i => (i : Int) | none => -1 := by
  unfold idxP
  have : s.hs.findIdx? (fun y : Hm => p y.m) = s.say.held.findIdx? q := by
    show _ = (s.hs.map Hm.m).findIdx? q
    rw [List.findIdx?_map]
    generalize s.hs = l at hpq
    induction l with
    | nil => rfl
    | cons a l ih =>
      rw [List.findIdx?_cons, List.findIdx?_cons, hpq a (List.mem_cons_self ..), ih fun y hy => hpq y (List.mem_cons_of_mem _ hy)]
      rfl
  rw [this]
  cases s.say.held.findIdx? q <;> rfl
theorem dueV_is {w : World} {B t : Nat} {s : Td} (h : IsT w B t s) : dueV s.say = if 0 ≤ idxP (fun y : Hm => due1B s.a s.b y.m) s.hs then idxP (fun y : Hm => due1B s.a s.b y.m) s.hs else if 0 ≤ idxP (fun y : Hm => due2B s.a s.b y.m) s.hs then idxP (fun y : Hm => due2B s.a s.b y.m) s.hs else idxP (fun y : Hm => due3B s.a s.b y.m) s.hs := by
  have e1 := idx_say s (due1B s.a s.b) s.say.due1 (fun y hy => by unfold due1B Ts.due1; rw [ahead_say h (h.each y hy).2.mkk])
  have e2 := idx_say s (due2B s.a s.b) s.say.due2 (fun y hy => by unfold due2B Ts.due2; rw [ahead_say h (h.each y hy).2.mkk])
  have e3 := idx_say s (due3B s.a s.b) s.say.due3 (fun y hy => by unfold due3B Ts.due3; rw [ahead_say h (h.each y hy).2.mkk])
  rw [e1, e2, e3]
  unfold dueV Ts.due
  cases s.say.held.findIdx? s.say.due1 with
  | some i => simp
  | none =>
    cases s.say.held.findIdx? s.say.due2 with
    | some i => simp
    | none => simp
set_option maxHeartbeats 2000000 in
theorem due_p (t B : Nat) (s : Td) (w : World) (h : IsT w B t s) : Calls Try.prog 29 #[.pointer (some ⟨t, 0, none⟩)] w fun e w' => e = .returned (.int .i64 (dueV s.say)) ∧ Below w.heap.size w w' := by
  rw [dueV_is h]
  obtain ⟨W, hW⟩ : ∃ W, w.alloc (.cells #[.pointer (some ⟨t, 0, none⟩)] 23) = W := ⟨_, rfl⟩
  have bx := boxB hW
  obtain ⟨a, cap, hv⟩ := owns_len h.held
  have p0 : W.cell? ⟨w.heap.size, 0, none⟩ = some (.pointer (some ⟨t, 0, none⟩)) := by rw [cell_of bx.1]; rfl
  have hwlt : w.heap.size < W.heap.size := (Array.getElem?_eq_some_iff.1 bx.1).1
  have h1 := h.below bx.2
  have hl8 : s.hs.length ≤ 1000000 := by have := h.lh; have := h.l8; omega
  have HC : Hid (∀ V, Below W.heap.size W V → V.cell? ⟨w.heap.size, 0, none⟩ = some (.pointer (some ⟨t, 0, none⟩)) ∧ V.cell? ⟨t, 8, none⟩ = some (.slice a s.hs.length cap) ∧ V.cell? ⟨t, 2, none⟩ = some (.complex .f64 s.a s.b)) := fun V hV => by
    have c := (h1.below hV).cells
    exact ⟨(hV.cell (p := ⟨w.heap.size, 0, none⟩) hwlt).trans p0, by rw [c.2.2.2.2.2.2.2.2.1, hv], c.2.2.1⟩
  have H1 : Hid (∀ V, Below W.heap.size W V → Calls Try.prog 43 #[.slice a s.hs.length cap, .func (.func 50) #[] #[.pointer (some ⟨w.heap.size, 0, none⟩)]] V fun e w' => e = .returned (.int .i64 (idxP (fun y : Hm => due1B s.a s.b y.m) s.hs)) ∧ Below V.heap.size V w') := fun V hV => index_m 50 _ (fun y => due1B s.a s.b y.m) _ B s.hs V (by rw [← hv]; exact (h1.held.below hV)) hl8 eg_due1 (fun U y hb => due1_p y t _ s.a s.b U (HC.out U (chainB hV hb)).1 (HC.out U (chainB hV hb)).2.2)
  have H2 : Hid (∀ V, Below W.heap.size W V → Calls Try.prog 43 #[.slice a s.hs.length cap, .func (.func 51) #[] #[.pointer (some ⟨w.heap.size, 0, none⟩)]] V fun e w' => e = .returned (.int .i64 (idxP (fun y : Hm => due2B s.a s.b y.m) s.hs)) ∧ Below V.heap.size V w') := fun V hV => index_m 51 _ (fun y => due2B s.a s.b y.m) _ B s.hs V (by rw [← hv]; exact (h1.held.below hV)) hl8 eg_due2 (fun U y hb => due2_p y t _ s.a s.b U (HC.out U (chainB hV hb)).1 (HC.out U (chainB hV hb)).2.2)
  have H3 : Hid (∀ V, Below W.heap.size W V → Calls Try.prog 43 #[.slice a s.hs.length cap, .func (.func 52) #[] #[.pointer (some ⟨w.heap.size, 0, none⟩)]] V fun e w' => e = .returned (.int .i64 (idxP (fun y : Hm => due3B s.a s.b y.m) s.hs)) ∧ Below V.heap.size V w') := fun V hV => index_m 52 _ (fun y => due3B s.a s.b y.m) _ B s.hs V (by rw [← hv]; exact (h1.held.below hV)) hl8 eg_due3 (fun U y hb => due3_p y t _ s.a s.b U (HC.out U (chainB hV hb)).1 (HC.out U (chainB hV hb)).2.2)
  obtain ⟨I1, hI1⟩ : ∃ I, idxP (fun y : Hm => due1B s.a s.b y.m) s.hs = I := ⟨_, rfl⟩
  obtain ⟨I2, hI2⟩ : ∃ I, idxP (fun y : Hm => due2B s.a s.b y.m) s.hs = I := ⟨_, rfl⟩
  obtain ⟨I3, hI3⟩ : ∃ I, idxP (fun y : Hm => due3B s.a s.b y.m) s.hs = I := ⟨_, rfl⟩
  rw [hI1] at H1 ⊢
  rw [hI2] at H2 ⊢
  rw [hI3] at H3 ⊢
  obtain ⟨-, c8, -⟩ := HC.out W (Below.refl _ _)
  have HB : Hid (Below w.heap.size w W) := bx.2
  clear h h1 bx hv hI1 hI2 hI3
  by_cases i1 : 0 ≤ I1
  · rw [if_pos i1]
    have n1 : ¬ I1 < 0 := by omega
    go_enter Try.func29, Try.ntmps29
    go_wp2_with (first | (have _q := hb2; go_at_call 43; refine (H3.out _ (chainB hb1 hb2)).mono ?_; rintro e w3 ⟨rfl, hb3⟩) | (have _q := hb1; go_at_call 43; refine (H2.out _ hb1).mono ?_; rintro e w2 ⟨rfl, hb2⟩; obtain ⟨d0, d8, -⟩ := HC.out w2 (chainB hb1 hb2)) | (go_at_call 43; refine (H1.out _ (Below.refl _ _)).mono ?_; rintro e w1 ⟨rfl, hb1⟩; obtain ⟨b0, b8, -⟩ := HC.out w1 hb1))
    go_ret
    exact ⟨rfl, chainB HB.out hb1⟩
  · rw [if_neg i1]
    have n1 : I1 < 0 := by omega
    by_cases i2 : 0 ≤ I2
    · rw [if_pos i2]
      have n2 : ¬ I2 < 0 := by omega
      go_enter Try.func29, Try.ntmps29
      go_wp2_with (first | (have _q := hb2; go_at_call 43; refine (H3.out _ (chainB hb1 hb2)).mono ?_; rintro e w3 ⟨rfl, hb3⟩) | (have _q := hb1; go_at_call 43; refine (H2.out _ hb1).mono ?_; rintro e w2 ⟨rfl, hb2⟩; obtain ⟨d0, d8, -⟩ := HC.out w2 (chainB hb1 hb2)) | (go_at_call 43; refine (H1.out _ (Below.refl _ _)).mono ?_; rintro e w1 ⟨rfl, hb1⟩; obtain ⟨b0, b8, -⟩ := HC.out w1 hb1))
      go_ret
      exact ⟨rfl, chainB HB.out (chainB hb1 hb2)⟩
    · rw [if_neg i2]
      have n2 : I2 < 0 := by omega
      go_enter Try.func29, Try.ntmps29
      go_wp2_with (first | (have _q := hb2; go_at_call 43; refine (H3.out _ (chainB hb1 hb2)).mono ?_; rintro e w3 ⟨rfl, hb3⟩) | (have _q := hb1; go_at_call 43; refine (H2.out _ hb1).mono ?_; rintro e w2 ⟨rfl, hb2⟩; obtain ⟨d0, d8, -⟩ := HC.out w2 (chainB hb1 hb2)) | (go_at_call 43; refine (H1.out _ (Below.refl _ _)).mono ?_; rintro e w1 ⟨rfl, hb1⟩; obtain ⟨b0, b8, -⟩ := HC.out w1 hb1))
      go_ret
      exact ⟨rfl, chainB HB.out (chainB (chainB hb1 hb2) hb3)⟩
end
end Go.Proofs.Ytpmcecenhgppbaa
