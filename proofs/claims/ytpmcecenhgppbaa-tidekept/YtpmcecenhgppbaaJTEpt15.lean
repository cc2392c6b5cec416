/- meet: what a message of the mark's epoch does. -/
import Derived.Test.YtpmcecenhgppbaaJTEpt14
namespace Go.Proofs.Ytpmcecenhgppbaa
section
open Go.RowKit Go.Shelf

/-- a list of one act, made, shut -/
def actOne (ps : Array (Nat × Value)) : Sem Value := Instr.buildSlice 41 1 ps
theorem buildAct (ps : Array (Nat × Value)) : Instr.buildSlice 41 1 ps = actOne ps := rfl
theorem actOne_of (Y : Array Value) (hY : Y.size = 7) (w : World) : (actOne #[(0, .agg Y)]).run Try.prog w = .ok (.slice (some ⟨w.heap.size, 0, none⟩) 1 1) (w.alloc (.cells Y 59)) := by
  obtain ⟨l⟩ := Y
  match l, hY with
  | [y0, y1, y2, y3, y4, y5, y6], _ =>
    unfold actOne Instr.buildSlice
    simp [run_underlying Try.underlying41, Try.sizeOf59, Try.zeroValue59, Instr.fill, Value.cells, newRow]
    rw [show Array.range 7 = #[0, 1, 2, 3, 4, 5, 6] from rfl]
    simp
attribute [irreducible] actOne
attribute [local go_sem ↓ high] loadMsg storeMsg buildMsg storeAct loadAct buildAct
attribute [local go_sem high] run_store_complex eqC
theorem acts_one {w : World} {B : Nat} {a : Am} (h : ActL w B a) (hB : B ≤ w.heap.size) : Acts (w.alloc (.cells a.arr 59)) B (.slice (some ⟨w.heap.size, 0, none⟩) 1 1) [a] := by
  refine ⟨?_, fun z hz => ?_⟩
  · show World.ownsRow _ _ _ _ _ 1 (ac [a])
    have : ac [a] = a.vals := by simp [ac]
    rw [this]
    exact owns_whole hB (by rw [Am.vals, Array.toArray_toList]; exact heap_new _ _) rfl (by unfold maxLen; omega)
  · rw [List.mem_singleton.1 hz]; exact h.below (below_alloc _ _)
/-- what meet leaves -/
def MeetR (w : World) (B t : Nat) (s : Td) (x : Pm) (e : Ending) (w' : World) : Prop := ∃ v l, e = .returned v ∧ Acts w' w.heap.size v l ∧ l.map Am.c = (s.say.meet x).2 ∧ ∃ s', ST w w' B t s s' ∧ s'.say = (s.say.meet x).1 ∧ (l = [] ∨ s'.hs = s.hs)
set_option maxHeartbeats 4000000 in
set_option maxRecDepth 100000 in
theorem meet_a (t B : Nat) (s : Td) (x : Hm) (w : World) (h : IsT w B t s) (hB : B ≤ w.heap.size) (hL : Lists w 0 x) (hm : Mk x.m.re x.m.im (part s.a) x.m.num) (hk : x.m.kind = 2) (hq : s.say.asks x.m.seq = false) :
    Calls Try.prog 28 #[.pointer (some ⟨t, 0, none⟩), .agg x.arr] w fun e w' => MeetR w B t s x.m e w' := by
  obtain ⟨W, hW⟩ : ∃ W, w.alloc (.cells x.arr 45) = W := ⟨_, rfl⟩
  have bx := boxB hW
  have h1 := h.below bx.2
  have HA : Hid (Calls Try.prog 45 #[.pointer (some ⟨t, 0, none⟩), .agg x.arr] W fun e w' => e = .returned (.int .i64 (s.say.ahead x.m)) ∧ Below W.heap.size W w') := by
    have := ahead_c t s.a s.b x W h1.cells.2.2.1
    rw [ahead_say h1 hm] at this; exact this
  have ml := msgLd_of bx.1 x.size
  have HI : Hid (∀ V, Below W.heap.size W V → IsT V B t s ∧ Lists V 0 x ∧ V.heap[w.heap.size]? = some (.cells x.arr 45 (0, 0)) ∧ B ≤ V.heap.size ∧ w.heap.size ≤ V.heap.size) := fun V hV => ⟨h1.below hV, (hL.below bx.2).below hV, hkeep bx.1 hV, by have := bx.2.size; have := hV.size; omega, by have := bx.2.size; have := hV.size; omega⟩
  have HC : Hid (∀ V, Below W.heap.size W V → V.cell? ⟨w.heap.size, 0, none⟩ = some (.int .i64 x.m.kind) ∧ V.cell? ⟨w.heap.size, 3, none⟩ = some (.int .i64 x.m.seq)) := fun V hV => by
    have e := (HI.out V hV).2.2.1
    exact ⟨by rw [cell_of e]; rfl, by rw [cell_of e]; rfl⟩
  have HS : Hid (IsT w B t s ∧ Below w.heap.size w W) := ⟨h, bx.2⟩
  obtain ⟨A, hA⟩ : ∃ A, s.say.ahead x.m = A := ⟨_, rfl⟩
  obtain ⟨X, hX⟩ : ∃ X, x.arr = X := ⟨_, rfl⟩
  have HQ : Hid _ := hq
  have HM : Hid (s.say.meet x.m = (s.say, [])) := by
    have : s.say.meet x.m = (s.say, []) := by
      unfold Ts.meet
      rw [if_pos hk, if_neg (by rw [hq]; simp)]
    exact this
  have HX : Hid (x.arr = X) := hX
  rw [hX] at HA ml hW ⊢
  rw [hA] at HA
  have HK : Hid _ := hk
  clear h h1 bx hL hm hX hA hq hk
  go_enter Try.func28, Try.ntmps28
  go_wp2_with (first | (go_at_call 45; refine HA.out.mono ?_; rintro e w1 ⟨rfl, hb1⟩; obtain ⟨k0, k3⟩ := HC.out w1 hb1; rw [HK.out] at k0; have hI1 : Hid _ := HI.out w1 hb1; have ml1 := msgLd_of hI1.out.2.2.1 x.size; rw [HX.out] at ml1; clear ml) | (go_at_call 46; refine (asks_p t B s x.m.seq _ hI1.out.1).mono ?_; rintro e w' ⟨rfl, rfl⟩; rw [HQ.out]))
  go_ret
  exact ⟨.slice none 0 0, [], rfl, Acts.nil _ _, by rw [HM.out]; rfl, s, ST.stay HS.out.1 (chainB HS.out.2 hb1), by rw [HM.out], .inl rfl⟩
set_option maxHeartbeats 4000000 in
set_option maxRecDepth 100000 in
theorem meet_b (t B : Nat) (s : Td) (x : Hm) (w : World) (h : IsT w B t s) (hB : B ≤ w.heap.size) (hL : Lists w 0 x) (hm : Mk x.m.re x.m.im (part s.a) x.m.num) (hk : x.m.kind = 2) (hq : s.say.asks x.m.seq = true) (ha : s.say.ahead x.m = 0) :
    Calls Try.prog 28 #[.pointer (some ⟨t, 0, none⟩), .agg x.arr] w fun e w' => MeetR w B t s x.m e w' := by
  obtain ⟨W, hW⟩ : ∃ W, w.alloc (.cells x.arr 45) = W := ⟨_, rfl⟩
  have bx := boxB hW
  have h1 := h.below bx.2
  have HA : Hid (Calls Try.prog 45 #[.pointer (some ⟨t, 0, none⟩), .agg x.arr] W fun e w' => e = .returned (.int .i64 (s.say.ahead x.m)) ∧ Below W.heap.size W w') := by
    have := ahead_c t s.a s.b x W h1.cells.2.2.1
    rw [ahead_say h1 hm] at this; exact this
  have ml := msgLd_of bx.1 x.size
  have HI : Hid (∀ V, Below W.heap.size W V → IsT V B t s ∧ Lists V 0 x ∧ V.heap[w.heap.size]? = some (.cells x.arr 45 (0, 0)) ∧ B ≤ V.heap.size ∧ w.heap.size ≤ V.heap.size) := fun V hV => ⟨h1.below hV, (hL.below bx.2).below hV, hkeep bx.1 hV, by have := bx.2.size; have := hV.size; omega, by have := bx.2.size; have := hV.size; omega⟩
  have HC : Hid (∀ V, Below W.heap.size W V → V.cell? ⟨w.heap.size, 0, none⟩ = some (.int .i64 x.m.kind) ∧ V.cell? ⟨w.heap.size, 3, none⟩ = some (.int .i64 x.m.seq)) := fun V hV => by
    have e := (HI.out V hV).2.2.1
    exact ⟨by rw [cell_of e]; rfl, by rw [cell_of e]; rfl⟩
  have HS : Hid (IsT w B t s ∧ Below w.heap.size w W) := ⟨h, bx.2⟩
  obtain ⟨A, hA⟩ : ∃ A, s.say.ahead x.m = A := ⟨_, rfl⟩
  obtain ⟨X, hX⟩ : ∃ X, x.arr = X := ⟨_, rfl⟩
  have HQ : Hid _ := hq
  have HM : Hid (s.say.meet x.m = (s.say.used x.m, [s.say.usedA x.m])) := by
    have : s.say.meet x.m = (s.say.used x.m, [s.say.usedA x.m]) := by
      unfold Ts.meet
      rw [if_pos hk, if_pos hq, if_pos ha]
    exact this
  have HP : Hid (∀ V, Below W.heap.size W V → Calls Try.prog 47 #[.pointer (some ⟨t, 0, none⟩), .agg X] V fun e w' => ∃ a : Am, e = .returned (.agg a.arr) ∧ a.c = s.say.usedA x.m ∧ ActL w' V.heap.size a ∧ ∃ s', ST V w' B t s s' ∧ s'.say = s.say.used x.m ∧ s'.hs = s.hs) := fun V hV => by
    have := use_p t B s x V (HI.out V hV).1 (HI.out V hV).2.1 hm
    rw [hX] at this; exact this
  have HX : Hid (x.arr = X) := hX
  rw [hX] at HA ml hW ⊢
  rw [ha] at HA
  have HK : Hid _ := hk
  clear h h1 bx hL hm hX hA hq ha hk
  go_enter Try.func28, Try.ntmps28
  go_wp2_with (first | (go_at_call 45; refine HA.out.mono ?_; rintro e w1 ⟨rfl, hb1⟩; obtain ⟨k0, k3⟩ := HC.out w1 hb1; rw [HK.out] at k0; have hI1 : Hid _ := HI.out w1 hb1; have ml1 := msgLd_of hI1.out.2.2.1 x.size; rw [HX.out] at ml1; clear ml) | (go_at_call 46; refine (asks_p t B s x.m.seq _ hI1.out.1).mono ?_; rintro e w' ⟨rfl, rfl⟩; rw [HQ.out]) | (go_at_call 47; refine (HP.out _ hb1).mono ?_; rintro e w2 ⟨a2, rfl, hc2, hl2, s2, hst2, hsay2, hhs2⟩; have ao := actOne_of a2.arr rfl w2))
  go_ret
  have hsz := hI1.out.2.2.2.2
  have hs2 := hst2.only.size
  exact ⟨_, [a2], rfl, acts_one (hl2.down hsz) (by omega), by rw [HM.out, ← hc2]; rfl, s2, (ST.pre (chainB HS.out.2 hb1) HS.out.1 hst2).on (below_alloc _ _), by rw [HM.out]; exact hsay2, .inr hhs2⟩
set_option maxHeartbeats 4000000 in
set_option maxRecDepth 100000 in
theorem meet_c (t B : Nat) (s : Td) (x : Hm) (w : World) (h : IsT w B t s) (hB : B ≤ w.heap.size) (hL : Lists w 0 x) (hm : Mk x.m.re x.m.im (part s.a) x.m.num) (hk : x.m.kind = 2) (hq : s.say.asks x.m.seq = true) (ha : s.say.ahead x.m ≠ 0) :
    Calls Try.prog 28 #[.pointer (some ⟨t, 0, none⟩), .agg x.arr] w fun e w' => MeetR w B t s x.m e w' := by
  obtain ⟨W, hW⟩ : ∃ W, w.alloc (.cells x.arr 45) = W := ⟨_, rfl⟩
  have bx := boxB hW
  have h1 := h.below bx.2
  have HA : Hid (Calls Try.prog 45 #[.pointer (some ⟨t, 0, none⟩), .agg x.arr] W fun e w' => e = .returned (.int .i64 (s.say.ahead x.m)) ∧ Below W.heap.size W w') := by
    have := ahead_c t s.a s.b x W h1.cells.2.2.1
    rw [ahead_say h1 hm] at this; exact this
  have ml := msgLd_of bx.1 x.size
  have HI : Hid (∀ V, Below W.heap.size W V → IsT V B t s ∧ Lists V 0 x ∧ V.heap[w.heap.size]? = some (.cells x.arr 45 (0, 0)) ∧ B ≤ V.heap.size ∧ w.heap.size ≤ V.heap.size) := fun V hV => ⟨h1.below hV, (hL.below bx.2).below hV, hkeep bx.1 hV, by have := bx.2.size; have := hV.size; omega, by have := bx.2.size; have := hV.size; omega⟩
  have HC : Hid (∀ V, Below W.heap.size W V → V.cell? ⟨w.heap.size, 0, none⟩ = some (.int .i64 x.m.kind) ∧ V.cell? ⟨w.heap.size, 3, none⟩ = some (.int .i64 x.m.seq)) := fun V hV => by
    have e := (HI.out V hV).2.2.1
    exact ⟨by rw [cell_of e]; rfl, by rw [cell_of e]; rfl⟩
  have HS : Hid (IsT w B t s ∧ Below w.heap.size w W) := ⟨h, bx.2⟩
  obtain ⟨A, hA⟩ : ∃ A, s.say.ahead x.m = A := ⟨_, rfl⟩
  obtain ⟨X, hX⟩ : ∃ X, x.arr = X := ⟨_, rfl⟩
  have HQ : Hid _ := hq
  have HM : Hid (s.say.meet x.m = (s.say.holds x.m, [])) := by
    have : s.say.meet x.m = (s.say.holds x.m, []) := by
      unfold Ts.meet
      rw [if_pos hk, if_pos hq, if_neg ha]
    exact this
  have HP : Hid (∀ V, Below W.heap.size W V → Calls Try.prog 49 #[.pointer (some ⟨t, 0, none⟩), .agg X] V fun e w' => e = .returned (.tuple #[]) ∧ ∃ s', ST V w' B t s s' ∧ s'.say = s.say.holds x.m) := fun V hV => by
    have := hold_p t B s x 0 V (HI.out V hV).1 (HI.out V hV).2.2.2.1 (HI.out V hV).2.1 ⟨hm, .inl hk, fun _ => by have := hq; unfold Ts.asks at this; simp at this; exact this.1⟩
    rw [hX] at this; exact this
  have HX : Hid (x.arr = X) := hX
  rw [hX] at HA ml hW ⊢
  rw [hA] at HA
  have q0 : (A == 0) = false := beq_eq_false_iff_ne.2 (by rw [← hA]; exact ha)
  have HK : Hid _ := hk
  clear h h1 bx hL hm hX hA hq ha hk
  go_enter Try.func28, Try.ntmps28
  go_wp2_with (first | (go_at_call 45; refine HA.out.mono ?_; rintro e w1 ⟨rfl, hb1⟩; obtain ⟨k0, k3⟩ := HC.out w1 hb1; rw [HK.out] at k0; have hI1 : Hid _ := HI.out w1 hb1; have ml1 := msgLd_of hI1.out.2.2.1 x.size; rw [HX.out] at ml1; clear ml) | (go_at_call 46; refine (asks_p t B s x.m.seq _ hI1.out.1).mono ?_; rintro e w' ⟨rfl, rfl⟩; rw [HQ.out]) | (go_at_call 49; refine (HP.out _ hb1).mono ?_; rintro e w2 ⟨rfl, s2, hst2, hsay2⟩))
  go_ret
  exact ⟨.slice none 0 0, [], rfl, Acts.nil _ _, by rw [HM.out]; rfl, s2, ST.pre (chainB HS.out.2 hb1) HS.out.1 hst2, by rw [HM.out]; exact hsay2, .inl rfl⟩
set_option maxHeartbeats 4000000 in
set_option maxRecDepth 100000 in
theorem meet_d (t B : Nat) (s : Td) (x : Hm) (w : World) (h : IsT w B t s) (hB : B ≤ w.heap.size) (hL : Lists w 0 x) (hm : Mk x.m.re x.m.im (part s.a) x.m.num) (hk : x.m.kind ≠ 2) (ha : s.say.ahead x.m = 0) :
    Calls Try.prog 28 #[.pointer (some ⟨t, 0, none⟩), .agg x.arr] w fun e w' => MeetR w B t s x.m e w' := by
  obtain ⟨W, hW⟩ : ∃ W, w.alloc (.cells x.arr 45) = W := ⟨_, rfl⟩
  have bx := boxB hW
  have h1 := h.below bx.2
  have HA : Hid (Calls Try.prog 45 #[.pointer (some ⟨t, 0, none⟩), .agg x.arr] W fun e w' => e = .returned (.int .i64 (s.say.ahead x.m)) ∧ Below W.heap.size W w') := by
    have := ahead_c t s.a s.b x W h1.cells.2.2.1
    rw [ahead_say h1 hm] at this; exact this
  have ml := msgLd_of bx.1 x.size
  have HI : Hid (∀ V, Below W.heap.size W V → IsT V B t s ∧ Lists V 0 x ∧ V.heap[w.heap.size]? = some (.cells x.arr 45 (0, 0)) ∧ B ≤ V.heap.size ∧ w.heap.size ≤ V.heap.size) := fun V hV => ⟨h1.below hV, (hL.below bx.2).below hV, hkeep bx.1 hV, by have := bx.2.size; have := hV.size; omega, by have := bx.2.size; have := hV.size; omega⟩
  have HC : Hid (∀ V, Below W.heap.size W V → V.cell? ⟨w.heap.size, 0, none⟩ = some (.int .i64 x.m.kind) ∧ V.cell? ⟨w.heap.size, 3, none⟩ = some (.int .i64 x.m.seq)) := fun V hV => by
    have e := (HI.out V hV).2.2.1
    exact ⟨by rw [cell_of e]; rfl, by rw [cell_of e]; rfl⟩
  have HS : Hid (IsT w B t s ∧ Below w.heap.size w W) := ⟨h, bx.2⟩
  obtain ⟨A, hA⟩ : ∃ A, s.say.ahead x.m = A := ⟨_, rfl⟩
  obtain ⟨X, hX⟩ : ∃ X, x.arr = X := ⟨_, rfl⟩
  have HM : Hid (s.say.meet x.m = (s.say, [])) := by
    have : s.say.meet x.m = (s.say, []) := by
      unfold Ts.meet
      rw [if_neg hk, if_pos ha]
    exact this
  have HX : Hid (x.arr = X) := hX
  rw [hX] at HA ml hW ⊢
  rw [ha] at HA
  have q2 : (x.m.kind == 2) = false := beq_eq_false_iff_ne.2 hk
  have HK : Hid _ := hk
  clear h h1 bx hL hm hX hA ha hk
  go_enter Try.func28, Try.ntmps28
  go_wp2_with (first | (go_at_call 45; refine HA.out.mono ?_; rintro e w1 ⟨rfl, hb1⟩; obtain ⟨k0, k3⟩ := HC.out w1 hb1; skip; have hI1 : Hid _ := HI.out w1 hb1; have ml1 := msgLd_of hI1.out.2.2.1 x.size; rw [HX.out] at ml1; clear ml))
  go_ret
  exact ⟨.slice none 0 0, [], rfl, Acts.nil _ _, by rw [HM.out]; rfl, s, ST.stay HS.out.1 (chainB HS.out.2 hb1), by rw [HM.out], .inl rfl⟩
set_option maxHeartbeats 4000000 in
set_option maxRecDepth 100000 in
theorem meet_e (t B : Nat) (s : Td) (x : Hm) (w : World) (h : IsT w B t s) (hB : B ≤ w.heap.size) (hL : Lists w 0 x) (hm : Mk x.m.re x.m.im (part s.a) x.m.num) (hk : x.m.kind = 4) (ha : s.say.ahead x.m ≠ 0) :
    Calls Try.prog 28 #[.pointer (some ⟨t, 0, none⟩), .agg x.arr] w fun e w' => MeetR w B t s x.m e w' := by
  obtain ⟨W, hW⟩ : ∃ W, w.alloc (.cells x.arr 45) = W := ⟨_, rfl⟩
  have bx := boxB hW
  have h1 := h.below bx.2
  have HA : Hid (Calls Try.prog 45 #[.pointer (some ⟨t, 0, none⟩), .agg x.arr] W fun e w' => e = .returned (.int .i64 (s.say.ahead x.m)) ∧ Below W.heap.size W w') := by
    have := ahead_c t s.a s.b x W h1.cells.2.2.1
    rw [ahead_say h1 hm] at this; exact this
  have ml := msgLd_of bx.1 x.size
  have HI : Hid (∀ V, Below W.heap.size W V → IsT V B t s ∧ Lists V 0 x ∧ V.heap[w.heap.size]? = some (.cells x.arr 45 (0, 0)) ∧ B ≤ V.heap.size ∧ w.heap.size ≤ V.heap.size) := fun V hV => ⟨h1.below hV, (hL.below bx.2).below hV, hkeep bx.1 hV, by have := bx.2.size; have := hV.size; omega, by have := bx.2.size; have := hV.size; omega⟩
  have HC : Hid (∀ V, Below W.heap.size W V → V.cell? ⟨w.heap.size, 0, none⟩ = some (.int .i64 x.m.kind) ∧ V.cell? ⟨w.heap.size, 3, none⟩ = some (.int .i64 x.m.seq)) := fun V hV => by
    have e := (HI.out V hV).2.2.1
    exact ⟨by rw [cell_of e]; rfl, by rw [cell_of e]; rfl⟩
  have HS : Hid (IsT w B t s ∧ Below w.heap.size w W) := ⟨h, bx.2⟩
  obtain ⟨A, hA⟩ : ∃ A, s.say.ahead x.m = A := ⟨_, rfl⟩
  obtain ⟨X, hX⟩ : ∃ X, x.arr = X := ⟨_, rfl⟩
  have HM : Hid (s.say.meet x.m = (s.say.apply x.m, [actOf x.m])) := by
    have : s.say.meet x.m = (s.say.apply x.m, [actOf x.m]) := by
      unfold Ts.meet
      rw [if_neg (by omega), if_neg ha, if_pos (.inl hk)]
    exact this
  have hnum : part s.b < x.m.num := by
    have e : s.say.ahead x.m = if part s.b ≤ x.m.num then x.m.num - part s.b else 0 := rfl
    rw [e] at ha
    by_cases hh : part s.b ≤ x.m.num
    · rw [if_pos hh] at ha; omega
    · rw [if_neg hh] at ha; omega
  have HP : Hid (∀ V, Below W.heap.size W V → Calls Try.prog 48 #[.pointer (some ⟨t, 0, none⟩), .agg X] V fun e w' => ∃ a : Am, e = .returned (.agg a.arr) ∧ a.c = actOf x.m ∧ ActL w' V.heap.size a ∧ ∃ s', ST V w' B t s s' ∧ s'.say = s.say.apply x.m ∧ s'.hs = s.hs) := fun V hV => by
    have := apply_p t B s x V (HI.out V hV).1 (HI.out V hV).2.1 hm hnum (.inr hk)
    rw [hX] at this; exact this
  have HX : Hid (x.arr = X) := hX
  rw [hX] at HA ml hW ⊢
  rw [hA] at HA
  have q0 : (A == 0) = false := beq_eq_false_iff_ne.2 (by rw [← hA]; exact ha)
  have HK : Hid _ := hk
  clear h h1 bx hL hm hX hA ha hnum hk
  go_enter Try.func28, Try.ntmps28
  go_wp2_with (first | (go_at_call 45; refine HA.out.mono ?_; rintro e w1 ⟨rfl, hb1⟩; obtain ⟨k0, k3⟩ := HC.out w1 hb1; rw [HK.out] at k0; have hI1 : Hid _ := HI.out w1 hb1; have ml1 := msgLd_of hI1.out.2.2.1 x.size; rw [HX.out] at ml1; clear ml) | (go_at_call 48; refine (HP.out _ hb1).mono ?_; rintro e w2 ⟨a2, rfl, hc2, hl2, s2, hst2, hsay2, hhs2⟩; have ao := actOne_of a2.arr rfl w2))
  go_ret
  have hsz := hI1.out.2.2.2.2
  have hs2 := hst2.only.size
  exact ⟨_, [a2], rfl, acts_one (hl2.down hsz) (by omega), by rw [HM.out, ← hc2]; rfl, s2, (ST.pre (chainB HS.out.2 hb1) HS.out.1 hst2).on (below_alloc _ _), by rw [HM.out]; exact hsay2, .inr hhs2⟩
set_option maxHeartbeats 4000000 in
set_option maxRecDepth 100000 in
theorem meet_f (t B : Nat) (s : Td) (x : Hm) (w : World) (h : IsT w B t s) (hB : B ≤ w.heap.size) (hL : Lists w 0 x) (hm : Mk x.m.re x.m.im (part s.a) x.m.num) (hk : x.m.kind = 3) (ha : s.say.ahead x.m = 1) :
    Calls Try.prog 28 #[.pointer (some ⟨t, 0, none⟩), .agg x.arr] w fun e w' => MeetR w B t s x.m e w' := by
  obtain ⟨W, hW⟩ : ∃ W, w.alloc (.cells x.arr 45) = W := ⟨_, rfl⟩
  have bx := boxB hW
  have h1 := h.below bx.2
  have HA : Hid (Calls Try.prog 45 #[.pointer (some ⟨t, 0, none⟩), .agg x.arr] W fun e w' => e = .returned (.int .i64 (s.say.ahead x.m)) ∧ Below W.heap.size W w') := by
    have := ahead_c t s.a s.b x W h1.cells.2.2.1
    rw [ahead_say h1 hm] at this; exact this
  have ml := msgLd_of bx.1 x.size
  have HI : Hid (∀ V, Below W.heap.size W V → IsT V B t s ∧ Lists V 0 x ∧ V.heap[w.heap.size]? = some (.cells x.arr 45 (0, 0)) ∧ B ≤ V.heap.size ∧ w.heap.size ≤ V.heap.size) := fun V hV => ⟨h1.below hV, (hL.below bx.2).below hV, hkeep bx.1 hV, by have := bx.2.size; have := hV.size; omega, by have := bx.2.size; have := hV.size; omega⟩
  have HC : Hid (∀ V, Below W.heap.size W V → V.cell? ⟨w.heap.size, 0, none⟩ = some (.int .i64 x.m.kind) ∧ V.cell? ⟨w.heap.size, 3, none⟩ = some (.int .i64 x.m.seq)) := fun V hV => by
    have e := (HI.out V hV).2.2.1
    exact ⟨by rw [cell_of e]; rfl, by rw [cell_of e]; rfl⟩
  have HS : Hid (IsT w B t s ∧ Below w.heap.size w W) := ⟨h, bx.2⟩
  obtain ⟨A, hA⟩ : ∃ A, s.say.ahead x.m = A := ⟨_, rfl⟩
  obtain ⟨X, hX⟩ : ∃ X, x.arr = X := ⟨_, rfl⟩
  have HM : Hid (s.say.meet x.m = (s.say.apply x.m, [actOf x.m])) := by
    have : s.say.meet x.m = (s.say.apply x.m, [actOf x.m]) := by
      unfold Ts.meet
      rw [if_neg (by omega), if_neg (by omega), if_pos (.inr ⟨hk, ha⟩)]
    exact this
  have hnum : part s.b < x.m.num := by
    have e : s.say.ahead x.m = if part s.b ≤ x.m.num then x.m.num - part s.b else 0 := rfl
    rw [e] at ha
    by_cases hh : part s.b ≤ x.m.num
    · rw [if_pos hh] at ha; omega
    · rw [if_neg hh] at ha; omega
  have HP : Hid (∀ V, Below W.heap.size W V → Calls Try.prog 48 #[.pointer (some ⟨t, 0, none⟩), .agg X] V fun e w' => ∃ a : Am, e = .returned (.agg a.arr) ∧ a.c = actOf x.m ∧ ActL w' V.heap.size a ∧ ∃ s', ST V w' B t s s' ∧ s'.say = s.say.apply x.m ∧ s'.hs = s.hs) := fun V hV => by
    have := apply_p t B s x V (HI.out V hV).1 (HI.out V hV).2.1 hm hnum (.inl hk)
    rw [hX] at this; exact this
  have HX : Hid (x.arr = X) := hX
  rw [hX] at HA ml hW ⊢
  rw [ha] at HA
  have HK : Hid _ := hk
  clear h h1 bx hL hm hX hA ha hnum hk
  go_enter Try.func28, Try.ntmps28
  go_wp2_with (first | (go_at_call 45; refine HA.out.mono ?_; rintro e w1 ⟨rfl, hb1⟩; obtain ⟨k0, k3⟩ := HC.out w1 hb1; rw [HK.out] at k0; have hI1 : Hid _ := HI.out w1 hb1; have ml1 := msgLd_of hI1.out.2.2.1 x.size; rw [HX.out] at ml1; clear ml) | (go_at_call 48; refine (HP.out _ hb1).mono ?_; rintro e w2 ⟨a2, rfl, hc2, hl2, s2, hst2, hsay2, hhs2⟩; have ao := actOne_of a2.arr rfl w2))
  go_ret
  have hsz := hI1.out.2.2.2.2
  have hs2 := hst2.only.size
  exact ⟨_, [a2], rfl, acts_one (hl2.down hsz) (by omega), by rw [HM.out, ← hc2]; rfl, s2, (ST.pre (chainB HS.out.2 hb1) HS.out.1 hst2).on (below_alloc _ _), by rw [HM.out]; exact hsay2, .inr hhs2⟩
set_option maxHeartbeats 4000000 in
set_option maxRecDepth 100000 in
theorem meet_g (t B : Nat) (s : Td) (x : Hm) (w : World) (h : IsT w B t s) (hB : B ≤ w.heap.size) (hL : Lists w 0 x) (hm : Mk x.m.re x.m.im (part s.a) x.m.num) (hk : x.m.kind = 3) (ha : s.say.ahead x.m ≠ 0) (ha1 : s.say.ahead x.m ≠ 1) :
    Calls Try.prog 28 #[.pointer (some ⟨t, 0, none⟩), .agg x.arr] w fun e w' => MeetR w B t s x.m e w' := by
  obtain ⟨W, hW⟩ : ∃ W, w.alloc (.cells x.arr 45) = W := ⟨_, rfl⟩
  have bx := boxB hW
  have h1 := h.below bx.2
  have HA : Hid (Calls Try.prog 45 #[.pointer (some ⟨t, 0, none⟩), .agg x.arr] W fun e w' => e = .returned (.int .i64 (s.say.ahead x.m)) ∧ Below W.heap.size W w') := by
    have := ahead_c t s.a s.b x W h1.cells.2.2.1
    rw [ahead_say h1 hm] at this; exact this
  have ml := msgLd_of bx.1 x.size
  have HI : Hid (∀ V, Below W.heap.size W V → IsT V B t s ∧ Lists V 0 x ∧ V.heap[w.heap.size]? = some (.cells x.arr 45 (0, 0)) ∧ B ≤ V.heap.size ∧ w.heap.size ≤ V.heap.size) := fun V hV => ⟨h1.below hV, (hL.below bx.2).below hV, hkeep bx.1 hV, by have := bx.2.size; have := hV.size; omega, by have := bx.2.size; have := hV.size; omega⟩
  have HC : Hid (∀ V, Below W.heap.size W V → V.cell? ⟨w.heap.size, 0, none⟩ = some (.int .i64 x.m.kind) ∧ V.cell? ⟨w.heap.size, 3, none⟩ = some (.int .i64 x.m.seq)) := fun V hV => by
    have e := (HI.out V hV).2.2.1
    exact ⟨by rw [cell_of e]; rfl, by rw [cell_of e]; rfl⟩
  have HS : Hid (IsT w B t s ∧ Below w.heap.size w W) := ⟨h, bx.2⟩
  obtain ⟨A, hA⟩ : ∃ A, s.say.ahead x.m = A := ⟨_, rfl⟩
  obtain ⟨X, hX⟩ : ∃ X, x.arr = X := ⟨_, rfl⟩
  have HM : Hid (s.say.meet x.m = (s.say.holds x.m, [])) := by
    have : s.say.meet x.m = (s.say.holds x.m, []) := by
      unfold Ts.meet
      rw [if_neg (by omega), if_neg ha, if_neg (by intro hh; rcases hh with hh | hh; (omega); exact ha1 hh.2)]
    exact this
  have HP : Hid (∀ V, Below W.heap.size W V → Calls Try.prog 49 #[.pointer (some ⟨t, 0, none⟩), .agg X] V fun e w' => e = .returned (.tuple #[]) ∧ ∃ s', ST V w' B t s s' ∧ s'.say = s.say.holds x.m) := fun V hV => by
    have := hold_p t B s x 0 V (HI.out V hV).1 (HI.out V hV).2.2.2.1 (HI.out V hV).2.1 ⟨hm, .inr hk, fun e => by omega⟩
    rw [hX] at this; exact this
  have HX : Hid (x.arr = X) := hX
  rw [hX] at HA ml hW ⊢
  rw [hA] at HA
  have q0 : (A == 0) = false := beq_eq_false_iff_ne.2 (by rw [← hA]; exact ha)
  have q1 : (A == 1) = false := beq_eq_false_iff_ne.2 (by rw [← hA]; exact ha1)
  have HK : Hid _ := hk
  clear h h1 bx hL hm hX hA ha ha1 hk
  go_enter Try.func28, Try.ntmps28
  go_wp2_with (first | (go_at_call 45; refine HA.out.mono ?_; rintro e w1 ⟨rfl, hb1⟩; obtain ⟨k0, k3⟩ := HC.out w1 hb1; rw [HK.out] at k0; have hI1 : Hid _ := HI.out w1 hb1; have ml1 := msgLd_of hI1.out.2.2.1 x.size; rw [HX.out] at ml1; clear ml) | (go_at_call 49; refine (HP.out _ hb1).mono ?_; rintro e w2 ⟨rfl, s2, hst2, hsay2⟩))
  go_ret
  exact ⟨.slice none 0 0, [], rfl, Acts.nil _ _, by rw [HM.out]; rfl, s2, ST.pre (chainB HS.out.2 hb1) HS.out.1 hst2, by rw [HM.out]; exact hsay2, .inl rfl⟩
theorem meet_p (t B : Nat) (s : Td) (x : Hm) (w : World) (h : IsT w B t s) (hB : B ≤ w.heap.size) (hL : Lists w 0 x) (hm : Mk x.m.re x.m.im (part s.a) x.m.num) (hk : 2 ≤ x.m.kind ∧ x.m.kind ≤ 4) :
    Calls Try.prog 28 #[.pointer (some ⟨t, 0, none⟩), .agg x.arr] w fun e w' => MeetR w B t s x.m e w' := by
  by_cases h2 : x.m.kind = 2
  · cases hq : s.say.asks x.m.seq with
    | false => exact meet_a t B s x w h hB hL hm h2 hq
    | true =>
      by_cases ha : s.say.ahead x.m = 0
      · exact meet_b t B s x w h hB hL hm h2 hq ha
      · exact meet_c t B s x w h hB hL hm h2 hq ha
  · by_cases ha : s.say.ahead x.m = 0
    · exact meet_d t B s x w h hB hL hm h2 ha
    · by_cases h4 : x.m.kind = 4
      · exact meet_e t B s x w h hB hL hm h4 ha
      · have h3 : x.m.kind = 3 := by omega
        by_cases ha1 : s.say.ahead x.m = 1
        · exact meet_f t B s x w h hB hL hm h3 ha1
        · exact meet_g t B s x w h hB hL hm h3 ha ha1
end
end Go.Proofs.Ytpmcecenhgppbaa
