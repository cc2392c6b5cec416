/- The law TideRoom. -/
import Derived.Test.YtmbngenpdgianabJTOom26
namespace Go.Proofs.Ytmbngenpdgianab
section
open Go.RowKit Go.Shelf
attribute [local go_sem ↓ high] loadMsg storeMsg buildMsg storeAct loadAct buildAct
attribute [local go_sem high] run_store_complex eqC

theorem neqC (w : World) (a b c d : Nat) : (binOp .neq 39 (.complex .f64 a b) (.complex .f64 c d)).run Try.prog w = .ok (.bool (!(Op.floatEq .f64 a c && Op.floatEq .f64 b d))) w := by
  simp [binOp, Op.complexOp, Op.Complex.cmp, Op.floatEq, Op.floatCmp, asBool]
attribute [local go_sem high] neqC
theorem undrew {W w1 : World} (h : Below W.drew.heap.size W.drew w1) : Below W.heap.size W w1 := ⟨h.os, h.tape, h.output, h.size, h.block⟩
/-- early ones: two to i + 1, as many as there is room for -/
def Lr (h i : Nat) : List Nat := List.range' 2 (min i h)
def rS (h i : Nat) : Ts := if i = 0 then Ts.new 1 1 h else bS h 0 (Lr h i)
theorem Lr_rest (h i : Nat) (hi : i ≤ 8) : bRest 0 (Lr h i) := by
  refine ⟨fun j hj => ?_, fun j hj => ?_, List.nodup_range'⟩
  · have := (List.mem_range'_1.1 hj).1; omega
  · have := (List.mem_range'_1.1 hj).2; omega
theorem room1 : ∀ h < 9, ∀ i < 7, stepN h 0 (Lr h i) (i + 2) = (0, Lr h (i + 1)) ∧ stepN h 0 (Lr h (i + 1)) (i + 2) = (0, Lr h (i + 1)) := by decide +kernel
theorem room2 : ∀ h < 9, ∀ i < 8, stepN h 0 (Lr h i) 1 = (1 + min i h, []) := by decide +kernel
theorem room_twice (h i : Nat) (hh : h < 9) (hi : i < 7) : ((rS h i).take (brkN (i + 2))).1 = rS h (i + 1) ∧ ((rS h (i + 1)).take (brkN (i + 2))).1 = rS h (i + 1) := by
  obtain ⟨e1, e2⟩ := room1 h hh i hi
  have h1 : rS h (i + 1) = bS h 0 (Lr h (i + 1)) := by unfold rS; rw [if_neg (by omega)]
  rw [h1]
  constructor
  · by_cases h0 : i = 0
    · subst h0
      have := (first_b h (0 + 2) (by omega) (by omega)).1
      have e : stepN h 0 [] (0 + 2) = (0, Lr h (0 + 1)) := by
        have : Lr h 0 = [] := by unfold Lr; rw [Nat.zero_min]; rfl
        rw [← this]; exact e1
      rw [e] at this
      show ((Ts.new 1 1 h).take _).1 = _
      rw [this]
    · have := (step_b h 0 (Lr h i) (i + 2) (by omega) (by omega) (Lr_rest h i (by omega))).1
      rw [e1] at this
      have hr : rS h i = bS h 0 (Lr h i) := by unfold rS; rw [if_neg h0]
      rw [hr, this]
  · have := (step_b h 0 (Lr h (i + 1)) (i + 2) (by omega) (by omega) (Lr_rest h (i + 1) (by omega))).1
    rw [e2] at this
    rw [this]
theorem room_first (h i : Nat) (hh : h < 9) (h1 : 1 ≤ i) (hi : i < 8) : ((rS h i).take (brkN 1)).1 = bS h (max (1 + min i h) 0) [] := by
  have := (step_b h 0 (Lr h i) 1 (by omega) (by omega) (Lr_rest h i (by omega))).1
  rw [room2 h hh i hi] at this
  have hr : rS h i = bS h 0 (Lr h i) := by unfold rS; rw [if_neg (by omega)]
  rw [hr, this, Nat.max_zero]
theorem room_again (h m i : Nat) (hi : i < 8) : ((bS h (max m i) []).take (brkN (i + 1))).1 = bS h (max m (i + 1)) [] := by
  have := (step_b h (max m i) [] (i + 1) (by omega) (by omega) ⟨(fun j hj => by cases hj), (fun j hj => by cases hj), List.Pairwise.nil⟩).1
  rw [this]
  show bS h (stepN h (max m i) [] (i + 1)).1 (stepN h (max m i) [] (i + 1)).2 = _
  unfold stepN
  by_cases h1 : i + 1 ≤ max m i
  · rw [if_pos h1, show max m (i + 1) = max m i by omega]
  · rw [if_neg h1, if_pos (by omega), show max m (i + 1) = max m i + 1 by omega]; rfl
theorem rS_held (h i : Nat) : (rS h i).held = (Lr h i).map brkN := by
  unfold rS
  by_cases h0 : i = 0
  · rw [if_pos h0, h0]; unfold Lr; rw [Nat.zero_min]; rfl
  · rw [if_neg h0]; rfl
/-- the law's tide and its stream -/
structure Rm (w W : World) (t g c : Nat) (S : Ts) (F : Nat → Prop) (ms : List Hm) : Prop where
  lt : Lt w W t S F
  row : RowM W 0 (.slice (some ⟨g, 0, none⟩) 8 c) ms
  own : F g
  each : ∀ z ∈ ms, Lists W 0 z
  say : ms.map Hm.m = stream 8
theorem Rm.below {w W V : World} {t g c : Nat} {S : Ts} {F : Nat → Prop} {ms : List Hm} (h : Rm w W t g c S F ms) (hb : Below W.heap.size W V) : Rm w V t g c S F ms := ⟨h.lt.below hb, h.row.below hb, h.own, fun z hz => (h.each z hz).below hb, h.say⟩
theorem Rm.on {w W V : World} {t g c : Nat} {S S' : Ts} {F : Nat → Prop} {ms : List Hm} (h : Rm w W t g c S F ms) (hl : Lt w V t S' F) (hk : Kt F W V) : Rm w V t g c S' F ms := ⟨hl, hk.rowM h.row (fun q hq => by cases hq; exact h.own), h.own, fun z hz => hk.lists (h.each z hz), h.say⟩
theorem Rm.get {w W : World} {t g c : Nat} {S : Ts} {F : Nat → Prop} {ms : List Hm} (h : Rm w W t g c S F ms) (i : Nat) (hi : i < 8) : ∃ z, ms[i]? = some z ∧ z.m = brkN (i + 1) ∧ Lists W 0 z ∧ (msgLd (.pointer (some ⟨g, i * 16, none⟩))).run Try.prog W = .ok (.agg z.arr) W := by
  have hl : ms.length = 8 := by have := congrArg List.length h.say; simpa [stream] using this
  obtain ⟨z, hz⟩ : ∃ z, ms[i]? = some z := ⟨_, List.getElem?_eq_getElem (by omega)⟩
  obtain ⟨g', hg', -, -, -, q⟩ := owns_msg h.row hz
  cases hg'
  refine ⟨z, hz, ?_, h.each z (List.mem_of_getElem? hz), msgLd_at q z.size⟩
  have e : (ms.map Hm.m)[i]? = some z.m := by rw [List.getElem?_map, hz]; rfl
  rw [h.say] at e
  unfold stream at e
  rw [List.getElem?_map, List.getElem?_range hi] at e
  exact (Option.some.inj e).symm
def TkRm (w : World) (t g c : Nat) (S : Ts) (F : Nat → Prop) (ms : List Hm) (e : Ending) (w' : World) : Prop := ∃ v, e = .returned v ∧ Rm w w' t g c S F ms
theorem Rm.pick {w W : World} {t g c : Nat} {S : Ts} {F : Nat → Prop} {ms : List Hm} (h : Rm w W t g c S F ms) (i : Nat) (hi : i < 8) : ∃ Z, ∀ V S, Rm w V t g c S F ms → (msgLd (.pointer (some ⟨g, i * 16, none⟩))).run Try.prog V = .ok (.agg Z) V ∧ ∀ S', (S.take (brkN (i + 1))).1 = S' → Calls Try.prog 12 #[.pointer (some ⟨t, 0, none⟩), .agg Z] V fun e w' => TkRm w t g c S' F ms e w' := by
  obtain ⟨z, hz, -, -, -⟩ := h.get i hi
  refine ⟨z.arr, fun V S h => ?_⟩
  obtain ⟨z', hz', e, hL, hm⟩ := h.get i hi
  obtain rfl : z' = z := by rw [hz'] at hz; exact Option.some.inj hz
  refine ⟨hm, fun S' hs => (lt_take h.lt z' hL).mono ?_⟩
  rintro q w' ⟨v, l, rfl, -, -, hl, hk⟩
  rw [e, hs] at hl
  exact ⟨v, rfl, h.on hl hk⟩
theorem rm_of {w w1 w2 : World} {t : Nat} {S : Ts} (h : Lt w w1 t S (fun _ => False)) {v : Value} {l : List Hm} (hm : Msgs w2 w1.heap.size v l) (hc : l.map Hm.m = stream 8) (hb : Below w1.heap.size w1 w2) : ∃ g c F, v = .slice (some ⟨g, 0, none⟩) 8 c ∧ Rm w w2 t g c S F l := by
  have hl : l.length = 8 := by have := congrArg List.length hc; simpa [stream] using this
  obtain ⟨z, hz⟩ : ∃ z, l[0]? = some z := ⟨_, List.getElem?_eq_getElem (by omega)⟩
  obtain ⟨a, c, rfl⟩ := owns_len hm.row
  obtain ⟨g, rfl, -, hg1, hg2, -⟩ := owns_msg hm.row hz
  refine ⟨g, c, _, by rw [hl], h.add hb, ?_, .inr ⟨hg1, hg2⟩, fun z hz => (hm.each z hz).down (Nat.zero_le _), hc⟩
  have := hm.row
  rw [hl] at this
  exact owns_le this (Nat.zero_le _)
structure Hd (W : World) (a : Option Addr) (n c : Nat) (l : List Hm) (ps : List Pm) : Prop where
  row : RowM W 0 (.slice a n c) l
  each : ∀ z ∈ l, Lists W 0 z
  say : l.map Hm.m = ps
theorem Hd.below {W V : World} {a : Option Addr} {n c : Nat} {l : List Hm} {ps : List Pm} (h : Hd W a n c l ps) (hb : Below W.heap.size W V) : Hd V a n c l ps := ⟨h.row.below hb, fun z hz => (h.each z hz).below hb, h.say⟩
def HdRm (w : World) (t g c : Nat) (S : Ts) (F : Nat → Prop) (ms : List Hm) (n : Nat) (e : Ending) (w' : World) : Prop := ∃ a c' l, e = .returned (.slice a n c') ∧ Hd w' a n c' l S.held ∧ Rm w w' t g c S F ms
theorem Rm.helds {w W : World} {t g c : Nat} {S : Ts} {F : Nat → Prop} {ms : List Hm} (h : Rm w W t g c S F ms) (n : Nat) (hn : S.held.length = n) : Calls Try.prog 16 #[.pointer (some ⟨t, 0, none⟩)] W fun e w' => HdRm w t g c S F ms n e w' := by
  refine (lt_held h.lt).mono ?_
  rintro q w' ⟨v, l, rfl, hm, hc, hb⟩
  obtain ⟨a, c', rfl⟩ := owns_len hm.row
  have hl : l.length = n := by have := congrArg List.length hc; rw [List.length_map] at this; omega
  have hr := hm.row
  rw [hl] at hr
  exact ⟨a, c', l, by rw [hl], ⟨owns_le hr (Nat.zero_le _), fun z hz => (hm.each z hz).down (Nat.zero_le _), hc⟩, h.below hb⟩
theorem Hd.get {W : World} {a : Option Addr} {n c : Nat} {l : List Hm} {ps : List Pm} (h : Hd W a n c l ps) (i : Nat) (p : Pm) (hp : ps[i]? = some p) : ∃ g z, a = some ⟨g, 0, none⟩ ∧ l[i]? = some z ∧ z.m = p ∧ Lists W 0 z ∧ (msgLd (.pointer (some ⟨g, i * 16, none⟩))).run Try.prog W = .ok (.agg z.arr) W := by
  rw [← h.say, List.getElem?_map] at hp
  cases hz : l[i]? with
  | none => rw [hz] at hp; cases hp
  | some z =>
    rw [hz] at hp
    obtain ⟨g, rfl, -, -, -, q⟩ := owns_msg h.row hz
    exact ⟨g, z, rfl, rfl, Option.some.inj hp, h.each z (List.mem_of_getElem? hz), msgLd_at q z.size⟩
theorem Rm.mark {w W : World} {t g c h n : Nat} {L : List Nat} {F : Nat → Prop} {ms : List Hm} (r : Rm w W t g c (bS h n L) F ms) (hn : n ≤ 1000) : ∃ x y, Op.floatEq .f64 x (floatOfInt .f64 1) = true ∧ Op.floatEq .f64 y (floatOfInt .f64 (n : Int)) = true ∧ Calls Try.prog 21 #[.pointer (some ⟨t, 0, none⟩)] W fun e w' => e = .returned (.complex .f64 x y) ∧ W = w' := by
  obtain ⟨x, y, hmk, hc⟩ := lt_mark r.lt
  have k : Mk (floatOfInt .f64 1) (floatOfInt .f64 (n : Int)) 1 (n : Int) := Mk.of (by omega) (by omega) (by omega) (by omega)
  refine ⟨x, y, ?_, ?_, hc⟩
  · rw [floatEq_whole hmk.ha k.ha]; exact decide_eq_true rfl
  · rw [floatEq_whole hmk.hb k.hb]; exact decide_eq_true rfl
theorem Lr_get (h i j : Nat) (hj : j < min i h) : (rS h i).held[j]? = some (brkN (j + 1 + 1)) := by
  rw [rS_held, List.getElem?_map]
  unfold Lr
  rw [List.getElem?_range' hj]
  show some (brkN _) = _
  rw [show 2 + 1 * j = j + 1 + 1 by omega]
theorem rS_len (h i : Nat) : (rS h i).held.length = min i h := by rw [rS_held]; unfold Lr; rw [List.length_map, List.length_range']
set_option maxHeartbeats 16000000 in
set_option maxRecDepth 100000 in
theorem room_walk (a b : Int) (w : World) : Calls Try.prog 5 #[.int .i64 a, .int .i64 b] w fun e w' => e = .returned (.bool true) ∧ Below w.heap.size w w' := by
  obtain ⟨h, hh⟩ : ∃ h, plw a 9 = h := ⟨_, rfl⟩
  have hh9 : h < 9 := by rw [← hh]; exact plw_lt a 9 (by omega)
  obtain ⟨k, hk⟩ : ∃ k, 2 + plw b 7 = k := ⟨_, rfl⟩
  have hk8 : k ≤ 8 := by have := plw_lt b 7 (by omega); omega
  have hk2 : 2 ≤ k := by omega
  have HPa : Hid (∀ W, Calls Try.prog 20 #[.int .i64 a, .int .i64 9] W fun e w' => e = .returned (.int .i64 h) ∧ W = w') := fun W => by have := place_w a 9 W (by omega) (by omega); rw [hh] at this; exact this
  have HPb : Hid (∀ W, Calls Try.prog 20 #[.int .i64 b, .int .i64 7] W fun e w' => e = .returned (.int .i64 (k - 2)) ∧ W = w') := fun W => by have := place_w b 7 W (by omega) (by omega); rw [show ((plw b 7 : Nat) : Int) = k - 2 by omega] at this; exact this
  have hke : 2 + ((k : Int) - 2) = k := by omega
  have HN : Hid (Calls Try.prog 7 #[.int .i64 1, .int .i64 1, .int .i64 h] w fun e w' => e = .returned (.tuple #[.pointer (some ⟨w.heap.size, 0, none⟩), .int .i64 0]) ∧ Lt w w' w.heap.size (Ts.new 1 1 h) (fun _ => False) ∧ Below w.heap.size w w') := lt_new 1 1 h w w (Below.refl _ _) _ (fun k hk => hk.elim) (by
    unfold newOk withB
    simp; omega)
  obtain ⟨t, ht⟩ : ∃ t, w.heap.size = t := ⟨_, rfl⟩
  have HT : Hid (w.heap.size = t) := ht
  rw [ht] at HN
  clear hh hk ht
  go_enter Try.func5, Try.ntmps5
  go_wp2_with (first
    | (go_at_call_of 20 (Value.int .i64 a); refine (HPa.out _).mono ?_; rintro q w' ⟨rfl, rfl⟩)
    | (go_at_call_of 20 (Value.int .i64 b); refine (HPb.out _).mono ?_; rintro q w' ⟨rfl, rfl⟩)
    | (go_at_call 7; refine HN.out.mono ?_; rintro q w1 ⟨rfl, hL1, hb1⟩; have H1 : Hid (Lt w w1 t (Ts.new 1 1 h) (fun _ => False)) := hL1; clear hL1)
    | (go_at_call 19; refine (breaks_p 8 _ (by omega)).mono ?_; rintro q w2 ⟨v2, ms, rfl, hm2, hc2, hb2⟩; obtain ⟨g, c, F, rfl, hr2⟩ := rm_of H1.out hm2 hc2 hb2; have R2 : Hid (Rm w w2 t g c (rS h 0) F ms) := hr2; clear hm2 hc2 hb2 hr2))
  go_loopw [10] (fun s8 wr => ∃ i : Nat, 1 ≤ i ∧ i ≤ k ∧ s8 = .int .i64 i ∧ Hid (Rm w wr t g c (rS h (i - 1)) F ms)) (fun s8 _ => k - (intOf s8).toNat)
  case atStart => exact ⟨1, Nat.le_refl _, by omega, rfl, R2.out⟩
  case round =>
    obtain ⟨i, hi1, hik, rfl, HR⟩ := hrel
    by_cases hlt : i < k
    · have hltz : (i : Int) < (k : Int) := by omega
      obtain ⟨Z, hZ⟩ := HR.out.pick i (by omega)
      have HZ : Hid (∀ V S, Rm w V t g c S F ms → (msgLd (.pointer (some ⟨g, i * 16, none⟩))).run Try.prog V = .ok (.agg Z) V ∧ ∀ S', (S.take (brkN (i + 1))).1 = S' → Calls Try.prog 12 #[.pointer (some ⟨t, 0, none⟩), .agg Z] V fun e w' => TkRm w t g c S' F ms e w') := hZ
      have HS : Hid (((rS h (i - 1)).take (brkN (i + 1))).1 = rS h i ∧ ((rS h i).take (brkN (i + 1))).1 = rS h i) := by
        have := room_twice h (i - 1) hh9 (by omega)
        rw [show i - 1 + 2 = i + 1 by omega, show i - 1 + 1 = i by omega] at this
        exact this
      have ml := (hZ wr _ HR.out).1
      clear hZ
      go_wp2_with (first
        | (go_at_call 12; refine ((HZ.out wr _ HR.out).2 _ HS.out.1).mono ?_; rintro q w3 ⟨v3, rfl, hr3⟩; have R3 : Hid (Rm w w3 t g c (rS h i) F ms) := hr3; have ml3 := (HZ.out w3 _ hr3).1; clear ml hr3)
        | (go_at_call 12; refine ((HZ.out w3 _ R3.out).2 _ HS.out.2).mono ?_; rintro q w4 ⟨v4, rfl, hr4⟩; have R4 : Hid (Rm w w4 t g c (rS h i) F ms) := hr4; clear ml3 hr4))
      exact ⟨⟨i + 1, by omega, by omega, by simp, R4.out⟩, by simp [intOf]; omega⟩
    · obtain rfl : k = i := by omega
      have hltz : ¬ (k : Int) < (k : Int) := by omega
      obtain ⟨m, hm⟩ : ∃ m, min (k - 1) h = m := ⟨_, rfl⟩
      have HM : Hid (min (k - 1) h = m) := hm
      have hm8 : m ≤ k - 1 := by omega
      have HH : Hid (∀ V, Rm w V t g c (rS h (k - 1)) F ms → Calls Try.prog 16 #[.pointer (some ⟨t, 0, none⟩)] V fun e w' => HdRm w t g c (rS h (k - 1)) F ms m e w') := fun V hV => hV.helds m (by rw [rS_len, hm])
      by_cases hw : m < k - 1
      · have hwe : (h : Int) = (m : Int) := by omega
        have hwl : (m : Int) < (k : Int) - 1 := by omega
        clear hm
        go_wp2_with (first
          | (go_at_call 16; refine (HH.out _ HR.out).mono ?_; rintro q w5 ⟨a5, c5, l5, rfl, hd5, hr5⟩; have R5 : Hid (Rm w w5 t g c (rS h (k - 1)) F ms ∧ Hd w5 a5 m c5 l5 (rS h (k - 1)).held) := ⟨hr5, hd5⟩; clear hd5 hr5))
        go_loopw [13] (fun s13 wr => ∃ i : Nat, i ≤ m ∧ s13 = .int .i64 i ∧ Hid (Rm w wr t g c (rS h (k - 1)) F ms ∧ Hd wr a5 m c5 l5 (rS h (k - 1)).held)) (fun s13 _ => m - (intOf s13).toNat)
        case atStart => exact ⟨0, Nat.zero_le _, rfl, R5.out⟩
        case round =>
          obtain ⟨i, him, rfl, H6⟩ := hrel
          by_cases hlt2 : i < m
          · have hlz2 : (i : Int) < (m : Int) := by omega
            have hd : Below wr.heap.size wr wr.drew := (Below.refl _ _).drew
            have H6d : Hid (Rm w wr.drew t g c (rS h (k - 1)) F ms ∧ Hd wr.drew a5 m c5 l5 (rS h (k - 1)).held) := ⟨H6.out.1.below hd, H6.out.2.below hd⟩
            obtain ⟨gh, y, rfl, hy, ey, hLy, mly⟩ := H6d.out.2.get i _ (Lr_get h (k - 1) i (by rw [HM.out]; exact hlt2))
            obtain ⟨J, hJ⟩ : ∃ J, i + 1 = J := ⟨_, rfl⟩
            have hJz : (i : Int) + 1 = (J : Int) := by omega
            have hJ8 : (J : Int) < 8 := by omega
            have hJ0 : (0 : Int) ≤ (J : Int) := by omega
            have hJw : IntKind.i64.wrap (J : Int) = (J : Int) := IntWalk.i64_in _ (by omega)
            obtain ⟨z, hz, ez, hLz, mlz⟩ := H6d.out.1.get (i + 1) (by omega)
            rw [hJ] at mlz
            have HJ : Hid (i + 1 = J) := hJ
            have hsm := same_msg (ey.trans ez.symm) (by rw [ey]; exact brkN_mk _ (by omega)) hLy hLz (by rw [ey]; exact Nat.zero_le _) (by rw [ey]; show 1 ≤ 1000000000; omega)
            obtain ⟨Y, hY⟩ : ∃ Y, y.arr = Y := ⟨_, rfl⟩
            obtain ⟨Z, hZ⟩ : ∃ Z, z.arr = Z := ⟨_, rfl⟩
            rw [hY] at mly hsm
            rw [hZ] at mlz hsm
            have HSm : Hid (Calls Try.prog 14 #[.agg Y, .agg Z] wr.drew fun e w' => e = .returned (.bool true) ∧ Below wr.drew.heap.size wr.drew w') := hsm
            have HKp : Hid (∀ V, Below wr.drew.heap.size wr.drew V → (msgLd (.pointer (some ⟨gh, i * 16, none⟩))).run Try.prog V = .ok (.agg Y) V ∧ (msgLd (.pointer (some ⟨g, J * 16, none⟩))).run Try.prog V = .ok (.agg Z) V) := fun V hb => by
              obtain ⟨g2, y2, e2, hy2, -, -, m2⟩ := (H6d.out.2.below hb).get i _ (Lr_get h (k - 1) i (by rw [HM.out]; exact hlt2))
              obtain ⟨z2, hz2, -, -, n2⟩ := (H6d.out.1.below hb).get (i + 1) (by omega)
              cases e2
              obtain rfl : y2 = y := by rw [hy2] at hy; exact Option.some.inj hy
              obtain rfl : z2 = z := by rw [hz2] at hz; exact Option.some.inj hz
              rw [hY] at m2
              rw [hZ, hJ] at n2
              exact ⟨m2, n2⟩
            have kS := And.intro mly mlz
            clear hy hz hsm hY hZ ey ez hLy hLz hJ mly mlz
            go_upto_region 21 with fail
            go_region_held3 (fun V => (msgLd (.pointer (some ⟨gh, i * 16, none⟩))).run Try.prog V = .ok (.agg Y) V ∧ (msgLd (.pointer (some ⟨g, J * 16, none⟩))).run Try.prog V = .ok (.agg Z) V)
              (with_reducible first | exact kS | exact kT)
              (first | (go_at_call 14; refine HSm.out.mono ?_; rintro q w7 ⟨rfl, hb0⟩; have hb7 := undrew hb0; have kT := HKp.out w7 hb0))
            clear kS kT
            go_wp2
            exact ⟨⟨J, by have := HJ.out; omega, rfl, H6.out.1.below hb7, H6.out.2.below hb7⟩, by have := HJ.out; simp [intOf]; omega⟩
          · obtain rfl : m = i := by omega
            have hlz2 : ¬ (m : Int) < (m : Int) := by omega
            have R6 : Hid (Rm w wr t g c (rS h (k - 1)) F ms) := H6.out.1
            obtain ⟨N, hN⟩ : ∃ N, 1 + m = N := ⟨_, rfl⟩
            have HNm : Hid (1 + m = N) := hN
            have hNz : 1 + (m : Int) = (N : Int) := by omega
            have hNk : N ≤ k := by omega
            have hNw : IntKind.i64.wrap (N : Int) = (N : Int) := IntWalk.i64_in _ (by omega)
            obtain ⟨Z0, hZ0⟩ := R6.out.pick 0 (by omega)
            have ml0 : (msgLd (.pointer (some ⟨g, 0, none⟩))).run Try.prog wr = .ok (.agg Z0) wr := (hZ0 wr _ R6.out).1
            have HC0 : Hid (Calls Try.prog 12 #[.pointer (some ⟨t, 0, none⟩), .agg Z0] wr fun e w' => TkRm w t g c (bS h N []) F ms e w') := (hZ0 wr _ R6.out).2 _ (by have := room_first h (k - 1) hh9 (by omega) (by omega); rw [HM.out, Nat.max_zero, hN] at this; exact this)
            have HMA : Hid (∀ (J : Nat) W, Calls Try.prog 22 #[.int .i64 1, .int .i64 J] W fun e w' => e = .returned (.complex .f64 (floatOfInt .f64 1) (floatOfInt .f64 J)) ∧ W = w') := fun J W => (mark_any 1 J W).mono fun e w' hh => ⟨hh.1, hh.2.symm⟩
            have HAw : Hid (∀ W, Calls Try.prog 18 #[] W fun e w' => e = .returned (.bool true) ∧ Below W.heap.size W w') := awake_p
            clear hZ0 hN H6
            go_wp2_with (first
              | (go_at_call 12; refine HC0.out.mono ?_; rintro q w8 ⟨v8, rfl, hr8⟩; have R8 : Hid (Rm w w8 t g c (bS h N []) F ms) := hr8; clear ml0 hr8)
              | (go_at_call 21; obtain ⟨x8, y8, f1, f2, hc8⟩ := R8.out.mark (by omega); refine hc8.mono ?_; clear hc8; rintro q w' ⟨rfl, rfl⟩)
              | (go_at_call 21; obtain ⟨x8, y8, f1, f2, hc8⟩ := (R8.out.below (Below.refl _ _).drew).mark (by omega); refine hc8.mono ?_; clear hc8; rintro q w' ⟨rfl, rfl⟩)
              | (go_at_call 22; refine (HMA.out N _).mono ?_; rintro q w' ⟨rfl, rfl⟩)
              | (go_at_call 16; refine (R8.out.helds 0 rfl).mono ?_; rintro q w9 ⟨a9, c9, l9, rfl, -, hr9⟩; have R9 : Hid (Rm w w9 t g c (bS h N []) F ms) := hr9; clear hr9)
              | (go_at_call 16; refine ((R8.out.below (Below.refl _ _).drew).helds 0 rfl).mono ?_; rintro q w9 ⟨a9, c9, l9, rfl, -, hr9⟩; have R9 : Hid (Rm w w9 t g c (bS h N []) F ms) := hr9; clear hr9))
            go_loopw [14] (fun s14 wr => ∃ i : Nat, i ≤ k ∧ s14 = .int .i64 i ∧ Hid (Rm w wr t g c (bS h (max N i) []) F ms)) (fun s14 _ => k - (intOf s14).toNat)
            case atStart => exact ⟨0, Nat.zero_le _, rfl, by rw [Nat.max_zero]; exact R9.out⟩
            case round =>
              obtain ⟨i, hik3, rfl, H10⟩ := hrel
              by_cases hlt3 : i < k
              · have hlz3 : (i : Int) < (k : Int) := by omega
                obtain ⟨Z, hZ⟩ := H10.out.pick i (by omega)
                have ml := (hZ wr _ H10.out).1
                have HC : Hid (Calls Try.prog 12 #[.pointer (some ⟨t, 0, none⟩), .agg Z] wr fun e w' => TkRm w t g c (bS h (max N (i + 1)) []) F ms e w') := (hZ wr _ H10.out).2 _ (room_again h N i (by omega))
                clear hZ
                go_wp2_with (first
                  | (go_at_call 12; refine HC.out.mono ?_; rintro q w11 ⟨v11, rfl, hr11⟩; have R11 : Hid (Rm w w11 t g c (bS h (max N (i + 1)) []) F ms) := hr11; clear ml hr11))
                exact ⟨⟨i + 1, by omega, by simp, R11.out⟩, by simp [intOf]; omega⟩
              · obtain rfl : k = i := by omega
                have hlz3 : ¬ (k : Int) < (k : Int) := by omega
                have R10 : Hid (Rm w wr t g c (bS h k []) F ms) := by have := H10.out; rw [Nat.max_eq_right hNk] at this; exact this
                clear H10
                go_wp2_with (first
                  | (go_at_call 21; obtain ⟨x8, y8, f1, f2, hc8⟩ := R10.out.mark (by omega); refine hc8.mono ?_; clear hc8; rintro q w' ⟨rfl, rfl⟩)
                  | (go_at_call 21; obtain ⟨x8, y8, f1, f2, hc8⟩ := (R10.out.below (Below.refl _ _).drew).mark (by omega); refine hc8.mono ?_; clear hc8; rintro q w' ⟨rfl, rfl⟩)
                  | (go_at_call 22; refine (HMA.out k _).mono ?_; rintro q w' ⟨rfl, rfl⟩)
                  | (go_at_call 18; refine (HAw.out _).mono ?_; rintro q w12 ⟨rfl, hb12⟩))
                go_ret
                first
                  | exact ⟨rfl, chainB R10.out.lt.bel hb12⟩
                  | exact ⟨rfl, chainB (R10.out.below (Below.refl _ _).drew).lt.bel hb12⟩
      · have hwe : (k : Int) - 1 = (m : Int) := by omega
        have hwl : ¬ (h : Int) < (m : Int) := by omega
        clear hm
        go_wp2_with (first
          | (go_at_call 16; refine (HH.out _ HR.out).mono ?_; rintro q w5 ⟨a5, c5, l5, rfl, hd5, hr5⟩; have R5 : Hid (Rm w w5 t g c (rS h (k - 1)) F ms ∧ Hd w5 a5 m c5 l5 (rS h (k - 1)).held) := ⟨hr5, hd5⟩; clear hd5 hr5))
        go_loopw [13] (fun s13 wr => ∃ i : Nat, i ≤ m ∧ s13 = .int .i64 i ∧ Hid (Rm w wr t g c (rS h (k - 1)) F ms ∧ Hd wr a5 m c5 l5 (rS h (k - 1)).held)) (fun s13 _ => m - (intOf s13).toNat)
        case atStart => exact ⟨0, Nat.zero_le _, rfl, R5.out⟩
        case round =>
          obtain ⟨i, him, rfl, H6⟩ := hrel
          by_cases hlt2 : i < m
          · have hlz2 : (i : Int) < (m : Int) := by omega
            have hd : Below wr.heap.size wr wr.drew := (Below.refl _ _).drew
            have H6d : Hid (Rm w wr.drew t g c (rS h (k - 1)) F ms ∧ Hd wr.drew a5 m c5 l5 (rS h (k - 1)).held) := ⟨H6.out.1.below hd, H6.out.2.below hd⟩
            obtain ⟨gh, y, rfl, hy, ey, hLy, mly⟩ := H6d.out.2.get i _ (Lr_get h (k - 1) i (by rw [HM.out]; exact hlt2))
            obtain ⟨J, hJ⟩ : ∃ J, i + 1 = J := ⟨_, rfl⟩
            have hJz : (i : Int) + 1 = (J : Int) := by omega
            have hJ8 : (J : Int) < 8 := by omega
            have hJ0 : (0 : Int) ≤ (J : Int) := by omega
            have hJw : IntKind.i64.wrap (J : Int) = (J : Int) := IntWalk.i64_in _ (by omega)
            obtain ⟨z, hz, ez, hLz, mlz⟩ := H6d.out.1.get (i + 1) (by omega)
            rw [hJ] at mlz
            have HJ : Hid (i + 1 = J) := hJ
            have hsm := same_msg (ey.trans ez.symm) (by rw [ey]; exact brkN_mk _ (by omega)) hLy hLz (by rw [ey]; exact Nat.zero_le _) (by rw [ey]; show 1 ≤ 1000000000; omega)
            obtain ⟨Y, hY⟩ : ∃ Y, y.arr = Y := ⟨_, rfl⟩
            obtain ⟨Z, hZ⟩ : ∃ Z, z.arr = Z := ⟨_, rfl⟩
            rw [hY] at mly hsm
            rw [hZ] at mlz hsm
            have HSm : Hid (Calls Try.prog 14 #[.agg Y, .agg Z] wr.drew fun e w' => e = .returned (.bool true) ∧ Below wr.drew.heap.size wr.drew w') := hsm
            have HKp : Hid (∀ V, Below wr.drew.heap.size wr.drew V → (msgLd (.pointer (some ⟨gh, i * 16, none⟩))).run Try.prog V = .ok (.agg Y) V ∧ (msgLd (.pointer (some ⟨g, J * 16, none⟩))).run Try.prog V = .ok (.agg Z) V) := fun V hb => by
              obtain ⟨g2, y2, e2, hy2, -, -, m2⟩ := (H6d.out.2.below hb).get i _ (Lr_get h (k - 1) i (by rw [HM.out]; exact hlt2))
              obtain ⟨z2, hz2, -, -, n2⟩ := (H6d.out.1.below hb).get (i + 1) (by omega)
              cases e2
              obtain rfl : y2 = y := by rw [hy2] at hy; exact Option.some.inj hy
              obtain rfl : z2 = z := by rw [hz2] at hz; exact Option.some.inj hz
              rw [hY] at m2
              rw [hZ, hJ] at n2
              exact ⟨m2, n2⟩
            have kS := And.intro mly mlz
            clear hy hz hsm hY hZ ey ez hLy hLz hJ mly mlz
            go_upto_region 21 with fail
            go_region_held3 (fun V => (msgLd (.pointer (some ⟨gh, i * 16, none⟩))).run Try.prog V = .ok (.agg Y) V ∧ (msgLd (.pointer (some ⟨g, J * 16, none⟩))).run Try.prog V = .ok (.agg Z) V)
              (with_reducible first | exact kS | exact kT)
              (first | (go_at_call 14; refine HSm.out.mono ?_; rintro q w7 ⟨rfl, hb0⟩; have hb7 := undrew hb0; have kT := HKp.out w7 hb0))
            clear kS kT
            go_wp2
            exact ⟨⟨J, by have := HJ.out; omega, rfl, H6.out.1.below hb7, H6.out.2.below hb7⟩, by have := HJ.out; simp [intOf]; omega⟩
          · obtain rfl : m = i := by omega
            have hlz2 : ¬ (m : Int) < (m : Int) := by omega
            have R6 : Hid (Rm w wr t g c (rS h (k - 1)) F ms) := H6.out.1
            obtain ⟨N, hN⟩ : ∃ N, 1 + m = N := ⟨_, rfl⟩
            have HNm : Hid (1 + m = N) := hN
            have hNz : 1 + (m : Int) = (N : Int) := by omega
            have hNk : N ≤ k := by omega
            have hNw : IntKind.i64.wrap (N : Int) = (N : Int) := IntWalk.i64_in _ (by omega)
            obtain ⟨Z0, hZ0⟩ := R6.out.pick 0 (by omega)
            have ml0 : (msgLd (.pointer (some ⟨g, 0, none⟩))).run Try.prog wr = .ok (.agg Z0) wr := (hZ0 wr _ R6.out).1
            have HC0 : Hid (Calls Try.prog 12 #[.pointer (some ⟨t, 0, none⟩), .agg Z0] wr fun e w' => TkRm w t g c (bS h N []) F ms e w') := (hZ0 wr _ R6.out).2 _ (by have := room_first h (k - 1) hh9 (by omega) (by omega); rw [HM.out, Nat.max_zero, hN] at this; exact this)
            have HMA : Hid (∀ (J : Nat) W, Calls Try.prog 22 #[.int .i64 1, .int .i64 J] W fun e w' => e = .returned (.complex .f64 (floatOfInt .f64 1) (floatOfInt .f64 J)) ∧ W = w') := fun J W => (mark_any 1 J W).mono fun e w' hh => ⟨hh.1, hh.2.symm⟩
            have HAw : Hid (∀ W, Calls Try.prog 18 #[] W fun e w' => e = .returned (.bool true) ∧ Below W.heap.size W w') := awake_p
            clear hZ0 hN H6
            go_wp2_with (first
              | (go_at_call 12; refine HC0.out.mono ?_; rintro q w8 ⟨v8, rfl, hr8⟩; have R8 : Hid (Rm w w8 t g c (bS h N []) F ms) := hr8; clear ml0 hr8)
              | (go_at_call 21; obtain ⟨x8, y8, f1, f2, hc8⟩ := R8.out.mark (by omega); refine hc8.mono ?_; clear hc8; rintro q w' ⟨rfl, rfl⟩)
              | (go_at_call 21; obtain ⟨x8, y8, f1, f2, hc8⟩ := (R8.out.below (Below.refl _ _).drew).mark (by omega); refine hc8.mono ?_; clear hc8; rintro q w' ⟨rfl, rfl⟩)
              | (go_at_call 22; refine (HMA.out N _).mono ?_; rintro q w' ⟨rfl, rfl⟩)
              | (go_at_call 16; refine (R8.out.helds 0 rfl).mono ?_; rintro q w9 ⟨a9, c9, l9, rfl, -, hr9⟩; have R9 : Hid (Rm w w9 t g c (bS h N []) F ms) := hr9; clear hr9)
              | (go_at_call 16; refine ((R8.out.below (Below.refl _ _).drew).helds 0 rfl).mono ?_; rintro q w9 ⟨a9, c9, l9, rfl, -, hr9⟩; have R9 : Hid (Rm w w9 t g c (bS h N []) F ms) := hr9; clear hr9))
            go_loopw [14] (fun s14 wr => ∃ i : Nat, i ≤ k ∧ s14 = .int .i64 i ∧ Hid (Rm w wr t g c (bS h (max N i) []) F ms)) (fun s14 _ => k - (intOf s14).toNat)
            case atStart => exact ⟨0, Nat.zero_le _, rfl, by rw [Nat.max_zero]; exact R9.out⟩
            case round =>
              obtain ⟨i, hik3, rfl, H10⟩ := hrel
              by_cases hlt3 : i < k
              · have hlz3 : (i : Int) < (k : Int) := by omega
                obtain ⟨Z, hZ⟩ := H10.out.pick i (by omega)
                have ml := (hZ wr _ H10.out).1
                have HC : Hid (Calls Try.prog 12 #[.pointer (some ⟨t, 0, none⟩), .agg Z] wr fun e w' => TkRm w t g c (bS h (max N (i + 1)) []) F ms e w') := (hZ wr _ H10.out).2 _ (room_again h N i (by omega))
                clear hZ
                go_wp2_with (first
                  | (go_at_call 12; refine HC.out.mono ?_; rintro q w11 ⟨v11, rfl, hr11⟩; have R11 : Hid (Rm w w11 t g c (bS h (max N (i + 1)) []) F ms) := hr11; clear ml hr11))
                exact ⟨⟨i + 1, by omega, by simp, R11.out⟩, by simp [intOf]; omega⟩
              · obtain rfl : k = i := by omega
                have hlz3 : ¬ (k : Int) < (k : Int) := by omega
                have R10 : Hid (Rm w wr t g c (bS h k []) F ms) := by have := H10.out; rw [Nat.max_eq_right hNk] at this; exact this
                clear H10
                go_wp2_with (first
                  | (go_at_call 21; obtain ⟨x8, y8, f1, f2, hc8⟩ := R10.out.mark (by omega); refine hc8.mono ?_; clear hc8; rintro q w' ⟨rfl, rfl⟩)
                  | (go_at_call 21; obtain ⟨x8, y8, f1, f2, hc8⟩ := (R10.out.below (Below.refl _ _).drew).mark (by omega); refine hc8.mono ?_; clear hc8; rintro q w' ⟨rfl, rfl⟩)
                  | (go_at_call 22; refine (HMA.out k _).mono ?_; rintro q w' ⟨rfl, rfl⟩)
                  | (go_at_call 18; refine (HAw.out _).mono ?_; rintro q w12 ⟨rfl, hb12⟩))
                go_ret
                first
                  | exact ⟨rfl, chainB R10.out.lt.bel hb12⟩
                  | exact ⟨rfl, chainB (R10.out.below (Below.refl _ _).drew).lt.bel hb12⟩
theorem walk_TideRoom (a b : Int) (_ : (Lit.int .i64 a).wf = true) (_ : (Lit.int .i64 b).wf = true) (w : World) : Calls Try.prog 5 #[.int .i64 a, .int .i64 b] w fun e w' => e = .returned (.bool true) ∧ Below w.heap.size w w' := room_walk a b w
end
end Go.Proofs.Ytmbngenpdgianab
