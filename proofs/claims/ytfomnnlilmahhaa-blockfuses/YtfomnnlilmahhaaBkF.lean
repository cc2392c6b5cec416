/- The walk of the law BlockFuses. -/
import Derived.Test.YtfomnnlilmahhaaBkX
import Derived.Deep.RegionWith
namespace Go.Proofs.Ytfomnnlilmahhaa
open Go.RowKit

/-- the same memory, whatever was drawn -/
def Same (w0 w : World) : Prop := w.heap = w0.heap ∧ w.os = w0.os ∧ w.tape = w0.tape ∧ w.output = w0.output
theorem Same.isD {w0 w : World} {b g : Nat} {s : Dsk} (hs : Same w0 w) (h : IsD w0 b g s) : IsD w b g s := ⟨by rw [hs.1]; exact h.head, by rw [hs.1]; exact h.body, h.each, h.apart, h.few⟩
theorem Same.ownB {w0 w : World} {base : Nat} {v : Value} {l : List Int} (hs : Same w0 w) (h : OwnB w0 base v l) : OwnB w base v l := h.moved fun k _ => by rw [hs.1]
theorem Same.only {S : Nat → Prop} {w0 w w' : World} (hs : Same w0 w) (h : Only S w w') : Only S w0 w' :=
  ⟨h.os.trans hs.2.1, h.tape.trans hs.2.2.1, h.output.trans hs.2.2.2, by rw [← hs.1]; exact h.size, fun k hk hn => (h.block k (by rw [hs.1]; exact hk) hn).trans (by rw [hs.1])⟩
theorem Same.below {w0 w w' : World} (hs : Same w0 w) (h : Below w.heap.size w w') : Below w0.heap.size w0 w' :=
  ⟨h.os.trans hs.2.1, h.tape.trans hs.2.2.1, h.output.trans hs.2.2.2, by rw [← hs.1]; exact h.size, fun k hk => (h.block k (by rw [hs.1]; exact hk)).trans (by rw [hs.1])⟩
theorem bytes_same (f : Int) (w0 w : World) (hs : Same w0 w) : Calls Try.prog 14 #[.int .i64 64, .int .i64 f] w fun e w' => ∃ v, e = .returned v ∧ OwnB w' w0.heap.size v (bl 64 f) ∧ Below w0.heap.size w0 w' := by
  refine (bytes_64 f w).mono ?_
  rintro e w' ⟨v, rfl, ho, hb⟩
  rw [hs.1] at ho
  exact ⟨v, rfl, ho, hs.below hb⟩
theorem write_same (b g : Nat) (s : Dsk) (i : Int) (v : Value) (l : List Int) (base : Nat) (w0 w : World) (hs : Same w0 w) (h : IsD w0 b g s) (hg : s.good) (hv : OwnB w0 base v l) (hb : b < base) (hl : l.length = 64) (E : Int) (T : Dsk) (hE : s.wrE i 64 = E) (hT : s.wr i l = T) :
    Calls Try.prog 13 #[.pointer (some ⟨b, 0, none⟩), .int .i64 i, v] w fun e w' => e = .returned (.int .i64 E) ∧ IsD w' b g T ∧ Only (fun x => x = b ∨ x = g) w0 w' := by
  have h := write_any b g s i v l base w (hs.isD h) hg (hs.ownB hv) hb
  rw [hl, hE, hT] at h
  refine h.mono ?_
  rintro e w' ⟨rfl, hD, hO⟩
  exact ⟨rfl, hD, hs.only hO⟩

/-- how a disk stands behind so many good writes under a fuse -/
structure Fz (f : Int) (N : Nat) (s : Dsk) (dn : Nat) (off : Bool) : Prop where
  wr : s.writes = dn
  on : s.on = !off
  le : (dn : Int) ≤ f
  yes : off = false → s.burns = true ∧ s.left = f - dn
  no : off = true → s.burns = false
  len : s.cs.length = N
theorem Fz.good {f : Int} {N : Nat} {s : Dsk} {dn : Nat} {off : Bool} (h : Fz f N s dn off) (hf : f ≤ 9223372036854775807) (hd : dn < 9223372036854775807) : s.good := by
  refine ⟨fun e => ?_, by rw [h.wr]; omega, by rw [h.wr]; omega⟩
  cases off
  · rw [(h.yes rfl).2]; have := h.le; omega
  · rw [h.no rfl] at e; cases e
theorem Fz.bad {f : Int} {N : Nat} {s : Dsk} {dn : Nat} {off : Bool} (h : Fz f N s dn off) (i : Int) (hi : ¬ (0 ≤ i ∧ i < N)) (l : List Int) : s.wrE i 64 = 20 ∧ s.wr i l = s := by
  have hh : s.has i = false := by unfold Dsk.has; rw [h.len]; simp; omega
  unfold Dsk.wrE Dsk.wr
  rw [hh]
  exact ⟨rfl, rfl⟩
theorem Fz.has {f : Int} {N : Nat} {s : Dsk} {dn : Nat} {off : Bool} (h : Fz f N s dn off) (i : Int) (hi : 0 ≤ i ∧ i < N) : s.has i = true := by unfold Dsk.has; rw [h.len]; simp; omega
theorem Fz.off {f : Int} {N : Nat} {s : Dsk} {dn : Nat} (h : Fz f N s dn true) (i : Int) (hi : 0 ≤ i ∧ i < N) (l : List Int) (hl : l.length = 64) : s.wrE i 64 = 21 ∧ s.wr i l = s := by
  have hd : s.dead := ⟨h.on, h.no rfl⟩
  unfold Dsk.wrE Dsk.wr
  rw [h.has i hi, if_pos rfl, if_pos rfl, if_pos rfl, if_pos hl, dead_spend hd, hd.1]
  exact ⟨rfl, rfl⟩
theorem Fz.last {f : Int} {N : Nat} {s : Dsk} {dn : Nat} (h : Fz f N s dn false) (i : Int) (hi : 0 ≤ i ∧ i < N) (l : List Int) (hl : l.length = 64) (hd : f ≤ dn) : s.wrE i 64 = 21 ∧ s.wr i l = s.cut ∧ Fz f N s.cut dn true := by
  have hs : s.spend = s.cut := by
    unfold Dsk.spend; rw [(h.yes rfl).1, if_pos rfl, if_pos (by rw [(h.yes rfl).2]; have := h.le; omega)]
  unfold Dsk.wrE Dsk.wr
  rw [h.has i hi, if_pos rfl, if_pos rfl, if_pos rfl, if_pos hl, hs]
  exact ⟨rfl, rfl, ⟨h.wr, rfl, h.le, (fun e => by cases e), fun _ => rfl, h.len⟩⟩
theorem Fz.more {f : Int} {N : Nat} {s : Dsk} {dn : Nat} (h : Fz f N s dn false) (i : Int) (hi : 0 ≤ i ∧ i < N) (l : List Int) (hl : l.length = 64) (hd : ¬ f ≤ dn) : s.wrE i 64 = 0 ∧ ∃ T, s.wr i l = T ∧ Fz f N T (dn + 1) false := by
  have hs : s.spend = { s with left := s.left - 1 } := by
    unfold Dsk.spend; rw [(h.yes rfl).1, if_pos rfl, if_neg (by rw [(h.yes rfl).2]; omega)]
  have ho : s.on = true := h.on
  unfold Dsk.wrE Dsk.wr
  rw [h.has i hi, if_pos rfl, if_pos rfl, if_pos rfl, if_pos hl, hs]
  refine ⟨if_pos ho, _, if_pos ho, ⟨?_, h.on, by omega, fun _ => ⟨(h.yes rfl).1, ?_⟩, (fun e => by cases e), ?_⟩⟩
  · show s.writes + 1 = _; rw [h.wr]; omega
  · show s.left - 1 = _; rw [(h.yes rfl).2]; omega
  · show (s.cs.set _ _).length = _; rw [List.length_set]; exact h.len
theorem Fz.wr_len {f : Int} {N : Nat} {s T : Dsk} {dn dm : Nat} {off od : Bool} (h : Fz f N s dn off) (h' : Fz f N T dm od) : T.cs.length = s.cs.length := h'.len.trans h.len.symm

set_option maxRecDepth 100000 in
set_option maxHeartbeats 8000000 in
theorem walk_BlockFuses (n : Int) (f : Int) (a : Option Addr) (len cap : Nat) (A : Nat → Int) (w : World) (_ : (Lit.int .i64 n).wf = true) (wf : (Lit.int .i64 f).wf = true) (row : RowI w a len A) (hlen : len * 8 ≤ 140737488351232) :
    Calls Try.prog 4 #[.int .i64 n, .int .i64 f, .slice a len cap] w fun e w' => e = .returned (.bool true) ∧ Below w.heap.size w w' := by
  have hf2 : f ≤ 9223372036854775807 := (bounds_i64 wf).2
  by_cases hn : 1 ≤ n ∧ n ≤ 1024
  · obtain ⟨N, rfl⟩ := Int.eq_ofNat_of_zero_le (show 0 ≤ n by omega)
    have h1 : 1 ≤ N := by omega
    have h2 : N ≤ 1024 := by omega
    have HR : Hid (RowI w a len A) := row
    clear hn row
    by_cases hf : f < 0
    · have HF : Hid ((Dsk.new N).fuseE f = 1 ∧ (Dsk.new N).fuse f = Dsk.new N) := by unfold Dsk.fuseE Dsk.fuse; rw [if_pos hf, if_pos hf]; exact ⟨rfl, rfl⟩
      have hd : decide (f < 0) = true := decide_eq_true hf
      go_enter Try.func4, Try.ntmps4
      go_wp2_with (first
        | (go_at_call 9; refine (new_yes N _ h1 h2).mono ?_; rintro e w1 ⟨b, g, rfl, hb, hg, hD, hB⟩; have hI := Inv.start hb hg hD hB; clear hb hg hD hB)
        | (go_at_call 19; refine (fuse_any b g _ f _ hI.d).mono ?_; rintro e w2 ⟨rfl, hD2, hO2⟩; rw [HF.out.1]; rw [HF.out.2] at hD2; have hI2 := hI.stepB hD2 hO2 rfl)
        | (go_at_call 27; refine (on_any b g _ _ hI2.d).mono ?_; rintro e w6 ⟨rfl, rfl⟩; rw [show (Dsk.new N).on = true from rfl])
        | (go_at_call 11; refine (awake_any _).mono ?_; rintro e w7 ⟨rfl, hb7⟩))
      go_ret
      exact ⟨rfl, chainB hI2.bel hb7⟩
    · have HF : Hid ((Dsk.new N).fuseE f = 0 ∧ (Dsk.new N).fuse f = { Dsk.new N with burns := true, left := f }) := by unfold Dsk.fuseE Dsk.fuse; rw [if_neg hf, if_neg hf]; exact ⟨rfl, rfl⟩
      have hZ : Fz f N { Dsk.new N with burns := true, left := f } 0 false := ⟨rfl, rfl, by omega, fun _ => ⟨rfl, by show f = f - _; omega⟩, (fun e => by cases e), new_len N⟩
      obtain ⟨S, hS⟩ : ∃ S, ({ Dsk.new N with burns := true, left := f } : Dsk) = S := ⟨_, rfl⟩
      rw [hS] at hZ HF
      have hSl : S.cs.length = (Dsk.new N).cs.length := by rw [← hS]
      have HL : Hid (S.cs.length = (Dsk.new N).cs.length) := hSl
      clear hS hSl
      go_enter Try.func4, Try.ntmps4
      go_wp2_with (first
        | (go_at_call 9; refine (new_yes N _ h1 h2).mono ?_; rintro e w1 ⟨b, g, rfl, hb, hg, hD, hB⟩; have hI := Inv.start hb hg hD hB; clear hb hg hD hB)
        | (go_at_call 19; refine (fuse_any b g _ f _ hI.d).mono ?_; rintro e w2 ⟨rfl, hD2, hO2⟩; rw [HF.out.1]; rw [HF.out.2] at hD2; have hI2 := hI.stepB hD2 hO2 HL.out))
      obtain ⟨base, hbase⟩ : ∃ base, w1.heap.size = base := ⟨_, rfl⟩
      rw [hbase] at hI2
      clear hI hD2 hO2 hbase
      go_loopw [9, 10, 11] (fun d o i wr => ∃ k : Nat, k ≤ len ∧ i = .int .i64 k ∧ ∃ s dn off, d = .int .i64 (dn : Nat) ∧ o = .bool off ∧ dn ≤ k ∧ Inv w base b g N wr s ∧ Fz f N s dn off) (fun _ _ i _ => len - (intOf i).toNat)
      case atStart => exact ⟨0, Nat.zero_le _, rfl, S, 0, false, rfl, rfl, Nat.le_refl _, hI2, hZ⟩
      case round =>
        clear hI2 hZ
        obtain ⟨k, hk, rfl, s, dn, off, rfl, rfl, hdk, hI, hZ⟩ := hrel
        by_cases hlt : k < len
        · obtain ⟨ab, off', rfl, hs, hc⟩ : ∃ ab off', a = some ⟨ab, off', none⟩ ∧ ab < w.heap.size ∧ w.cell? ⟨ab, off' + k, none⟩ = some (.int .i64 (A k)) := by
            rcases HR.out with h0 | ⟨ab, off', e, hs, hc⟩
            · omega
            · exact ⟨ab, off', e, hs, (hc k hlt).1⟩
          have d1 := (hI.bel.cell (p := ⟨ab, off' + k, none⟩) hs).trans hc
          have hsr : ab < wr.heap.size := Nat.lt_of_lt_of_le hs hI.bel.size
          have hki : (k : Int) < (len : Int) := by omega
          have hgood := hZ.good hf2 (by omega)
          clear hc hs
          obtain ⟨X, hX⟩ : ∃ X, A k = X := ⟨_, rfl⟩
          rw [hX] at d1
          clear hX
          have HB : Hid (∀ w', Same wr w' → Calls Try.prog 14 #[.int .i64 64, .int .i64 k] w' fun e w' => ∃ v, e = .returned v ∧ OwnB w' wr.heap.size v (bl 64 k) ∧ Below wr.heap.size wr w') := fun w' hs => bytes_same k wr w' hs
          by_cases g0 : 0 ≤ X
          · have b0 : decide (0 ≤ X) = true := decide_eq_true g0
            by_cases g1 : X < N
            · have b1 : decide (X < (N : Int)) = true := decide_eq_true g1
              cases off
              · by_cases g2 : f ≤ dn
                · have b2 : decide (f ≤ (dn : Int)) = true := decide_eq_true g2
                  obtain ⟨hE, hT, hZ'⟩ := hZ.last X ⟨g0, g1⟩ (bl 64 k) (bl_len _ _) g2
                  obtain ⟨T, hTT⟩ : ∃ T, s.cut = T := ⟨_, rfl⟩
                  rw [hTT] at hT hZ'
                  clear hTT
                  have HW : Hid (∀ v w0 w', IsD w0 b g s → OwnB w0 wr.heap.size v (bl 64 k) → Same w0 w' → Calls Try.prog 13 #[.pointer (some ⟨b, 0, none⟩), .int .i64 X, v] w' fun e w' => e = .returned (.int .i64 21) ∧ IsD w' b g T ∧ Only (fun x => x = b ∨ x = g) w0 w') := fun v w0 w' h hv hs => write_same b g s X v (bl 64 k) wr.heap.size w0 w' hs h hgood hv hI.d.lb (bl_len _ _) 21 T hE hT
                  have HZ : Hid (Fz f N T dn true) := hZ'
                  have HT : Hid (T.writes = (dn : Int)) := by have := hZ'.wr; exact this
                  have HO : Hid (T.on = !true) := hZ'.on
                  have HLn : Hid (T.cs.length = s.cs.length) := hZ.wr_len hZ'
                  clear hE hT hZ hZ' hgood
                  go_wp2
                  go_region_with (first
                    | (go_at_call 14; refine (HB.out _ (by exact ⟨rfl, rfl, rfl, rfl⟩)).mono ?_; rintro e w5 ⟨v5, rfl, ho5, hb5⟩; have hI5 := hI.below hb5; have d5 := (hb5.cell (p := ⟨ab, off' + k, none⟩) hsr).trans d1)
                    | (go_at_call 13; refine (HW.out v5 w5 _ hI5.d ho5 (by exact ⟨rfl, rfl, rfl, rfl⟩)).mono ?_; rintro e w6 ⟨rfl, hD6, hO6⟩; have hI6 := hI5.step hD6 hO6 HLn.out))
                  all_goals
                    go_wp2_with (first
                      | (go_at_call 27; refine (on_any b g T _ hI6.d).mono ?_; rintro e w8 ⟨rfl, rfl⟩; rw [HO.out])
                      | (go_at_call 28; refine (writes_any b g T _ hI6.d).mono ?_; rintro e w7 ⟨rfl, rfl⟩; rw [HT.out]))
                    go_roundw
                    case rel => exact ⟨k + 1, by omega, by go_num, T, dn, true, rfl, rfl, by omega, hI6, HZ.out⟩
                    case measure => simp [intOf]; omega
                · have b2 : decide (f ≤ (dn : Int)) = false := decide_eq_false g2
                  obtain ⟨hE, T, hT, hZ'⟩ := hZ.more X ⟨g0, g1⟩ (bl 64 k) (bl_len _ _) g2
                  have HW : Hid (∀ v w0 w', IsD w0 b g s → OwnB w0 wr.heap.size v (bl 64 k) → Same w0 w' → Calls Try.prog 13 #[.pointer (some ⟨b, 0, none⟩), .int .i64 X, v] w' fun e w' => e = .returned (.int .i64 0) ∧ IsD w' b g T ∧ Only (fun x => x = b ∨ x = g) w0 w') := fun v w0 w' h hv hs => write_same b g s X v (bl 64 k) wr.heap.size w0 w' hs h hgood hv hI.d.lb (bl_len _ _) 0 T hE hT
                  have HZ : Hid (Fz f N T (dn + 1) false) := hZ'
                  have HT : Hid (T.writes = (dn : Int) + 1) := by show T.writes = _; have := hZ'.wr; omega
                  have HO : Hid (T.on = !false) := hZ'.on
                  have HLn : Hid (T.cs.length = s.cs.length) := hZ.wr_len hZ'
                  clear hE hT hZ hZ' hgood
                  go_wp2
                  go_region_with (first
                    | (go_at_call 14; refine (HB.out _ (by exact ⟨rfl, rfl, rfl, rfl⟩)).mono ?_; rintro e w5 ⟨v5, rfl, ho5, hb5⟩; have hI5 := hI.below hb5; have d5 := (hb5.cell (p := ⟨ab, off' + k, none⟩) hsr).trans d1)
                    | (go_at_call 13; refine (HW.out v5 w5 _ hI5.d ho5 (by exact ⟨rfl, rfl, rfl, rfl⟩)).mono ?_; rintro e w6 ⟨rfl, hD6, hO6⟩; have hI6 := hI5.step hD6 hO6 HLn.out))
                  all_goals
                    go_wp2_with (first
                      | (go_at_call 27; refine (on_any b g T _ hI6.d).mono ?_; rintro e w8 ⟨rfl, rfl⟩; rw [HO.out])
                      | (go_at_call 28; refine (writes_any b g T _ hI6.d).mono ?_; rintro e w7 ⟨rfl, rfl⟩; rw [HT.out]))
                    go_roundw
                    case rel => exact ⟨k + 1, by omega, by go_num, T, (dn + 1), false, by go_num, rfl, by omega, hI6, HZ.out⟩
                    case measure => simp [intOf]; omega
              · obtain ⟨hE, hT⟩ := hZ.off X ⟨g0, g1⟩ (bl 64 k) (bl_len _ _)
                have hZ' := hZ
                obtain ⟨T, hTT⟩ : ∃ T, s = T := ⟨_, rfl⟩
                have hT : s.wr X (bl 64 k) = T := hT.trans hTT
                rw [hTT] at hZ'
                clear hTT
                have HW : Hid (∀ v w0 w', IsD w0 b g s → OwnB w0 wr.heap.size v (bl 64 k) → Same w0 w' → Calls Try.prog 13 #[.pointer (some ⟨b, 0, none⟩), .int .i64 X, v] w' fun e w' => e = .returned (.int .i64 21) ∧ IsD w' b g T ∧ Only (fun x => x = b ∨ x = g) w0 w') := fun v w0 w' h hv hs => write_same b g s X v (bl 64 k) wr.heap.size w0 w' hs h hgood hv hI.d.lb (bl_len _ _) 21 T hE hT
                have HZ : Hid (Fz f N T dn true) := hZ'
                have HT : Hid (T.writes = (dn : Int)) := by have := hZ'.wr; exact this
                have HO : Hid (T.on = !true) := hZ'.on
                have HLn : Hid (T.cs.length = s.cs.length) := hZ.wr_len hZ'
                clear hE hT hZ hZ' hgood
                go_wp2
                go_region_with (first
                  | (go_at_call 14; refine (HB.out _ (by exact ⟨rfl, rfl, rfl, rfl⟩)).mono ?_; rintro e w5 ⟨v5, rfl, ho5, hb5⟩; have hI5 := hI.below hb5; have d5 := (hb5.cell (p := ⟨ab, off' + k, none⟩) hsr).trans d1)
                  | (go_at_call 13; refine (HW.out v5 w5 _ hI5.d ho5 (by exact ⟨rfl, rfl, rfl, rfl⟩)).mono ?_; rintro e w6 ⟨rfl, hD6, hO6⟩; have hI6 := hI5.step hD6 hO6 HLn.out))
                all_goals
                  go_wp2_with (first
                    | (go_at_call 27; refine (on_any b g T _ hI6.d).mono ?_; rintro e w8 ⟨rfl, rfl⟩; rw [HO.out])
                    | (go_at_call 28; refine (writes_any b g T _ hI6.d).mono ?_; rintro e w7 ⟨rfl, rfl⟩; rw [HT.out]))
                  go_roundw
                  case rel => exact ⟨k + 1, by omega, by go_num, T, dn, true, rfl, rfl, by omega, hI6, HZ.out⟩
                  case measure => simp [intOf]; omega
            · have b1 : decide (X < (N : Int)) = false := decide_eq_false g1
              obtain ⟨hE, hT⟩ := hZ.bad X (by omega) (bl 64 k)
              have hZ' := hZ
              obtain ⟨T, hTT⟩ : ∃ T, s = T := ⟨_, rfl⟩
              have hT : s.wr X (bl 64 k) = T := hT.trans hTT
              rw [hTT] at hZ'
              clear hTT
              have HW : Hid (∀ v w0 w', IsD w0 b g s → OwnB w0 wr.heap.size v (bl 64 k) → Same w0 w' → Calls Try.prog 13 #[.pointer (some ⟨b, 0, none⟩), .int .i64 X, v] w' fun e w' => e = .returned (.int .i64 20) ∧ IsD w' b g T ∧ Only (fun x => x = b ∨ x = g) w0 w') := fun v w0 w' h hv hs => write_same b g s X v (bl 64 k) wr.heap.size w0 w' hs h hgood hv hI.d.lb (bl_len _ _) 20 T hE hT
              have HZ : Hid (Fz f N T dn off) := hZ'
              have HT : Hid (T.writes = (dn : Int)) := by have := hZ'.wr; exact this
              have HO : Hid (T.on = !off) := hZ'.on
              have HLn : Hid (T.cs.length = s.cs.length) := hZ.wr_len hZ'
              clear hE hT hZ hZ' hgood
              go_wp2
              go_region_with (first
                | (go_at_call 14; refine (HB.out _ (by exact ⟨rfl, rfl, rfl, rfl⟩)).mono ?_; rintro e w5 ⟨v5, rfl, ho5, hb5⟩; have hI5 := hI.below hb5; have d5 := (hb5.cell (p := ⟨ab, off' + k, none⟩) hsr).trans d1)
                | (go_at_call 13; refine (HW.out v5 w5 _ hI5.d ho5 (by exact ⟨rfl, rfl, rfl, rfl⟩)).mono ?_; rintro e w6 ⟨rfl, hD6, hO6⟩; have hI6 := hI5.step hD6 hO6 HLn.out))
              all_goals
                go_wp2_with (first
                  | (go_at_call 27; refine (on_any b g T _ hI6.d).mono ?_; rintro e w8 ⟨rfl, rfl⟩; rw [HO.out])
                  | (go_at_call 28; refine (writes_any b g T _ hI6.d).mono ?_; rintro e w7 ⟨rfl, rfl⟩; rw [HT.out]))
                go_roundw
                case rel => exact ⟨k + 1, by omega, by go_num, T, dn, off, rfl, rfl, by omega, hI6, HZ.out⟩
                case measure => simp [intOf]; omega
          · have b0 : decide (0 ≤ X) = false := decide_eq_false g0
            obtain ⟨hE, hT⟩ := hZ.bad X (by omega) (bl 64 k)
            have hZ' := hZ
            obtain ⟨T, hTT⟩ : ∃ T, s = T := ⟨_, rfl⟩
            have hT : s.wr X (bl 64 k) = T := hT.trans hTT
            rw [hTT] at hZ'
            clear hTT
            have HW : Hid (∀ v w0 w', IsD w0 b g s → OwnB w0 wr.heap.size v (bl 64 k) → Same w0 w' → Calls Try.prog 13 #[.pointer (some ⟨b, 0, none⟩), .int .i64 X, v] w' fun e w' => e = .returned (.int .i64 20) ∧ IsD w' b g T ∧ Only (fun x => x = b ∨ x = g) w0 w') := fun v w0 w' h hv hs => write_same b g s X v (bl 64 k) wr.heap.size w0 w' hs h hgood hv hI.d.lb (bl_len _ _) 20 T hE hT
            have HZ : Hid (Fz f N T dn off) := hZ'
            have HT : Hid (T.writes = (dn : Int)) := by have := hZ'.wr; exact this
            have HO : Hid (T.on = !off) := hZ'.on
            have HLn : Hid (T.cs.length = s.cs.length) := hZ.wr_len hZ'
            clear hE hT hZ hZ' hgood
            go_wp2
            go_region_with (first
              | (go_at_call 14; refine (HB.out _ (by exact ⟨rfl, rfl, rfl, rfl⟩)).mono ?_; rintro e w5 ⟨v5, rfl, ho5, hb5⟩; have hI5 := hI.below hb5; have d5 := (hb5.cell (p := ⟨ab, off' + k, none⟩) hsr).trans d1)
              | (go_at_call 13; refine (HW.out v5 w5 _ hI5.d ho5 (by exact ⟨rfl, rfl, rfl, rfl⟩)).mono ?_; rintro e w6 ⟨rfl, hD6, hO6⟩; have hI6 := hI5.step hD6 hO6 HLn.out))
            all_goals
              go_wp2_with (first
                | (go_at_call 27; refine (on_any b g T _ hI6.d).mono ?_; rintro e w8 ⟨rfl, rfl⟩; rw [HO.out])
                | (go_at_call 28; refine (writes_any b g T _ hI6.d).mono ?_; rintro e w7 ⟨rfl, rfl⟩; rw [HT.out]))
              go_roundw
              case rel => exact ⟨k + 1, by omega, by go_num, T, dn, off, rfl, rfl, by omega, hI6, HZ.out⟩
              case measure => simp [intOf]; omega
        · have hkl : (len : Int) ≤ k := by omega
          have hW : ∀ v base' w0, IsD w0 b g s.power → OwnB w0 base' v (bl 64 1) → b < base' → Calls Try.prog 13 #[.pointer (some ⟨b, 0, none⟩), .int .i64 0, v] w0 fun e w' => e = .returned (.int .i64 0) ∧ IsD w' b g { s.power with cs := s.power.cs.set 0 (bl 64 1), writes := dn + 1 } ∧ Only (fun x => x = b ∨ x = g) w0 w' := by
            intro v base' w0 hD hv hb
            have := write_plain b g s.power 0 v (bl 64 1) base' w0 hD ⟨rfl, rfl⟩ (by show 0 ≤ s.writes; rw [hZ.wr]; omega) (by show s.writes < _; rw [hZ.wr]; omega) (by show 0 < s.cs.length; rw [hZ.len]; omega) (bl_len _ _) hv hb
            rw [show s.power.writes = dn from hZ.wr] at this
            exact this
          have HW : Hid _ := hW
          clear hW hlt
          go_wp2_with (first
            | (go_at_call 23; refine (power_any b g s _ hI.d).mono ?_; rintro e w9 ⟨rfl, hD9, hO9⟩; have hI9 := hI.stepB hD9 hO9 rfl)
            | (go_at_call 27; refine (on_any b g _ _ hI9.d).mono ?_; rintro e w8 ⟨rfl, rfl⟩; rw [show s.power.on = true from rfl])
            | (go_at_call 14; refine (bytes_64 1 _).mono ?_; rintro e w10 ⟨v10, rfl, ho10, hb10⟩)
            | (go_at_call 13; refine (HW.out v10 _ _ (hI9.below hb10).d ho10 (by have := hI9.d.lb; omega)).mono ?_; rintro e w11 ⟨rfl, hD11, hO11⟩; have hI11 := (hI9.below hb10).step hD11 hO11 (List.length_set ..))
            | (go_at_call 28; refine (writes_any b g _ _ hI11.d).mono ?_; rintro e w12 ⟨rfl, rfl⟩)
            | (go_at_call 11; refine (awake_any _).mono ?_; rintro e w13 ⟨rfl, hb13⟩))
          go_ret
          exact ⟨rfl, chainB hI11.bel hb13⟩
  · go_enter Try.func4, Try.ntmps4
    by_cases hs : n < 1
    · have hd : decide (n < 1) = true := decide_eq_true hs
      go_wp2_with (first
        | (go_at_call 9; refine (new_no n _ (by omega)).mono ?_; rintro e w1 ⟨rfl, rfl⟩)
        | (go_at_call 11; refine (awake_any _).mono ?_; rintro e w2 ⟨rfl, hb2⟩))
      go_ret
      exact ⟨rfl, hb2⟩
    · have hd : decide (n < 1) = false := decide_eq_false hs
      have hd2 : decide (1024 < n) = true := decide_eq_true (by omega)
      go_wp2_with (first
        | (go_at_call 9; refine (new_no n _ (by omega)).mono ?_; rintro e w1 ⟨rfl, rfl⟩)
        | (go_at_call 11; refine (awake_any _).mono ?_; rintro e w2 ⟨rfl, hb2⟩))
      go_ret
      exact ⟨rfl, hb2⟩
end Go.Proofs.Ytfomnnlilmahhaa
