/- The walk of the law MarkTurned: it returns true. -/
import Derived.Test.YtiecakeeekeidabTurn
namespace Go.Proofs.Ytiecakeeekeidab
open Go.RowKit

theorem CL_rev (F G : Nat → Nat) (n j : Nat) (h : j < n) : CL (rev F n) (rev G n) (n - j) = CL (rev F n) (rev G n) (n - (j + 1)) ++ [.complex .f64 (F j) (G j)] := by
  have e : n - j = n - (j + 1) + 1 := by omega
  have e2 : n - 1 - (n - (j + 1)) = j := by omega
  rw [e, CL_succ]
  unfold rev
  rw [e2]

theorem last_f (a : Option Addr) (n cap : Nat) (F G : Nat → Nat) (w : World) (o : Option (Int × Int)) (f : Bool) (hrow : RowC w a n F G) (hlen : n * 16 ≤ 140737488355328) (hl : lastF F G n = o) (hf : o.isSome = f) :
    Calls Try.prog 18 #[.slice a n cap] w fun e w' => e = .returned (.tuple #[.complex .f64 (lastRe o) (lastIm o), .bool f]) ∧ w' = w := by
  subst hf; exact last_e a n cap F G w o hrow hlen hl

set_option maxRecDepth 100000 in
set_option maxHeartbeats 4000000 in
theorem walk_MarkTurned (a : Option Addr) (len cap : Nat) (A B : Nat → Int) (w : World) (hrow : RowP w a len A B) (hlen : len * 16 ≤ 140737488351232) :
    Calls Try.prog 5 #[.slice a len cap] w fun e w' => e = .returned (.bool true) ∧ Below w.heap.size w w' := by
  obtain ⟨i0, hi, hz0, hz1, hz2⟩ := info_parts Try.infoC
  obtain ⟨F, hF⟩ : ∃ F, (fun i => qt (A i)) = F := ⟨_, rfl⟩
  obtain ⟨G, hG⟩ : ∃ G, (fun i => qt (B i)) = G := ⟨_, rfl⟩
  have HF : Hid ((fun i => qt (A i)) = F) := hF
  have HG : Hid ((fun i => qt (B i)) = G) := hG
  clear hF hG
  go_enter Try.func5, Try.ntmps5
  go_wp2_with (go_at_call 17; refine (nums_any _ _ _ A B _ hrow hlen).mono ?_; rintro e w1 ⟨v, rfl, hown, hb⟩; rw [HF.out, HG.out] at hown; obtain ⟨a1, cap1, rfl, hrc⟩ := RowC.of_owns hown)
  have hr1 := RowP.below hrow hb
  clear hown hrow
  go_loopw [4, 5] (fun v i wr => ∃ j : Nat, j ≤ len ∧ i = .int .i64 ((j : Int) - 1) ∧ wr.ownsRow w1.heap.size 24 1 v (len - j) (CL (rev F len) (rev G len) (len - j)) ∧ Below w1.heap.size w1 wr) (fun _ i _ => (intOf i + 1).toNat)
  case atStart => exact ⟨len, Nat.le_refl _, rfl, by rw [Nat.sub_self]; exact World.ownsRow_nil _ _ _ _, Below.refl _ _⟩
  case round =>
    obtain ⟨j, hj, rfl, hown, hbr⟩ := hrel
    cases j with
    | succ j =>
      rcases hrc with h0 | ⟨b, off, rfl, hbs, hc⟩
      · omega
      have ej : (((j + 1 : Nat) : Int) - 1) = (j : Int) := by omega
      rw [ej]
      have hj2 : (j : Int) < (len : Int) := by omega
      have d1 : wr.cell? ⟨b, off + j, none⟩ = some (.complex .f64 (F j) (G j)) := (hbr.cell (by exact hbs)).trans (hc j (by omega))
      clear hc hr1
      go_wp2_with (at_builtin; refine wpList_append_own _ rfl _ _ 37 rfl _ 24 i0 (.complex .f64 0 0) 1 16 Try.underlying37 hi hz0 hz1 hz2 rfl (by decide) _ _ _ rfl (hown.alloc _) ⟨_, 0, none⟩ 1 1 [.complex .f64 (F j) (G j)] rfl rfl (one_news _ _ _) (one_cell _ _) (by unfold maxLen; omega) (by omega) (by have := hbr.size; simp; omega) ?_; intro v' w2 hown' hgrow _)
      have hb2 : Below w1.heap.size w1 w2 := Below.grown (hbr.alloc hbr.size _) hgrow (by have := hbr.size; simp; omega) (fun q hq => (hown.lt q hq).1)
      have hown2 : w2.ownsRow w1.heap.size 24 1 v' (len - j) (CL (rev F len) (rev G len) (len - j)) := by
        rw [CL_rev F G len j (by omega), show len - j = len - (j + 1) + 1 by omega]; exact hown'
      clear hown' hgrow hown d1 hbr
      go_wp2
      go_roundw
      case rel => exact ⟨j, by omega, rfl, hown2, hb2⟩
      case measure => simp [intOf]
    | zero =>
      rw [Nat.sub_zero] at hown
      obtain ⟨a2, cap2, rfl, hrc2⟩ := RowC.of_owns hown
      have hra := RowC.below hrc hbr
      have hB2 := chain hb hbr
      have hl2 : len * 16 ≤ 140737488355328 := by omega
      obtain ⟨o, eo⟩ : ∃ o, lastF F G len = o := ⟨_, rfl⟩
      obtain ⟨E, eE⟩ : ∃ E, boxE (boxF F G len) = E := ⟨_, rfl⟩
      obtain ⟨N, eN⟩ : ∃ N, boxN (boxF F G len) = N := ⟨_, rfl⟩
      have eo2 := (last_same (rev_cover F G len) (cover_rev F G len)).trans eo
      have eE2 := (box_same (rev_cover F G len) (cover_rev F G len)).1.trans eE
      have eN2 := (box_same (rev_cover F G len) (cover_rev F G len)).2.trans eN
      have hgo := last_good F G len
      rw [eo] at hgo
      obtain ⟨⟨u1, v1⟩, ⟨u2, v2⟩⟩ := last_val F G len
      rw [eo] at v1 v2
      have o1 := order_self v1
      have o2 := order_self v2
      have hOE : ∀ x y, ValIs x E → ValIs y E → FloatKind.f64.format.order x y = some .eq := fun x y => val_order x y E
      have hON : ∀ x y, ValIs x N → ValIs y N → FloatKind.f64.format.order x y = some .eq := fun x y => val_order x y N
      clear hrc hown hbr hb hr1 v1 v2
      obtain ⟨f, ef⟩ : ∃ f, o.isSome = f := ⟨_, rfl⟩
      have EF : Hid (o.isSome = f) := ef
      clear ef
      cases f
      all_goals
        go_wp2_with (first
          | (go_at_call 18; refine (last_f _ _ _ _ _ _ o _ (by assumption) hl2 (by assumption) EF.out).mono ?_; rintro e w' ⟨rfl, rfl⟩)
          | (go_at_call_of 19 (Value.slice a1 len cap1); refine (span_e _ _ _ _ _ _ E N (by assumption) hl2 (by assumption) (by assumption)).mono ?_; rintro e w' ⟨sx, sy, rfl, vsx, vsy, rfl⟩)
          | (go_at_call_of 19 (Value.slice a2 len cap2); refine (span_e _ _ _ _ _ _ E N (by assumption) hl2 (by assumption) (by assumption)).mono ?_; rintro e w' ⟨sx', sy', rfl, vsx', vsy', rfl⟩))
        clear hrc2 vsx' vsy'
        go_loop [11] (fun r => ∃ k : Nat, k ≤ len ∧ r = .int .i64 k) (fun r => len - (intOf r).toNat)
        case atStart => exact ⟨0, Nat.zero_le _, rfl⟩
        case round =>
          obtain ⟨k, hk, rfl⟩ := hrel
          by_cases hlt : k < len
          · have hlt2 : (k : Int) < (len : Int) := by omega
            rcases hra with h0 | ⟨b, off, rfl, hbs, hc⟩
            · omega
            have d1 := hc k hlt
            clear hc
            cases hg : goodB (F k) (G k)
            · go_wp2_with (go_at_call 9; refine (good_any _ _ _).mono ?_; rintro e w' ⟨rfl, rfl⟩)
              go_round
              case rel => exact ⟨k + 1, by omega, by go_num⟩
              case measure => simp [intOf]; omega
            · obtain ⟨t1, t2, dx, dy, hs, t3, t4, t5, t6⟩ := turn_round F G len k hlt hg sx sy (by rw [eE]; exact vsx) (by rw [eN]; exact vsy)
              rw [eo] at t1 t2 hs
              rw [EF.out] at t1
              cases t1
              all_goals
                have hS := fun w => run_complex_sum (P := Try.prog) w .sub (.inr rfl) 24 .f64 _ _ _ _ dx dy hs
                have hU : Op.unary .neg (.float .f64 dy) = pure (.float .f64 (Op.negFloat .f64 dy)) := rfl
                obtain ⟨ny, hny⟩ : ∃ ny, Op.negFloat .f64 dy = ny := ⟨_, rfl⟩
                rw [hny] at t6 hU
                clear hs hny hOE hON vsx vsy
                go_wp2_with (first
                  | (go_at_call 9; refine (good_any _ _ _).mono ?_; rintro e w' ⟨rfl, rfl⟩)
                  | (go_at_call 10; refine (later_any _ _ _ _ _).mono ?_; rintro e w' ⟨rfl, rfl⟩))
                go_round
                case rel => exact ⟨k + 1, by omega, by go_num⟩
                case measure => simp [intOf]; omega
          · have hkl : k = len := by omega
            obtain ⟨z1, z2⟩ := twice (lastRe o) (lastIm o) hgo
            have hO0 : ∀ x, ValIs x 0 → FloatKind.f64.format.order x 0 = some .eq := fun x hx => val_order x 0 0 hx val_zeroU
            clear hra hOE hON vsx vsy
            go_wp2_with (first
              | (go_at_call 17; refine (nums_any _ _ _ A B _ (.inl rfl) (by omega)).mono ?_; rintro e w4 ⟨v4, rfl, hown4, hb4⟩; rw [HF.out, HG.out] at hown4)
              | (at_builtin; refine wpList_append_own _ rfl _ _ 37 rfl _ 24 i0 (.complex .f64 0 0) 1 16 Try.underlying37 hi hz0 hz1 hz2 rfl (by decide) _ _ _ rfl (hown4.alloc _) ⟨_, 0, none⟩ 2 2 [.complex .f64 (lastRe o) (lastIm o), .complex .f64 (lastRe o) (lastIm o)] rfl rfl (two_news _ _ _) (two_cell _ _) (by unfold maxLen; omega) (by omega) (by have := hb4.size; simp; omega) ?_; intro v5 w5 hown5 hgrow5 _; have hb5 := Below.grown (hb4.alloc hb4.size _) hgrow5 (by have := hb4.size; simp; omega) (fun q hq => (hown4.lt q hq).1); have hB5 := chain hB2 hb5; rw [CL_two] at hown5; obtain ⟨a5, cap5, rfl, hrc5⟩ := RowC.of_owns hown5; clear hown4 hgrow5 hb4 hown5 hb5)
              | (go_at_call 19; refine (span_e _ _ _ _ _ _ 0 0 (by assumption) (by omega) (by assumption) (by assumption)).mono ?_; rintro e w' ⟨x, y, rfl, vx, vy, rfl⟩)
              | (go_at_call 11; refine (awake_any _).mono ?_; rintro e w' ⟨rfl, rfl⟩))
            go_ret
            exact ⟨rfl, hB5⟩

end Go.Proofs.Ytiecakeeekeidab
