/- The document's own bytes (vistaref06): numbers, texts, keys. -/
import Derived.Test.YtekonakanieeaaaJWDes10
import Derived.Test.YtekonakanieeaaaJWDes04
import Derived.Test.YtekonakanieeaaaJWDes06
import Derived.Test.YtekonakanieeaaaJWDes05
namespace Go.Proofs.Ytekonakanieeaaa
section
open Go.RowKit Go.Lib

/-- what a call that writes bytes leaves -/
def Mk (l : List Int) (w w' : World) (e : Ending) : Prop := ∃ a c, e = .returned (.slice a l.length c) ∧ Hid (OwnB w' w.heap.size (.slice a l.length c) l) ∧ Below w.heap.size w w'

set_option maxRecDepth 20000 in
set_option maxHeartbeats 2000000 in
theorem number_d (n : Nat) (w : World) (hn : n ≤ 1099511627776) : Calls Try.prog 39 #[.int .i64 n] w fun e w' => Mk (numB n) w w' e := by
  go_enter Try.func39, Try.ntmps39
  go_wp2
  go_loopw [0, 3] (fun v b wr => ∃ (k : Nat) (l : List Int), v = .int .i64 k ∧ k ≤ n ∧ numB n = l ++ numB k ∧ l.length + k ≤ 1099511627776 ∧ OwnB wr w.heap.size b l ∧ Below w.heap.size w wr) (fun v _ _ => (intOf v).toNat)
  case atStart => exact ⟨n, [], rfl, Nat.le_refl _, rfl, by simpa using hn, OwnB.nil _ _, Below.refl _ _⟩
  case round =>
    obtain ⟨k, l, rfl, hk, hl, hL, ho, hb⟩ := hrel
    have HO : Hid (OwnB wr w.heap.size u3 l ∧ Below w.heap.size w wr ∧ numB n = l ++ numB k) := ⟨ho, hb, hl⟩
    have hsz := hb.size
    clear ho hb hl
    by_cases hge : 128 ≤ k
    · have d1 : decide ((128 : Int) ≤ (k : Int)) = true := decide_eq_true (by omega)
      have d2 : (128 : Int) ≤ (k : Int) := by omega
      go_wp2_with (at_builtin; refine wpList_apy rfl _ _ rfl w.heap.size _ l rfl (HO.out.1.alloc _) _ [(k : Int) % 128 + 128] rfl (RB.oney _ _ _) (by simp; omega) (by simp; omega) ?_; intro v2 w2 ho2 hb2 _)
      go_roundw
      case rel =>
        refine ⟨k / 128, l ++ [(k : Int) % 128 + 128], by go_num, by omega, ?_, ?_, ho2, ?_⟩
        · rw [HO.out.2.2, numB_ge (by omega), List.append_assoc]; rfl
        · simp; omega
        · exact (HO.out.2.1.trans ((below_alloc wr _).mono hsz)).trans hb2
      case measure => simp [intOf]; omega
    · have d1 : decide ((128 : Int) ≤ (k : Int)) = false := decide_eq_false (by omega)
      have d3 : (k : Int) % 256 = (k : Int) := by omega
      go_wp2_with (at_builtin; refine wpList_apy rfl _ _ rfl w.heap.size _ l rfl (HO.out.1.alloc _) _ [(k : Int)] rfl (RB.oney _ _ _) (by simp; omega) (by simp; omega) ?_; intro v2 w2 ho2 hb2 _)
      have e2 : l ++ [(k : Int)] = numB n := by rw [HO.out.2.2, numB_lt (by omega)]
      rw [e2] at ho2
      obtain ⟨a2, c2, rfl⟩ := owns_len ho2
      go_ret
      exact ⟨a2, c2, rfl, ho2, (HO.out.2.1.trans ((below_alloc wr _).mono hsz)).trans hb2⟩
theorem textB_200 {s : ByteArray} (h : s.size ≤ 96) : (textB s).length ≤ 200 := by unfold textB; rw [List.length_append, bs_len]; have := numB_len 5 s.size (by omega); omega
theorem OwnB.new1 (w : World) (x : Int) (t : TypeId) (ht : t = 5) : OwnB (w.alloc (.cells #[.int .u8 x] t)) w.heap.size (.slice (some ⟨w.heap.size, 0, none⟩) 1 1) [x] := by
  subst ht
  exact owns_whole (xs := [.int .u8 x]) (Nat.le_refl _) (heap_new _ _) rfl (by decide)
theorem number_i (v : Int) (w : World) (h : numOk v) : Calls Try.prog 39 #[.int .i64 v] w fun e w' => Mk (numI v) w w' e := by
  obtain ⟨n, rfl⟩ := Int.eq_ofNat_of_zero_le h.1
  have h2 := h.2
  unfold numI
  rw [Int.toNat_natCast]
  exact number_d n w (by omega)
set_option maxRecDepth 20000 in
set_option maxHeartbeats 2000000 in
theorem text_d (s : ByteArray) (w : World) (hs : s.size ≤ 96) : Calls Try.prog 77 #[.string s] w fun e w' => Mk (textB s) w w' e := by
  obtain ⟨i0, hi, hz0, hz1, hz2⟩ := info_parts Try.infoUy
  have HN : Hid (∀ W, Calls Try.prog 39 #[.int .i64 s.size] W fun e w' => Mk (numB s.size) W w' e) := fun W => number_d _ W (by omega)
  have hl : (numB s.size).length ≤ 6 := numB_len 5 _ (by omega)
  unfold textB
  obtain ⟨N, hN⟩ : ∃ N, numB s.size = N := ⟨_, rfl⟩
  rw [hN] at HN hl ⊢
  clear hN
  go_enter Try.func77, Try.ntmps77
  go_wp2_with (first
    | (go_at_call 39; refine (HN.out _).mono ?_; rintro e w1 ⟨a1, c1, rfl, ho1, hb1⟩)
    | (at_builtin; refine wpList_append_own_string _ rfl _ _ 22 9 rfl w.heap.size 5 i0 Try.underlying22 Try.underlying9 hi hz0 hz1 hz2 _ N.length (ub N) rfl ho1.out s rfl (by unfold maxLen; omega) (by omega) hb1.size ?_; intro v2 w2 ho2 hg2 _))
  have h3 : OwnB w2 w.heap.size v2 (N ++ bs s) := by
    unfold OwnB
    rw [List.length_append, bs_len]
    have e : ub (N ++ bs s) = ub N ++ ub (bs s) := by unfold ub; rw [List.map_append]
    rw [e, ub_bs]
    exact ho2
  obtain ⟨a2, c2, rfl⟩ := owns_len h3
  go_ret
  exact ⟨a2, c2, rfl, h3, hb1.trans (below_owny ho1.out hg2 hb1.size)⟩
set_option maxRecDepth 20000 in
set_option maxHeartbeats 2000000 in
theorem key_d (k : Ky) (w : World) (hk : keyOk k) : Calls Try.prog 42 #[.agg #[.int .i64 k.d, .string k.nm]] w fun e w' => Mk (keyB k) w w' e := by
  have HN : Hid (∀ W, Calls Try.prog 39 #[.int .i64 k.d] W fun e w' => Mk (numI k.d) W w' e) := fun W => number_i _ W hk.1
  have HT : Hid (∀ W, Calls Try.prog 77 #[.string k.nm] W fun e w' => Mk (textB k.nm) W w' e) := fun W => text_d _ W hk.2
  have hl1 := numI_len hk.1
  have hl2 : (textB k.nm).length ≤ 200 := by unfold textB; rw [List.length_append, bs_len]; have := numB_len 5 k.nm.size (by have := hk.2; omega); have := hk.2; omega
  unfold keyB
  obtain ⟨N, hN⟩ : ∃ N, numI k.d = N := ⟨_, rfl⟩
  obtain ⟨T, hT⟩ : ∃ T, textB k.nm = T := ⟨_, rfl⟩
  rw [hN] at HN hl1 ⊢
  rw [hT] at HT hl2 ⊢
  clear hN hT hk
  obtain ⟨W, hW⟩ : ∃ W, w.alloc (.cells #[.int .i64 k.d, .string k.nm] 40) = W := ⟨_, rfl⟩
  have hbx : W.heap[w.heap.size]? = some (.cells #[.int .i64 k.d, .string k.nm] 40 (0, 0)) := by rw [← hW]; exact heap_new _ _
  have hbb : Below w.heap.size w W := by rw [← hW]; exact below_alloc _ _
  have HB : Hid (W.heap[w.heap.size]? = some (.cells #[.int .i64 k.d, .string k.nm] 40 (0, 0)) ∧ Below w.heap.size w W) := ⟨hbx, hbb⟩
  have y0 : W.cell? ⟨w.heap.size, 0, none⟩ = some (.int .i64 k.d) := by rw [cell_of hbx]; rfl
  have y1 : W.cell? ⟨w.heap.size, 1, none⟩ = some (.string k.nm) := by rw [cell_of hbx]; rfl
  have HS : Hid (∀ w', Below W.heap.size W w' → w'.cell? ⟨w.heap.size, 0, none⟩ = some (.int .i64 k.d) ∧ w'.cell? ⟨w.heap.size, 1, none⟩ = some (.string k.nm)) := fun w' h' => by
    have n1 := hkeep HB.out.1 h'
    exact ⟨by rw [cell_of n1]; rfl, by rw [cell_of n1]; rfl⟩
  clear hbx hbb
  go_enter Try.func42, Try.ntmps42
  go_upto_region 1 with fail
  clear hW
  have k0 := HS.out W.drew (Below.refl _ _).drew
  go_region_held3 (fun w' => w'.cell? ⟨w.heap.size, 0, none⟩ = some (.int .i64 k.d) ∧ w'.cell? ⟨w.heap.size, 1, none⟩ = some (.string k.nm)) (with_reducible first | exact k3 | exact k2 | exact k1 | exact k0) (first
    | (go_at_call 39; refine (HN.out _).mono ?_; rintro e w1 ⟨a1, q1, rfl, ho1, hb1⟩; have hc1 := chainB (Below.refl W.heap.size W).drew hb1; have k1 := HS.out w1 hc1)
    | (go_at_call 77; refine (HT.out _).mono ?_; rintro e w2 ⟨a2, q2, rfl, ho2, hb2⟩; have hc2 := chainB hc1 hb2; have k2 := HS.out w2 hc2)
    | (refine step_apy rfl (.tmp 5) (.tmp 8) rfl W.heap.size _ N (by simp [Act.eval]) (ho1.out.below hb2) _ T (by simp [Act.eval]) ho2.out.rb (by omega) hc2.size ?_; intro v3 w3 ho3 hb3; obtain ⟨a3, q3, rfl⟩ := owns_len ho3; have hc3 := hc2.trans hb3; have k3 := HS.out w3 hc3))
  go_wp2
  go_ret
  exact ⟨a3, q3, by simp, ho3.le HB.out.2.size, chainB HB.out.2 hc3⟩
end
section
open Go.RowKit Go.Lib

set_option maxRecDepth 20000 in
set_option maxHeartbeats 4000000 in
theorem op_d (o : Opn) (w : World) (ho : opOk o) : Calls Try.prog 40 #[.agg #[.int .i64 o.kind, .int .i64 o.dir, .string o.nm, .int .i64 o.dst, .string o.new, .int .i64 o.mode, .string o.tg]] w fun e w' => Mk (opB o) w w' e := by
  have H1 : Hid (∀ W, Calls Try.prog 39 #[.int .i64 o.dir] W fun e w' => Mk (numI o.dir) W w' e) := fun W => number_i _ W ho.2.1
  have l1 := numI_len ho.2.1
  have H2 : Hid (∀ W, Calls Try.prog 77 #[.string o.nm] W fun e w' => Mk (textB o.nm) W w' e) := fun W => text_d _ W ho.2.2.2.2.1
  have l2 := textB_200 ho.2.2.2.2.1
  have H3 : Hid (∀ W, Calls Try.prog 39 #[.int .i64 o.dst] W fun e w' => Mk (numI o.dst) W w' e) := fun W => number_i _ W ho.2.2.1
  have l3 := numI_len ho.2.2.1
  have H4 : Hid (∀ W, Calls Try.prog 77 #[.string o.new] W fun e w' => Mk (textB o.new) W w' e) := fun W => text_d _ W ho.2.2.2.2.2.1
  have l4 := textB_200 ho.2.2.2.2.2.1
  have H5 : Hid (∀ W, Calls Try.prog 39 #[.int .i64 o.mode] W fun e w' => Mk (numI o.mode) W w' e) := fun W => number_i _ W ho.2.2.2.1
  have l5 := numI_len ho.2.2.2.1
  have H6 : Hid (∀ W, Calls Try.prog 77 #[.string o.tg] W fun e w' => Mk (textB o.tg) W w' e) := fun W => text_d _ W ho.2.2.2.2.2.2
  have l6 := textB_200 ho.2.2.2.2.2.2
  have hk : o.kind % 256 = o.kind := by have := ho.1; omega
  unfold opB
  obtain ⟨N1, hN1⟩ : ∃ x, numI o.dir = x := ⟨_, rfl⟩
  rw [hN1] at H1 l1 ⊢
  obtain ⟨N2, hN2⟩ : ∃ x, textB o.nm = x := ⟨_, rfl⟩
  rw [hN2] at H2 l2 ⊢
  obtain ⟨N3, hN3⟩ : ∃ x, numI o.dst = x := ⟨_, rfl⟩
  rw [hN3] at H3 l3 ⊢
  obtain ⟨N4, hN4⟩ : ∃ x, textB o.new = x := ⟨_, rfl⟩
  rw [hN4] at H4 l4 ⊢
  obtain ⟨N5, hN5⟩ : ∃ x, numI o.mode = x := ⟨_, rfl⟩
  rw [hN5] at H5 l5 ⊢
  obtain ⟨N6, hN6⟩ : ∃ x, textB o.tg = x := ⟨_, rfl⟩
  rw [hN6] at H6 l6 ⊢
  clear hN1 hN2 hN3 hN4 hN5 hN6 ho
  obtain ⟨W, hW⟩ : ∃ W, w.alloc (.cells #[.int .i64 o.kind, .int .i64 o.dir, .string o.nm, .int .i64 o.dst, .string o.new, .int .i64 o.mode, .string o.tg] 26) = W := ⟨_, rfl⟩
  have hbx : W.heap[w.heap.size]? = some (.cells #[.int .i64 o.kind, .int .i64 o.dir, .string o.nm, .int .i64 o.dst, .string o.new, .int .i64 o.mode, .string o.tg] 26 (0, 0)) := by rw [← hW]; exact heap_new _ _
  have hbb : Below w.heap.size w W := by rw [← hW]; exact below_alloc _ _
  have HB : Hid (W.heap[w.heap.size]? = some (.cells #[.int .i64 o.kind, .int .i64 o.dir, .string o.nm, .int .i64 o.dst, .string o.new, .int .i64 o.mode, .string o.tg] 26 (0, 0)) ∧ Below w.heap.size w W) := ⟨hbx, hbb⟩
  clear hbx hbb
  have HS : Hid (∀ w', Below W.heap.size W w' → w'.cell? ⟨w.heap.size, 0, none⟩ = some (.int .i64 o.kind) ∧ w'.cell? ⟨w.heap.size, 1, none⟩ = some (.int .i64 o.dir) ∧ w'.cell? ⟨w.heap.size, 2, none⟩ = some (.string o.nm) ∧ w'.cell? ⟨w.heap.size, 3, none⟩ = some (.int .i64 o.dst) ∧ w'.cell? ⟨w.heap.size, 4, none⟩ = some (.string o.new) ∧ w'.cell? ⟨w.heap.size, 5, none⟩ = some (.int .i64 o.mode) ∧ w'.cell? ⟨w.heap.size, 6, none⟩ = some (.string o.tg)) := fun w' h' => by
    have n1 := hkeep HB.out.1 h'
    exact ⟨by rw [cell_of n1]; rfl, by rw [cell_of n1]; rfl, by rw [cell_of n1]; rfl, by rw [cell_of n1]; rfl, by rw [cell_of n1]; rfl, by rw [cell_of n1]; rfl, by rw [cell_of n1]; rfl⟩
  have y0 := (HS.out W (Below.refl _ _)).1
  go_enter Try.func40, Try.ntmps40
  go_upto_region 1 with fail
  clear hW
  go_upto_region 2 with fail
  obtain ⟨V0, hV0⟩ : ∃ x, W.alloc (.cells #[.int .u8 o.kind] 5) = x := ⟨_, rfl⟩
  have p0 : OwnB V0 W.heap.size (.slice (some ⟨W.heap.size, 0, none⟩) 1 1) [o.kind] := by rw [← hV0]; exact OwnB.new1 _ _ _ rfl
  have g0 : Below W.heap.size W V0 := by rw [← hV0]; exact below_alloc _ _
  have P0 : Hid (OwnB V0 W.heap.size (.slice (some ⟨W.heap.size, 0, none⟩) 1 1) [o.kind] ∧ Below W.heap.size W V0) := ⟨p0, g0⟩
  have z1 := (HS.out V0 g0).2.1
  rw [hV0]
  clear hV0 p0 g0 y0
  go_wp2_with (first
    | (at_builtin; refine wpList_apy rfl _ _ rfl W.heap.size _ ((((([o.kind] ++ N1) ++ N2) ++ N3) ++ N4) ++ N5) rfl (P5.out.1.below b6) _ N6 rfl o6.out.rb (by simp; omega) (chainB P5.out.2 b6).size ?_; intro v6 V6 p6 f6 _; have g6 := (chainB P5.out.2 b6).trans f6; have P6 : Hid (OwnB V6 W.heap.size v6 (((((([o.kind] ++ N1) ++ N2) ++ N3) ++ N4) ++ N5) ++ N6) ∧ Below W.heap.size W V6) := ⟨p6, g6⟩; clear p6 f6 g6 b6 o6)
    | (go_at_call 77; refine (H6.out V5).mono ?_; rintro e w6 ⟨a6, q6, rfl, o6, b6⟩; clear z6)
    | (at_builtin; refine wpList_apy rfl _ _ rfl W.heap.size _ (((([o.kind] ++ N1) ++ N2) ++ N3) ++ N4) rfl (P4.out.1.below b5) _ N5 rfl o5.out.rb (by simp; omega) (chainB P4.out.2 b5).size ?_; intro v5 V5 p5 f5 _; have g5 := (chainB P4.out.2 b5).trans f5; have P5 : Hid (OwnB V5 W.heap.size v5 ((((([o.kind] ++ N1) ++ N2) ++ N3) ++ N4) ++ N5) ∧ Below W.heap.size W V5) := ⟨p5, g5⟩; have z6 := (HS.out V5 g5).2.2.2.2.2.2; clear p5 f5 g5 b5 o5)
    | (go_at_call 39; refine (H5.out V4).mono ?_; rintro e w5 ⟨a5, q5, rfl, o5, b5⟩; clear z5)
    | (at_builtin; refine wpList_apy rfl _ _ rfl W.heap.size _ ((([o.kind] ++ N1) ++ N2) ++ N3) rfl (P3.out.1.below b4) _ N4 rfl o4.out.rb (by simp; omega) (chainB P3.out.2 b4).size ?_; intro v4 V4 p4 f4 _; have g4 := (chainB P3.out.2 b4).trans f4; have P4 : Hid (OwnB V4 W.heap.size v4 (((([o.kind] ++ N1) ++ N2) ++ N3) ++ N4) ∧ Below W.heap.size W V4) := ⟨p4, g4⟩; have z5 := (HS.out V4 g4).2.2.2.2.2.1; clear p4 f4 g4 b4 o4)
    | (go_at_call 77; refine (H4.out V3).mono ?_; rintro e w4 ⟨a4, q4, rfl, o4, b4⟩; clear z4)
    | (at_builtin; refine wpList_apy rfl _ _ rfl W.heap.size _ (([o.kind] ++ N1) ++ N2) rfl (P2.out.1.below b3) _ N3 rfl o3.out.rb (by simp; omega) (chainB P2.out.2 b3).size ?_; intro v3 V3 p3 f3 _; have g3 := (chainB P2.out.2 b3).trans f3; have P3 : Hid (OwnB V3 W.heap.size v3 ((([o.kind] ++ N1) ++ N2) ++ N3) ∧ Below W.heap.size W V3) := ⟨p3, g3⟩; have z4 := (HS.out V3 g3).2.2.2.2.1; clear p3 f3 g3 b3 o3)
    | (go_at_call 39; refine (H3.out V2).mono ?_; rintro e w3 ⟨a3, q3, rfl, o3, b3⟩; clear z3)
    | (at_builtin; refine wpList_apy rfl _ _ rfl W.heap.size _ ([o.kind] ++ N1) rfl (P1.out.1.below b2) _ N2 rfl o2.out.rb (by simp; omega) (chainB P1.out.2 b2).size ?_; intro v2 V2 p2 f2 _; have g2 := (chainB P1.out.2 b2).trans f2; have P2 : Hid (OwnB V2 W.heap.size v2 (([o.kind] ++ N1) ++ N2) ∧ Below W.heap.size W V2) := ⟨p2, g2⟩; have z3 := (HS.out V2 g2).2.2.2.1; clear p2 f2 g2 b2 o2)
    | (go_at_call 77; refine (H2.out V1).mono ?_; rintro e w2 ⟨a2, q2, rfl, o2, b2⟩; clear z2)
    | (at_builtin; refine wpList_apy rfl _ _ rfl W.heap.size _ [o.kind] rfl (P0.out.1.below b1) _ N1 rfl o1.out.rb (by simp; omega) (chainB P0.out.2 b1).size ?_; intro v1 V1 p1 f1 _; have g1 := (chainB P0.out.2 b1).trans f1; have P1 : Hid (OwnB V1 W.heap.size v1 ([o.kind] ++ N1) ∧ Below W.heap.size W V1) := ⟨p1, g1⟩; have z2 := (HS.out V1 g1).2.2.1; clear p1 f1 g1 b1 o1)
    | (go_at_call 39; refine (H1.out V0).mono ?_; rintro e w1 ⟨a1, q1, rfl, o1, b1⟩; clear z1))
  have e : (((((([o.kind] ++ N1) ++ N2) ++ N3) ++ N4) ++ N5) ++ N6) = o.kind :: (N1 ++ (N2 ++ (N3 ++ (N4 ++ (N5 ++ N6))))) := by simp
  have h6 := P6.out.1
  rw [e] at h6
  obtain ⟨a9, q9, rfl⟩ := owns_len h6
  go_ret
  exact ⟨a9, q9, rfl, h6.le HB.out.2.size, chainB HB.out.2 P6.out.2⟩
theorem keyB_200 {k : Ky} (h : keyOk k) : (keyB k).length ≤ 300 := by unfold keyB; rw [List.length_append]; have := numI_len h.1; have := textB_200 h.2; omega
set_option maxRecDepth 20000 in
set_option maxHeartbeats 4000000 in
theorem entry_neg (e : En) (w : World) (hk : keyOk ⟨e.d, e.nm⟩) : Calls Try.prog 41 #[.agg #[.int .i64 e.d, .string e.nm, .bool true, .int .i64 e.id, .int .i64 e.kind, .int .i64 e.mode, .string e.tg]] w fun x w' => Mk (keyB ⟨e.d, e.nm⟩ ++ [1]) w w' x := by
  have H1 : Hid (∀ W, Calls Try.prog 42 #[.agg #[.int .i64 e.d, .string e.nm]] W fun e' w' => Mk (keyB ⟨e.d, e.nm⟩) W w' e') := fun W => key_d ⟨e.d, e.nm⟩ W hk
  have l1 := keyB_200 hk
  obtain ⟨N1, hN1⟩ : ∃ x, keyB ⟨e.d, e.nm⟩ = x := ⟨_, rfl⟩
  rw [hN1] at H1 l1 ⊢
  clear hN1 hk
  obtain ⟨W, hW⟩ : ∃ W, w.alloc (.cells #[.int .i64 e.d, .string e.nm, .bool true, .int .i64 e.id, .int .i64 e.kind, .int .i64 e.mode, .string e.tg] 44) = W := ⟨_, rfl⟩
  have hbx : W.heap[w.heap.size]? = some (.cells #[.int .i64 e.d, .string e.nm, .bool true, .int .i64 e.id, .int .i64 e.kind, .int .i64 e.mode, .string e.tg] 44 (0, 0)) := by rw [← hW]; exact heap_new _ _
  have hbb : Below w.heap.size w W := by rw [← hW]; exact below_alloc _ _
  have HB : Hid (W.heap[w.heap.size]? = some (.cells #[.int .i64 e.d, .string e.nm, .bool true, .int .i64 e.id, .int .i64 e.kind, .int .i64 e.mode, .string e.tg] 44 (0, 0)) ∧ Below w.heap.size w W) := ⟨hbx, hbb⟩
  clear hbx hbb
  have HS : Hid (∀ w', Below W.heap.size W w' → w'.cell? ⟨w.heap.size, 0, none⟩ = some (.int .i64 e.d) ∧ w'.cell? ⟨w.heap.size, 1, none⟩ = some (.string e.nm) ∧ w'.cell? ⟨w.heap.size, 2, none⟩ = some (.bool true) ∧ w'.cell? ⟨w.heap.size, 3, none⟩ = some (.int .i64 e.id) ∧ w'.cell? ⟨w.heap.size, 4, none⟩ = some (.int .i64 e.kind) ∧ w'.cell? ⟨w.heap.size, 5, none⟩ = some (.int .i64 e.mode) ∧ w'.cell? ⟨w.heap.size, 6, none⟩ = some (.string e.tg)) := fun w' h' => by
    have n1 := hkeep HB.out.1 h'
    exact ⟨by rw [cell_of n1]; rfl, by rw [cell_of n1]; rfl, by rw [cell_of n1]; rfl, by rw [cell_of n1]; rfl, by rw [cell_of n1]; rfl, by rw [cell_of n1]; rfl, by rw [cell_of n1]; rfl⟩
  obtain ⟨y0, y1, y2, -⟩ := HS.out W (Below.refl _ _)
  go_enter Try.func41, Try.ntmps41
  go_upto_region 1 with fail
  clear hW
  go_wp2_with (first
    | (go_at_call 42; refine (H1.out _).mono ?_; rintro x w1 ⟨a1, q1, rfl, o1, b1⟩; have z2 := (HS.out w1 b1).2.2.1; clear y0 y1 y2)
    | (at_builtin; refine wpList_apy rfl _ _ rfl W.heap.size _ N1 rfl (o1.out.alloc _) _ [1] rfl (RB.oney _ _ _) (by simp; omega) (Nat.le_trans b1.size (below_alloc _ _).size) ?_; intro v2 V2 p2 f2 _))
  obtain ⟨a9, q9, rfl⟩ := owns_len p2
  go_ret
  exact ⟨a9, q9, by simp, p2.le HB.out.2.size, chainB HB.out.2 ((chainB b1 (below_alloc _ _)).trans f2)⟩
set_option maxRecDepth 20000 in
set_option maxHeartbeats 4000000 in
theorem entry_pos (e : En) (w : World) (hk : keyOk ⟨e.d, e.nm⟩) (ho : nodeOk e) : Calls Try.prog 41 #[.agg #[.int .i64 e.d, .string e.nm, .bool false, .int .i64 e.id, .int .i64 e.kind, .int .i64 e.mode, .string e.tg]] w fun x w' => Mk (keyB ⟨e.d, e.nm⟩ ++ 0 :: nodeB e) w w' x := by
  have H1 : Hid (∀ W, Calls Try.prog 42 #[.agg #[.int .i64 e.d, .string e.nm]] W fun e' w' => Mk (keyB ⟨e.d, e.nm⟩) W w' e') := fun W => key_d ⟨e.d, e.nm⟩ W hk
  have l1 := keyB_200 hk
  have H3 : Hid (∀ W, Calls Try.prog 39 #[.int .i64 e.id] W fun e' w' => Mk (numI e.id) W w' e') := fun W => number_i _ W ho.1
  have l3 := numI_len ho.1
  have H5 : Hid (∀ W, Calls Try.prog 39 #[.int .i64 e.mode] W fun e' w' => Mk (numI e.mode) W w' e') := fun W => number_i _ W ho.2.1
  have l5 := numI_len ho.2.1
  have H6 : Hid (∀ W, Calls Try.prog 77 #[.string e.tg] W fun e' w' => Mk (textB e.tg) W w' e') := fun W => text_d _ W ho.2.2.2
  have l6 := textB_200 ho.2.2.2
  have hkd : e.kind % 256 = e.kind := by have := ho.2.2.1; omega
  unfold nodeB
  obtain ⟨N1, hN1⟩ : ∃ x, keyB ⟨e.d, e.nm⟩ = x := ⟨_, rfl⟩
  rw [hN1] at H1 l1 ⊢
  obtain ⟨N3, hN3⟩ : ∃ x, numI e.id = x := ⟨_, rfl⟩
  rw [hN3] at H3 l3 ⊢
  obtain ⟨N5, hN5⟩ : ∃ x, numI e.mode = x := ⟨_, rfl⟩
  rw [hN5] at H5 l5 ⊢
  obtain ⟨N6, hN6⟩ : ∃ x, textB e.tg = x := ⟨_, rfl⟩
  rw [hN6] at H6 l6 ⊢
  clear hN1 hN3 hN5 hN6 hk ho
  obtain ⟨W, hW⟩ : ∃ W, w.alloc (.cells #[.int .i64 e.d, .string e.nm, .bool false, .int .i64 e.id, .int .i64 e.kind, .int .i64 e.mode, .string e.tg] 44) = W := ⟨_, rfl⟩
  have hbx : W.heap[w.heap.size]? = some (.cells #[.int .i64 e.d, .string e.nm, .bool false, .int .i64 e.id, .int .i64 e.kind, .int .i64 e.mode, .string e.tg] 44 (0, 0)) := by rw [← hW]; exact heap_new _ _
  have hbb : Below w.heap.size w W := by rw [← hW]; exact below_alloc _ _
  have HB : Hid (W.heap[w.heap.size]? = some (.cells #[.int .i64 e.d, .string e.nm, .bool false, .int .i64 e.id, .int .i64 e.kind, .int .i64 e.mode, .string e.tg] 44 (0, 0)) ∧ Below w.heap.size w W) := ⟨hbx, hbb⟩
  clear hbx hbb
  have HS : Hid (∀ w', Below W.heap.size W w' → w'.cell? ⟨w.heap.size, 0, none⟩ = some (.int .i64 e.d) ∧ w'.cell? ⟨w.heap.size, 1, none⟩ = some (.string e.nm) ∧ w'.cell? ⟨w.heap.size, 2, none⟩ = some (.bool false) ∧ w'.cell? ⟨w.heap.size, 3, none⟩ = some (.int .i64 e.id) ∧ w'.cell? ⟨w.heap.size, 4, none⟩ = some (.int .i64 e.kind) ∧ w'.cell? ⟨w.heap.size, 5, none⟩ = some (.int .i64 e.mode) ∧ w'.cell? ⟨w.heap.size, 6, none⟩ = some (.string e.tg)) := fun w' h' => by
    have n1 := hkeep HB.out.1 h'
    exact ⟨by rw [cell_of n1]; rfl, by rw [cell_of n1]; rfl, by rw [cell_of n1]; rfl, by rw [cell_of n1]; rfl, by rw [cell_of n1]; rfl, by rw [cell_of n1]; rfl, by rw [cell_of n1]; rfl⟩
  obtain ⟨y0, y1, y2, -⟩ := HS.out W (Below.refl _ _)
  go_enter Try.func41, Try.ntmps41
  go_upto_region 1 with fail
  clear hW
  go_wp2_with (first
    | (at_builtin; refine wpList_apy rfl _ _ rfl W.heap.size _ ((((N1 ++ [0]) ++ N3) ++ [e.kind]) ++ N5) rfl (P5.out.1.below b6) _ N6 rfl o6.out.rb (by simp; omega) (chainB P5.out.2 b6).size ?_; intro v6 V6 p6 f6 _; have g6 := (chainB P5.out.2 b6).trans f6)
    | (go_at_call 77; refine (H6.out V5).mono ?_; rintro x w6 ⟨a6, q6, rfl, o6, b6⟩; clear z6)
    | (at_builtin; refine wpList_apy rfl _ _ rfl W.heap.size _ (((N1 ++ [0]) ++ N3) ++ [e.kind]) rfl (P4.out.1.below b5) _ N5 rfl o5.out.rb (by simp; omega) (chainB P4.out.2 b5).size ?_; intro v5 V5 p5 f5 _; have g5 := (chainB P4.out.2 b5).trans f5; have P5 : Hid (OwnB V5 W.heap.size v5 ((((N1 ++ [0]) ++ N3) ++ [e.kind]) ++ N5) ∧ Below W.heap.size W V5) := ⟨p5, g5⟩; have z6 := (HS.out V5 g5).2.2.2.2.2.2; clear p5 f5 g5 b5 o5)
    | (go_at_call 39; refine (H5.out V4).mono ?_; rintro x w5 ⟨a5, q5, rfl, o5, b5⟩; clear z5)
    | (at_builtin; refine wpList_apy rfl _ _ rfl W.heap.size _ ((N1 ++ [0]) ++ N3) rfl (P3.out.1.alloc _) _ [e.kind] rfl (RB.oney _ _ _) (by simp; omega) (chainB P3.out.2 (below_alloc _ _)).size ?_; intro v4 V4 p4 f4 _; have g4 := (chainB P3.out.2 (below_alloc _ _)).trans f4; have P4 : Hid (OwnB V4 W.heap.size v4 (((N1 ++ [0]) ++ N3) ++ [e.kind]) ∧ Below W.heap.size W V4) := ⟨p4, g4⟩; have z5 := (HS.out V4 g4).2.2.2.2.2.1; clear p4 f4 g4 z4)
    | (at_builtin; refine wpList_apy rfl _ _ rfl W.heap.size _ (N1 ++ [0]) rfl (P2.out.1.below b3) _ N3 rfl o3.out.rb (by simp; omega) (chainB P2.out.2 b3).size ?_; intro v3 V3 p3 f3 _; have g3 := (chainB P2.out.2 b3).trans f3; have P3 : Hid (OwnB V3 W.heap.size v3 ((N1 ++ [0]) ++ N3) ∧ Below W.heap.size W V3) := ⟨p3, g3⟩; have z4 := (HS.out V3 g3).2.2.2.2.1; clear p3 f3 g3 b3 o3)
    | (go_at_call 39; refine (H3.out V2).mono ?_; rintro x w3 ⟨a3, q3, rfl, o3, b3⟩; clear z3)
    | (at_builtin; refine wpList_apy rfl _ _ rfl W.heap.size _ N1 rfl (o1.out.alloc _) _ [0] rfl (RB.oney _ _ _) (by simp; omega) (chainB b1 (below_alloc _ _)).size ?_; intro v2 V2 p2 f2 _; have g2 := (chainB b1 (below_alloc _ _)).trans f2; have P2 : Hid (OwnB V2 W.heap.size v2 (N1 ++ [0]) ∧ Below W.heap.size W V2) := ⟨p2, g2⟩; have z3 := (HS.out V2 g2).2.2.2.1; clear p2 f2 g2 z2)
    | (go_at_call 42; refine (H1.out _).mono ?_; rintro x w1 ⟨a1, q1, rfl, o1, b1⟩; have z2 := (HS.out w1 b1).2.2.1; clear y0 y1 y2))
  have e9 : ((((N1 ++ [0]) ++ N3) ++ [e.kind]) ++ N5) ++ N6 = N1 ++ 0 :: (N3 ++ e.kind :: (N5 ++ N6)) := by simp
  rw [e9] at p6
  obtain ⟨a9, q9, rfl⟩ := owns_len p6
  go_ret
  exact ⟨a9, q9, rfl, p6.le HB.out.2.size, chainB HB.out.2 g6⟩
theorem entry_d (e : En) (w : World) (h : entOk e) : Calls Try.prog 41 #[.agg #[.int .i64 e.d, .string e.nm, .bool e.neg, .int .i64 e.id, .int .i64 e.kind, .int .i64 e.mode, .string e.tg]] w fun x w' => Mk (entB e) w w' x := by
  obtain ⟨d, nm, neg, id, kind, mode, tg⟩ := e
  unfold entOk at h
  unfold entB
  cases neg
  · exact entry_pos ⟨d, nm, false, id, kind, mode, tg⟩ w h.1 h.2
  · exact entry_neg ⟨d, nm, true, id, kind, mode, tg⟩ w h.1
end
section
open Go.RowKit Go.Lib

theorem bad_d (v : Int) (w : World) : Calls Try.prog 72 #[.int .i64 v] w fun e w' => e = .returned (.bool (!decide (numOk v))) ∧ w = w' := by
  by_cases h : v < 0
  · have hd : decide (v < 0) = true := decide_eq_true h
    have hn : decide (numOk v) = false := decide_eq_false (fun h2 => by have := h2.1; omega)
    rw [hn]
    go_enter Try.func72, Try.ntmps72
    go_wp2
    go_ret
    exact ⟨rfl, rfl⟩
  · have hd : decide (v < 0) = false := decide_eq_false h
    have hn : decide (numOk v) = !decide (1099511627776 < v) := by
      by_cases h2 : 1099511627776 < v
      · rw [decide_eq_true h2, decide_eq_false (fun h3 => by have := h3.2; omega)]; rfl
      · rw [decide_eq_false h2, decide_eq_true (show numOk v from ⟨by omega, by omega⟩)]; rfl
    rw [hn]
    go_enter Try.func72, Try.ntmps72
    go_wp2
    go_ret
    exact ⟨by simp, rfl⟩
set_option maxRecDepth 20000 in
set_option maxHeartbeats 4000000 in
theorem plainKey_d (k : Ky) (w : World) : Calls Try.prog 75 #[.agg #[.int .i64 k.d, .string k.nm]] w fun e w' => e = .returned (.bool (decide (keyOk k))) ∧ Below w.heap.size w w' := by
  obtain ⟨W, hW⟩ : ∃ W, w.alloc (.cells #[.int .i64 k.d, .string k.nm] 40) = W := ⟨_, rfl⟩
  have hb := boxB hW
  have HB : Hid (W.heap[w.heap.size]? = some (.cells #[.int .i64 k.d, .string k.nm] 40 (0, 0)) ∧ Below w.heap.size w W) := hb
  have x0 := cell_of hb.1 0
  have x1 := cell_of hb.1 1
  simp at x0 x1
  clear hb
  by_cases h1 : numOk k.d
  case neg =>
    have HB1 : Hid (∀ W, Calls Try.prog 72 #[.int .i64 k.d] W fun e w' => e = .returned (.bool true) ∧ W = w') := fun W => by have := bad_d k.d W; rw [decide_eq_false h1] at this; exact this
    have HE : Hid (decide (keyOk k) = false) := decide_eq_false (fun h => h1 h.1)
    go_enter Try.func75, Try.ntmps75
    go_upto_region 1 with fail
    clear hW
    go_wp2_with (first
      | (go_at_call 72; refine (HB1.out _).mono ?_; rintro e w1 ⟨rfl, rfl⟩))
    go_ret
    exact ⟨by rw [HE.out]; rfl, HB.out.2⟩
  have HB1 : Hid (∀ W, Calls Try.prog 72 #[.int .i64 k.d] W fun e w' => e = .returned (.bool false) ∧ W = w') := fun W => by have := bad_d k.d W; rw [decide_eq_true h1] at this; exact this
  by_cases h2 : k.nm.size ≤ 96
  case neg =>
    have d2 : decide ((k.nm.size : Int) ≤ 96) = false := decide_eq_false (by omega)
    have d2n : ¬ (k.nm.size : Int) ≤ 96 := by omega
    have HE : Hid (decide (keyOk k) = false) := decide_eq_false (fun h => h2 h.2)
    go_enter Try.func75, Try.ntmps75
    go_upto_region 1 with fail
    clear hW
    go_wp2_with (first
      | (go_at_call 72; refine (HB1.out _).mono ?_; rintro e w1 ⟨rfl, rfl⟩))
    go_ret
    exact ⟨by rw [HE.out]; rfl, HB.out.2⟩
  have d2 : decide ((k.nm.size : Int) ≤ 96) = true := decide_eq_true (by omega)
  have HE : Hid (decide (keyOk k) = true) := decide_eq_true ⟨h1, h2⟩
  go_enter Try.func75, Try.ntmps75
  go_upto_region 1 with fail
  clear hW
  go_wp2_with (first
    | (go_at_call 72; refine (HB1.out _).mono ?_; rintro e w1 ⟨rfl, rfl⟩))
  go_ret
  exact ⟨by rw [HE.out]; rfl, HB.out.2⟩
set_option maxRecDepth 20000 in
set_option maxHeartbeats 4000000 in
theorem plainOp_d (x : Opn) (w : World) : Calls Try.prog 73 #[.agg #[.int .i64 x.kind, .int .i64 x.dir, .string x.nm, .int .i64 x.dst, .string x.new, .int .i64 x.mode, .string x.tg]] w fun e w' => e = .returned (.bool (decide (opOk x))) ∧ Below w.heap.size w w' := by
  obtain ⟨W, hW⟩ : ∃ W, w.alloc (.cells #[.int .i64 x.kind, .int .i64 x.dir, .string x.nm, .int .i64 x.dst, .string x.new, .int .i64 x.mode, .string x.tg] 26) = W := ⟨_, rfl⟩
  have hb := boxB hW
  have HB : Hid (W.heap[w.heap.size]? = some (.cells #[.int .i64 x.kind, .int .i64 x.dir, .string x.nm, .int .i64 x.dst, .string x.new, .int .i64 x.mode, .string x.tg] 26 (0, 0)) ∧ Below w.heap.size w W) := hb
  have x0 := cell_of hb.1 0
  have x1 := cell_of hb.1 1
  have x2 := cell_of hb.1 2
  have x3 := cell_of hb.1 3
  have x4 := cell_of hb.1 4
  have x5 := cell_of hb.1 5
  have x6 := cell_of hb.1 6
  simp at x0 x1 x2 x3 x4 x5 x6
  clear hb
  have HBad : Hid (∀ v W, Calls Try.prog 72 #[.int .i64 v] W fun e w' => e = .returned (.bool (!decide (numOk v))) ∧ W = w') := bad_d
  by_cases h1 : 1 ≤ x.kind
  case neg =>
    have d1 : decide (1 ≤ x.kind) = false := decide_eq_false h1
    have HE : Hid (decide (opOk x) = false) := decide_eq_false (fun h => h1 h.1.1)
    go_enter Try.func73, Try.ntmps73
    go_upto_region 1 with fail
    clear hW
    go_wp2
    go_ret
    exact ⟨by rw [HE.out]; rfl, HB.out.2⟩
  have d1 : decide (1 ≤ x.kind) = true := decide_eq_true h1
  by_cases h2 : x.kind ≤ 11
  case neg =>
    have d2 : decide (x.kind ≤ 11) = false := decide_eq_false h2
    have HE : Hid (decide (opOk x) = false) := decide_eq_false (fun h => h2 h.1.2)
    go_enter Try.func73, Try.ntmps73
    go_upto_region 1 with fail
    clear hW
    go_wp2
    go_ret
    exact ⟨by rw [HE.out]; rfl, HB.out.2⟩
  have d2 : decide (x.kind ≤ 11) = true := decide_eq_true h2
  by_cases h3 : numOk x.dir
  case neg =>
    have e3 : decide (numOk x.dir) = false := decide_eq_false h3
    have HE : Hid (decide (opOk x) = false) := decide_eq_false (fun h => h3 h.2.1)
    go_enter Try.func73, Try.ntmps73
    go_upto_region 1 with fail
    clear hW
    go_wp2_with (go_at_call 72; refine (HBad.out _ _).mono ?_; rintro e w9 ⟨rfl, rfl⟩; first | rw [e3])
    go_ret
    exact ⟨by rw [HE.out]; rfl, HB.out.2⟩
  have e3 : decide (numOk x.dir) = true := decide_eq_true h3
  by_cases h4 : numOk x.dst
  case neg =>
    have e4 : decide (numOk x.dst) = false := decide_eq_false h4
    have HE : Hid (decide (opOk x) = false) := decide_eq_false (fun h => h4 h.2.2.1)
    go_enter Try.func73, Try.ntmps73
    go_upto_region 1 with fail
    clear hW
    go_wp2_with (go_at_call 72; refine (HBad.out _ _).mono ?_; rintro e w9 ⟨rfl, rfl⟩; first | rw [e3] | rw [e4])
    go_ret
    exact ⟨by rw [HE.out]; rfl, HB.out.2⟩
  have e4 : decide (numOk x.dst) = true := decide_eq_true h4
  by_cases h5 : numOk x.mode
  case neg =>
    have e5 : decide (numOk x.mode) = false := decide_eq_false h5
    have HE : Hid (decide (opOk x) = false) := decide_eq_false (fun h => h5 h.2.2.2.1)
    go_enter Try.func73, Try.ntmps73
    go_upto_region 1 with fail
    clear hW
    go_wp2_with (go_at_call 72; refine (HBad.out _ _).mono ?_; rintro e w9 ⟨rfl, rfl⟩; first | rw [e3] | rw [e4] | rw [e5])
    go_ret
    exact ⟨by rw [HE.out]; rfl, HB.out.2⟩
  have e5 : decide (numOk x.mode) = true := decide_eq_true h5
  by_cases h6 : x.nm.size ≤ 96
  case neg =>
    have d6 : decide ((x.nm.size : Int) ≤ 96) = false := decide_eq_false (by omega)
    have d6n : ¬ (x.nm.size : Int) ≤ 96 := by omega
    have HE : Hid (decide (opOk x) = false) := decide_eq_false (fun h => h6 h.2.2.2.2.1)
    go_enter Try.func73, Try.ntmps73
    go_upto_region 1 with fail
    clear hW
    go_wp2_with (go_at_call 72; refine (HBad.out _ _).mono ?_; rintro e w9 ⟨rfl, rfl⟩; first | rw [e3] | rw [e4] | rw [e5])
    go_ret
    exact ⟨by rw [HE.out]; rfl, HB.out.2⟩
  have d6 : decide ((x.nm.size : Int) ≤ 96) = true := decide_eq_true (by omega)
  by_cases h7 : x.new.size ≤ 96
  case neg =>
    have d7 : decide ((x.new.size : Int) ≤ 96) = false := decide_eq_false (by omega)
    have d7n : ¬ (x.new.size : Int) ≤ 96 := by omega
    have HE : Hid (decide (opOk x) = false) := decide_eq_false (fun h => h7 h.2.2.2.2.2.1)
    go_enter Try.func73, Try.ntmps73
    go_upto_region 1 with fail
    clear hW
    go_wp2_with (go_at_call 72; refine (HBad.out _ _).mono ?_; rintro e w9 ⟨rfl, rfl⟩; first | rw [e3] | rw [e4] | rw [e5])
    go_ret
    exact ⟨by rw [HE.out]; rfl, HB.out.2⟩
  have d7 : decide ((x.new.size : Int) ≤ 96) = true := decide_eq_true (by omega)
  by_cases h8 : x.tg.size ≤ 96
  case neg =>
    have d8 : decide ((x.tg.size : Int) ≤ 96) = false := decide_eq_false (by omega)
    have d8n : ¬ (x.tg.size : Int) ≤ 96 := by omega
    have HE : Hid (decide (opOk x) = false) := decide_eq_false (fun h => h8 h.2.2.2.2.2.2)
    go_enter Try.func73, Try.ntmps73
    go_upto_region 1 with fail
    clear hW
    go_wp2_with (go_at_call 72; refine (HBad.out _ _).mono ?_; rintro e w9 ⟨rfl, rfl⟩; first | rw [e3] | rw [e4] | rw [e5])
    go_ret
    exact ⟨by rw [HE.out]; rfl, HB.out.2⟩
  have d8 : decide ((x.tg.size : Int) ≤ 96) = true := decide_eq_true (by omega)
  have HE : Hid (decide (opOk x) = true) := decide_eq_true ⟨⟨h1, h2⟩, h3, h4, h5, h6, h7, h8⟩
  go_enter Try.func73, Try.ntmps73
  go_upto_region 1 with fail
  clear hW
  go_wp2_with (go_at_call 72; refine (HBad.out _ _).mono ?_; rintro e w9 ⟨rfl, rfl⟩; first | rw [e3] | rw [e4] | rw [e5])
  go_ret
  exact ⟨by rw [HE.out]; rfl, HB.out.2⟩
end
section
open Go.RowKit Go.Lib
attribute [local go_sem high] eqN neqN guardN

set_option maxRecDepth 20000 in
set_option maxHeartbeats 8000000 in
theorem plainEntry_d (x : En) (w : World) : Calls Try.prog 74 #[.agg #[.int .i64 x.d, .string x.nm, .bool x.neg, .int .i64 x.id, .int .i64 x.kind, .int .i64 x.mode, .string x.tg]] w fun e w' => e = .returned (.bool (decide (entOk x))) ∧ Below w.heap.size w w' := by
  obtain ⟨W, hW⟩ : ∃ W, w.alloc (.cells #[.int .i64 x.d, .string x.nm, .bool x.neg, .int .i64 x.id, .int .i64 x.kind, .int .i64 x.mode, .string x.tg] 44) = W := ⟨_, rfl⟩
  have hb := boxB hW
  have HB : Hid (W.heap[w.heap.size]? = some (.cells #[.int .i64 x.d, .string x.nm, .bool x.neg, .int .i64 x.id, .int .i64 x.kind, .int .i64 x.mode, .string x.tg] 44 (0, 0)) ∧ Below w.heap.size w W) := hb
  have x0 := cell_of hb.1 0
  have x1 := cell_of hb.1 1
  simp at x0 x1
  have HK : Hid (∀ W2, Calls Try.prog 75 #[.agg #[.int .i64 x.d, .string x.nm]] W2 fun e w' => e = .returned (.bool (decide (keyOk ⟨x.d, x.nm⟩))) ∧ Below W2.heap.size W2 w') := fun W2 => plainKey_d ⟨x.d, x.nm⟩ W2
  have HBad : Hid (∀ v W, Calls Try.prog 72 #[.int .i64 v] W fun e w' => e = .returned (.bool (!decide (numOk v))) ∧ W = w') := bad_d
  cases hk : decide (keyOk ⟨x.d, x.nm⟩) with
  | false =>
    rw [hk] at HK
    have HE : Hid (decide (entOk x) = false) := decide_eq_false (fun h => of_decide_eq_false hk h.1)
    clear hk hb
    go_enter Try.func74, Try.ntmps74
    go_upto_region 1 with fail
    clear hW
    go_wp2_with (go_at_call 75; refine (HK.out _).mono ?_; rintro e w1 ⟨rfl, hb1⟩)
    go_ret
    exact ⟨by rw [HE.out]; rfl, chainB HB.out.2 hb1⟩
  | true =>
    rw [hk] at HK
    have hk' := of_decide_eq_true hk
    cases hn : x.neg with
    | true =>
      rw [hn] at HB hW
      have HE : Hid (decide (entOk x) = (decide (x.id = 0) && (decide (x.kind = 0) && (decide (x.mode = 0) && decide (x.tg = ⟨#[]⟩))))) := by
        show _ = _
        rw [← nodeZ_b]
        exact decide_eq_decide.2 ⟨fun h => by have := h.2; rw [hn] at this; simpa using this, fun h => ⟨hk', by rw [hn]; simpa using h⟩⟩
      clear hk hb hk'
      go_enter Try.func74, Try.ntmps74
      go_upto_region 1 with fail
      clear hW
      go_wp2_with (go_at_call 75; refine (HK.out _).mono ?_; rintro e w1 ⟨rfl, hb1⟩; have y2 := cell_of (hkeep HB.out.1 hb1) 2; have y3 := cell_of (hkeep HB.out.1 hb1) 3; have y4 := cell_of (hkeep HB.out.1 hb1) 4; have y5 := cell_of (hkeep HB.out.1 hb1) 5; have y6 := cell_of (hkeep HB.out.1 hb1) 6; simp at y2 y3 y4 y5 y6)
      go_ret
      exact ⟨by rw [HE.out]; rfl, chainB HB.out.2 hb1⟩
    | false =>
      rw [hn] at HB hW
      have HE0 : Hid (entOk x ↔ nodeOk x) := ⟨fun h => by have := h.2; rw [hn] at this; simpa using this, fun h => ⟨hk', by rw [hn]; simpa using h⟩⟩
      clear hk hb hk'
      by_cases h1 : numOk x.id
      case neg =>
        have e1 : decide (numOk x.id) = false := decide_eq_false h1
        have HE : Hid (decide (entOk x) = false) := decide_eq_false (fun h => by have h := HE0.out.1 h; exact h1 h.1)
        go_enter Try.func74, Try.ntmps74
        go_upto_region 1 with fail
        clear hW
        go_wp2_with (first
          | (go_at_call 75; refine (HK.out _).mono ?_; rintro e w1 ⟨rfl, hb1⟩; have y2 := cell_of (hkeep HB.out.1 hb1) 2; have y3 := cell_of (hkeep HB.out.1 hb1) 3; have y4 := cell_of (hkeep HB.out.1 hb1) 4; have y5 := cell_of (hkeep HB.out.1 hb1) 5; have y6 := cell_of (hkeep HB.out.1 hb1) 6; simp at y2 y3 y4 y5 y6)
          | (go_at_call 72; refine (HBad.out _ _).mono ?_; rintro e w9 ⟨rfl, rfl⟩; first | rw [e1]))
        go_ret
        exact ⟨by rw [HE.out]; rfl, chainB HB.out.2 (chainB hb1 (below_alloc _ _))⟩
      have e1 : decide (numOk x.id) = true := decide_eq_true h1
      by_cases h2 : numOk x.mode
      case neg =>
        have e2 : decide (numOk x.mode) = false := decide_eq_false h2
        have HE : Hid (decide (entOk x) = false) := decide_eq_false (fun h => by have h := HE0.out.1 h; exact h2 h.2.1)
        go_enter Try.func74, Try.ntmps74
        go_upto_region 1 with fail
        clear hW
        go_wp2_with (first
          | (go_at_call 75; refine (HK.out _).mono ?_; rintro e w1 ⟨rfl, hb1⟩; have y2 := cell_of (hkeep HB.out.1 hb1) 2; have y3 := cell_of (hkeep HB.out.1 hb1) 3; have y4 := cell_of (hkeep HB.out.1 hb1) 4; have y5 := cell_of (hkeep HB.out.1 hb1) 5; have y6 := cell_of (hkeep HB.out.1 hb1) 6; simp at y2 y3 y4 y5 y6)
          | (go_at_call 72; refine (HBad.out _ _).mono ?_; rintro e w9 ⟨rfl, rfl⟩; first | rw [e1] | rw [e2]))
        go_ret
        exact ⟨by rw [HE.out]; rfl, chainB HB.out.2 (chainB hb1 (below_alloc _ _))⟩
      have e2 : decide (numOk x.mode) = true := decide_eq_true h2
      by_cases h3 : 1 ≤ x.kind
      case neg =>
        have d3 : decide (1 ≤ x.kind) = false := decide_eq_false h3
        have HE : Hid (decide (entOk x) = false) := decide_eq_false (fun h => by have h := HE0.out.1 h; exact h3 h.2.2.1.1)
        go_enter Try.func74, Try.ntmps74
        go_upto_region 1 with fail
        clear hW
        go_wp2_with (first
          | (go_at_call 75; refine (HK.out _).mono ?_; rintro e w1 ⟨rfl, hb1⟩; have y2 := cell_of (hkeep HB.out.1 hb1) 2; have y3 := cell_of (hkeep HB.out.1 hb1) 3; have y4 := cell_of (hkeep HB.out.1 hb1) 4; have y5 := cell_of (hkeep HB.out.1 hb1) 5; have y6 := cell_of (hkeep HB.out.1 hb1) 6; simp at y2 y3 y4 y5 y6)
          | (go_at_call 72; refine (HBad.out _ _).mono ?_; rintro e w9 ⟨rfl, rfl⟩; first | rw [e1] | rw [e2]))
        go_ret
        exact ⟨by rw [HE.out]; rfl, chainB HB.out.2 (chainB hb1 (below_alloc _ _))⟩
      have d3 : decide (1 ≤ x.kind) = true := decide_eq_true h3
      by_cases h4 : x.kind ≤ 3
      case neg =>
        have d4 : decide (x.kind ≤ 3) = false := decide_eq_false h4
        have HE : Hid (decide (entOk x) = false) := decide_eq_false (fun h => by have h := HE0.out.1 h; exact h4 h.2.2.1.2)
        go_enter Try.func74, Try.ntmps74
        go_upto_region 1 with fail
        clear hW
        go_wp2_with (first
          | (go_at_call 75; refine (HK.out _).mono ?_; rintro e w1 ⟨rfl, hb1⟩; have y2 := cell_of (hkeep HB.out.1 hb1) 2; have y3 := cell_of (hkeep HB.out.1 hb1) 3; have y4 := cell_of (hkeep HB.out.1 hb1) 4; have y5 := cell_of (hkeep HB.out.1 hb1) 5; have y6 := cell_of (hkeep HB.out.1 hb1) 6; simp at y2 y3 y4 y5 y6)
          | (go_at_call 72; refine (HBad.out _ _).mono ?_; rintro e w9 ⟨rfl, rfl⟩; first | rw [e1] | rw [e2]))
        go_ret
        exact ⟨by rw [HE.out]; rfl, chainB HB.out.2 (chainB hb1 (below_alloc _ _))⟩
      have d4 : decide (x.kind ≤ 3) = true := decide_eq_true h4
      by_cases h5 : x.tg.size ≤ 96
      case neg =>
        have d5 : decide ((x.tg.size : Int) ≤ 96) = false := decide_eq_false (by omega)
        have HE : Hid (decide (entOk x) = false) := decide_eq_false (fun h => by have h := HE0.out.1 h; exact h5 h.2.2.2)
        go_enter Try.func74, Try.ntmps74
        go_upto_region 1 with fail
        clear hW
        go_wp2_with (first
          | (go_at_call 75; refine (HK.out _).mono ?_; rintro e w1 ⟨rfl, hb1⟩; have y2 := cell_of (hkeep HB.out.1 hb1) 2; have y3 := cell_of (hkeep HB.out.1 hb1) 3; have y4 := cell_of (hkeep HB.out.1 hb1) 4; have y5 := cell_of (hkeep HB.out.1 hb1) 5; have y6 := cell_of (hkeep HB.out.1 hb1) 6; simp at y2 y3 y4 y5 y6)
          | (go_at_call 72; refine (HBad.out _ _).mono ?_; rintro e w9 ⟨rfl, rfl⟩; first | rw [e1] | rw [e2]))
        go_ret
        exact ⟨by rw [HE.out]; rfl, chainB HB.out.2 (chainB hb1 (below_alloc _ _))⟩
      have d5 : decide ((x.tg.size : Int) ≤ 96) = true := decide_eq_true (by omega)
      have HE : Hid (decide (entOk x) = true) := decide_eq_true (HE0.out.2 ⟨h1, h2, ⟨h3, h4⟩, h5⟩)
      go_enter Try.func74, Try.ntmps74
      go_upto_region 1 with fail
      clear hW
      go_wp2_with (first
        | (go_at_call 75; refine (HK.out _).mono ?_; rintro e w1 ⟨rfl, hb1⟩; have y2 := cell_of (hkeep HB.out.1 hb1) 2; have y3 := cell_of (hkeep HB.out.1 hb1) 3; have y4 := cell_of (hkeep HB.out.1 hb1) 4; have y5 := cell_of (hkeep HB.out.1 hb1) 5; have y6 := cell_of (hkeep HB.out.1 hb1) 6; simp at y2 y3 y4 y5 y6)
        | (go_at_call 72; refine (HBad.out _ _).mono ?_; rintro e w9 ⟨rfl, rfl⟩; first | rw [e1] | rw [e2]))
      go_ret
      exact ⟨by rw [HE.out]; rfl, chainB HB.out.2 (chainB hb1 (below_alloc _ _))⟩
end
section
open Go.RowKit Go.Lib

/-- a note in memory -/
def Nt.arr (n : Nt) : Array Value := #[.int .i64 n.kind, .int .i64 n.epoch, .int .i64 n.vers, .int .i64 n.next, .int .i64 n.client, .int .i64 n.e.d, .string n.e.nm, .bool n.e.neg, .int .i64 n.e.id, .int .i64 n.e.kind, .int .i64 n.e.mode, .string n.e.tg, .int .i64 n.life, .int .i64 n.seq, .int .i64 n.err, .int .i64 n.op.kind, .int .i64 n.op.dir, .string n.op.nm, .int .i64 n.op.dst, .string n.op.new, .int .i64 n.op.mode, .string n.op.tg]
theorem nums3 (a b c : Int) : numsB [a, b, c] = numI a ++ (numI b ++ numI c) := by unfold numsB; simp
theorem nums4 (a b c d : Int) : numsB [a, b, c, d] = numI a ++ (numI b ++ (numI c ++ numI d)) := by unfold numsB; simp
theorem all3 {a b c : Int} (h1 : numOk a) (h2 : numOk b) (h3 : numOk c) : ∀ x ∈ [a, b, c], numOk x := by
  intro x hx
  simp only [List.mem_cons, List.not_mem_nil, or_false] at hx
  rcases hx with rfl | rfl | rfl <;> assumption
theorem all4 {a b c d : Int} (h1 : numOk a) (h2 : numOk b) (h3 : numOk c) (h4 : numOk d) : ∀ x ∈ [a, b, c, d], numOk x := by
  intro x hx
  simp only [List.mem_cons, List.not_mem_nil, or_false] at hx
  rcases hx with rfl | rfl | rfl | rfl <;> assumption

theorem Try.sizeNote : (Try.prog.info? 48).map (·.size) = some 22 := by kernel_rfl
/-- a whole note loaded, and stored (shut) -/
def noteS (v : Value) : Sem Value := Instr.loadAt 48 v
theorem loadN (v : Value) : Instr.loadAt 48 v = noteS v := rfl
theorem noteS_of {w : World} {g : Nat} {cs : Array Value} {t : TypeId} {fr : Nat × Nat} (h : w.heap[g]? = some (.cells cs t fr)) (hs : cs.size = 22) : (noteS (.pointer (some ⟨g, 0, none⟩))).run Try.prog w = .ok (.agg cs) w := by
  unfold noteS Instr.loadAt Instr.sureAddr
  simp [run_loadVar_row w g t 48 cs fr _ h Try.underlying48 rfl (by rw [hs]; exact Try.sizeNote)]
attribute [irreducible] noteS
attribute [local go_sem ↓ high] loadN
theorem seenB_len {n : Nt} (h : numsOk n) : (seenB n).length ≤ 24 := by
  unfold seenB
  have h1 := numI_len h.client
  have h2 := numI_len h.life
  have h3 := numI_len h.seq
  have h4 := numI_len h.err
  simp only [List.length_append]
  omega
end
end Go.Proofs.Ytekonakanieeaaa
