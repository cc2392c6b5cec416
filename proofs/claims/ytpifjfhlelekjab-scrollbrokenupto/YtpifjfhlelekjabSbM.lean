/- The walk of the law ScrollBroken. -/
import Derived.Test.YtpifjfhlelekjabSbF
namespace Go.Proofs.Ytpifjfhlelekjab
open Go.RowKit

theorem pl_small {v : Int} {m : Nat} (h0 : 0 ≤ v) (h1 : v < m) : (pl v m : Int) = v := by
  unfold pl
  rw [Int.tmod_eq_of_lt h0 h1, if_neg (by omega)]
  omega
theorem bn_small {v : Nat} (h : v ≤ 500) : bn (v : Int) = v := by
  unfold bn
  rw [if_neg (by omega)]
  omega
theorem rec_one {Q : Nat} (hQ : Q ≤ 400) (F : Int) (w : World) : Calls Try.prog 12 #[.int .i64 (1 + (Q : Int)), .int .i64 F] w fun e w' => ∃ v, e = .returned v ∧ OwnB w' w.heap.size v (bl (1 + Q) F) ∧ Below w.heap.size w w' := by
  have := record_any (1 + (Q : Int)) F w
  have e : bn (1 + (Q : Int)) = 1 + Q := by have := bn_small (v := 1 + Q) (by omega); rwa [Int.natCast_add] at this
  rw [e] at this; exact this
theorem wrap_one {Q : Nat} (hQ : Q ≤ 400) : IntKind.i64.wrap (1 + (Q : Int)) = 1 + (Q : Int) := by simp [IntKind.wrap, IntKind.signed, IntKind.bits]; omega
theorem place_one (v : Int) (n : Nat) (h : 1 ≤ n) (h2 : n ≤ 1024) : ∃ P, P < n ∧ ∀ w, Calls Try.prog 17 #[.int .i64 v, .int .i64 n] w fun e w' => e = .returned (.int .i64 (P : Nat)) ∧ w = w' :=
  ⟨pl v n, pl_lt v n h, fun w => (place_any v n w h h2).mono fun _ _ hq => ⟨hq.1, hq.2.symm⟩⟩
theorem rs_one {w : World} {x : Value} {l : List Int} (hx : RT w x l) : Rs (w.alloc (.cells #[x] 33)) (.slice (some ⟨w.heap.size, 0, none⟩) 1 1) [l] := by
  have hh : (w.alloc (.cells #[x] 33)).heap[w.heap.size]? = some (.cells #[x] 33 (0, 0)) := heap_new _ _
  have hx' := hx.below (below_alloc w (.cells #[x] 33))
  refine ⟨some ⟨w.heap.size, 0, none⟩, 1, rfl, .inr ⟨w.heap.size, 0, rfl, ⟨_, _, hh⟩, fun i y hy => ?_⟩⟩
  match i, hy with
  | 0, hy => cases hy; exact ⟨_, by rw [cell_of hh]; rfl, hx'⟩
theorem rs_pair {w : World} {x y : Value} {l m : List Int} (hx : RT w x l) (hy : RT w y m) : Rs (w.alloc (.cells #[x, y] 33)) (.slice (some ⟨w.heap.size, 0, none⟩) 2 2) [l, m] := by
  have hh : (w.alloc (.cells #[x, y] 33)).heap[w.heap.size]? = some (.cells #[x, y] 33 (0, 0)) := heap_new _ _
  have hx' := hx.below (below_alloc w (.cells #[x, y] 33))
  have hy' := hy.below (below_alloc w (.cells #[x, y] 33))
  refine ⟨some ⟨w.heap.size, 0, none⟩, 2, rfl, .inr ⟨w.heap.size, 0, rfl, ⟨_, _, hh⟩, fun i z hz => ?_⟩⟩
  match i, hz with
  | 0, hz => cases hz; exact ⟨_, by rw [cell_of hh]; rfl, hx'⟩
  | 1, hz => cases hz; exact ⟨_, by rw [cell_of hh]; rfl, hy'⟩
theorem bl_ok {Q : Nat} (hQ : Q ≤ 400) (F : Int) : Byt (bl (1 + Q) F) ∧ okR (bl (1 + Q) F) ∧ (bl (1 + Q) F).length ≤ 1000000 ∧ (bl (1 + Q) F).length = 1 + Q := ⟨bl_byt _ _, ⟨by rw [bl_len]; omega, by rw [bl_len]; omega⟩, by rw [bl_len]; omega, bl_len _ _⟩

set_option maxRecDepth 100000 in
set_option maxHeartbeats 16000000 in
theorem walk_ScrollBroken (n K A L F M : Int) (a : Option Addr) (len cap : Nat) (KK AA LL FF MM : Nat → Int) (K3 A3 L3 F3 M3 K4 A4 L4 F4 M4 : Int) (w : World) (_ : (Lit.int .i64 n).wf = true) (_ : (Lit.int .i64 A).wf = true) (_ : (Lit.int .i64 L).wf = true) (_ : (Lit.int .i64 F).wf = true) (_ : (Lit.int .i64 M).wf = true) (row : RowV w a len KK AA LL FF MM) (hlen : len ≤ 1048576) (_ : (Lit.int .i64 A3).wf = true) (_ : (Lit.int .i64 L3).wf = true) (_ : (Lit.int .i64 F3).wf = true) (_ : (Lit.int .i64 M3).wf = true) (_ : (Lit.int .i64 A4).wf = true) (_ : (Lit.int .i64 L4).wf = true) (_ : (Lit.int .i64 F4).wf = true) (_ : (Lit.int .i64 M4).wf = true) :
    Calls Try.prog 4 #[.int .i64 n, .agg #[.int .i64 K, .int .i64 A, .int .i64 L, .int .i64 F, .int .i64 M], .slice a len cap, .agg #[.int .i64 K3, .int .i64 A3, .int .i64 L3, .int .i64 F3, .int .i64 M3], .agg #[.int .i64 K4, .int .i64 A4, .int .i64 L4, .int .i64 F4, .int .i64 M4]] w fun e w' => e = .returned (.bool true) ∧ Below w.heap.size w w' := by
  have HR : Hid (RowV w a len KK AA LL FF MM) := row
  have HLn : Hid (len ≤ 1048576) := hlen
  obtain ⟨P, hP, hPc⟩ := place_one n 70 (by decide) (by decide)
  obtain ⟨Q1, hQ1, hQ1c⟩ := place_one L 50 (by decide) (by decide)
  obtain ⟨Q3, hQ3, hQ3c⟩ := place_one L3 50 (by decide) (by decide)
  obtain ⟨Q4, hQ4, hQ4c⟩ := place_one L4 50 (by decide) (by decide)
  have HP : Hid (∀ w, Calls Try.prog 17 #[.int .i64 n, .int .i64 70] w fun e w' => e = .returned (.int .i64 (P : Nat)) ∧ w = w') := hPc
  have HQ1 : Hid (∀ w, Calls Try.prog 17 #[.int .i64 L, .int .i64 50] w fun e w' => e = .returned (.int .i64 (Q1 : Nat)) ∧ w = w') := hQ1c
  have HQ3 : Hid (∀ w, Calls Try.prog 17 #[.int .i64 L3, .int .i64 50] w fun e w' => e = .returned (.int .i64 (Q3 : Nat)) ∧ w = w') := hQ3c
  have HQ4 : Hid (∀ w, Calls Try.prog 17 #[.int .i64 L4, .int .i64 50] w fun e w' => e = .returned (.int .i64 (Q4 : Nat)) ∧ w = w') := hQ4c
  have HF : Hid (∀ w, Calls Try.prog 5 #[.int .i64 (20 + (P : Int))] w fun e w' => ∃ b g sb s, e = .returned (.tuple #[.pointer (some ⟨b, 0, none⟩), .pointer (some ⟨sb, 0, none⟩), .bool true]) ∧ Lw w w' b g sb 1 0 0 s [] (23 + P) 1 ∧ s.on = true ∧ s.burns = false ∧ Gb s.cs 0) := fun w => by
    have e : 3 + pl (20 + (P : Int)) 97 = 23 + P := by have := pl_small (v := 20 + (P : Int)) (m := 97) (by omega) (by omega); omega
    have := fresh_g (20 + (P : Int)) w
    rw [e] at this; exact this
  have HQs : Hid (Q1 ≤ 400 ∧ Q3 ≤ 400 ∧ Q4 ≤ 400 ∧ Q1 < 50 ∧ Q3 < 50 ∧ Q4 < 50 ∧ P < 70) := by show _ ∧ _; omega
  clear row hlen hPc hQ1c hQ3c hQ4c hQ1 hQ3 hQ4
  go_enter Try.func4, Try.ntmps4
  go_upto_region 4 with (first
    | (go_at_call 17; refine (HP.out _).mono ?_; rintro e w1 ⟨rfl, rfl⟩)
    | (go_at_call 5; refine (HF.out _).mono ?_; rintro e w1 ⟨b, g, sb0, s0, rfl, hL0, hon0, hbu0, hgb0⟩))
  clear hP
  obtain ⟨W0, hW0⟩ : ∃ W0, ((w.alloc (.cells #[.int .i64 K, .int .i64 A, .int .i64 L, .int .i64 F, .int .i64 M] 31)).alloc (.cells #[.int .i64 K3, .int .i64 A3, .int .i64 L3, .int .i64 F3, .int .i64 M3] 31)).alloc (.cells #[.int .i64 K4, .int .i64 A4, .int .i64 L4, .int .i64 F4, .int .i64 M4] 31) = W0 := ⟨_, rfl⟩
  rw [hW0] at hL0
  have HB0 : Hid (Below w.heap.size w W0) := by show Below _ _ _; rw [← hW0]; exact chainB (chainB (below_alloc _ _) (below_alloc _ _)) (below_alloc _ _)
  have hX1 : Bx5 W0 w.heap.size K A L F M := by
    rw [← hW0]
    have h1 : Bx5 (w.alloc (.cells #[.int .i64 K, .int .i64 A, .int .i64 L, .int .i64 F, .int .i64 M] 31)) w.heap.size K A L F M := heap_new _ _
    exact (h1.below (below_alloc _ _)).below (below_alloc _ _)
  have hX2 : Bx5 W0 (w.heap.size + 1) K3 A3 L3 F3 M3 := by
    rw [← hW0]
    have h1 : Bx5 ((w.alloc (.cells #[.int .i64 K, .int .i64 A, .int .i64 L, .int .i64 F, .int .i64 M] 31)).alloc (.cells #[.int .i64 K3, .int .i64 A3, .int .i64 L3, .int .i64 F3, .int .i64 M3] 31)) (w.alloc (.cells #[.int .i64 K, .int .i64 A, .int .i64 L, .int .i64 F, .int .i64 M] 31)).heap.size K3 A3 L3 F3 M3 := heap_new _ _
    have h2 := h1.below (below_alloc _ (.cells #[.int .i64 K4, .int .i64 A4, .int .i64 L4, .int .i64 F4, .int .i64 M4] 31))
    simpa using h2
  have hX3 : Bx5 W0 (w.heap.size + 2) K4 A4 L4 F4 M4 := by
    rw [← hW0]
    have h1 : Bx5 (((w.alloc (.cells #[.int .i64 K, .int .i64 A, .int .i64 L, .int .i64 F, .int .i64 M] 31)).alloc (.cells #[.int .i64 K3, .int .i64 A3, .int .i64 L3, .int .i64 F3, .int .i64 M3] 31)).alloc (.cells #[.int .i64 K4, .int .i64 A4, .int .i64 L4, .int .i64 F4, .int .i64 M4] 31)) ((w.alloc (.cells #[.int .i64 K, .int .i64 A, .int .i64 L, .int .i64 F, .int .i64 M] 31)).alloc (.cells #[.int .i64 K3, .int .i64 A3, .int .i64 L3, .int .i64 F3, .int .i64 M3] 31)).heap.size K4 A4 L4 F4 M4 := heap_new _ _
    simpa using h1
  obtain ⟨-, -, x2, x3, -⟩ := (hX1.below hL0.bel).cells
  have HX : Hid (Bx5 W0 (w.heap.size + 1) K3 A3 L3 F3 M3 ∧ Bx5 W0 (w.heap.size + 2) K4 A4 L4 F4 M4) := ⟨hX2, hX3⟩
  have H1 : Hid (Lw W0 w1 b g sb0 1 0 0 s0 [] (23 + P) 1 ∧ s0.on = true ∧ s0.burns = false ∧ Gb s0.cs 0) := ⟨hL0, hon0, hbu0, hgb0⟩
  clear hL0 hon0 hbu0 hgb0 hX1 hX2 hX3 hW0
  obtain ⟨l1, hl1⟩ : ∃ l1, bl (1 + Q1) F = l1 := ⟨_, rfl⟩
  have HL1 : Hid (Byt l1 ∧ okR l1 ∧ l1.length ≤ 1000000 ∧ nb l1.length = 1) := by
    have h := bl_ok HQs.out.1 F; rw [hl1] at h; refine ⟨h.1, h.2.1, h.2.2.1, ?_⟩; rw [h.2.2.2]; unfold nb; have := HQs.out; omega
  go_region_held3 (fun w' => w'.cell? ⟨w.heap.size, 2, none⟩ = some (.int .i64 L) ∧ w'.cell? ⟨w.heap.size, 3, none⟩ = some (.int .i64 F))
    (first | exact ⟨x2, x3⟩ | exact keep2 (by assumption) (by assumption) | assumption)
    (first
      | (go_at_call 17; refine (HQ1.out _).mono ?_; rintro e w2 ⟨rfl, rfl⟩)
      | (go_at_call 12; rw [wrap_one HQs.out.1]; refine (rec_one HQs.out.1 F _).mono ?_; rintro e w3 ⟨v3, rfl, ho3, hb3⟩))
  rw [hl1] at ho3
  obtain ⟨av, nv, ev⟩ := owns_len ho3
  subst ev
  have hb1 : Below w1.heap.size w1 w3 := chainB (Below.refl _ _).drew hb3
  have H3 : Hid (Lw W0 w3 b g sb0 1 0 0 s0 [] (23 + P) 1 ∧ OwnB w3 w1.heap.size (.slice av l1.length nv) l1) := ⟨H1.out.1.below hb1, ho3⟩
  clear ho3 hb3 hb1 hl1 x2 x3
  go_upto_if 47 with (go_at_call 13; refine (lw_appendG H3.out.1 H1.out.2.1 (by have := HQs.out; omega) (by omega) _ l1 H3.out.2.rt HL1.out.1 HL1.out.2.2.1).mono ?_; rintro e w4 ⟨E, s4, R4, u4, rfl, hL4, hO4, -, hcase, -, -, h0, -, hg⟩; obtain ⟨rfl, on4, bu4⟩ := h0 HL1.out.2.1 (by rw [H3.out.1.hS, HL1.out.2.2.2]; omega) H1.out.2.2.1; obtain ⟨rfl, rfl⟩ : R4 = [] ++ [l1] ∧ u4 = 0 + nb l1.length := (by rcases hcase with q | q; exact ⟨q.2.1, q.2.2.2.2⟩; exact absurd rfl q.1))
  rw [HL1.out.2.2.2] at hL4
  have H4 : Hid (Lw W0 w4 b g sb0 1 0 1 s4 [l1] (23 + P) 9 ∧ s4.on = true ∧ s4.burns = false ∧ Gb s4.cs 1 ∧ OwnB w4 w1.heap.size (.slice av l1.length nv) l1) := ⟨hL4, on4, bu4, hg 1 (H1.out.2.2.2.le (by omega)) (by omega) (by omega), H3.out.2.law H3.out.1 hO4⟩
  clear hL4 on4 bu4 hcase h0 hg hO4
  go_wp2
  go_loopw [12, 15] (fun t i wx => ∃ k : Nat, k ≤ len ∧ i = .int .i64 k ∧ ∃ sb s, t = .pointer (some ⟨sb, 0, none⟩) ∧ Lw W0 wx b g sb 1 0 1 s [l1] (23 + P) (9 + 1000 * k) ∧ s.on = true ∧ s.burns = false ∧ Gb s.cs (k + 1) ∧ OwnB wx w1.heap.size (.slice av l1.length nv) l1) (fun _ i _ => len - (intOf i).toNat)
  case atStart => exact ⟨0, Nat.zero_le _, rfl, sb0, s4, rfl, H4.out.1, H4.out.2.1, H4.out.2.2.1, H4.out.2.2.2.1, H4.out.2.2.2.2⟩
  case round =>
    obtain ⟨k, hk, rfl, sb, s, rfl, hLw, hon, hbu, hgb, hfr⟩ := hrel
    by_cases hlt : k < len
    · obtain ⟨ab, off, rfl, hab, r0, r1, r2, r3, r4, -⟩ := HR.out.at (chainB HB0.out hLw.bel) hlt
      have hki : (k : Int) < (len : Int) := by omega
      have HlK : Hid (k < len) := hlt
      obtain ⟨xk, hxk⟩ : ∃ x, KK k = x := ⟨_, rfl⟩
      obtain ⟨xa, hxa⟩ : ∃ x, AA k = x := ⟨_, rfl⟩
      obtain ⟨xl, hxl⟩ : ∃ x, LL k = x := ⟨_, rfl⟩
      obtain ⟨xf, hxf⟩ : ∃ x, FF k = x := ⟨_, rfl⟩
      obtain ⟨xm, hxm⟩ : ∃ x, MM k = x := ⟨_, rfl⟩
      rw [hxk] at r0
      rw [hxa] at r1
      rw [hxl] at r2
      rw [hxf] at r3
      rw [hxm] at r4
      have HK9 : Hid (9 + 1000 * (k : Int) + 9000 < 9223372036854775807) := by show _ < _; have := HLn.out; omega
      have HW1 : Hid (wrap64 ((k : Int) + 1) = ((k + 1 : Nat) : Int)) := by show _ = _; have := HLn.out; unfold wrap64; omega
      have HNx : Hid (nextG s.cs ≤ k + 2 ∧ nextG s.cs ≤ 1073741824) := by
        have h1 := hgb.next hLw.sc (by omega); have := HLn.out; show _ ∧ _; omega
      have H : Hid (Lw W0 wr b g sb 1 0 1 s [l1] (23 + P) (9 + 1000 * k) ∧ s.on = true ∧ s.burns = false ∧ Gb s.cs (k + 1) ∧ OwnB wr w1.heap.size (.slice av l1.length nv) l1) := ⟨hLw, hon, hbu, hgb, hfr⟩
      clear hxk hxa hxl hxf hxm hLw hon hbu hgb hfr hlt hk
      go_upto_region 11 with fail
      obtain ⟨X, hX⟩ : ∃ X, wr.heap.size = X := ⟨_, rfl⟩
      obtain ⟨W, hWw⟩ : ∃ W, wr.alloc (.cells #[.int .i64 xk, .int .i64 xa, .int .i64 xl, .int .i64 xf, .int .i64 xm] 31) = W := ⟨_, rfl⟩
      have hBx : Bx5 W X xk xa xl xf xm := by rw [← hWw, ← hX]; exact heap_new _ _
      have hbW : Below wr.heap.size wr W := by rw [← hWw]; exact below_alloc _ _
      obtain ⟨x0, x1, x2, x3, x4⟩ := hBx.cells
      have HW : Hid (Lw W0 W b g sb 1 0 1 s [l1] (23 + P) (9 + 1000 * k) ∧ OwnB W w1.heap.size (.slice av l1.length nv) l1 ∧ Bx5 W X xk xa xl xf xm) := ⟨H.out.1.below hbW, H.out.2.2.2.2.below hbW, hBx⟩
      rw [hWw, hX]
      clear hBx hbW hWw hX r0 r1 r2 r3 r4
      obtain ⟨Q5, hQ5, hQ5c⟩ := place_one xl 120 (by decide) (by decide)
      obtain ⟨Q6, hQ6, hQ6c⟩ := place_one xf 120 (by decide) (by decide)
      have HQ5 : Hid (∀ w, Calls Try.prog 17 #[.int .i64 xl, .int .i64 120] w fun e w' => e = .returned (.int .i64 (Q5 : Nat)) ∧ w = w') := hQ5c
      have HQ6 : Hid (∀ w, Calls Try.prog 17 #[.int .i64 xf, .int .i64 120] w fun e w' => e = .returned (.int .i64 (Q6 : Nat)) ∧ w = w') := hQ6c
      have HQz : Hid (Q5 ≤ 400 ∧ Q6 ≤ 400 ∧ Q5 < 120 ∧ Q6 < 120) := by show _ ∧ _; omega
      obtain ⟨l5, hl5⟩ : ∃ l5, bl (1 + Q5) xf = l5 := ⟨_, rfl⟩
      obtain ⟨l6, hl6⟩ : ∃ l6, bl (1 + Q6) (IntKind.i64.wrap (xf + 1)) = l6 := ⟨_, rfl⟩
      have HL5 : Hid (Byt l5 ∧ okR l5 ∧ l5.length ≤ 1000000 ∧ l5.length = 1 + Q5) := by have h := bl_ok HQz.out.1 xf; rw [hl5] at h; exact h
      have HL6 : Hid (Byt l6 ∧ okR l6 ∧ l6.length ≤ 1000000 ∧ l6.length = 1 + Q6) := by have h := bl_ok HQz.out.2.1 (IntKind.i64.wrap (xf + 1)); rw [hl6] at h; exact h
      have HR5 : Hid (∀ w, Calls Try.prog 12 #[.int .i64 (1 + (Q5 : Int)), .int .i64 xf] w fun e w' => ∃ a n, e = .returned (.slice a l5.length n) ∧ OwnB w' w.heap.size (.slice a l5.length n) l5 ∧ Below w.heap.size w w') := fun w => by
        rw [← hl5]; refine (rec_one HQz.out.1 xf w).mono ?_; rintro e w' ⟨v, rfl, h1, h2⟩; obtain ⟨a, n, rfl⟩ := owns_len h1; exact ⟨a, n, rfl, h1, h2⟩
      have HR6 : Hid (∀ w, Calls Try.prog 12 #[.int .i64 (1 + (Q6 : Int)), .int .i64 (IntKind.i64.wrap (xf + 1))] w fun e w' => ∃ a n, e = .returned (.slice a l6.length n) ∧ OwnB w' w.heap.size (.slice a l6.length n) l6 ∧ Below w.heap.size w w') := fun w => by
        rw [← hl6]; refine (rec_one HQz.out.2.1 _ w).mono ?_; rintro e w' ⟨v, rfl, h1, h2⟩; obtain ⟨a, n, rfl⟩ := owns_len h1; exact ⟨a, n, rfl, h1, h2⟩
      clear hQ5c hQ6c hQ5 hQ6 hl5 hl6
      go_region_held3 (fun w' => w'.cell? ⟨X, 2, none⟩ = some (.int .i64 xl) ∧ w'.cell? ⟨X, 3, none⟩ = some (.int .i64 xf))
        (first | exact ⟨x2, x3⟩ | exact keep2 (by assumption) (by assumption) | assumption | exact keep2 (by assumption) (below_alloc _ _))
        (first
          | (go_at_call_of 17 (Value.int .i64 xl); refine (HQ5.out _).mono ?_; rintro e w2 ⟨rfl, rfl⟩)
          | (go_at_call_of 17 (Value.int .i64 xf); refine (HQ6.out _).mono ?_; rintro e w2 ⟨rfl, rfl⟩)
          | (go_at_call 12; rw [wrap_one HQz.out.1]; refine (HR5.out _).mono ?_; rintro e w5 ⟨a5, n5, rfl, ho5, hb5⟩)
          | (go_at_call 12; rw [wrap_one HQz.out.2.1]; refine (HR6.out _).mono ?_; rintro e w6 ⟨a6, n6, rfl, ho6, hb6⟩))
      have hb1 : Below W.heap.size W w6 := chainB (chainB (Below.refl _ _).drew hb5) hb6
      have ho5' : OwnB w6 W.heap.size (.slice a5 l5.length n5) l5 := OwnB.below (show OwnB w5 W.heap.size _ _ from ho5) hb6
      obtain ⟨W7, hW7⟩ : ∃ W7, w6.alloc (.cells #[.slice a5 l5.length n5, .slice a6 l6.length n6] 33) = W7 := ⟨_, rfl⟩
      obtain ⟨gl, hgl⟩ : ∃ gl, w6.heap.size = gl := ⟨_, rfl⟩
      have hh7 : W7.heap[gl]? = some (.cells #[.slice a5 l5.length n5, .slice a6 l6.length n6] 33 (0, 0)) := by rw [← hW7, ← hgl]; exact heap_new _ _
      have hb7 : Below w6.heap.size w6 W7 := by rw [← hW7]; exact below_alloc _ _
      have d0 : W7.cell? ⟨gl, 0, none⟩ = some (.slice a5 l5.length n5) := by rw [cell_of hh7]; rfl
      have d1 : W7.cell? ⟨gl, 1, none⟩ = some (.slice a6 l6.length n6) := by rw [cell_of hh7]; rfl
      have hRs : Rs W7 (.slice (some ⟨gl, 0, none⟩) 2 2) [l5, l6] := by
        refine ⟨some ⟨gl, 0, none⟩, 2, rfl, .inr ⟨gl, 0, rfl, ⟨_, _, hh7⟩, fun i x hx => ?_⟩⟩
        match i, hx with
        | 0, hx => cases hx; exact ⟨_, d0, (ho5'.below hb7).rt⟩
        | 1, hx => cases hx; exact ⟨_, d1, (ho6.below hb7).rt⟩
      have hX7 := (HW.out.2.2.below hb1).below hb7
      obtain ⟨-, y1, -⟩ := (hX7.below (Below.refl _ W7).drew).cells
      have H7 : Hid (Lw W0 W7.drew b g sb 1 0 1 s [l1] (23 + P) (9 + 1000 * k) ∧ OwnB W7.drew w1.heap.size (.slice av l1.length nv) l1 ∧ Rs W7.drew (.slice (some ⟨gl, 0, none⟩) 2 2) [l5, l6]) := ⟨((HW.out.1.below hb1).below hb7).below (Below.refl _ W7).drew, ((HW.out.2.1.below hb1).below hb7).below (Below.refl _ W7).drew, hRs.below (Below.refl _ W7).drew⟩
      obtain ⟨c5, hc5⟩ : ∃ c5, nb l5.length = c5 := ⟨_, rfl⟩
      obtain ⟨c6, hc6⟩ : ∃ c6, nb l6.length = c6 := ⟨_, rfl⟩
      have HB5 : Hid (Calls Try.prog 8 #[.slice a5 l5.length n5] W7.drew fun e w' => e = .returned (.int .i64 (c5 : Nat)) ∧ W7.drew = w') := by
        have := blocks_any (.slice a5 l5.length n5) l5 W7.drew ((ho5'.below hb7).below (Below.refl _ W7).drew).rb HL5.out.2.2.1
        rw [hc5] at this; exact this.mono fun _ _ hq => ⟨hq.1, hq.2.symm⟩
      have HB6 : Hid (Calls Try.prog 8 #[.slice a6 l6.length n6] W7.drew fun e w' => e = .returned (.int .i64 (c6 : Nat)) ∧ W7.drew = w') := by
        have := blocks_any (.slice a6 l6.length n6) l6 W7.drew ((ho6.below hb7).below (Below.refl _ W7).drew).rb HL6.out.2.2.1
        rw [hc6] at this; exact this.mono fun _ _ hq => ⟨hq.1, hq.2.symm⟩
      have b5 : c5 ≤ 3 := by rw [← hc5, HL5.out.2.2.2]; unfold nb; have := HQz.out; omega
      have b6 : c6 ≤ 3 := by rw [← hc6, HL6.out.2.2.2]; unfold nb; have := HQz.out; omega
      have HTt : Hid (tot [l5, l6] = c5 + c6) := by show tot ([l5] ++ [l6]) = _; rw [tot_snoc, hc6]; show tot ([] ++ [l5]) + c6 = _; rw [tot_snoc, hc5, tot_nil, Nat.zero_add]
      obtain ⟨P8, hP8, hP8c⟩ := place_one xa (c5 + c6 + 1) (by omega) (by omega)
      have HP8 : Hid (∀ w, Calls Try.prog 17 #[.int .i64 xa, .int .i64 ((c5 : Int) + (c6 : Int) + 1)] w fun e w' => e = .returned (.int .i64 (P8 : Nat)) ∧ w = w') := fun w => by
        have := hP8c w; rw [Int.natCast_add, Int.natCast_add] at this; exact this
      have HP9 : Hid (P8 ≤ c5 + c6 ∧ c5 ≤ 3 ∧ c6 ≤ 3) := by show _ ∧ _; omega
      rw [hW7, hgl]
      clear hb1 ho5' ho5 ho6 hb5 hb6 hb7 hW7 hgl hh7 hRs hX7 hc5 hc6 hP8c hP8 x0 x1 x2 x3 x4
      go_upto_region 12 with fail
      go_region_held3 (fun w' => w'.cell? ⟨gl, 0, none⟩ = some (.slice a5 l5.length n5) ∧ w'.cell? ⟨gl, 1, none⟩ = some (.slice a6 l6.length n6))
        (first | exact ⟨d0, d1⟩ | exact keep2 (by assumption) (by assumption) | assumption)
        (first
          | (go_at_call_of 8 (Value.slice a5 l5.length n5); refine HB5.out.mono ?_; rintro e w8 ⟨rfl, rfl⟩)
          | (go_at_call_of 8 (Value.slice a6 l6.length n6); refine HB6.out.mono ?_; rintro e w8 ⟨rfl, rfl⟩))
      rw [show IntKind.i64.wrap ((c5 : Int) + (c6 : Int)) = (c5 : Int) + (c6 : Int) by simp [IntKind.wrap, IntKind.signed, IntKind.bits]; omega]
      clear d0 d1
      have HSR : Hid (∀ v v' w, Rs w v [l1] → Rs w v' [l1] → Calls Try.prog 15 #[v, v'] w fun e w' => e = .returned (.bool true) ∧ Below w.heap.size w w') := fun v v' w h h' => by
        have hs : ∀ x ∈ [l1], x.length ≤ 1000000 := fun x hx => by
          have : x = l1 := by simpa using hx
          rw [this]; exact HL1.out.2.2.1
        have := sameRows_any v v' [l1] [l1] w h h' (by show 1 ≤ 1000000; decide) (by show 1 ≤ 1000000; decide) hs hs; rw [decide_eq_true (rfl : [l1] = [l1])] at this; exact this
      go_upto_if 93 with (first
        | (go_at_call 17; refine (HP8.out _).mono ?_; rintro e w8 ⟨rfl, rfl⟩)
        | (go_at_call 18; refine (lw_fuse H7.out.1 H.out.2.1 (P8 : Int) (by have := HP9.out; omega)).mono ?_; rintro e w9 ⟨E9, s9, rfl, hL9, on9, hO9, bu9, lf9, cs9⟩; have hR9 := H7.out.2.2.only hO9 H7.out.1.els; have hf9 := H7.out.2.1.law H7.out.1 hO9)
        | (go_at_call 9; refine (lw_turnB hL9 on9 (by have := HQs.out; omega) HK9.out _ [l5, l6] hR9 (fun x hx => by rcases List.mem_cons.1 hx with e | hx; rw [e]; exact ⟨HL5.out.1, HL5.out.2.1⟩; rw [List.mem_singleton.1 hx]; exact ⟨HL6.out.1, HL6.out.2.1⟩) (by show 2 ≤ 1000; decide) (by rw [HTt.out]; have := HP9.out; omega) (by rw [cs9]; exact HNx.out.2) bu9 (by rw [lf9, HTt.out]; have := HP9.out; omega)).mono ?_; rintro e w10 ⟨s10, rfl, hL10, hO10, gb10⟩; have hf10 := hf9.law hL9 hO10; rw [cs9] at gb10; have hg10 := gb10 (k + 2) (H.out.2.2.2.1.le (by omega)) (by have := HLn.out; have := HlK.out; omega) HNx.out.1))
      have H10 : Hid (Lw W0 w10 b g sb 1 0 1 s10 [l1] (23 + P) (9 + 1000 * k + 600) ∧ OwnB w10 w1.heap.size (.slice av l1.length nv) l1 ∧ Gb s10.cs (k + 2)) := ⟨hL10, hf10, hg10⟩
      clear hL10 hO10 gb10 hf10 hg10 hL9 on9 hO9 bu9 lf9 cs9 hR9 hf9 y1 b5 b6
      try rw [show ((21 : Int) != 21) = false from rfl]
      go_wp2_with (first
        | (go_at_call 19; refine (lw_power H10.out.1).mono ?_; rintro e w11 ⟨s11, rfl, hL11, on11, bu11, cs11, hO11⟩; have hf11 := H10.out.2.1.law H10.out.1 hO11)
        | (go_at_call 14; refine (lw_open hL11 (by have := HQs.out; omega)).mono ?_; rintro e w12 ⟨sb2, vR, rfl, hL12, hR12, hB12⟩; have hf12 := hf11.below hB12)
        | (go_at_call 15; refine (HSR.out _ _ _ (hR12.rs.below (below_alloc _ _)) (rs_one hf12.rt)).mono ?_; rintro e w13 ⟨rfl, hb13⟩))
      go_roundw
      case rel => exact ⟨k + 1, HlK.out, by rw [HW1.out], sb2, s11, rfl, ((hL12.below (below_alloc _ _)).below hb13).le (by push_cast; omega), on11, bu11, by rw [cs11]; exact H10.out.2.2, (hf12.below (below_alloc _ _)).below hb13⟩
      case measure => have := HlK.out; rw [HW1.out]; simp [intOf]; omega
    · have hki : ¬ ((k : Int) < (len : Int)) := by omega
      obtain ⟨-, -, z2, z3, -⟩ := (HX.out.1.below hLw.bel).cells
      have hy3 := HX.out.2.below hLw.bel
      have HNx : Hid (nextG s.cs ≤ 1073741824) := by
        have h1 := hgb.next hLw.sc (by omega); have := HLn.out; show _ ≤ _; omega
      have HK9 : Hid (9 + 1000 * (k : Int) + 9000 < 9223372036854775807) := by show _ < _; have := HLn.out; omega
      have H : Hid (Lw W0 wr b g sb 1 0 1 s [l1] (23 + P) (9 + 1000 * k) ∧ s.on = true ∧ s.burns = false ∧ Bx5 wr (w.heap.size + 2) K4 A4 L4 F4 M4) := ⟨hLw, hon, hbu, hy3⟩
      obtain ⟨l3, hl3⟩ : ∃ l3, bl (1 + Q3) F3 = l3 := ⟨_, rfl⟩
      obtain ⟨l4, hl4⟩ : ∃ l4, bl (1 + Q4) F4 = l4 := ⟨_, rfl⟩
      have HL3 : Hid (Byt l3 ∧ okR l3 ∧ l3.length ≤ 1000000 ∧ nb l3.length = 1) := by
        have h := bl_ok HQs.out.2.1 F3; rw [hl3] at h; refine ⟨h.1, h.2.1, h.2.2.1, ?_⟩; rw [h.2.2.2]; unfold nb; have := HQs.out; omega
      have HL4 : Hid (Byt l4 ∧ okR l4 ∧ l4.length ≤ 1000000 ∧ nb l4.length = 1) := by
        have h := bl_ok HQs.out.2.2.1 F4; rw [hl4] at h; refine ⟨h.1, h.2.1, h.2.2.1, ?_⟩; rw [h.2.2.2]; unfold nb; have := HQs.out; omega
      have HR3 : Hid (∀ w, Calls Try.prog 12 #[.int .i64 (1 + (Q3 : Int)), .int .i64 F3] w fun e w' => ∃ a n, e = .returned (.slice a l3.length n) ∧ OwnB w' w.heap.size (.slice a l3.length n) l3 ∧ Below w.heap.size w w') := fun w => by
        rw [← hl3]; refine (rec_one HQs.out.2.1 F3 w).mono ?_; rintro e w' ⟨v, rfl, h1, h2⟩; obtain ⟨a, n, rfl⟩ := owns_len h1; exact ⟨a, n, rfl, h1, h2⟩
      have HR4 : Hid (∀ w, Calls Try.prog 12 #[.int .i64 (1 + (Q4 : Int)), .int .i64 F4] w fun e w' => ∃ a n, e = .returned (.slice a l4.length n) ∧ OwnB w' w.heap.size (.slice a l4.length n) l4 ∧ Below w.heap.size w w') := fun w => by
        rw [← hl4]; refine (rec_one HQs.out.2.2.1 F4 w).mono ?_; rintro e w' ⟨v, rfl, h1, h2⟩; obtain ⟨a, n, rfl⟩ := owns_len h1; exact ⟨a, n, rfl, h1, h2⟩
      clear hLw hon hbu hgb hfr hlt hk hy3 hl3 hl4
      go_upto_region 21 with fail
      go_region_held3 (fun w' => w'.cell? ⟨w.heap.size + 1, 2, none⟩ = some (.int .i64 L3) ∧ w'.cell? ⟨w.heap.size + 1, 3, none⟩ = some (.int .i64 F3))
        (first | exact ⟨z2, z3⟩ | exact keep2 (by assumption) (by assumption) | assumption)
        (first
          | (go_at_call 17; refine (HQ3.out _).mono ?_; rintro e w2 ⟨rfl, rfl⟩)
          | (go_at_call 12; rw [wrap_one HQs.out.2.1]; refine (HR3.out _).mono ?_; rintro e w5 ⟨a5, n5, rfl, ho5, hb5⟩))
      have hb1 : Below wr.heap.size wr w5 := chainB (Below.refl _ _).drew hb5
      have H5 : Hid (Lw W0 w5 b g sb 1 0 1 s [l1] (23 + P) (9 + 1000 * k) ∧ OwnB w5 wr.heap.size (.slice a5 l3.length n5) l3) := ⟨H.out.1.below hb1, ho5⟩
      obtain ⟨-, -, q2, q3, -⟩ := (show Bx5 w5 (w.heap.size + 1 + 1) K4 A4 L4 F4 M4 from H.out.2.2.2.below hb1).cells
      clear ho5 hb5 hb1 z2 z3
      go_upto_region 22 with fail
      go_region_held3 (fun w' => w'.cell? ⟨w.heap.size + 1 + 1, 2, none⟩ = some (.int .i64 L4) ∧ w'.cell? ⟨w.heap.size + 1 + 1, 3, none⟩ = some (.int .i64 F4))
        (first | exact ⟨q2, q3⟩ | exact keep2 (by assumption) (by assumption) | assumption)
        (first
          | (go_at_call 17; refine (HQ4.out _).mono ?_; rintro e w2 ⟨rfl, rfl⟩)
          | (go_at_call 12; rw [wrap_one HQs.out.2.2.1]; refine (HR4.out _).mono ?_; rintro e w6 ⟨a6, n6, rfl, ho6, hb6⟩))
      have hb1 : Below w5.heap.size w5 w6 := chainB (Below.refl _ _).drew hb6
      have H6 : Hid (Lw W0 w6 b g sb 1 0 1 s [l1] (23 + P) (9 + 1000 * k) ∧ OwnB w6 wr.heap.size (.slice a5 l3.length n5) l3 ∧ OwnB w6 w5.heap.size (.slice a6 l4.length n6) l4) := ⟨H5.out.1.below hb1, H5.out.2.below hb1, ho6⟩
      clear ho6 hb6 hb1 q2 q3
      have HSR : Hid (∀ L v v' w, (∀ x ∈ L, x.length ≤ 1000000) → L.length ≤ 1000000 → Rs w v L → Rs w v' L → Calls Try.prog 15 #[v, v'] w fun e w' => e = .returned (.bool true) ∧ Below w.heap.size w w') := fun L v v' w hs hn h h' => by
        have := sameRows_any v v' L L w h h' hn hn hs hs; rw [decide_eq_true (rfl : L = L)] at this; exact this
      have HTn : Hid (∀ w8 v, Lw W0 w8 b g sb 1 0 1 s [l1] (23 + P) (9 + 1000 * k) → Rs w8 v [l3] → Calls Try.prog 9 #[.pointer (some ⟨sb, 0, none⟩), v] w8 fun e w9 => ∃ s9 G9 H9, e = .returned (.int .i64 0) ∧ Lw W0 w9 b g sb G9 H9 1 s9 [l3] (23 + P) (9 + 1000 * k + 600) ∧ Only (fun x => x = b ∨ x = g ∨ x = sb) w8 w9 ∧ s9.on = true ∧ s9.burns = false) := fun w8 v h hv => by
        have hall : ∀ x ∈ [l3], x = l3 := fun x hx => by simpa using hx
        refine (lw_turnG h H.out.2.1 (by have := HQs.out; omega) HK9.out v [l3] hv (fun x hx => by rw [hall x hx]; exact ⟨HL3.out.1, HL3.out.2.2.1⟩) (by show 1 ≤ 1000; decide)).mono ?_
        rintro e w9 ⟨E, s9, R9, u9, G9, H9, rfl, hL9, hO9, hPw, hcase, -, -, h0, -, -⟩
        have ht : tot [l3] = 1 := by show tot ([] ++ [l3]) = _; rw [tot_snoc, HL3.out.2.2.2, tot_nil]
        obtain ⟨rfl, hb9⟩ := h0 (fun x hx => by rw [hall x hx]; exact HL3.out.2.1) (by rw [h.hS, ht]; omega) HNx.out H.out.2.2.1
        obtain ⟨rfl, rfl⟩ : R9 = [l3] ∧ u9 = 1 := by
          rcases hcase with q | q
          · exact ⟨q.2.1, by rw [q.2.2.2.2.1, ht]⟩
          · exact absurd rfl q.1
        have hon9 : s9.on = true := by
          rcases hPw with q | q
          · exact absurd q.1 (by decide)
          · exact q.2
        exact ⟨s9, G9, H9, rfl, hL9, hO9, hon9, hb9⟩
      have hm3 : ∀ x ∈ [l3], x.length ≤ 1000000 := fun x hx => by rw [List.mem_singleton.1 hx]; exact HL3.out.2.2.1
      have hm34 : ∀ x ∈ [l3, l4], x.length ≤ 1000000 := fun x hx => by
        rcases List.mem_cons.1 hx with e | hx
        · rw [e]; exact HL3.out.2.2.1
        · rw [List.mem_singleton.1 hx]; exact HL4.out.2.2.1
      have HM : Hid ((∀ x ∈ [l3], x.length ≤ 1000000) ∧ (∀ x ∈ [l3, l4], x.length ≤ 1000000)) := ⟨hm3, hm34⟩
      clear hm3 hm34
      go_upto_if 130 with (go_at_call 9; refine (HTn.out _ _ (H6.out.1.below (below_alloc _ _)) (rs_one H6.out.2.1.rt)).mono ?_; rintro e w9 ⟨s9, G9, H9, rfl, hL9, hO9, on9, bu9⟩)
      have hL8 := H6.out.1.below (below_alloc w6 (.cells #[.slice a5 l3.length n5] 33))
      have H9' : Hid (Lw W0 w9 b g sb G9 H9 1 s9 [l3] (23 + P) (9 + 1000 * k + 600) ∧ s9.on = true ∧ s9.burns = false ∧ OwnB w9 wr.heap.size (.slice a5 l3.length n5) l3 ∧ OwnB w9 w5.heap.size (.slice a6 l4.length n6) l4) := ⟨hL9, on9, bu9, (H6.out.2.1.below (below_alloc _ _)).law hL8 hO9, (H6.out.2.2.below (below_alloc _ _)).law hL8 hO9⟩
      have HAp : Hid (∀ w4 v, Lw W0 w4 b g sb G9 H9 1 s9 [l3] (23 + P) (9 + 1000 * k + 600) → RT w4 v l4 → Calls Try.prog 13 #[.pointer (some ⟨sb, 0, none⟩), v] w4 fun e w5 => ∃ s5 u5, e = .returned (.int .i64 0) ∧ Lw W0 w5 b g sb G9 H9 u5 s5 [l3, l4] (23 + P) (9 + 1000 * k + 600 + 8) ∧ Only (fun x => x = b ∨ x = g ∨ x = sb) w4 w5) := fun w4 v h hv => by
        refine (lw_append h H9'.out.2.1 (by have := HQs.out; omega) (by have := HK9.out; have := HLn.out; omega) v l4 hv HL4.out.1 HL4.out.2.2.1).mono ?_
        rintro e w5 ⟨E, s5, R5, u5, rfl, hL5, hO5, -, hcase, -, -, h0, -⟩
        obtain ⟨rfl, -, -⟩ := h0 HL4.out.2.1 (by rw [h.hS, HL4.out.2.2.2]; omega) H9'.out.2.2.1
        obtain rfl : R5 = [l3] ++ [l4] := by
          rcases hcase with q | q
          · exact q.2.1
          · exact absurd rfl q.1
        exact ⟨s5, u5, rfl, hL5, hO5⟩
      clear hL8 hL9 on9 bu9 hO9
      try rw [show ((0 : Int) != 0) = false from rfl]
      go_upto_if 151 with (first
        | (go_at_call 14; refine (lw_open H9'.out.1 (by have := HQs.out; omega)).mono ?_; rintro e w10 ⟨sb2, vR, rfl, hL10, hR10, hB10⟩; have hs10 := H9'.out.2.2.2.1.below hB10)
        | (go_at_call 15; refine (HSR.out [l3] _ _ _ HM.out.1 (by show 1 ≤ 1000000; decide) (hR10.rs.below (below_alloc _ _)) (rs_one hs10.rt)).mono ?_; rintro e w11 ⟨rfl, hb11⟩; have hL11 := ((H9'.out.1.below hB10).below (below_alloc _ _)).below hb11; have ht11 := ((H9'.out.2.2.2.2.below hB10).below (below_alloc _ _)).below hb11; have hs11 := (hs10.below (below_alloc _ _)).below hb11)
        | (go_at_call 13; refine (HAp.out _ _ hL11 ht11.rt).mono ?_; rintro e w12 ⟨s12, u12, rfl, hL12, hO12⟩; have ht12 := ht11.law hL11 hO12; have hs12 := hs11.law hL11 hO12))
      have H12 : Hid (Lw W0 w12 b g sb G9 H9 u12 s12 [l3, l4] (23 + P) (9 + 1000 * k + 600 + 8) ∧ OwnB w12 wr.heap.size (.slice a5 l3.length n5) l3 ∧ OwnB w12 w5.heap.size (.slice a6 l4.length n6) l4) := ⟨hL12, hs12, ht12⟩
      clear hL12 hs12 ht12 hO12 hL11 ht11 hs11 hb11 hL10 hR10 hB10 hs10
      go_wp2_with (first
        | (go_at_call 14; refine (lw_open H12.out.1 (by have := HQs.out; omega)).mono ?_; rintro e w13 ⟨sb3, vS, rfl, hL13, hR13, hB13⟩; have hs13 := H12.out.2.1.below hB13; have ht13 := H12.out.2.2.below hB13)
        | (go_at_call 15; refine (HSR.out [l3, l4] _ _ _ HM.out.2 (by show 2 ≤ 1000000; decide) (hR13.rs.below (below_alloc _ _)) (rs_pair hs13.rt ht13.rt)).mono ?_; rintro e w14 ⟨rfl, hb14⟩)
        | (go_at_call 16; refine (awake_any _).mono ?_; rintro e w15 ⟨rfl, hb15⟩))
      go_ret
      exact ⟨rfl, chainB (chainB (chainB (chainB HB0.out hL13.bel) (below_alloc _ _)) hb14) hb15⟩
end Go.Proofs.Ytpifjfhlelekjab
