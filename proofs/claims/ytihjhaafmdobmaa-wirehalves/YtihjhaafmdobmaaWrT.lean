/- The reader in memory: number. -/
import Derived.Test.YtihjhaafmdobmaaWrR
namespace Go.Proofs.Ytihjhaafmdobmaa
open Go.RowKit Go.Lib

def U6 (k : Nat) : Nat := 128 ^ (6 - k)
theorem U6_step (k : Nat) (h : k < 6) : U6 (k + 1) * 128 = U6 k ∧ 1 ≤ U6 (k + 1) ∧ U6 (k + 1) ≤ 34359738368 := by
  have : k = 0 ∨ k = 1 ∨ k = 2 ∨ k = 3 ∨ k = 4 ∨ k = 5 := by omega
  rcases this with rfl | rfl | rfl | rfl | rfl | rfl <;> decide
theorem octP_lft' {s : St} (h : Lft s) : 0 ≤ (octP s).1 ∧ (octP s).1 < 256 ∧ Lft (octP s).2 := ⟨(octP_in h).1, (octP_in h).2, octP_lft h⟩
theorem Rg.lft {w : World} {r : Nat} {v : Value} {l : List Int} {s : St} (h : Rg w r v l s) : Lft s := by
  obtain ⟨a, st, h⟩ := h
  rcases h.state with ⟨rfl, _⟩ | ⟨rfl, _⟩
  · exact Lft.none
  · exact Lft.of fun x hx => h.byt x (List.mem_of_mem_drop hx)
theorem Red.on {a b c : World} {r : Nat} {v : Value} {l : List Int} {s s' : St} (h : Red a b r v l s) (k : Red b c r v l s') : Red a c r v l s' := ⟨k.1, h.2.trans k.2⟩
set_option maxRecDepth 20000 in
set_option maxHeartbeats 8000000 in
theorem number_r {w : World} {r : Nat} {v : Value} {l : List Int} {s : St} (h : Rg w r v l s) : Calls Try.prog 119 #[.pointer (some ⟨r, 0, none⟩)] w fun e w' => RdR w r v l (numP s).2 (.int .i64 (numP s).1) e w' := by
  have H0 : Hid (Red w w r v l s) := ⟨h, Only.refl _ _⟩
  obtain ⟨N, hN⟩ : ∃ N, numP s = N := ⟨_, rfl⟩
  have HN : Hid (numG 6 1 0 s = N) := hN
  rw [hN]
  clear hN h
  go_enter Try.func119, Try.ntmps119
  go_wp2
  refine wp_scope_once 0 (by rfl) ?_
  go_wp2
  go_loopw [3, 4] (fun n u wr => ∃ (k : Nat) (nn : Int) (s' : St), k ≤ 6 ∧ n = .int .i64 nn ∧ u = .int .i64 (U6 k : Nat) ∧ 0 ≤ nn ∧ nn < (U6 k : Nat) ∧ Hid (numG k (U6 k) nn s' = N ∧ Red w wr r v l s')) (fun _ u _ => 4398046511104 - (intOf u).toNat)
  case atStart => exact ⟨6, 0, s, by omega, rfl, rfl, by omega, by decide, HN.out, H0.out⟩
  case round =>
    obtain ⟨k, nn, s', hk, rfl, rfl, hn0, hn1, hI⟩ := hrel
    cases k with
    | zero =>
      rw [show U6 0 = 4398046511104 by decide] at hI hn1 ⊢
      have HE : Hid (N = (0, none)) := hI.out.1.symm
      have HS : Hid (Calls Try.prog 157 #[.pointer (some ⟨r, 0, none⟩)] wr fun e w' => e = .returned (.tuple #[]) ∧ Hid (Red wr w' r v l none)) := stop_r hI.out.2.1
      go_wp2
      go_step3
      go_wp2_with (go_at_call 157; refine HS.out.mono ?_; rintro e w1 ⟨rfl, h1⟩)
      refine fwd_ret ?_
      go_ret
      rw [HE.out]
      exact ⟨rfl, hI.out.2.on h1.out⟩
    | succ k =>
      obtain ⟨hu1, hu2, hu3⟩ := U6_step k (by omega)
      obtain ⟨u, hu⟩ : ∃ u, U6 (k + 1) = u := ⟨_, rfl⟩
      rw [hu] at hu1 hu2 hu3 hn1 hI ⊢
      have hle : (u : Int) ≤ 1099511627776 := by omega
      have HO : Hid (Calls Try.prog 118 #[.pointer (some ⟨r, 0, none⟩)] wr fun e w' => RdR wr r v l (octP s').2 (.int .i64 (octP s').1) e w') := octet_r hI.out.2.1
      obtain ⟨hx0, hx1, _⟩ := octP_lft' hI.out.2.1.lft
      have hG : numG (k + 1) u nn s' = if 128 ≤ (octP s').1 then numG k (u * 128) (nn + (octP s').1 % 128 * u) (octP s').2 else if 1099511627776 < nn + (octP s').1 % 128 * u ∨ ((octP s').1 = 0 ∧ 1 < u) then (0, none) else (nn + (octP s').1 % 128 * u, (octP s').2) := rfl
      rw [hI.out.1] at hG
      obtain ⟨x, hx⟩ : ∃ x, (octP s').1 = x := ⟨_, rfl⟩
      obtain ⟨s2, hs2⟩ : ∃ y, (octP s').2 = y := ⟨_, rfl⟩
      rw [hx, hs2] at HO hG
      rw [hx] at hx0 hx1
      have hand : bits .and .i64 x 127 = x % 128 := i64_and127 x
      obtain ⟨m, hm⟩ : ∃ m, x % 128 = m := ⟨_, rfl⟩
      have hm0 : 0 ≤ m ∧ m ≤ 127 := by omega
      rw [hm] at hand hG
      have hmu : 0 ≤ m * (u : Int) ∧ m * (u : Int) ≤ 127 * (u : Int) := ⟨Int.mul_nonneg hm0.1 (by omega), Int.mul_le_mul_of_nonneg_right hm0.2 (by omega)⟩
      obtain ⟨p, hp⟩ : ∃ p, m * (u : Int) = p := ⟨_, rfl⟩
      rw [hp] at hmu hG
      have hw1 : IntKind.i64.wrap p = p := IntWalk.i64_in _ (by omega)
      obtain ⟨q, hq⟩ : ∃ q, nn + p = q := ⟨_, rfl⟩
      rw [hq] at hG
      have hw2 : IntKind.i64.wrap q = q := IntWalk.i64_in _ (by omega)
      have HR : Hid (Red w wr r v l s') := hI.out.2
      have HU : Hid (u * 128 = U6 k ∧ 0 ≤ q ∧ q < (u : Int) * 128) := ⟨hu1, by omega, by omega⟩
      clear hI hx hs2 hm hmu hu
      by_cases h1 : 128 ≤ x
      · rw [if_pos h1] at hG
        have HG : Hid (N = numG k (u * 128) q s2) := hG
        have hw3 : IntKind.i64.wrap ((u : Int) * 2 ^ (7 : Int).toNat) = (u : Int) * 128 := by rw [show (2 : Int) ^ (7 : Int).toNat = 128 from rfl]; exact IntWalk.i64_in _ (by omega)
        clear hG
        go_wp2_with (go_at_call 118; refine HO.out.mono ?_; rintro e w1 ⟨rfl, h1'⟩)
        refine ⟨⟨k, q, s2, by omega, rfl, ?_, HU.out.2.1, ?_, ?_, HR.out.on h1'.out⟩, ?_⟩
        · rw [← HU.out.1, Int.natCast_mul]; rfl
        · rw [← HU.out.1, Int.natCast_mul]; exact HU.out.2.2
        · rw [← HU.out.1]; exact HG.out.symm
        · simp only [intOf]; omega
      · rw [if_neg h1] at hG
        have HS : Hid (∀ W, Red w W r v l s2 → Calls Try.prog 157 #[.pointer (some ⟨r, 0, none⟩)] W fun e w' => e = .returned (.tuple #[]) ∧ Hid (Red W w' r v l none)) := fun W hW => stop_r hW.1
        by_cases h2 : 1099511627776 < q
        · rw [if_pos (.inl h2)] at hG
          have HG : Hid (N = (0, none)) := hG
          have hd : decide ((1099511627776 : Int) < q) = true := decide_eq_true h2
          clear hG
          go_wp2_with (go_at_call 118; refine HO.out.mono ?_; rintro e w1 ⟨rfl, h1'⟩)
          go_step3
          refine fwd_goto (l := 0) ?_
          go_wp2_with (go_at_call 157; refine (HS.out _ (HR.out.on h1'.out)).mono ?_; rintro e w2 ⟨rfl, h2'⟩)
          rw [Exit.noGoto_ret]
          go_ret
          rw [HG.out]
          exact ⟨rfl, (HR.out.on h1'.out).on h2'.out⟩
        · have hd : decide ((1099511627776 : Int) < q) = false := decide_eq_false h2
          by_cases h3 : x = 0 ∧ 1 < u
          · rw [if_pos (.inr h3)] at hG
            have HG : Hid (N = (0, none)) := hG
            have hx3 : (x == 0) = true := by simpa using h3.1
            have hu4 : (1 : Int) < (u : Int) := by omega
            have hd2 : decide ((1 : Int) < (u : Int)) = true := decide_eq_true hu4
            clear hG h3
            go_wp2_with (go_at_call 118; refine HO.out.mono ?_; rintro e w1 ⟨rfl, h1'⟩)
            go_step3
            refine fwd_goto (l := 0) ?_
            go_wp2_with (go_at_call 157; refine (HS.out _ (HR.out.on h1'.out)).mono ?_; rintro e w2 ⟨rfl, h2'⟩)
            rw [Exit.noGoto_ret]
            go_ret
            rw [HG.out]
            exact ⟨rfl, (HR.out.on h1'.out).on h2'.out⟩
          · rw [if_neg (fun h => h.elim h2 h3)] at hG
            have HG : Hid (N = (q, s2)) := hG
            clear hG
            by_cases h4 : x = 0
            · have hx3 : (x == 0) = true := by simpa using h4
              have hu4 : ¬ (1 : Int) < (u : Int) := fun h => h3 ⟨h4, by omega⟩
              have hd2 : decide ((1 : Int) < (u : Int)) = false := decide_eq_false hu4
              clear h3 h4
              go_wp2_with (go_at_call 118; refine HO.out.mono ?_; rintro e w1 ⟨rfl, h1'⟩)
              refine fwd_ret ?_
              go_ret
              rw [HG.out]
              exact ⟨rfl, HR.out.on h1'.out⟩
            · have hx3 : (x == 0) = false := by simpa using h4
              clear h3 h4
              go_wp2_with (go_at_call 118; refine HO.out.mono ?_; rintro e w1 ⟨rfl, h1'⟩)
              refine fwd_ret ?_
              go_ret
              rw [HG.out]
              exact ⟨rfl, HR.out.on h1'.out⟩
end Go.Proofs.Ytihjhaafmdobmaa
