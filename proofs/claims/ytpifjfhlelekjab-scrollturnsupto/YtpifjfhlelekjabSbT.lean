/- The walk of the law ScrollTurns. -/
import Derived.Test.YtpifjfhlelekjabSbG
namespace Go.Proofs.Ytpifjfhlelekjab
open Go.RowKit

theorem tot_recs (ln fl : Int) (n : Nat) : tot (recsL ln fl n) = n * nb (bn ln) := by
  induction n with
  | zero => rw [Nat.zero_mul]; rfl
  | succ n ih => rw [recsL_succ, tot_snoc, ih, bl_len, Nat.succ_mul]
theorem nb_small {m : Nat} (h : m ≤ 500) : nb m ≤ 10 := by unfold nb; omega

set_option maxRecDepth 100000 in
set_option maxHeartbeats 16000000 in
theorem walk_ScrollTurns (n : Int) (a : Option Addr) (len cap : Nat) (K A L F M : Nat → Int) (a2 : Option Addr) (len2 cap2 : Nat) (K2 A2 L2 F2 M2 : Nat → Int) (w : World) (_ : (Lit.int .i64 n).wf = true) (row : RowV w a len K A L F M) (hlen : len ≤ 1048576) (row2 : RowV w a2 len2 K2 A2 L2 F2 M2) (hlen2 : len2 ≤ 1048576) :
    Calls Try.prog 3 #[.int .i64 n, .slice a len cap, .slice a2 len2 cap2] w fun e w' => e = .returned (.bool true) ∧ Below w.heap.size w w' := by
  have HR : Hid (RowV w a len K A L F M) := row
  have HLn : Hid (len ≤ 1048576) := hlen
  have HR2 : Hid (RowV w a2 len2 K2 A2 L2 F2 M2) := row2
  have HLn2 : Hid (len2 ≤ 1048576) := hlen2
  obtain ⟨i1, hi1, hw0, hw1, hw2⟩ := info_parts Try.infoS
  have hp := pl_lt n 97 (by decide)
  obtain ⟨N, hN⟩ : ∃ N, 3 + pl n 97 = N := ⟨_, rfl⟩
  have HN2 : Hid (N ≤ 1024 ∧ 3 ≤ N) := by show _ ∧ _; omega
  have HF : Hid (∀ w, Calls Try.prog 5 #[.int .i64 n] w fun e w' => ∃ b g sb s, e = .returned (.tuple #[.pointer (some ⟨b, 0, none⟩), .pointer (some ⟨sb, 0, none⟩), .bool true]) ∧ Lw w w' b g sb 1 0 0 s [] N 1 ∧ s.on = true ∧ s.burns = false ∧ Gb s.cs 0) := fun w => (fresh_g n w).mono fun e w' ⟨b, g, sb, s, h1, h2, h3, h4⟩ => ⟨b, g, sb, s, h1, by rw [← hN]; exact h2, h3, h4⟩
  clear row row2 hp hN hlen hlen2
  go_enter Try.func3, Try.ntmps3
  go_wp2_with (first
    | (go_at_call 5; refine (HF.out _).mono ?_; rintro e w1 ⟨b, g, sb, s0, rfl, hL0, hon0, hbu0, hgb0⟩)
    | (go_at_call 6; refine (lw_gen hL0).mono ?_; rintro e w1' ⟨rfl, rfl⟩))
  clear HF
  go_loopw [10, 11, 12] (fun v q i wr => ∃ k : Nat, k ≤ len ∧ i = .int .i64 k ∧ ∃ G Hh u s R, q = .int .i64 (G : Nat) ∧ Lw w wr b g sb G Hh u s R N (1 + 1000 * k) ∧ s.on = true ∧ s.burns = false ∧ Gb s.cs (k + 1) ∧ G ≤ k + 1 ∧ OwnR wr w.heap.size wr.heap.size v R ∧ Sm R) (fun _ _ i _ => len - (intOf i).toNat)
  case atStart => exact ⟨0, Nat.zero_le _, rfl, 1, 0, 0, s0, [], rfl, hL0, hon0, hbu0, hgb0.le (by omega), by omega, OwnR.nil _ _ _, fun _ h => by cases h⟩
  case round =>
    clear hL0 hon0 hbu0 hgb0
    obtain ⟨k, hk, rfl, G, Hh, u, s, R, rfl, hLw, hon, hbu, hgb, hGk, hW, hSm⟩ := hrel
    by_cases hlt : k < len
    · obtain ⟨ab, off, rfl, hab, r0, r1, r2, r3, r4, -, wF, -⟩ := HR.out.at hLw.bel hlt
      have hki : (k : Int) < (len : Int) := by omega
      have HlK : Hid (k < len) := hlt
      have HwF : Hid ((Lit.int .i64 (F k)).wf = true) := wF
      obtain ⟨xk, hxk⟩ : ∃ x, K k = x := ⟨_, rfl⟩
      obtain ⟨xa, hxa⟩ : ∃ x, A k = x := ⟨_, rfl⟩
      obtain ⟨xl, hxl⟩ : ∃ x, L k = x := ⟨_, rfl⟩
      obtain ⟨xf, hxf⟩ : ∃ x, F k = x := ⟨_, rfl⟩
      obtain ⟨xm, hxm⟩ : ∃ x, M k = x := ⟨_, rfl⟩
      rw [hxk] at r0
      rw [hxa] at r1
      rw [hxl] at r2
      rw [hxf] at r3 HwF
      rw [hxm] at r4
      have HK9 : Hid (1 + 1000 * (k : Int) + 9000 < 9223372036854775807) := by show _ < _; have := HLn.out; omega
      have HW1 : Hid (wrap64 ((k : Int) + 1) = ((k + 1 : Nat) : Int)) := by show _ = _; have := HLn.out; unfold wrap64; omega
      have HNx : Hid (nextG s.cs ≤ k + 2 ∧ nextG s.cs ≤ 1073741824) := by
        have h1 := hgb.next hLw.sc hGk; have := HLn.out; show _ ∧ _; omega
      have H : Hid (Lw w wr b g sb G Hh u s R N (1 + 1000 * k) ∧ s.on = true ∧ s.burns = false ∧ Gb s.cs (k + 1) ∧ OwnR wr w.heap.size wr.heap.size u10 R ∧ Sm R ∧ G ≤ k + 1) := ⟨hLw, hon, hbu, hgb, hW, hSm, hGk⟩
      obtain ⟨n', hn'⟩ : ∃ n', cM xm = n' := ⟨_, rfl⟩
      obtain ⟨m, hm⟩ : ∃ m, bn xl = m := ⟨_, rfl⟩
      obtain ⟨c, hc⟩ : ∃ c, nb m = c := ⟨_, rfl⟩
      obtain ⟨Lr, hLr⟩ : ∃ Lr, recsL xl xf n' = Lr := ⟨_, rfl⟩
      have HLr : Hid ((∀ l ∈ Lr, Byt l ∧ l.length ≤ 1000000) ∧ Lr.length ≤ 1000 ∧ Lr.length = n' ∧ (∀ l ∈ Lr, l.length = m) ∧ tot Lr = n' * c ∧ n' ≤ 300 ∧ c ≤ 10) := by
        have h1 : n' ≤ 300 := by rw [← hn']; unfold cM; omega
        have h2 := bn_le xl
        refine ⟨fun l hl => ?_, ?_, ?_, fun l hl => ?_, ?_, h1, ?_⟩
        · rw [← hLr] at hl
          have h1 := recsL_mem hl
          exact ⟨h1.2, by omega⟩
        · rw [← hLr, recsL_len]; omega
        · rw [← hLr, recsL_len]
        · rw [← hLr] at hl; rw [← hm]; exact (recsL_mem hl).1
        · rw [← hLr, tot_recs, hm, hc]
        · rw [← hc]; exact nb_small (by omega)
      have HRs : Hid (∀ w, Calls Try.prog 7 #[.agg #[.int .i64 xk, .int .i64 xa, .int .i64 xl, .int .i64 xf, .int .i64 xm]] w fun e w' => ∃ v, e = .returned v ∧ OwnR w' w.heap.size w'.heap.size v Lr ∧ Below w.heap.size w w') := fun w => by
        have := records_any xk xa xl xf xm w HwF.out; rw [hn', hLr] at this; exact this
      have HC : Hid (nb m = c) := hc
      clear hxk hxa hxl hxf hxm wF hLw hon hbu hgb hGk hW hSm hLr hn' hm hc hlt hk
      go_upto_region 10 with (go_at_call 7; refine (HRs.out _).mono ?_; rintro e w3 ⟨v3, rfl, ho3, hb3⟩)
      obtain ⟨a3, c3, e3, -⟩ := ho3.rs.form
      rw [HLr.out.2.2.1] at e3
      subst e3
      have H3 : Hid (Lw w w3 b g sb G Hh u s R N (1 + 1000 * k) ∧ OwnR w3 w.heap.size w3.heap.size u10 R ∧ OwnR w3 w.heap.size w3.heap.size (.slice a3 n' c3) Lr) := ⟨H.out.1.below hb3, OwnR.go H.out.2.2.2.2.1 hb3, ho3.lower H.out.1.bel.size⟩
      clear ho3 hb3 r0 r1 r2 r3 r4
      obtain ⟨bad, hbad⟩ : ∃ bad, (!decide (1 ≤ m ∧ m ≤ 424)) = bad := ⟨_, rfl⟩
      have HBad : Hid ((!decide (1 ≤ m ∧ m ≤ 424)) = bad) := hbad
      clear hbad
      go_wp2
      go_loopw [14, 15, 16] (fun t q i wx => ∃ j : Nat, j ≤ n' ∧ i = .int .i64 j ∧ t = .int .i64 ((j : Int) * (c : Int)) ∧ q = .bool (decide (0 < j) && bad) ∧ Below w3.heap.size w3 wx) (fun _ _ i _ => n' - (intOf i).toNat)
      case atStart => exact ⟨0, Nat.zero_le _, rfl, by rw [Int.natCast_zero, Int.zero_mul], rfl, Below.refl _ _⟩
      case round =>
        obtain ⟨j, hj, rfl, rfl, rfl, hbx⟩ := hrel
        by_cases hjn : j < n'
        · have hji : (j : Int) < (n' : Int) := by omega
          obtain ⟨lj, hlj⟩ : ∃ lj, Lr[j]? = some lj := ⟨_, List.getElem?_eq_getElem (by rw [HLr.out.2.2.1]; exact hjn)⟩
          have hmem := List.mem_of_getElem? hlj
          have hlm := HLr.out.2.2.2.1 lj hmem
          obtain ⟨gl, ol, x, rfl, hcx, hx⟩ := (H3.out.2.2.rs.below hbx).at hlj
          obtain ⟨ax, cx, ex, -⟩ := hx.rb
          rw [hlm] at ex
          subst ex
          have HB : Hid (Calls Try.prog 8 #[.slice ax m cx] wr fun e w' => e = .returned (.int .i64 (c : Nat)) ∧ wr = w') := by
            have := blocks_any _ lj wr hx.rb (by have := (HLr.out.1 lj hmem).2; omega)
            rw [hlm, HC.out] at this
            exact this.mono fun _ _ hq => ⟨hq.1, hq.2.symm⟩
          have HJ : Hid (wrap64 ((j : Int) * (c : Int) + (c : Int)) = ((j + 1 : Nat) : Int) * (c : Int) ∧ wrap64 ((j : Int) + 1) = ((j + 1 : Nat) : Int) ∧ j < n') := by
            have h1 : j * c ≤ 300 * 10 := Nat.mul_le_mul (by have := HLr.out; omega) HLr.out.2.2.2.2.2.2
            have h2 := HLr.out.2.2.2.2.2.2
            have h3 := HLr.out.2.2.2.2.2.1
            refine ⟨?_, ?_, hjn⟩
            · rw [Int.natCast_add, Int.add_mul, Int.natCast_one, Int.one_mul, ← Int.natCast_mul]; unfold wrap64; omega
            · unfold wrap64; omega
          have HX : Hid (Below w3.heap.size w3 wr) := hbx
          clear hlj hmem hlm hx hbx hj hjn
          cases bad with
          | false =>
            have hb := HBad.out
            have hmm : 1 ≤ m ∧ m ≤ 424 := by
              by_cases h : 1 ≤ m ∧ m ≤ 424
              · exact h
              · rw [decide_eq_false h] at hb; cases hb
            rw [Bool.and_false]
            have h64 : ((m : Int) == 0) = false := beq_eq_false_iff_ne.2 (by omega)
            have h72 : decide ((424 : Int) < (m : Int)) = false := decide_eq_false (by omega)
            clear hmm hb
            go_wp2_with (go_at_call 8; refine HB.out.mono ?_; rintro e w4 ⟨rfl, rfl⟩)
            go_roundw
            case rel => exact ⟨j + 1, HJ.out.2.2, by rw [HJ.out.2.1], by rw [HJ.out.1], by rw [Bool.and_false], HX.out⟩
            case measure => have := HJ.out.2.2; rw [HJ.out.2.1]; simp [intOf]; omega
          | true =>
            have hb := HBad.out
            have hmm : ¬ (1 ≤ m ∧ m ≤ 424) := fun h => by rw [decide_eq_true h] at hb; cases hb
            by_cases hj0 : j = 0
            · rw [decide_eq_false (show ¬ 0 < j by omega), Bool.false_and]
              clear hj0
              by_cases hm0 : m = 0
              · have h64 : ((m : Int) == 0) = true := by rw [hm0]; rfl
                clear hmm hb hm0
                go_wp2_with (go_at_call 8; refine HB.out.mono ?_; rintro e w4 ⟨rfl, rfl⟩)
                go_roundw
                case rel => exact ⟨j + 1, HJ.out.2.2, by rw [HJ.out.2.1], by rw [HJ.out.1], by rw [decide_eq_true (Nat.succ_pos j), Bool.and_true], HX.out⟩
                case measure => have := HJ.out.2.2; rw [HJ.out.2.1]; simp [intOf]; omega
              · have h64 : ((m : Int) == 0) = false := beq_eq_false_iff_ne.2 (by omega)
                have h72 : decide ((424 : Int) < (m : Int)) = true := decide_eq_true (by omega)
                clear hmm hb hm0
                go_wp2_with (go_at_call 8; refine HB.out.mono ?_; rintro e w4 ⟨rfl, rfl⟩)
                go_roundw
                case rel => exact ⟨j + 1, HJ.out.2.2, by rw [HJ.out.2.1], by rw [HJ.out.1], by rw [decide_eq_true (Nat.succ_pos j), Bool.and_true], HX.out⟩
                case measure => have := HJ.out.2.2; rw [HJ.out.2.1]; simp [intOf]; omega
            · rw [decide_eq_true (show 0 < j by omega), Bool.and_true]
              clear hmm hb hj0
              go_wp2_with (go_at_call 8; refine HB.out.mono ?_; rintro e w4 ⟨rfl, rfl⟩)
              go_roundw
              case rel => exact ⟨j + 1, HJ.out.2.2, by rw [HJ.out.2.1], by rw [HJ.out.1], by rw [decide_eq_true (Nat.succ_pos j), Bool.and_true], HX.out⟩
              case measure => have := HJ.out.2.2; rw [HJ.out.2.1]; simp [intOf]; omega
        · have ejn : n' = j := by omega
          subst ejn
          obtain ⟨t, ht⟩ : ∃ t, n' * c = t := ⟨_, rfl⟩
          obtain ⟨B, hB⟩ : ∃ B, (decide (0 < n') && bad) = B := ⟨_, rfl⟩
          have HAll : Hid ((B = true → ¬ ∀ l ∈ Lr, okR l) ∧ (B = false → ∀ l ∈ Lr, okR l)) := by
            have hb := HBad.out
            refine ⟨fun h hall => ?_, fun h l hl => ?_⟩
            · rw [h] at hB
              have h1 := (Bool.and_eq_true _ _).mp hB
              have h2 : 0 < n' := of_decide_eq_true h1.1
              obtain ⟨lj, hlj⟩ : ∃ lj, Lr[0]? = some lj := ⟨_, List.getElem?_eq_getElem (by rw [HLr.out.2.2.1]; exact h2)⟩
              have hm := List.mem_of_getElem? hlj
              have h3 : 1 ≤ lj.length ∧ lj.length ≤ 424 := hall lj hm
              rw [HLr.out.2.2.2.1 lj hm] at h3
              rw [decide_eq_true h3, h1.2] at hb
              cases hb
            · rw [h] at hB
              have h0 : 0 < n' := by rw [← HLr.out.2.2.1]; exact List.length_pos_of_mem hl
              rw [decide_eq_true h0, Bool.true_and] at hB
              rw [hB] at hb
              show 1 ≤ l.length ∧ l.length ≤ 424
              rw [HLr.out.2.2.2.1 l hl]
              by_cases hq : 1 ≤ m ∧ m ≤ 424
              · exact hq
              · rw [decide_eq_false hq] at hb; cases hb
          have HT : Hid (tot Lr = t ∧ t ≤ 3000) := by
            refine ⟨by rw [← ht]; exact HLr.out.2.2.2.2.1, ?_⟩
            have h1 : n' * c ≤ 300 * 10 := Nat.mul_le_mul HLr.out.2.2.2.2.2.1 HLr.out.2.2.2.2.2.2
            omega
          have HX : Hid (Below w3.heap.size w3 wr) := hbx
          rw [hB, ← Int.natCast_mul, ht]
          clear hB ht hbx hj hjn
          go_upto_if 97 with (go_at_call 9; refine (lw_turnG (H3.out.1.below HX.out) H.out.2.1 HN2.out HK9.out _ Lr (H3.out.2.2.rs.below HX.out) HLr.out.1 HLr.out.2.1).mono ?_; rintro e w4 ⟨E, s4, R4, u4', G4, H4', rfl, hL4, hO4, hPw, hcase, hc61, hc2, hc0, hkeep, hGb⟩)
          have hW4 := OwnR.law (OwnR.go H3.out.2.1 HX.out) (H3.out.1.below HX.out) hO4
          have hV4 := OwnR.law (OwnR.go H3.out.2.2 HX.out) (H3.out.1.below HX.out) hO4
          have hGb4 : Gb s4.cs (k + 2) := hGb (k + 2) (H.out.2.2.2.1.le (by omega)) (by have := HLn.out; have := HlK.out; omega) HNx.out.1
          rw [H.out.1.hS, HT.out.1] at hc2 hc0 hcase
          clear hO4 hGb
          cases B with
          | true =>
            have hE := hc61 (HAll.out.1 rfl)
            subst hE
            have hk4 := hkeep (by decide) H.out.2.2.1
            obtain ⟨rfl, rfl, rfl, rfl⟩ : R4 = R ∧ u4' = u ∧ G4 = G ∧ H4' = Hh := by
              rcases hcase with h | h
              · exact absurd h.1 (by decide)
              · exact h.2
            have H4 : Hid (Lw w w4 b g sb G4 H4' u4' s4 R4 N (1 + 1000 * k + 600) ∧ s4.on = true ∧ s4.burns = false ∧ Gb s4.cs (k + 2) ∧ OwnR w4 w.heap.size w4.heap.size u10 R4) := ⟨hL4, hk4.1, hk4.2, hGb4, hW4⟩
            clear hL4 hk4 hcase hc61 hc2 hc0 hkeep hGb4 hW4 hV4
            go_wp2_with (go_at_call 6; refine (lw_gen H4.out.1).mono ?_; rintro e w5 ⟨rfl, rfl⟩)
            go_roundw
            case rel => exact ⟨k + 1, HlK.out, by rw [HW1.out], G4, H4', u4', s4, R4, rfl, H4.out.1.le (by push_cast; omega), H4.out.2.1, H4.out.2.2.1, H4.out.2.2.2.1, by have := H.out.2.2.2.2.2.2; omega, H4.out.2.2.2.2, H.out.2.2.2.2.2.1⟩
            case measure => have := HlK.out; rw [HW1.out]; simp [intOf]; omega
          | false =>
            have hall := HAll.out.2 rfl
            by_cases hfit : (N - 1) / 2 < t
            · have hE := hc2 hall hfit
              subst hE
              have hk4 := hkeep (by decide) H.out.2.2.1
              obtain ⟨rfl, rfl, rfl, rfl⟩ : R4 = R ∧ u4' = u ∧ G4 = G ∧ H4' = Hh := by
                rcases hcase with h | h
                · exact absurd h.1 (by decide)
                · exact h.2
              have H4 : Hid (Lw w w4 b g sb G4 H4' u4' s4 R4 N (1 + 1000 * k + 600) ∧ s4.on = true ∧ s4.burns = false ∧ Gb s4.cs (k + 2) ∧ OwnR w4 w.heap.size w4.heap.size u10 R4) := ⟨hL4, hk4.1, hk4.2, hGb4, hW4⟩
              obtain ⟨hh, hhh⟩ : ∃ hh, (N - 1) / 2 = hh := ⟨_, rfl⟩
              have HHh : Hid ((N - 1) / 2 = hh) := hhh
              have H107 : Hid (decide (hh < t) = true) := decide_eq_true (by omega)
              clear hL4 hk4 hcase hc61 hc2 hc0 hkeep hGb4 hW4 hV4 hall hfit hhh
              go_upto_if 107 with (go_at_call 10; refine (lw_half H4.out.1 HN2.out.2).mono ?_; rintro e w5 ⟨rfl, rfl⟩; rw [HHh.out])
              rw [H107.out]
              go_wp2_with (go_at_call 6; refine (lw_gen H4.out.1).mono ?_; rintro e w5 ⟨rfl, rfl⟩)
              go_roundw
              case rel => exact ⟨k + 1, HlK.out, by rw [HW1.out], G4, H4', u4', s4, R4, rfl, H4.out.1.le (by push_cast; omega), H4.out.2.1, H4.out.2.2.1, H4.out.2.2.2.1, by have := H.out.2.2.2.2.2.2; omega, H4.out.2.2.2.2, H.out.2.2.2.2.2.1⟩
              case measure => have := HlK.out; rw [HW1.out]; simp [intOf]; omega
            · obtain ⟨rfl, hbu4⟩ := hc0 hall hfit HNx.out.2 H.out.2.2.1
              have hon4 : s4.on = true := by
                rcases hPw with h | h
                · exact absurd h.1 (by decide)
                · exact h.2
              obtain ⟨rfl, -, -, rfl, hG, hGn⟩ : R4 = Lr ∧ (∀ l ∈ Lr, okR l) ∧ t ≤ (N - 1) / 2 ∧ u4' = t ∧ G < G4 ∧ G4 = nextG s.cs := by
                rcases hcase with h | h
                · exact h.2
                · exact absurd rfl h.1
              obtain ⟨hh, hhh⟩ : ∃ hh, (N - 1) / 2 = hh := ⟨_, rfl⟩
              have HHh : Hid ((N - 1) / 2 = hh ∧ u4' ≤ hh ∧ hh ≤ 1024 ∧ G4 ≤ k + 2 ∧ (((N - 1) / 2 - u4' : Nat) : Int) = (hh : Int) - (u4' : Int)) := by
                have := HN2.out; have := HNx.out; show _ ∧ _ ∧ _ ∧ _ ∧ _; omega
              have H107 : Hid (decide (hh < u4') = false) := decide_eq_false (by omega)
              have hgg : decide (G4 ≤ G) = false := decide_eq_false (by omega)
              have hwr : wrap64 ((hh : Int) - (u4' : Int)) = (hh : Int) - (u4' : Int) := by have := HHh.out; unfold wrap64; omega
              have H4 : Hid (Lw w w4 b g sb G4 H4' u4' s4 R4 N (1 + 1000 * k + 600) ∧ s4.on = true ∧ s4.burns = false ∧ Gb s4.cs (k + 2) ∧ OwnR w4 w.heap.size w4.heap.size (.slice a3 n' c3) R4 ∧ Sm R4) := ⟨hL4, hon4, hbu4, hGb4, hV4, fun l hl => (HLr.out.1 l hl).2⟩
              clear hL4 hon4 hbu4 hcase hc61 hc2 hc0 hkeep hGb4 hW4 hV4 hall hfit hhh hPw hG hGn
              go_upto_if 107 with (go_at_call 10; refine (lw_half H4.out.1 HN2.out.2).mono ?_; rintro e w5 ⟨rfl, rfl⟩; rw [HHh.out.1])
              rw [H107.out]
              go_wp2_with (first
                | (go_at_call 6; first | (refine (lw_gen H4.out.1).mono ?_; rintro e w5 ⟨rfl, rfl⟩) | (refine (lw_gen (H4.out.1.below hs6.below)).mono ?_; rintro e w7 ⟨rfl, rfl⟩))
                | (go_at_call 11; refine (lw_roomS H4.out.1 HN2.out.2).mono ?_; rintro e w6 ⟨rfl, hs6⟩; rw [HHh.out.2.2.2.2])
                | (go_at_call 10; refine (lw_half (H4.out.1.below hs6.below) HN2.out.2).mono ?_; rintro e w5 ⟨rfl, rfl⟩; rw [HHh.out.1]))
              go_roundw
              case rel => exact ⟨k + 1, HlK.out, by rw [HW1.out], G4, H4', u4', s4, R4, rfl, (H4.out.1.below hs6.below).le (by push_cast; omega), H4.out.2.1, H4.out.2.2.1, H4.out.2.2.2.1, HHh.out.2.2.2.1, OwnR.go H4.out.2.2.2.2.1 hs6.below, H4.out.2.2.2.2.2⟩
              case measure => have := HlK.out; rw [HW1.out]; simp [intOf]; omega
    · have hki : ¬ ((k : Int) < (len : Int)) := by omega
      have HkL : Hid (k ≤ len) := hk
      have H0 : Hid (Lw w wr b g sb G Hh u s R N (1 + 1000 * k) ∧ s.on = true ∧ s.burns = false ∧ OwnR wr w.heap.size wr.heap.size u10 R ∧ Sm R) := ⟨hLw, hon, hbu, hW, hSm⟩
      clear hLw hon hbu hW hSm hgb hGk hlt hk
      go_wp2
      go_loopw [10, 18] (fun v i wx => ∃ j : Nat, j ≤ len2 ∧ i = .int .i64 j ∧ ∃ u s R, Lw w wx b g sb G Hh u s R N (1 + 1000 * k + 1000 * j) ∧ s.on = true ∧ s.burns = false ∧ OwnR wx w.heap.size wx.heap.size v R ∧ Sm R) (fun _ i _ => len2 - (intOf i).toNat)
      case atStart => exact ⟨0, Nat.zero_le _, rfl, u, s, R, H0.out.1.le (by omega), H0.out.2.1, H0.out.2.2.1, H0.out.2.2.2.1, H0.out.2.2.2.2⟩
      case round =>
        clear H0
        obtain ⟨j, hj, rfl, u, s, R, hLw, hon, hbu, hW, hSm⟩ := hrel
        by_cases hjn : j < len2
        · obtain ⟨ab, off, rfl, hab, r0, r1, r2, r3, r4, -⟩ := HR2.out.at hLw.bel hjn
          have hji : (j : Int) < (len2 : Int) := by omega
          have HlJ : Hid (j < len2) := hjn
          obtain ⟨xl, hxl⟩ : ∃ x, L2 j = x := ⟨_, rfl⟩
          obtain ⟨xf, hxf⟩ : ∃ x, F2 j = x := ⟨_, rfl⟩
          rw [hxl] at r2
          rw [hxf] at r3
          have HK9 : Hid (1 + 1000 * (k : Int) + 1000 * (j : Int) + 9000 < 9223372036854775807) := by show _ < _; have := HLn.out; have := HLn2.out; have := HkL.out; omega
          have HW1 : Hid (wrap64 ((j : Int) + 1) = ((j + 1 : Nat) : Int)) := by show _ = _; have := HLn2.out; unfold wrap64; omega
          have H : Hid (Lw w wr b g sb G Hh u s R N (1 + 1000 * k + 1000 * j) ∧ s.on = true ∧ s.burns = false ∧ OwnR wr w.heap.size wr.heap.size u10 R ∧ Sm R) := ⟨hLw, hon, hbu, hW, hSm⟩
          have hbl : (bl (bn xl) xf).length ≤ 1000000 := by rw [bl_len]; have := bn_le xl; omega
          obtain ⟨l, hl⟩ : ∃ l, bl (bn xl) xf = l := ⟨_, rfl⟩
          have hby : Byt l := by rw [← hl]; exact bl_byt _ _
          rw [hl] at hbl
          have HRc : Hid (∀ w, Calls Try.prog 12 #[.int .i64 xl, .int .i64 xf] w fun e w' => ∃ v, e = .returned v ∧ OwnB w' w.heap.size v l ∧ Below w.heap.size w w') := fun w => by
            have := record_any xl xf w; rw [hl] at this; exact this
          have HBl : Hid (Byt l ∧ l.length ≤ 1000000) := ⟨hby, hbl⟩
          clear hxl hxf hLw hon hbu hW hSm hl hby hbl hjn hj r0 r1 r4
          go_upto_region 31 with fail
          go_region_held3 (fun w' => w'.cell? ⟨ab, off + j * 5 + 2, none⟩ = some (.int .i64 xl) ∧ w'.cell? ⟨ab, off + j * 5 + 3, none⟩ = some (.int .i64 xf))
            (first | exact ⟨r2, r3⟩ | exact keep2 (by assumption) (by assumption) | assumption)
            (first | (go_at_call 12; refine (HRc.out _).mono ?_; rintro e w2 ⟨v2, rfl, ho2, hb2⟩))
          have hb1 : Below wr.heap.size wr w2 := chainB (Below.refl _ _).drew hb2
          have ho1 : OwnB w2 wr.heap.size v2 l := ho2
          clear ho2 hb2
          obtain ⟨a2', n2, e2⟩ := owns_len ho1
          subst e2
          have H2 : Hid (Lw w w2 b g sb G Hh u s R N (1 + 1000 * k + 1000 * j) ∧ OwnR w2 w.heap.size wr.heap.size u10 R ∧ OwnB w2 wr.heap.size (.slice a2' l.length n2) l ∧ wr.heap.size ≤ w2.heap.size) := ⟨H.out.1.below hb1, H.out.2.2.2.1.below hb1, ho1, hb1.size⟩
          clear ho1 hb1
          go_upto_if 140 with (go_at_call 13; refine (lw_append H2.out.1 H.out.2.1 HN2.out HK9.out _ l H2.out.2.2.1.rt HBl.out.1 HBl.out.2).mono ?_; rintro e w4 ⟨E, s4, R4, u4', rfl, hL4, hO4, hPw, hcase, hc61, hc2, hc0, hkeep⟩)
          have hW4 : OwnR w4 w.heap.size wr.heap.size u10 R := H2.out.2.1.only hO4 H2.out.1.els
          have hV4 : OwnB w4 wr.heap.size (.slice a2' l.length n2) l := H2.out.2.2.1.law H2.out.1 hO4
          have hz4 : wr.heap.size ≤ w4.heap.size := Nat.le_trans H2.out.2.2.2 hO4.size
          rcases hcase with ⟨rfl, rfl, hok, hfit, rfl⟩ | ⟨hE, rfl, rfl⟩
          · have hz0 : w.heap.size ≤ wr.heap.size := H.out.1.bel.size
            have hRl : R.length ≤ 1024 := H.out.1.few HN2.out.1
            have hk4 : s4.on = true ∧ s4.burns = false := (hc0 hok (by omega) H.out.2.2.1).2
            obtain ⟨vs, hrow, hels⟩ := id hW4
            have H7 : Hid (OwnR w4 w.heap.size wr.heap.size u10 R ∧ OwnB w4 wr.heap.size (.slice a2' l.length n2) l ∧ Lw w w4 b g sb G Hh (u + nb l.length) s4 (R ++ [l]) N (1 + 1000 * k + 1000 * j + 8) ∧ w4.ownsRow w.heap.size 33 1 u10 R.length vs ∧ Els w4 w.heap.size wr.heap.size vs R ∧ s4.on = true ∧ s4.burns = false) := ⟨hW4, hV4, hL4, hrow, hels, hk4.1, hk4.2⟩
            clear hW4 hV4 hL4 hrow hels hO4 hPw hc61 hc2 hc0 hkeep hok hfit hk4
            rw [show ((0 : Int) == 0) = true from rfl]
            go_wp2_with (at_builtin; refine wpList_append_own_at _ rfl _ _ 27 rfl w.heap.size 33 i1 (.slice none 0 0) 1 24 Try.underlying27 hi1 hw0 hw1 hw2 rfl (by decide) _ R.length vs rfl (World.ownsRow.alloc H7.out.2.2.2.1 _) ⟨w4.heap.size, 0, none⟩ 1 1 [_] rfl rfl (one_at _ _ _) (one_cell _ rfl) (by unfold maxLen; omega) (by omega) (by simp; omega) ?_; intro v9 w9 hown9 hgrow9 _ _)
            have h9 := OwnR.app H7.out.2.2.2.1 H7.out.2.2.2.2.1 hz0 hz4 H7.out.2.1 hown9 hgrow9
            have hL9 := H7.out.2.2.1.list H7.out.1 h9.2.2
            go_roundw
            case rel => exact ⟨j + 1, HlJ.out, by rw [HW1.out], _, s4, _, hL9.le (by push_cast; omega), H7.out.2.2.2.2.2.1, H7.out.2.2.2.2.2.2, h9.1, H.out.2.2.2.2.app HBl.out.2⟩
            case measure => have := HlJ.out; rw [HW1.out]; simp [intOf]; omega
          · have hk4 := hkeep hE H.out.2.2.1
            have H7 : Hid (OwnR w4 w.heap.size w4.heap.size u10 R4 ∧ Lw w w4 b g sb G Hh u4' s4 R4 N (1 + 1000 * k + 1000 * j + 8) ∧ s4.on = true ∧ s4.burns = false) := ⟨hW4.up hz4, hL4, hk4.1, hk4.2⟩
            have hd : (E == (0 : Int)) = false := beq_eq_false_iff_ne.2 hE
            rw [hd]
            clear hW4 hV4 hL4 hO4 hPw hc61 hc2 hc0 hkeep hk4 hE hd
            go_wp2
            go_roundw
            case rel => exact ⟨j + 1, HlJ.out, by rw [HW1.out], _, s4, _, H7.out.2.1.le (by push_cast; omega), H7.out.2.2.1, H7.out.2.2.2, H7.out.1, H.out.2.2.2.2⟩
            case measure => have := HlJ.out; rw [HW1.out]; simp [intOf]; omega
        · have hji : ¬ ((j : Int) < (len2 : Int)) := by omega
          have hF2 : R.length ≤ 1000000 := by have := hLw.few HN2.out.1; omega
          have HSR : Hid (∀ v v' w, Rs w v R → Rs w v' R → Calls Try.prog 15 #[v, v'] w fun e w' => e = .returned (.bool true) ∧ Below w.heap.size w w') := fun v v' w h h' => by
            have := sameRows_any v v' R R w h h' hF2 hF2 hSm hSm; rw [decide_eq_true (rfl : R = R)] at this; exact this
          have H2 : Hid (Lw w wr b g sb G Hh u s R N (1 + 1000 * k + 1000 * j) ∧ OwnR wr w.heap.size wr.heap.size u10 R ∧ 3 ≤ N) := ⟨hLw, hW, HN2.out.2⟩
          obtain ⟨rm, hrm⟩ : ∃ rm, (N - 1) / 2 - u = rm := ⟨_, rfl⟩
          have HRm : Hid ((N - 1) / 2 - u = rm) := hrm
          clear hLw hW hSm hF2 hon hbu hrm hj hjn
          go_wp2_with (first
            | (go_at_call 14; refine (lw_open H2.out.1 H2.out.2.2).mono ?_; rintro e w6 ⟨sb6, vR, rfl, hL6, hR6, hB6⟩)
            | (go_at_call 6; refine (lw_gen hL6).mono ?_; rintro e w7 ⟨rfl, rfl⟩)
            | (go_at_call_of 11 (Value.pointer (some ⟨sb6, 0, none⟩)); refine (lw_room hL6 H2.out.2.2).mono ?_; rintro e w8 ⟨rfl, hb8⟩; rw [HRm.out])
            | (go_at_call_of 11 (Value.pointer (some ⟨sb, 0, none⟩)); refine (lw_room ((H2.out.1.below hB6).below hb8) H2.out.2.2).mono ?_; rintro e w9 ⟨rfl, hb9⟩; rw [HRm.out]; have hW9 := OwnR.go (OwnR.go (OwnR.go H2.out.2.1 hB6) hb8) hb9; have hR9 := (hR6.below hb8).below hb9)
            | (go_at_call 15; refine (HSR.out vR u10 _ hR9.rs hW9.rs).mono ?_; rintro e w10 ⟨rfl, hB10⟩)
            | (go_at_call 16; refine (awake_any _).mono ?_; rintro e w11 ⟨rfl, hB11⟩))
          go_ret
          exact ⟨rfl, chainB (chainB (chainB (chainB hL6.bel hb8) hb9) hB10) hB11⟩
end Go.Proofs.Ytpifjfhlelekjab
