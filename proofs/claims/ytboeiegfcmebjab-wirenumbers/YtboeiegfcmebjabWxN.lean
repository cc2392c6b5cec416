/- The law WireNumbers. -/
import Derived.Test.YtboeiegfcmebjabWvF
import Derived.Test.YtboeiegfcmebjabWxA
import Derived.Test.YtboeiegfcmebjabWlE
namespace Go.Proofs.Ytboeiegfcmebjab
open Go.RowKit Go.Lib

theorem w64 (x : Int) (h1 : -9223372036854775808 ≤ x) (h2 : x < 9223372036854775808) : wrap64 x = x := by unfold wrap64; omega
theorem meas1 {j k J K : Nat} (hJ : j + 1 = J) (hK : k + 1 = K) (h : j < k) : K - (intOf (Value.int IntKind.i64 ((J : Int) + 1))).toNat < K - (intOf (Value.int IntKind.i64 (J : Int))).toNat := by
  have e1 : (intOf (Value.int IntKind.i64 ((J : Int) + 1))).toNat = J + 1 := by show ((J : Int) + 1).toNat = J + 1; omega
  have e2 : (intOf (Value.int IntKind.i64 (J : Int))).toNat = J := rfl
  rw [e1, e2]; omega
theorem meas2 {j k J K : Nat} (hJ : j + 1 = J) (hK : k + 1 = K) (h : j < k) (hw : wrap64 ((J : Int) + 1) = ((j + 1 + 1 : Nat) : Int)) : K - (intOf (Value.int IntKind.i64 (wrap64 ((J : Int) + 1)))).toNat < K - (intOf (Value.int IntKind.i64 (J : Int))).toNat := by
  rw [hw, hJ]
  have := meas1 hJ hK h
  have e : ((J + 1 : Nat) : Int) = (J : Int) + 1 := rfl
  rw [e]; exact this
def bootN (v : Int) : Nt := { zeroNt with kind := 1, epoch := v }
theorem numOk0 : numOk 0 := by unfold numOk; omega
theorem bootN_ok {v : Int} (h : numOk v) : noteOk (bootN v) :=
  ⟨rfl, ⟨h, numOk0, numOk0, numOk0, numOk0, numOk0, numOk0⟩, .inl rfl⟩
theorem bootN_no {v : Int} (h : ¬ numOk v) : plainN (bootN v) = false := by
  cases hp : plainN (bootN v) with
  | false => rfl
  | true => exact absurd ((plainN_iff _).1 hp).2.1.epoch h
theorem packN_yes (n : Nat) (h : n ≤ 1099511627776) (w : World) : Calls Try.prog 16 #[.agg #[.int .i64 1, .int .i64 (n : Int), .int .i64 0, .int .i64 0, .int .i64 0, .int .i64 0, .string ⟨#[]⟩, .bool false, .int .i64 0, .int .i64 0, .int .i64 0, .string ⟨#[]⟩, .int .i64 0, .int .i64 0, .int .i64 0, .int .i64 0, .int .i64 0, .string ⟨#[]⟩, .int .i64 0, .string ⟨#[]⟩, .int .i64 0, .string ⟨#[]⟩]] w fun e w' => ∃ g off c, e = .returned (.tuple #[.slice (some ⟨g, off, none⟩) ((numB n).length + 1) c, .int .i64 0]) ∧ Hid (g < w'.heap.size ∧ ∀ i x, (numB n)[i]? = some x → w'.cell? ⟨g, off + (i + 1), none⟩ = some (.int .u8 x)) ∧ Below w.heap.size w w' := by
  have hk : noteOk (bootN (n : Int)) := bootN_ok (by unfold numOk; omega)
  have hB : noteB (bootN (n : Int)) = 1 :: numB n := rfl
  refine (pack_p (bootN (n : Int)) w).mono fun e w' hh => ?_
  rcases hh with ⟨_, v, he, ho, hb⟩ | ⟨h0, _⟩
  · rw [hB] at ho
    obtain ⟨a, c, rfl, hc⟩ := ho.rb
    rcases hc with hc | ⟨g, off, rfl, hg, hc⟩
    · cases hc
    · exact ⟨g, off, c, he, ⟨hg, fun i x hx => hc (i + 1) x (by simpa using hx)⟩, hb⟩
  · rw [(plainN_iff _).2 hk] at h0; cases h0
theorem packN_any (v : Int) (w : World) : Calls Try.prog 16 #[.agg #[.int .i64 1, .int .i64 v, .int .i64 0, .int .i64 0, .int .i64 0, .int .i64 0, .string ⟨#[]⟩, .bool false, .int .i64 0, .int .i64 0, .int .i64 0, .string ⟨#[]⟩, .int .i64 0, .int .i64 0, .int .i64 0, .int .i64 0, .int .i64 0, .string ⟨#[]⟩, .int .i64 0, .string ⟨#[]⟩, .int .i64 0, .string ⟨#[]⟩]] w fun e w' => ∃ a k c, e = .returned (.tuple #[.slice a k c, .int .i64 (if numOk v then 0 else 50)]) ∧ Below w.heap.size w w' := by
  refine (pack_p (bootN v) w).mono fun e w' hh => ?_
  by_cases hv : numOk v
  · rw [if_pos hv]
    rcases hh with ⟨_, u, he, ho, hb⟩ | ⟨h0, _⟩
    · obtain ⟨a, c, rfl, _⟩ := ho.rb
      exact ⟨a, _, c, he, hb⟩
    · rw [(plainN_iff _).2 (bootN_ok hv)] at h0; cases h0
  · rw [if_neg hv]
    rcases hh with ⟨h0, _⟩ | ⟨_, he, hb⟩
    · rw [bootN_no hv] at h0; cases h0
    · exact ⟨_, _, _, he, hb⟩
set_option maxRecDepth 20000 in
set_option maxHeartbeats 8000000 in
theorem numbers_bad (v u : Int) (w : World) (h : ¬ (numOk v ∧ numOk u)) : Calls Try.prog 5 #[.int .i64 v, .int .i64 u] w fun e w' => e = .returned (.bool true) ∧ Below w.heap.size w w' := by
  have HAw : Hid (∀ W, Calls Try.prog 15 #[] W fun e w' => e = .returned (.bool true) ∧ Below W.heap.size W w') := awake_w
  have HV : Hid (∀ W, Calls Try.prog 16 #[.agg #[.int .i64 1, .int .i64 v, .int .i64 0, .int .i64 0, .int .i64 0, .int .i64 0, .string ⟨#[]⟩, .bool false, .int .i64 0, .int .i64 0, .int .i64 0, .string ⟨#[]⟩, .int .i64 0, .int .i64 0, .int .i64 0, .int .i64 0, .int .i64 0, .string ⟨#[]⟩, .int .i64 0, .string ⟨#[]⟩, .int .i64 0, .string ⟨#[]⟩]] W fun e w' => ∃ a k c, e = .returned (.tuple #[.slice a k c, .int .i64 (if numOk v then 0 else 50)]) ∧ Below W.heap.size W w') := packN_any v
  have HU : Hid (∀ W, Calls Try.prog 16 #[.agg #[.int .i64 1, .int .i64 u, .int .i64 0, .int .i64 0, .int .i64 0, .int .i64 0, .string ⟨#[]⟩, .bool false, .int .i64 0, .int .i64 0, .int .i64 0, .string ⟨#[]⟩, .int .i64 0, .int .i64 0, .int .i64 0, .int .i64 0, .int .i64 0, .string ⟨#[]⟩, .int .i64 0, .string ⟨#[]⟩, .int .i64 0, .string ⟨#[]⟩]] W fun e w' => ∃ a k c, e = .returned (.tuple #[.slice a k c, .int .i64 (if numOk u then 0 else 50)]) ∧ Below W.heap.size W w') := packN_any u
  have cv : (¬ v < 0 ∧ ¬ (1099511627776 : Int) < v ∧ numOk v) ∨ (v < 0 ∧ ¬ numOk v) ∨ (¬ v < 0 ∧ (1099511627776 : Int) < v ∧ ¬ numOk v) := by unfold numOk; omega
  have cu : (¬ u < 0 ∧ ¬ (1099511627776 : Int) < u ∧ numOk u) ∨ (u < 0 ∧ ¬ numOk u) ∨ (¬ u < 0 ∧ (1099511627776 : Int) < u ∧ ¬ numOk u) := by unfold numOk; omega
  rcases cv with ⟨v0, v1, hv⟩ | ⟨v0, hv⟩ | ⟨v0, v1, hv⟩ <;> rcases cu with ⟨u0, u1, hu⟩ | ⟨u0, hu⟩ | ⟨u0, u1, hu⟩
  · exact absurd ⟨hv, hu⟩ h
  · skip
    simp only [hv, hu, if_true, if_false] at HV HU
    have dv0 : decide (v < 0) = false := decide_eq_false v0
    have dv1 : decide ((1099511627776 : Int) < v) = false := decide_eq_false v1
    have du0 : decide (u < 0) = true := decide_eq_true u0
    clear h hv hu v0 u0 v1
    go_enter Try.func5, Try.ntmps5
    go_upto_region 2 with (go_at_call 16; refine (HV.out _).mono ?_; rintro e w1 ⟨a1, k1, c1, rfl, hb1⟩)
    go_upto_region 3 with (go_at_call 16; refine (HU.out _).mono ?_; rintro e w2 ⟨a2, k2, c2, rfl, hb2⟩)
    clear HV HU
    go_wp2_with (go_at_call 15; refine (HAw.out w2).mono ?_; rintro e w3 ⟨rfl, hb3⟩)
    go_ret
    exact ⟨rfl, chainB hb1 (chainB hb2 hb3)⟩
  · skip
    simp only [hv, hu, if_true, if_false] at HV HU
    have dv0 : decide (v < 0) = false := decide_eq_false v0
    have dv1 : decide ((1099511627776 : Int) < v) = false := decide_eq_false v1
    have du0 : decide (u < 0) = false := decide_eq_false u0
    have du1 : decide ((1099511627776 : Int) < u) = true := decide_eq_true u1
    clear h hv hu v0 u0 v1 u1
    go_enter Try.func5, Try.ntmps5
    go_upto_region 2 with (go_at_call 16; refine (HV.out _).mono ?_; rintro e w1 ⟨a1, k1, c1, rfl, hb1⟩)
    go_upto_region 3 with (go_at_call 16; refine (HU.out _).mono ?_; rintro e w2 ⟨a2, k2, c2, rfl, hb2⟩)
    clear HV HU
    go_wp2_with (go_at_call 15; refine (HAw.out w2).mono ?_; rintro e w3 ⟨rfl, hb3⟩)
    go_ret
    exact ⟨rfl, chainB hb1 (chainB hb2 hb3)⟩
  · skip
    simp only [hv, hu, if_true, if_false] at HV HU
    have dv0 : decide (v < 0) = true := decide_eq_true v0
    have du0 : decide (u < 0) = false := decide_eq_false u0
    have du1 : decide ((1099511627776 : Int) < u) = false := decide_eq_false u1
    clear h hv hu v0 u0 u1
    go_enter Try.func5, Try.ntmps5
    go_upto_region 2 with (go_at_call 16; refine (HV.out _).mono ?_; rintro e w1 ⟨a1, k1, c1, rfl, hb1⟩)
    go_upto_region 3 with (go_at_call 16; refine (HU.out _).mono ?_; rintro e w2 ⟨a2, k2, c2, rfl, hb2⟩)
    clear HV HU
    go_wp2_with (go_at_call 15; refine (HAw.out w2).mono ?_; rintro e w3 ⟨rfl, hb3⟩)
    go_ret
    exact ⟨rfl, chainB hb1 (chainB hb2 hb3)⟩
  · skip
    simp only [hv, hu, if_false] at HV HU
    have dv0 : decide (v < 0) = true := decide_eq_true v0
    have du0 : decide (u < 0) = true := decide_eq_true u0
    clear h hv hu v0 u0
    go_enter Try.func5, Try.ntmps5
    go_upto_region 2 with (go_at_call 16; refine (HV.out _).mono ?_; rintro e w1 ⟨a1, k1, c1, rfl, hb1⟩)
    go_upto_region 3 with (go_at_call 16; refine (HU.out _).mono ?_; rintro e w2 ⟨a2, k2, c2, rfl, hb2⟩)
    clear HV HU
    go_wp2_with (go_at_call 15; refine (HAw.out w2).mono ?_; rintro e w3 ⟨rfl, hb3⟩)
    go_ret
    exact ⟨rfl, chainB hb1 (chainB hb2 hb3)⟩
  · skip
    simp only [hv, hu, if_false] at HV HU
    have dv0 : decide (v < 0) = true := decide_eq_true v0
    have du0 : decide (u < 0) = false := decide_eq_false u0
    have du1 : decide ((1099511627776 : Int) < u) = true := decide_eq_true u1
    clear h hv hu v0 u0 u1
    go_enter Try.func5, Try.ntmps5
    go_upto_region 2 with (go_at_call 16; refine (HV.out _).mono ?_; rintro e w1 ⟨a1, k1, c1, rfl, hb1⟩)
    go_upto_region 3 with (go_at_call 16; refine (HU.out _).mono ?_; rintro e w2 ⟨a2, k2, c2, rfl, hb2⟩)
    clear HV HU
    go_wp2_with (go_at_call 15; refine (HAw.out w2).mono ?_; rintro e w3 ⟨rfl, hb3⟩)
    go_ret
    exact ⟨rfl, chainB hb1 (chainB hb2 hb3)⟩
  · skip
    simp only [hv, hu, if_true, if_false] at HV HU
    have dv0 : decide (v < 0) = false := decide_eq_false v0
    have dv1 : decide ((1099511627776 : Int) < v) = true := decide_eq_true v1
    have du0 : decide (u < 0) = false := decide_eq_false u0
    have du1 : decide ((1099511627776 : Int) < u) = false := decide_eq_false u1
    clear h hv hu v0 u0 v1 u1
    go_enter Try.func5, Try.ntmps5
    go_upto_region 2 with (go_at_call 16; refine (HV.out _).mono ?_; rintro e w1 ⟨a1, k1, c1, rfl, hb1⟩)
    go_upto_region 3 with (go_at_call 16; refine (HU.out _).mono ?_; rintro e w2 ⟨a2, k2, c2, rfl, hb2⟩)
    clear HV HU
    go_wp2_with (go_at_call 15; refine (HAw.out w2).mono ?_; rintro e w3 ⟨rfl, hb3⟩)
    go_ret
    exact ⟨rfl, chainB hb1 (chainB hb2 hb3)⟩
  · skip
    simp only [hv, hu, if_false] at HV HU
    have dv0 : decide (v < 0) = false := decide_eq_false v0
    have dv1 : decide ((1099511627776 : Int) < v) = true := decide_eq_true v1
    have du0 : decide (u < 0) = true := decide_eq_true u0
    clear h hv hu v0 u0 v1
    go_enter Try.func5, Try.ntmps5
    go_upto_region 2 with (go_at_call 16; refine (HV.out _).mono ?_; rintro e w1 ⟨a1, k1, c1, rfl, hb1⟩)
    go_upto_region 3 with (go_at_call 16; refine (HU.out _).mono ?_; rintro e w2 ⟨a2, k2, c2, rfl, hb2⟩)
    clear HV HU
    go_wp2_with (go_at_call 15; refine (HAw.out w2).mono ?_; rintro e w3 ⟨rfl, hb3⟩)
    go_ret
    exact ⟨rfl, chainB hb1 (chainB hb2 hb3)⟩
  · skip
    simp only [hv, hu, if_false] at HV HU
    have dv0 : decide (v < 0) = false := decide_eq_false v0
    have dv1 : decide ((1099511627776 : Int) < v) = true := decide_eq_true v1
    have du0 : decide (u < 0) = false := decide_eq_false u0
    have du1 : decide ((1099511627776 : Int) < u) = true := decide_eq_true u1
    clear h hv hu v0 u0 v1 u1
    go_enter Try.func5, Try.ntmps5
    go_upto_region 2 with (go_at_call 16; refine (HV.out _).mono ?_; rintro e w1 ⟨a1, k1, c1, rfl, hb1⟩)
    go_upto_region 3 with (go_at_call 16; refine (HU.out _).mono ?_; rintro e w2 ⟨a2, k2, c2, rfl, hb2⟩)
    clear HV HU
    go_wp2_with (go_at_call 15; refine (HAw.out w2).mono ?_; rintro e w3 ⟨rfl, hb3⟩)
    go_ret
    exact ⟨rfl, chainB hb1 (chainB hb2 hb3)⟩
set_option maxRecDepth 20000 in
set_option maxHeartbeats 8000000 in
theorem numbers_good (n m : Nat) (w : World) (hn : n ≤ 1099511627776) (hm : m ≤ 1099511627776) : Calls Try.prog 5 #[.int .i64 (n : Int), .int .i64 (m : Int)] w fun e w' => e = .returned (.bool true) ∧ Below w.heap.size w w' := by
  have HAw : Hid (∀ W, Calls Try.prog 15 #[] W fun e w' => e = .returned (.bool true) ∧ Below W.heap.size W w') := awake_w
  have HV := fun W => packN_yes n hn W
  have HU := fun W => packN_yes m hm W
  have hk6 : (numB n).length ≤ 6 := numB_len 5 n (by omega)
  have hp := numB_pos n
  have hpw := numB_pow n
  have hmono : n ≤ m → (numB n).length ≤ (numB m).length := numB_mono
  have hlow := numB_low n
  have hget := numB_get n
  have hmore := numB_more n
  obtain ⟨D, hD⟩ : ∃ D, numB n = D := ⟨_, rfl⟩
  obtain ⟨k, hk⟩ : ∃ k, D.length = k := ⟨_, rfl⟩
  obtain ⟨k', hk'⟩ : ∃ k, (numB m).length = k := ⟨_, rfl⟩
  simp only [hD, hk] at HV hk6 hp hpw hmono hlow hget hmore
  simp only [hk'] at HU hmono
  have HV2 : Hid (∀ W, Calls Try.prog 16 #[.agg #[.int .i64 1, .int .i64 (n : Int), .int .i64 0, .int .i64 0, .int .i64 0, .int .i64 0, .string ⟨#[]⟩, .bool false, .int .i64 0, .int .i64 0, .int .i64 0, .string ⟨#[]⟩, .int .i64 0, .int .i64 0, .int .i64 0, .int .i64 0, .int .i64 0, .string ⟨#[]⟩, .int .i64 0, .string ⟨#[]⟩, .int .i64 0, .string ⟨#[]⟩]] W fun e w' => ∃ g off c, e = .returned (.tuple #[.slice (some ⟨g, off, none⟩) (k + 1) c, .int .i64 0]) ∧ Hid (g < w'.heap.size ∧ ∀ i x, D[i]? = some x → w'.cell? ⟨g, off + (i + 1), none⟩ = some (.int .u8 x)) ∧ Below W.heap.size W w') := HV
  have HU2 : Hid (∀ W, Calls Try.prog 16 #[.agg #[.int .i64 1, .int .i64 (m : Int), .int .i64 0, .int .i64 0, .int .i64 0, .int .i64 0, .string ⟨#[]⟩, .bool false, .int .i64 0, .int .i64 0, .int .i64 0, .string ⟨#[]⟩, .int .i64 0, .int .i64 0, .int .i64 0, .int .i64 0, .int .i64 0, .string ⟨#[]⟩, .int .i64 0, .string ⟨#[]⟩, .int .i64 0, .string ⟨#[]⟩]] W fun e w' => ∃ a c, e = .returned (.tuple #[.slice a (k' + 1) c, .int .i64 0]) ∧ Below W.heap.size W w') := fun W => (HU W).mono fun e w' ⟨g, off, c, he, _, hb⟩ => ⟨_, c, he, hb⟩
  have HF : Hid (k ≤ 6 ∧ 0 < k ∧ n < 128 ^ k ∧ (n ≤ m → k ≤ k') ∧ (∀ j, j + 2 = k → 128 ^ (j + 1) ≤ n) ∧ (∀ j, j < k → D[j]? = some (if j + 1 < k then ((n / 128 ^ j % 128 + 128 : Nat) : Int) else ((n / 128 ^ j : Nat) : Int))) ∧ (∀ j, j + 1 < k → 128 ≤ n / 128 ^ j)) := ⟨hk6, hp, hpw, hmono, hlow, hget, hmore⟩
  clear HV HU hp hpw hmono hlow hget hmore hD hk hk'
  go_enter Try.func5, Try.ntmps5
  go_upto_region 2 with (go_at_call 16; refine (HV2.out _).mono ?_; rintro e w1 ⟨g, off, c1, rfl, hc1, hb1⟩)
  go_upto_region 3 with (go_at_call 16; refine (HU2.out _).mono ?_; rintro e w2 ⟨a2, c2, rfl, hb2⟩)
  have HC : Hid (g < w2.heap.size ∧ ∀ i x, D[i]? = some x → w2.cell? ⟨g, off + (i + 1), none⟩ = some (.int .u8 x)) := ⟨Nat.lt_of_lt_of_le hc1.out.1 hb2.size, fun i x hx => (hb2.cell (p := ⟨g, off + (i + 1), none⟩) hc1.out.1).trans (hc1.out.2 i x hx)⟩
  have HB : Hid (Below w.heap.size w w2) := chainB hb1 hb2
  clear HV2 HU2 hc1 hb1 hb2
  go_wp2
  go_loopw [9, 10, 11] (fun b u i wr => ∃ j : Nat, j ≤ k ∧ b = .int .i64 ((n % 128 ^ j : Nat) : Int) ∧ u = .int .i64 ((128 ^ j : Nat) : Int) ∧ i = .int .i64 ((j + 1 : Nat) : Int) ∧ Below w2.heap.size w2 wr) (fun _ _ i _ => k + 1 - (intOf i).toNat)
  case atStart => exact ⟨0, Nat.zero_le _, by simp [Nat.mod_one], by simp, by simp, Below.refl _ _⟩
  case round =>
    obtain ⟨j, hj, rfl, rfl, rfl, hb⟩ := hrel
    by_cases hjk : j < k
    · have hx := HF.out.2.2.2.2.2.1 j hjk
      obtain ⟨B, hB⟩ : ∃ B, n % 128 ^ j = B := ⟨_, rfl⟩
      obtain ⟨U, hU⟩ : ∃ U, 128 ^ j = U := ⟨_, rfl⟩
      have hU1 : U ≤ 34359738368 := by rw [← hU]; exact Nat.le_trans (Nat.pow_le_pow_right (by omega) (by omega : j ≤ 5)) (by decide)
      have hBn : B ≤ n := by rw [← hB]; exact Nat.mod_le _ _
      obtain ⟨y, hy⟩ : ∃ y, n / 128 ^ j % 128 = y := ⟨_, rfl⟩
      have hy1 : y < 128 := by rw [← hy]; exact Nat.mod_lt _ (by omega)
      have hstep := mod_step n j
      obtain ⟨p, hp⟩ : ∃ p, y * U = p := ⟨_, rfl⟩
      have hpb : p ≤ 127 * 34359738368 := by rw [← hp]; exact Nat.mul_le_mul (by omega) hU1
      rw [hB, hy, hU, hp] at hstep
      obtain ⟨S, hS⟩ : ∃ S, n % 128 ^ (j + 1) = S := ⟨_, rfl⟩
      rw [hS] at hstep
      have hpow : 128 ^ (j + 1) = U * 128 := by rw [Nat.pow_succ, hU]
      obtain ⟨V, hV⟩ : ∃ V, U * 128 = V := ⟨_, rfl⟩
      have HN1 : Hid (n % 128 ^ (j + 1) = S ∧ 128 ^ (j + 1) = V) := ⟨hS, hpow.trans hV⟩
      have w1 : IntKind.i64.wrap ((y : Int) * (U : Int)) = (p : Int) := by
        have : (y : Int) * (U : Int) = (p : Int) := by rw [← hp]; simp
        rw [this]
        exact IntWalk.i64_in _ (by omega)
      have w2' : IntKind.i64.wrap ((B : Int) + (p : Int)) = (S : Int) := by
        have : (B : Int) + (p : Int) = (S : Int) := by omega
        rw [this]
        exact IntWalk.i64_in _ (by omega)
      have w3 : IntKind.i64.wrap ((U : Int) * 128) = (V : Int) := by
        have : (U : Int) * 128 = (V : Int) := by omega
        rw [this]
        exact IntWalk.i64_in _ (by omega)
      have w4 : IntKind.i64.wrap (((k + 1 : Nat) : Int) - 1) = (k : Int) := by
        have : ((k + 1 : Nat) : Int) - 1 = (k : Int) := by omega
        rw [this]
        exact IntWalk.i64_in _ (by omega)
      have hw64 : wrap64 ((B : Int) + wrap64 (wrap64 (y : Int) * (U : Int))) = (S : Int) := by
        rw [w64 (y : Int) (by omega) (by omega)]
        have e : (y : Int) * (U : Int) = (p : Int) := by rw [← hp]; simp
        rw [e, w64 (p : Int) (by omega) (by omega), w64 _ (by omega) (by omega)]
        omega
      rw [hB, hU]
      obtain ⟨J, hJ⟩ : ∃ J, j + 1 = J := ⟨_, rfl⟩
      have HJ : Hid (j + 1 = J) := hJ
      obtain ⟨K, hK⟩ : ∃ K, k + 1 = K := ⟨_, rfl⟩
      have HK : Hid (k + 1 = K) := hK
      have hcl := HC.out.2 j
      rw [hx] at hcl
      have hlt : (J : Int) < (K : Int) := by omega
      have HW : Hid (wrap64 ((B : Int) + wrap64 (wrap64 (y : Int) * (U : Int))) = (S : Int) ∧ wrap64 ((J : Int) + 1) = ((j + 1 + 1 : Nat) : Int)) := ⟨hw64, by rw [w64 _ (by omega) (by omega), ← hJ]; push_cast; omega⟩
      clear hw64
      rw [hJ] at hcl ⊢
      rw [hK] at w4 ⊢
      by_cases hl : j + 1 < k
      · rw [if_pos (by omega : J < k), hy] at hcl
        obtain ⟨x, hxx⟩ : ∃ x, y + 128 = x := ⟨_, rfl⟩
        rw [hxx] at hcl
        have c1 := (hb.cell (p := ⟨g, off + J, none⟩) HC.out.1).trans (hcl _ rfl)
        have hand : bits .and .u8 (x : Int) 127 = (y : Int) := by rw [u8_and127 x (by omega)]; congr 1; omega
        have hge : (128 : Int) ≤ (x : Int) := by omega
        have hlk : (J : Int) < (k : Int) := by omega
        clear hcl hx hB hU hU1 hBn hy hy1 hstep hp hpb hS hpow hV hl hxx hJ hK
        go_wp2
        go_roundw
        case rel => exact ⟨j + 1, by have := HJ.out; omega, by rw [HN1.out.1]; rw [HW.out.1], by rw [HN1.out.2], by have := HJ.out; go_num, hb⟩
        case measure => exact meas1 HJ.out HK.out hjk
      · rw [if_neg (by omega : ¬ J < k)] at hcl
        have hq : n / 128 ^ j < 128 := by
          rw [Nat.div_lt_iff_lt_mul (Nat.pow_pos (by omega))]
          have := HF.out.2.2.1
          rw [show k = j + 1 by omega, Nat.pow_succ, Nat.mul_comm] at this
          exact this
        have hyx : n / 128 ^ j = y := by rw [← hy]; exact (Nat.mod_eq_of_lt hq).symm
        rw [hyx] at hcl
        have c1 := (hb.cell (p := ⟨g, off + J, none⟩) HC.out.1).trans (hcl _ rfl)
        have hand : bits .and .u8 (y : Int) 127 = (y : Int) := by rw [u8_and127 y (by omega)]; congr 1; omega
        have hge : ¬ (128 : Int) ≤ (y : Int) := by omega
        have hlk : ¬ (J : Int) < (k : Int) := by omega
        clear hcl hx hB hU hU1 hBn hy hy1 hstep hp hpb hS hpow hV hl hq hyx hJ hK
        go_wp2
        go_roundw
        case rel => exact ⟨j + 1, by have := HJ.out; omega, by rw [HN1.out.1], by rw [HN1.out.2], by rw [HW.out.2], hb⟩
        case measure => exact meas2 HJ.out HK.out hjk HW.out.2
    · obtain rfl : j = k := by omega
      have hnn : n % 128 ^ j = n := Nat.mod_eq_of_lt HF.out.2.2.1
      rw [hnn]
      have hmono := HF.out.2.2.2.1
      have hlow := HF.out.2.2.2.2.1
      have hx := HF.out.2.2.2.2.2.1
      have h0k := HF.out.2.1
      have w4 : IntKind.i64.wrap (((j + 1 : Nat) : Int) - 1) = (j : Int) := by
        have : ((j + 1 : Nat) : Int) - 1 = (j : Int) := by omega
        rw [this]
        exact IntWalk.i64_in _ (by omega)
      obtain ⟨U, hU⟩ : ∃ U, 128 ^ j = U := ⟨_, rfl⟩
      rw [hU]
      have hlast : ∃ z : Nat, w2.cell? ⟨g, off + j, none⟩ = some (.int .u8 (z : Int)) ∧ (j ≠ 1 → z ≠ 0) := by
        have hc := HC.out.2 (j - 1) _ (hx (j - 1) (by omega))
        rw [if_neg (by omega), show j - 1 + 1 = j by omega] at hc
        refine ⟨_, hc, fun hj1 => ?_⟩
        have h2 := hlow (j - 2) (by omega)
        rw [show j - 2 + 1 = j - 1 by omega] at h2
        exact Nat.ne_of_gt (Nat.div_pos h2 (Nat.pow_pos (by omega)))
      obtain ⟨z, hz, hz0⟩ := hlast
      have c1 := (hb.cell (p := ⟨g, off + j, none⟩) HC.out.1).trans hz
      obtain ⟨K, hK⟩ : ∃ K, j + 1 = K := ⟨_, rfl⟩
      rw [hK] at w4 ⊢
      have hK7 : (K : Int) ≤ 7 := by omega
      have hjK : (j : Int) < (K : Int) := by omega
      have hKK : ¬ (K : Int) < (K : Int) := by omega
      have HBw : Hid (Below w.heap.size w w2) := HB.out
      have HBl : Hid (Below w2.heap.size w2 wr) := hb
      obtain ⟨K', hK'⟩ : ∃ K, k' + 1 = K := ⟨_, rfl⟩
      rw [hK']
      have cmp : (m : Int) < (n : Int) ∨ (¬ (m : Int) < (n : Int) ∧ (K : Int) ≤ (K' : Int)) := by
        by_cases h : m < n
        · exact .inl (by omega)
        · have := hmono (by omega); exact .inr ⟨by omega, by omega⟩
      have two : ((K : Int) == 2) = true ∨ (((K : Int) == 2) = false ∧ ((z : Int) != 0) = true) := by
        by_cases h : j = 1
        · exact .inl (by rw [beq_iff_eq]; omega)
        · refine .inr ⟨by rw [beq_eq_false_iff_ne]; omega, ?_⟩
          have := hz0 h
          rw [bne_iff_ne]
          omega
      clear hmono hlow hx hz hz0 hb hnn hU HB hK hK'
      rcases cmp with h1 | ⟨h1, h1'⟩ <;> rcases two with h2 | ⟨h2, h2'⟩ <;>
        (go_wp2_with (go_at_call 15; refine (HAw.out _).mono ?_; rintro e w3 ⟨rfl, hb3⟩)
         go_ret
         exact ⟨rfl, chainB HBw.out (chainB HBl.out hb3)⟩)
theorem walk_WireNumbers (v u : Int) (_hv : (Lit.int .i64 v).wf = true) (_hu : (Lit.int .i64 u).wf = true) (w : World) : Calls Try.prog 5 #[.int .i64 v, .int .i64 u] w fun e w' => e = .returned (.bool true) ∧ Below w.heap.size w w' := by
  by_cases h : numOk v ∧ numOk u
  · obtain ⟨h1, h2⟩ := h
    unfold numOk at h1 h2
    obtain ⟨n, rfl⟩ : ∃ n : Nat, v = (n : Int) := ⟨v.toNat, by omega⟩
    obtain ⟨m, rfl⟩ : ∃ m : Nat, u = (m : Int) := ⟨u.toNat, by omega⟩
    exact numbers_good n m w (by omega) (by omega)
  · exact numbers_bad v u w h
end Go.Proofs.Ytboeiegfcmebjab
