/- The document's own scroll: a piece is made. -/
import Derived.Test.YtajgaialnafdbaaJSAys23
namespace Go.Proofs.Ytajgaialnafdbaa
section
open Go.RowKit Go.Lib

theorem RB.three (w : World) (x y z : Int) (t : TypeId) : RB (w.alloc (.cells #[.int .u8 x, .int .u8 y, .int .u8 z] t)) (.slice (some ⟨w.heap.size, 0, none⟩) 3 3) [x, y, z] := by
  refine ⟨_, _, rfl, .inr ⟨w.heap.size, 0, rfl, by simp, fun i u hu => ?_⟩⟩
  rw [Nat.zero_add, cell_of (heap_new _ _)]
  match i, hu with
  | 0, hu => injection hu with hu; subst hu; rfl
  | 1, hu => injection hu with hu; subst hu; rfl
  | 2, hu => injection hu with hu; subst hu; rfl
  | i + 3, hu => cases hu
theorem pieceB_eq (g n k B P : Nat) {p : List Int} (hk : k < 8) (hB : B < 9) (hP : P ≤ 53) (hp : p.length = P) : n4 g ++ n4 n ++ [(k : Int), (B : Int), (P : Int)] ++ p ++ List.replicate (64 - (11 + P)) 0 = pieceB g n k B p := by
  have e1 : k % 256 = k := by omega
  have e2 : B % 256 = B := by omega
  have e3 : P % 256 = P := by omega
  unfold pieceB fillB headL
  rw [hp, e1, e2, e3]
  have e4 : (n4 g ++ (n4 n ++ [(k : Int), (B : Int)]) ++ (P : Int) :: p).length = 11 + P := by simp [n4_len, hp]; omega
  rw [e4]
  simp
set_option maxRecDepth 100000 in
set_option maxHeartbeats 1000000 in
theorem piece_d (g n k : Nat) (v : Value) (l : List Int) (w : World) (hr : RC w v l) (h1 : 1 ≤ l.length) (h2 : l.length ≤ 424) (hk : k < nb l.length) (hg : g < 4294967296) (hn : n < 4294967296) :
    Calls Try.prog 61 #[.int .i64 g, .int .i64 n, .int .i64 k, v] w fun e w' => ∃ v', e = .returned v' ∧ OwnB w' w.heap.size v' (pieceB g n k (nb l.length) (cutP l k)) ∧ Below w.heap.size w w' := by
  obtain ⟨a, cap, rfl, hcap, hc⟩ := hr
  rcases hc with rfl | ⟨G, off, rfl, hG, hc⟩
  · cases h1
  have hk53 : 53 * k < l.length := by unfold nb at hk; omega
  have hk8 : k < 8 := by unfold nb at hk; omega
  obtain ⟨B, hB⟩ : ∃ B, nb l.length = B := ⟨_, rfl⟩
  obtain ⟨L, hL⟩ : ∃ L, l.length = L := ⟨_, rfl⟩
  obtain ⟨K, hK⟩ : ∃ K, 53 * k = K := ⟨_, rfl⟩
  have hK' : (53 : Int) * (k : Int) = (K : Int) := by omega
  rw [hL] at h1 h2 hcap hk53
  rw [hK] at hk53
  have HC : Hid ((∀ i x, l[i]? = some x → w.cell? ⟨G, off + i, none⟩ = some (.int .u8 x)) ∧ G < w.heap.size ∧ l.length = L ∧ nb l.length = B ∧ 53 * k = K) := ⟨hc, hG, hL, hB, hK⟩
  have HB : Hid (∀ w', Calls Try.prog 40 #[.slice (some ⟨G, off, none⟩) L cap] w' fun e w2 => e = .returned (.int .i64 B) ∧ w' = w2) := by
    intro w'
    have := rblocks_d (some ⟨G, off, none⟩) L cap w' (by omega)
    rw [← hL, hB] at this
    rw [← hL]
    exact this
  rw [hB, hL]
  have hBn : B < 9 := by rw [← hB]; unfold nb; omega
  clear hc hG hB hL hK hk
  go_enter Try.func61, Try.ntmps61
  have HF : Hid (∀ w, Calls Try.prog 66 #[.int .i64 g] w fun e w' => ∃ g1, e = .returned (.slice (some ⟨g1, 0, none⟩) 4 4) ∧ OwnB w' w.heap.size (.slice (some ⟨g1, 0, none⟩) 4 4) (n4 g) ∧ Below w.heap.size w w') := fun w => Four_d g w hg
  have HN : Hid (∀ w, Calls Try.prog 66 #[.int .i64 n] w fun e w' => ∃ g1, e = .returned (.slice (some ⟨g1, 0, none⟩) 4 4) ∧ OwnB w' w.heap.size (.slice (some ⟨g1, 0, none⟩) 4 4) (n4 n) ∧ Below w.heap.size w w') := fun w => Four_d n w hn
  go_upto_region 2 with fail
  by_cases hp : 53 < L - K
  · have hd : decide ((53 : Int) < ((L - K : Nat) : Int)) = true := decide_eq_true (by omega)
    have hcc : (53 : Int) ≤ ((cap - K : Nat) : Int) := by omega
    have HP : Hid (RB w (.slice (some ⟨G, off + K, none⟩) 53 (cap - K)) (cutP l k) ∧ (cutP l k).length = 53) := by
      have e : (cutP l k).length = 53 := by rw [cutP_len', HC.out.2.2.1, HC.out.2.2.2.2]; omega
      have hs := RB.sub HC.out.1 HC.out.2.1 K (v := .slice (some ⟨G, off + K, none⟩) 53 (cap - K)) rfl (by rw [HC.out.2.2.1]; omega)
      have e2 : cutP l k = (l.drop K).take 53 := by
        unfold cutP
        rw [HC.out.2.2.2.2]
      rw [← e2] at hs
      exact ⟨hs, e⟩
    go_upto_region 4 with fail
    go_upto_region 5 with (first
      | (go_at_call 66; refine (HN.out w1).mono ?_; rintro e w2 ⟨k2, rfl, ho2, hb2⟩; have hs2 := hb2.size)
      | (go_at_call 66; refine (HF.out w).mono ?_; rintro e w1 ⟨k1, rfl, ho1, hb1⟩; have hs1 := hb1.size)
      | (at_builtin; refine wpList_appB rfl _ _ rfl w.heap.size _ _ rfl (ho1.below hb2) _ _ rfl ho2.rb (by simp [n4_len]) (by omega) ?_; intro v3 w3 ho3 hb3 _; have hs3 := hb3.size))
    have HA : Hid (Below w.heap.size w w3) := (hb1.trans (hb2.mono (by omega))).trans hb3
    go_wp2_with (first
      | (go_at_call 40; refine (HB.out _).mono ?_; rintro e w' ⟨rfl, rfl⟩)
      | (at_builtin; refine wpList_appB rfl _ _ rfl w.heap.size _ _ rfl (ho3.alloc _) _ [_, _, _] rfl (RB.three _ _ _ _ _) (by simp [n4_len]) (by simp; omega) ?_; intro v4 w4 ho4 hb4 _; have hs4 := hb4.size; simp at hs4; have HB4 : Hid (Below w.heap.size w w4) := HA.out.trans (below_al hb4 (by omega)))
      | (at_builtin; refine wpList_appB rfl _ _ rfl w.heap.size _ _ rfl ho4 _ _ rfl (HP.out.1.below HB4.out) (by simp [n4_len, HP.out.2] <;> omega) (by omega) ?_; intro v5 w5 ho5 hb5 _; have hs5 := hb5.size; obtain ⟨g5, c5, rfl, hc5, _, _⟩ := ho5.some (m := 11 + 53) (by simp [n4_len, HP.out.2] <;> omega) (by omega))
      | (at_builtin; refine wpList_appZ0 rfl _ _ rfl w.heap.size _ _ rfl ho5 (by simp [n4_len]; omega) (64 - (11 + 53)) (by first | rfl | (simp [Act.eval]; omega)) (by simp [n4_len, HP.out.2] <;> omega) (by omega) ?_; intro v6 w6 ho6 hb6))
    go_ret
    have e53 : n4 g ++ n4 n ++ [(k : Int), (B : Int), 53] ++ cutP l k ++ List.replicate (64 - (11 + 53)) 0 = pieceB g n k B (cutP l k) := pieceB_eq g n k B 53 hk8 hBn (by omega) HP.out.2
    rw [e53] at ho6
    exact ⟨_, rfl, ho6, (HB4.out.trans hb5).trans hb6⟩
  · have hd : decide ((53 : Int) < ((L - K : Nat) : Int)) = false := decide_eq_false (by omega)
    have HP : Hid (RB w (.slice (some ⟨G, off + K, none⟩) (L - K) (cap - K)) (cutP l k) ∧ (cutP l k).length = (L - K)) := by
      have e : (cutP l k).length = (L - K) := by rw [cutP_len', HC.out.2.2.1, HC.out.2.2.2.2]; omega
      have hs := RB.sub HC.out.1 HC.out.2.1 K (v := .slice (some ⟨G, off + K, none⟩) (L - K) (cap - K)) rfl (by rw [HC.out.2.2.1]; omega)
      have e2 : cutP l k = (l.drop K).take (L - K) := by
        unfold cutP
        rw [HC.out.2.2.2.2, List.take_of_length_le (by rw [List.length_drop, HC.out.2.2.1]; omega), List.take_of_length_le (by rw [List.length_drop, HC.out.2.2.1]; exact Nat.le_refl _)]
      rw [← e2] at hs
      exact ⟨hs, e⟩
    go_upto_region 4 with fail
    go_upto_region 5 with (first
      | (go_at_call 66; refine (HN.out w1).mono ?_; rintro e w2 ⟨k2, rfl, ho2, hb2⟩; have hs2 := hb2.size)
      | (go_at_call 66; refine (HF.out w).mono ?_; rintro e w1 ⟨k1, rfl, ho1, hb1⟩; have hs1 := hb1.size)
      | (at_builtin; refine wpList_appB rfl _ _ rfl w.heap.size _ _ rfl (ho1.below hb2) _ _ rfl ho2.rb (by simp [n4_len]) (by omega) ?_; intro v3 w3 ho3 hb3 _; have hs3 := hb3.size))
    have HA : Hid (Below w.heap.size w w3) := (hb1.trans (hb2.mono (by omega))).trans hb3
    go_wp2_with (first
      | (go_at_call 40; refine (HB.out _).mono ?_; rintro e w' ⟨rfl, rfl⟩)
      | (at_builtin; refine wpList_appB rfl _ _ rfl w.heap.size _ _ rfl (ho3.alloc _) _ [_, _, _] rfl (RB.three _ _ _ _ _) (by simp [n4_len]) (by simp; omega) ?_; intro v4 w4 ho4 hb4 _; have hs4 := hb4.size; simp at hs4; have HB4 : Hid (Below w.heap.size w w4) := HA.out.trans (below_al hb4 (by omega)))
      | (at_builtin; refine wpList_appB rfl _ _ rfl w.heap.size _ _ rfl ho4 _ _ rfl (HP.out.1.below HB4.out) (by simp [n4_len, HP.out.2] <;> omega) (by omega) ?_; intro v5 w5 ho5 hb5 _; have hs5 := hb5.size; obtain ⟨g5, c5, rfl, hc5, _, _⟩ := ho5.some (m := 11 + (L - K)) (by simp [n4_len, HP.out.2] <;> omega) (by omega))
      | (at_builtin; refine wpList_appZ0 rfl _ _ rfl w.heap.size _ _ rfl ho5 (by simp [n4_len]; omega) (64 - (11 + (L - K))) (by first | rfl | (simp [Act.eval]; omega)) (by simp [n4_len, HP.out.2] <;> omega) (by omega) ?_; intro v6 w6 ho6 hb6))
    go_ret
    rw [pieceB_eq g n k B (L - K) hk8 hBn (by omega) HP.out.2] at ho6
    exact ⟨_, rfl, ho6, (HB4.out.trans hb5).trans hb6⟩
end
section
open Go.RowKit Go.Lib

set_option maxRecDepth 100000 in
set_option maxHeartbeats 2000000 in
theorem next_core (r N X Y Z : Nat) (o : Option (Nat × Nat)) (BS : List (List Int)) (w : World) (hN : N ≤ 1024) (hY : Y ≤ 1) (hZ : Y * N = Z) (ho : nextO o = (X, Y)) (hh : ∀ g h, o = some (g, h) → h ≤ 1)
    (HD : Hid (Calls Try.prog 55 #[.pointer (some ⟨r, 0, none⟩)] w fun e w' => e = .returned (.tuple #[.int .i64 (hdG o), .int .i64 (hdH o), .bool o.isSome]) ∧ Below w.heap.size w w'))
    (HH : Hid (∀ w', Below w.heap.size w w' → Calls Try.prog 35 #[.pointer (some ⟨r, 0, none⟩)] w' fun e w2 => e = .returned (.int .i64 (N : Nat)) ∧ w' = w2))
    (HL : Hid (BS.length = N ∧ (∀ k, gmax X (BS.take k) < 4294967296) ∧ ∀ l ∈ BS, Byt l ∧ l.length = 64))
    (HR : Hid (∀ (k : Nat) (l : List Int), BS[k]? = some l → ∀ w', Below w.heap.size w w' → Calls Try.prog 50 #[.pointer (some ⟨r, 0, none⟩), .int .i64 (1 + (Z : Int) + (k : Int))] w' fun e w2 => ∃ k cap, e = .returned (.tuple #[.slice (some ⟨k, 0, none⟩) 64 cap, .int .i64 0]) ∧ 64 ≤ cap ∧ OwnB w2 w'.heap.size (.slice (some ⟨k, 0, none⟩) 64 cap) l ∧ (k < w2.heap.size ∧ ∀ i x, l[i]? = some x → w2.cell? ⟨k, i, none⟩ = some (.int .u8 x)) ∧ Below w'.heap.size w' w2)) :
    Calls Try.prog 45 #[.pointer (some ⟨r, 0, none⟩)] w fun e w' => e = .returned (.tuple #[.int .i64 ((gmax X BS + 1 : Nat) : Int), .int .i64 (Y : Nat)]) ∧ Below w.heap.size w w' := by
  have hZ' : (Y : Int) * (N : Int) = (Z : Int) := by rw [← hZ]; exact (Int.natCast_mul _ _).symm
  have hZ2 : Z ≤ 1024 := by rw [← hZ]; exact Nat.le_trans (Nat.mul_le_mul_right N hY) (by omega)
  have HX : Hid (gmax X BS < 4294967296) := by have := HL.out.2.1 BS.length; rw [List.take_length] at this; exact this
  cases o with
  | none =>
    obtain ⟨hX0, hY0⟩ : X = 0 ∧ Y = 0 := by injection ho with a b; exact ⟨a.symm, b.symm⟩
    have HD2 : Hid (Calls Try.prog 55 #[.pointer (some ⟨r, 0, none⟩)] w fun e w' => e = .returned (.tuple #[.int .i64 (X : Nat), .int .i64 (Y : Nat), .bool false]) ∧ Below w.heap.size w w') := by rw [hX0, hY0]; exact HD.out
    clear HD ho hh hX0 hY0 hY
    go_enter Try.func45, Try.ntmps45
    go_wp2_with (go_at_call 55; refine HD2.out.mono ?_; rintro e w1 ⟨rfl, hb1⟩; have HB0 : Hid (Below w.heap.size w w1) := hb1)
    go_loopw [4, 7] (fun g i wr => ∃ k : Nat, k ≤ N ∧ i = .int .i64 k ∧ g = .int .i64 (gmax X (BS.take k) : Nat) ∧ Below w.heap.size w wr) (fun _ i _ => N - (RowKit.intOf i).toNat)
    case atStart => exact ⟨0, Nat.zero_le _, rfl, by simp [gmax], HB0.out⟩
    case round =>
      obtain ⟨k, hk, rfl, rfl, hbk⟩ := hrel
      have HBk : Hid (Below w.heap.size w wr) := hbk
      clear hbk
      obtain ⟨A, hA⟩ : ∃ A, gmax X (BS.take k) = A := ⟨_, rfl⟩
      have HA : Hid (gmax X (BS.take k) = A) := hA
      have hA2 : A < 4294967296 := by rw [← hA]; exact HL.out.2.1 k
      rw [hA]
      clear hA
      by_cases hkN : k < N
      · have hd : decide ((k : Int) < (N : Int)) = true := decide_eq_true (by omega)
        obtain ⟨l, hl⟩ : ∃ l, BS[k]? = some l := ⟨_, List.getElem?_eq_getElem (by rw [HL.out.1]; exact hkN)⟩
        have HK : Hid _ := HR.out k l hl
        have HQ : Hid (Byt l ∧ l.length = 64) := HL.out.2.2 l (List.mem_of_getElem? hl)
        obtain ⟨V, hV⟩ : ∃ V, le4 (l.drop 0) = V := ⟨_, rfl⟩
        have HV : Hid (le4 (l.drop 0) = V) := hV
        have hV2 : V < 4294967296 := by rw [← hV]; exact le4_lt (byt_drop HQ.out.1 0)
        have HG : Hid (gmax X (BS.take (k + 1)) = max A V) := by rw [gmax_step X BS k l hl, HA.out, ← hV]; rfl
        clear hV hl
        by_cases hgt : A < V
        · have hd2 : decide ((A : Int) < (V : Int)) = true := decide_eq_true (by omega)
          go_wp2_with (first
            | (go_at_call 35; refine (HH.out wr HBk.out).mono ?_; rintro e w' ⟨rfl, rfl⟩)
            | (go_at_call 50; refine (HK.out _ HBk.out).mono ?_; rintro e w3 ⟨k3, cap, rfl, hcap, ho3, ⟨hk3, hcl⟩, hb3⟩; have HO : Hid (OwnB w3 _ (.slice (some ⟨k3, 0, none⟩) 64 cap) l) := ho3; have hcp3 : (4 : Int) ≤ (cap : Int) := (by omega))
            | (go_at_call 65; refine (four_at HO.out HQ.out.2 HQ.out.1 0 4 cap (by omega) (by omega) w4 (hb4.mono (by omega))).mono ?_; rintro e w5 ⟨rfl, hb5⟩; rw [HV.out])
            | (go_at_call 65; refine (four_at HO.out HQ.out.2 HQ.out.1 0 4 cap (by omega) (by omega) w3 (Below.refl _ _)).mono ?_; rintro e w4 ⟨rfl, hb4⟩; rw [HV.out]))
          go_round
          case rel => exact ⟨k + 1, by omega, by go_num, by rw [HG.out, Nat.max_eq_right (by omega)], ((HBk.out.trans (hb3.mono HBk.out.size)).trans (hb4.mono (by have := HBk.out.size; have := hb3.size; omega))).trans (hb5.mono (by have := HBk.out.size; have := hb3.size; have := hb4.size; omega))⟩
          case measure => simp [RowKit.intOf]; omega
        · have hd2 : decide ((A : Int) < (V : Int)) = false := decide_eq_false (by omega)
          go_wp2_with (first
            | (go_at_call 35; refine (HH.out wr HBk.out).mono ?_; rintro e w' ⟨rfl, rfl⟩)
            | (go_at_call 50; refine (HK.out _ HBk.out).mono ?_; rintro e w3 ⟨k3, cap, rfl, hcap, ho3, ⟨hk3, hcl⟩, hb3⟩; have HO : Hid (OwnB w3 _ (.slice (some ⟨k3, 0, none⟩) 64 cap) l) := ho3; have hcp3 : (4 : Int) ≤ (cap : Int) := (by omega))
            | (go_at_call 65; refine (four_at HO.out HQ.out.2 HQ.out.1 0 4 cap (by omega) (by omega) w3 (Below.refl _ _)).mono ?_; rintro e w4 ⟨rfl, hb4⟩; rw [HV.out]))
          go_round
          case rel => exact ⟨k + 1, by omega, by go_num, by rw [HG.out, Nat.max_eq_left (by omega)], (HBk.out.trans (hb3.mono HBk.out.size)).trans (hb4.mono (by have := HBk.out.size; have := hb3.size; omega))⟩
          case measure => simp [RowKit.intOf]; omega
      · have hd : decide ((k : Int) < (N : Int)) = false := decide_eq_false (by omega)
        have HE : Hid (A = gmax X BS) := (HA.out.symm.trans (by rw [List.take_of_length_le (by rw [HL.out.1]; omega)]) : A = gmax X BS)
        go_wp2_with (go_at_call 35; refine (HH.out wr HBk.out).mono ?_; rintro e w' ⟨rfl, rfl⟩)
        go_ret2
        rw [← HE.out]
        exact ⟨by simp, HBk.out⟩
  | some p =>
    obtain ⟨g, h⟩ := p
    have hh1 := hh g h rfl
    obtain ⟨hX0, hY0⟩ : X = g ∧ Y = 1 - h := by injection ho with a b; exact ⟨a.symm, b.symm⟩
    have hYh : (1 : Int) - (h : Int) = (Y : Int) := by omega
    have HD2 : Hid (Calls Try.prog 55 #[.pointer (some ⟨r, 0, none⟩)] w fun e w' => e = .returned (.tuple #[.int .i64 (X : Nat), .int .i64 (h : Nat), .bool true]) ∧ Below w.heap.size w w') := by rw [hX0]; exact HD.out
    clear HD ho hh hX0 hY0 hY
    go_enter Try.func45, Try.ntmps45
    go_wp2_with (go_at_call 55; refine HD2.out.mono ?_; rintro e w1 ⟨rfl, hb1⟩; have HB0 : Hid (Below w.heap.size w w1) := hb1)
    go_loopw [4, 7] (fun g i wr => ∃ k : Nat, k ≤ N ∧ i = .int .i64 k ∧ g = .int .i64 (gmax X (BS.take k) : Nat) ∧ Below w.heap.size w wr) (fun _ i _ => N - (RowKit.intOf i).toNat)
    case atStart => exact ⟨0, Nat.zero_le _, rfl, by simp [gmax], HB0.out⟩
    case round =>
      obtain ⟨k, hk, rfl, rfl, hbk⟩ := hrel
      have HBk : Hid (Below w.heap.size w wr) := hbk
      clear hbk
      obtain ⟨A, hA⟩ : ∃ A, gmax X (BS.take k) = A := ⟨_, rfl⟩
      have HA : Hid (gmax X (BS.take k) = A) := hA
      have hA2 : A < 4294967296 := by rw [← hA]; exact HL.out.2.1 k
      rw [hA]
      clear hA
      by_cases hkN : k < N
      · have hd : decide ((k : Int) < (N : Int)) = true := decide_eq_true (by omega)
        obtain ⟨l, hl⟩ : ∃ l, BS[k]? = some l := ⟨_, List.getElem?_eq_getElem (by rw [HL.out.1]; exact hkN)⟩
        have HK : Hid _ := HR.out k l hl
        have HQ : Hid (Byt l ∧ l.length = 64) := HL.out.2.2 l (List.mem_of_getElem? hl)
        obtain ⟨V, hV⟩ : ∃ V, le4 (l.drop 0) = V := ⟨_, rfl⟩
        have HV : Hid (le4 (l.drop 0) = V) := hV
        have hV2 : V < 4294967296 := by rw [← hV]; exact le4_lt (byt_drop HQ.out.1 0)
        have HG : Hid (gmax X (BS.take (k + 1)) = max A V) := by rw [gmax_step X BS k l hl, HA.out, ← hV]; rfl
        clear hV hl
        by_cases hgt : A < V
        · have hd2 : decide ((A : Int) < (V : Int)) = true := decide_eq_true (by omega)
          go_wp2_with (first
            | (go_at_call 35; refine (HH.out wr HBk.out).mono ?_; rintro e w' ⟨rfl, rfl⟩)
            | (go_at_call 50; refine (HK.out _ HBk.out).mono ?_; rintro e w3 ⟨k3, cap, rfl, hcap, ho3, ⟨hk3, hcl⟩, hb3⟩; have HO : Hid (OwnB w3 _ (.slice (some ⟨k3, 0, none⟩) 64 cap) l) := ho3; have hcp3 : (4 : Int) ≤ (cap : Int) := (by omega))
            | (go_at_call 65; refine (four_at HO.out HQ.out.2 HQ.out.1 0 4 cap (by omega) (by omega) w4 (hb4.mono (by omega))).mono ?_; rintro e w5 ⟨rfl, hb5⟩; rw [HV.out])
            | (go_at_call 65; refine (four_at HO.out HQ.out.2 HQ.out.1 0 4 cap (by omega) (by omega) w3 (Below.refl _ _)).mono ?_; rintro e w4 ⟨rfl, hb4⟩; rw [HV.out]))
          go_round
          case rel => exact ⟨k + 1, by omega, by go_num, by rw [HG.out, Nat.max_eq_right (by omega)], ((HBk.out.trans (hb3.mono HBk.out.size)).trans (hb4.mono (by have := HBk.out.size; have := hb3.size; omega))).trans (hb5.mono (by have := HBk.out.size; have := hb3.size; have := hb4.size; omega))⟩
          case measure => simp [RowKit.intOf]; omega
        · have hd2 : decide ((A : Int) < (V : Int)) = false := decide_eq_false (by omega)
          go_wp2_with (first
            | (go_at_call 35; refine (HH.out wr HBk.out).mono ?_; rintro e w' ⟨rfl, rfl⟩)
            | (go_at_call 50; refine (HK.out _ HBk.out).mono ?_; rintro e w3 ⟨k3, cap, rfl, hcap, ho3, ⟨hk3, hcl⟩, hb3⟩; have HO : Hid (OwnB w3 _ (.slice (some ⟨k3, 0, none⟩) 64 cap) l) := ho3; have hcp3 : (4 : Int) ≤ (cap : Int) := (by omega))
            | (go_at_call 65; refine (four_at HO.out HQ.out.2 HQ.out.1 0 4 cap (by omega) (by omega) w3 (Below.refl _ _)).mono ?_; rintro e w4 ⟨rfl, hb4⟩; rw [HV.out]))
          go_round
          case rel => exact ⟨k + 1, by omega, by go_num, by rw [HG.out, Nat.max_eq_left (by omega)], (HBk.out.trans (hb3.mono HBk.out.size)).trans (hb4.mono (by have := HBk.out.size; have := hb3.size; omega))⟩
          case measure => simp [RowKit.intOf]; omega
      · have hd : decide ((k : Int) < (N : Int)) = false := decide_eq_false (by omega)
        have HE : Hid (A = gmax X BS) := (HA.out.symm.trans (by rw [List.take_of_length_le (by rw [HL.out.1]; omega)]) : A = gmax X BS)
        go_wp2_with (go_at_call 35; refine (HH.out wr HBk.out).mono ?_; rintro e w' ⟨rfl, rfl⟩)
        go_ret2
        rw [← HE.out]
        exact ⟨by simp, HBk.out⟩
end
section
open Go.RowKit Go.Lib

/-- the blocks of a document's disk -/
structure Bk (R : Rf) (cs : List (List Int)) : Prop where
  len : cs.length = R.n
  at_ : ∀ i, i < R.n → cs[i]? = some (lastW R.did i)
  each : ∀ l ∈ cs, l.length = 64
  byt : BytC cs
  lo : 1 ≤ R.n
  hi : R.n ≤ 1024
  big : R.did.length * 32 ≤ 140737488355328
theorem Bk.hs {R : Rf} {cs : List (List Int)} (h : Bk R cs) : hS cs = (R.n - 1) / 2 := by unfold hS; rw [h.len]
theorem Bk.read {R : Rf} {cs : List (List Int)} (h : Bk R cs) {w : World} {r : Nat} (hr : IsRf w r R) {i : Nat} {l : List Int} (hi : cs[i]? = some l) :
    Calls Try.prog 50 #[.pointer (some ⟨r, 0, none⟩), .int .i64 i] w fun e w2 => ∃ k cap, e = .returned (.tuple #[.slice (some ⟨k, 0, none⟩) 64 cap, .int .i64 0]) ∧ 64 ≤ cap ∧ OwnB w2 w.heap.size (.slice (some ⟨k, 0, none⟩) 64 cap) l ∧ (k < w2.heap.size ∧ ∀ i x, l[i]? = some x → w2.cell? ⟨k, i, none⟩ = some (.int .u8 x)) ∧ Below w.heap.size w w2 := by
  have hl : i < R.n := by rw [← h.len]; exact (List.getElem?_eq_some_iff.1 hi).1
  have e := h.at_ i hl
  rw [hi] at e
  injection e with e
  exact rread_blk r R i l w hr hl h.big e.symm (h.each l (List.mem_of_getElem? hi))
theorem Bk.half {R : Rf} {cs : List (List Int)} (h : Bk R cs) {w : World} {r : Nat} (hr : IsRf w r R) : Calls Try.prog 35 #[.pointer (some ⟨r, 0, none⟩)] w fun e w2 => e = .returned (.int .i64 (hS cs : Nat)) ∧ w = w2 := by
  rw [h.hs]; exact rhalf_d r R w hr h.lo h.hi
theorem Bk.zero {R : Rf} {cs : List (List Int)} (h : Bk R cs) : ∃ l, cs[0]? = some l := ⟨_, h.at_ 0 h.lo⟩
theorem Bk.header {R : Rf} {cs : List (List Int)} (h : Bk R cs) {w : World} {r : Nat} (hr : IsRf w r R) :
    Calls Try.prog 55 #[.pointer (some ⟨r, 0, none⟩)] w fun e w' => e = .returned (.tuple #[.int .i64 (hdG (hdrOf ((cs[0]?).getD []))), .int .i64 (hdH (hdrOf ((cs[0]?).getD []))), .bool (hdrOf ((cs[0]?).getD [])).isSome]) ∧ Below w.heap.size w w' := by
  have e := h.at_ 0 h.lo
  have hm := List.mem_of_getElem? e
  rw [e]
  exact rhdr_d r R _ w hr h.lo h.big rfl (h.each _ hm) (h.byt _ hm)
theorem Bk.next {R : Rf} {cs : List (List Int)} (h : Bk R cs) {w : World} {r : Nat} (hr : IsRf w r R) :
    Calls Try.prog 45 #[.pointer (some ⟨r, 0, none⟩)] w fun e w' => e = .returned (.tuple #[.int .i64 (nextG cs : Nat), .int .i64 (nextH cs : Nat)]) ∧ Below w.heap.size w w' := by
  have hY : nextH cs ≤ 1 := nextH_le cs
  obtain ⟨o, ho⟩ : ∃ o, hdrOf ((cs[0]?).getD []) = o := ⟨_, rfl⟩
  have hd := h.header hr
  rw [ho] at hd
  have eG : nextG cs = gmax (nextO o).1 (halfL cs (nextO o).2) + 1 := by unfold nextG; rw [ho]
  have eH : nextH cs = (nextO o).2 := by unfold nextH; rw [ho]
  have hh : ∀ g x, o = some (g, x) → 1 ≤ g ∧ g ≤ 1073741824 ∧ x ≤ 1 := fun g x e => by obtain ⟨a, b, c, _⟩ := hdrOf_some (ho.trans e); exact ⟨a, b, c⟩
  rw [eH] at hY
  rw [eG, eH]
  have hX : (nextO o).1 < 4294967296 := by
    cases o with
    | none => decide
    | some p => obtain ⟨g, x⟩ := p; have := hh g x rfl; show g < _; omega
  refine next_core r (hS cs) (nextO o).1 (nextO o).2 _ o (halfL cs (nextO o).2) w (by rw [h.hs]; have := h.hi; omega) hY rfl rfl (fun g x e => (hh g x e).2.2) hd (fun w' hw => h.half (hr.below hw)) ?_ ?_
  · refine ⟨halfL_len _ _ hY, fun k => gmax_lt hX fun l hl => le4_lt (h.byt l (half_mem (List.mem_of_mem_take hl))), fun l hl => ⟨h.byt l (half_mem hl), h.each l (half_mem hl)⟩⟩
  · intro k l hl w' hw
    rw [halfL_get] at hl
    split at hl
    · have := h.read (hr.below hw) hl
      have e : (((1 + (nextO o).2 * hS cs + k : Nat)) : Int) = 1 + (((nextO o).2 * hS cs : Nat) : Int) + (k : Int) := by omega
      rw [e] at this
      exact this
    · cases hl
end
end Go.Proofs.Ytajgaialnafdbaa
