/- The walk of the law BlockKept. -/
import Derived.Test.YtfomnnlilmahhaaBkY
namespace Go.Proofs.Ytfomnnlilmahhaa
open Go.RowKit

theorem Inv.far {S : Nat → Prop} {w wr w' : World} {base b g N : Nat} {s : Dsk} (h : Inv w base b g N wr s) (hO : Only S wr w') (hS : ∀ k, S k → base ≤ k) : Inv w base b g N w' s :=
  ⟨h.d.only hO (fun e => by have := hS _ e; have := h.hb; omega) (fun e => by have := hS _ e; have := h.hg; omega), hO.below h.bel h.bel.size (fun k e => by have := hS _ e; have := h.hb; have := h.lb; omega), h.len, h.lb, h.lg, h.hb, h.hg, Nat.le_trans h.le hO.size⟩
theorem OwnB.front {w : World} {base g n m cap : Nat} {l l2 : List Int} (h : OwnB w base (.slice (some ⟨g, 0, none⟩) (n + m) cap) (l ++ l2)) (hn : l.length = n) (hm : l2.length = m) : OwnB w base (.slice (some ⟨g, 0, none⟩) n cap) l := by
  subst hn hm
  unfold OwnB at h ⊢
  rw [List.length_append] at h
  refine ⟨by rw [ub_len, Nat.mul_one], .inr ?_⟩
  rcases h.2 with ⟨e, _⟩ | ⟨g', cap', cur, e, hg, hh, r1, r2, r3, r4⟩
  · cases e
  · cases e
    refine ⟨g, cap, cur, rfl, hg, hh, by omega, r2, r3, ?_⟩
    have : cur.toList.take (l.length * 1) = (cur.toList.take ((l.length + l2.length) * 1)).take (l.length * 1) := by
      rw [List.take_take, Nat.min_eq_left (by omega)]
    rw [this, r4]
    unfold ub
    rw [List.map_append, Nat.mul_one, List.take_left' (List.length_map ..)]
/-- one of its bytes written -/
theorem OwnB.cell {w : World} {base g n cap : Nat} {l : List Int} (h : OwnB w base (.slice (some ⟨g, 0, none⟩) n cap) l) (i : Nat) (hi : i < l.length) : (∃ x, w.cell? ⟨g, i, none⟩ = some (.int .u8 x)) ∧ w.frozen? ⟨g, i, none⟩ = false := by
  rcases h.form with ⟨e, _⟩ | ⟨g', cap', e, _, _, _, hc, hf⟩
  · cases e
  · cases e
    exact ⟨⟨_, hc i _ (List.getElem?_eq_getElem hi)⟩, hf i⟩

theorem only_grown {wr w1 : World} {o : Obj} {r : Option Nat} (h : (wr.alloc o).grownBy w1 r) : Only (fun q => r = some q) wr w1 :=
  ⟨h.os, h.tape, h.output, Nat.le_trans (by simp) h.size, fun k hk hn => (h.block k (by simp; omega) (fun e => hn e.symm)).trans (Below.heap_alloc _ _ _ hk)⟩
theorem kept_add {w wr w1 : World} {base b g N B2 gy cy : Nat} {S : Dsk} {v v' : Value} {M L : List Int} {x : Int} {o : Obj} (hI : Inv w base b g N wr S) (ho : OwnB wr base v M) (hy : OwnB wr B2 (.slice (some ⟨gy, 0, none⟩) 64 cy) L) (hne : ∀ q, v.ownBlock = some q → q ≠ gy)
    (hown : w1.ownsRow base 5 1 v' (M.length + 1) (ub M ++ [.int .u8 x])) (hgrow : (wr.alloc o).grownBy w1 v.ownBlock) (hat : v'.ownBlock = v.ownBlock ∨ v'.ownBlock = some (wr.alloc o).heap.size) :
    Inv w base b g N w1 S ∧ OwnB w1 base v' (M ++ [x]) ∧ OwnB w1 B2 (.slice (some ⟨gy, 0, none⟩) 64 cy) L ∧ ∀ q, v'.ownBlock = some q → q ≠ gy := by
  have hO := only_grown hgrow
  have hgy := (hy.at gy rfl).2
  refine ⟨hI.far hO (fun k e => (ho.at k e).1), ?_, hy.moved fun k hk => hO.block k (hy.at k hk).2 (fun e => hne k e (Option.some.inj hk).symm), ?_⟩
  · unfold OwnB ub at *
    rw [List.length_append, List.map_append]; exact hown
  · intro q hq
    rcases hat with e | e
    · exact hne q (by rw [← e]; exact hq)
    · rw [e] at hq; simp at hq; omega

set_option maxRecDepth 100000 in
set_option maxHeartbeats 8000000 in
theorem walk_BlockKept (n : Int) (t : Int) (f : Int) (_ : (Lit.int .i64 n).wf = true) (_ : (Lit.int .i64 t).wf = true) (_ : (Lit.int .i64 f).wf = true) (w : World) :
    Calls Try.prog 6 #[.int .i64 n, .int .i64 t, .int .i64 f] w fun e w' => e = .returned (.bool true) ∧ Below w.heap.size w w' := by
  by_cases hn : 1 ≤ n ∧ n ≤ 1024
  · obtain ⟨N, rfl⟩ := Int.eq_ofNat_of_zero_le (show 0 ≤ n by omega)
    have h1 : 1 ≤ N := by omega
    have h2 : N ≤ 1024 := by omega
    have hK := pl_lt t N h1
    obtain ⟨K, hK'⟩ : ∃ K, pl t N = K := ⟨_, rfl⟩
    have HK : Hid (pl t N = K) := hK'
    rw [hK'] at hK
    obtain ⟨L, hL⟩ : ∃ L, bl 64 f = L := ⟨_, rfl⟩
    have hLl : L.length = 64 := by rw [← hL]; exact bl_len _ _
    have HB : Hid (∀ w, Calls Try.prog 14 #[.int .i64 64, .int .i64 f] w fun e w' => ∃ v, e = .returned v ∧ OwnB w' w.heap.size v L ∧ Below w.heap.size w w') := by
      rw [← hL]; exact fun w => bytes_64 f w
    have HL : Hid (L.length = 64) := hLl
    have HE : Hid (∀ v base w, OwnB w base v L → Calls Try.prog 30 #[v] w fun e w' => ∃ g cap, e = .returned (.tuple #[.slice (some ⟨g, 0, none⟩) 64 cap, .slice (some ⟨g, 0, none⟩) 134 cap]) ∧ OwnB w' w.heap.size (.slice (some ⟨g, 0, none⟩) 134 cap) (L ++ marks 70) ∧ Below w.heap.size w w') := by
      intro v base w h
      have := lend_any v L base w h (by omega) (by omega)
      rw [hLl] at this
      exact this
    clear hn hK' hL hLl
    go_enter Try.func6, Try.ntmps6
    go_wp2_with (first
      | (go_at_call 9; refine (new_yes N _ h1 h2).mono ?_; rintro e w1 ⟨b, g, rfl, hb, hg, hD, hB⟩; have hI := Inv.start hb hg hD hB; clear hb hg hD hB)
      | (go_at_call 12; refine (place_any t N _ h1 h2).mono ?_; rintro e w2 ⟨rfl, rfl⟩; rw [HK.out])
      | (go_at_call 14; have _q := hI5; refine (HB.out _).mono ?_; rintro e w6 ⟨v6, rfl, ho6, hb6⟩)
      | (go_at_call 14; refine (HB.out _).mono ?_; rintro e w3 ⟨v3, rfl, ho3, hb3⟩)
      | (go_at_call 30; refine (HE.out v3 _ _ ho3).mono ?_; rintro e w4 ⟨ga, ca, rfl, ho4, hb4⟩; have hI4 := (hI.below hb3).below hb4)
      | (go_at_call 13; refine (write_plain b g (Dsk.new N) K _ L _ _ hI4.d (new_plain N) (show (0 : Int) ≤ 0 by decide) (show (0 : Int) < 9223372036854775807 by decide) (by rw [hI.len]; exact hK) HL.out (OwnB.front (m := 70) ho4 HL.out (marks_len _)) (by have := hI.d.lb; have := hb3.size; omega)).mono ?_; rintro e w5 ⟨rfl, hD5, hO5⟩; have hI5 := hI4.step hD5 hO5 (List.length_set ..); have ho5 := hI4.own hO5 (ho4.le hb3.size))
      | (go_at_call 31; refine (back_any v6 _ L _ _ _ ho6 (ho5.below hb6) (by rw [HL.out]; decide) (by rw [HL.out]; decide)).mono ?_; rintro e w7 ⟨rfl, hb7⟩; have hI7 := (hI5.below hb6).below hb7; have ho7 := (ho5.below hb6).below hb7))
    obtain ⟨S, hS⟩ : ∃ S, ({ cs := (Dsk.new N).cs.set K L, on := (Dsk.new N).on, burns := (Dsk.new N).burns, left := (Dsk.new N).left, writes := (Dsk.new N).writes + 1 } : Dsk) = S := ⟨_, rfl⟩
    rw [hS] at hI7
    have HS : Hid (S.rdE K = 0 ∧ S.rd K = L) := by
      have hk' : K < S.cs.length := by rw [hI7.len]; exact hK
      obtain ⟨e1, e2⟩ := rd_nat S K hk'
      have : S.cs[K]? = some L := by rw [← hS]; exact set_same _ _ _ (by rw [new_len]; exact hK)
      rw [List.getElem?_eq_getElem hk'] at this
      exact ⟨e1, by rw [e2]; exact Option.some.inj this⟩
    obtain ⟨base, hbase⟩ : ∃ base, w2.heap.size = base := ⟨_, rfl⟩
    rw [hbase] at hI7 ho7
    have hga : base ≤ ga := (ho7.at ga rfl).1
    have hlm : (L ++ marks 70).length = 134 := by rw [List.length_append, marks_len, HL.out]
    obtain ⟨M0, hM0⟩ : ∃ M, L ++ marks 70 = M := ⟨_, rfl⟩
    rw [hM0] at ho7 hlm
    clear hI hI4 hI5 hD5 hO5 ho3 ho4 ho5 ho6 hb3 hb4 hb6 hb7 hS hbase hM0 _q
    go_loopw [12] (fun i wr => ∃ k : Nat, k ≤ 134 ∧ i = .int .i64 k ∧ Inv w base b g N wr S ∧ ∃ M : List Int, M.length = 134 ∧ OwnB wr base (.slice (some ⟨ga, 0, none⟩) 134 ca) M) (fun i _ => 134 - (intOf i).toNat)
    case atStart => exact ⟨0, Nat.zero_le _, rfl, hI7, M0, hlm, ho7⟩
    case round =>
      clear hI7 ho7 hlm
      obtain ⟨k, hk, rfl, hI, M, hM, ho⟩ := hrel
      by_cases hlt : k < 134
      · obtain ⟨⟨x0, d1⟩, d2⟩ := ho.cell k (by omega)
        have hp := fun x => ho.put hM k x
        have HP : Hid (∀ x, OwnB (wr.setCell ⟨ga, k, none⟩ (.int .u8 x)) base (.slice (some ⟨ga, 0, none⟩) 134 ca) (M.set k x)) := hp
        have hki : (k : Int) < 134 := by omega
        clear hp
        go_wp2
        go_roundw
        case rel => exact ⟨k + 1, by omega, by go_num, hI.far (only1 _ ga k _) (fun q e => by omega), _, by rw [List.length_set]; exact hM, HP.out _⟩
        case measure => simp [intOf]; omega
      · have hkl : (134 : Int) ≤ k := by omega
        go_wp2_with (first
          | (go_at_call 16; have _q := ho8; refine (read_any b g S K _ (hI.below hb8).d).mono ?_; rintro e w9 ⟨v9, rfl, ho9, hb9⟩; rw [HS.out.1]; rw [HS.out.2] at ho9)
          | (go_at_call 16; refine (read_any b g S K _ hI.d).mono ?_; rintro e w8 ⟨v8, rfl, ho8, hb8⟩; rw [HS.out.1]; rw [HS.out.2] at ho8)
          | (go_at_call 14; have _q := hb11; refine (HB.out _).mono ?_; rintro e w12 ⟨v12, rfl, ho12, hb12⟩)
          | (go_at_call 14; refine (HB.out _).mono ?_; rintro e w10 ⟨v10, rfl, ho10, hb10⟩)
          | (go_at_call 18; have _q := hb12; refine (same_any v9 v12 L _ _ _ (((ho9.below hb10).below hb11).below hb12) ho12 (by rw [HL.out]; decide)).mono ?_; rintro e w13 ⟨rfl, hb13⟩)
          | (go_at_call 18; refine (same_any v8 v10 L _ _ _ ((ho8.below hb9).below hb10) ho10 (by rw [HL.out]; decide)).mono ?_; rintro e w11 ⟨rfl, hb11⟩))
        have hI13 := (((((hI.below hb8).below hb9).below hb10).below hb11).below hb12).below hb13
        have ho8' := ((((ho8.below hb9).below hb10).below hb11).below hb12).below hb13
        have ho9' := (((ho9.below hb10).below hb11).below hb12).below hb13
        rcases ho8.form with ⟨_, e⟩ | ⟨gx, cx, e, hgx, hgx2, _⟩
        · have := HL.out; rw [e] at this; simp at this
        rcases ho9.form with ⟨_, e'⟩ | ⟨gy, cy, e', hgy, _⟩
        · have := HL.out; rw [e'] at this; simp at this
        rw [HL.out] at e e'
        subst e e'
        have hbx : base ≤ gx := Nat.le_trans hI.le hgx
        obtain ⟨B2, hB2⟩ : ∃ B2, w8.heap.size = B2 := ⟨_, rfl⟩
        rw [hB2] at ho9' hgx2 hgy
        have ho8'' := ho8'.le hI.le
        clear ho8 ho9 ho10 ho12 hb8 hb9 hb10 hb11 hb12 hb13 hI ho hM hB2 ho8' hgx
        go_loopw [17] (fun i wr => ∃ k : Nat, k ≤ 64 ∧ i = .int .i64 k ∧ Inv w base b g N wr S ∧ OwnB wr B2 (.slice (some ⟨gy, 0, none⟩) 64 cy) L ∧ ∃ M : List Int, M.length = 64 ∧ OwnB wr base (.slice (some ⟨gx, 0, none⟩) 64 cx) M) (fun i _ => 64 - (intOf i).toNat)
        case atStart => exact ⟨0, Nat.zero_le _, rfl, hI13, ho9', L, HL.out, ho8''⟩
        case round =>
          clear hI13 ho9' ho8'' hkl hlt hk
          obtain ⟨k, hk, rfl, hI, hy, M, hM, ho⟩ := hrel
          by_cases hlt : k < 64
          · obtain ⟨⟨x0, d1⟩, d2⟩ := ho.cell k (by omega)
            have hp := fun x => ho.put hM k x
            have HP : Hid (∀ x, OwnB (wr.setCell ⟨gx, k, none⟩ (.int .u8 x)) base (.slice (some ⟨gx, 0, none⟩) 64 cx) (M.set k x)) := hp
            have hki : (k : Int) < 64 := by omega
            clear hp
            go_wp2
            go_roundw
            case rel => exact ⟨k + 1, by omega, by go_num, hI.far (only1 _ gx k _) (fun q e => by omega), hy.only (only1 _ gx k _) (fun q e => by omega), _, by rw [List.length_set]; exact hM, HP.out _⟩
            case measure => simp [intOf]; omega
          · have hkl : (64 : Int) ≤ k := by omega
            go_wp2
            go_loopw [13, 18] (fun v i wr => ∃ k : Nat, k ≤ 70 ∧ i = .int .i64 k ∧ Inv w base b g N wr S ∧ OwnB wr B2 (.slice (some ⟨gy, 0, none⟩) 64 cy) L ∧ (∀ q, v.ownBlock = some q → q ≠ gy) ∧ ∃ M : List Int, M.length = 64 + k ∧ OwnB wr base v M) (fun _ i _ => 70 - (intOf i).toNat)
            case atStart => exact ⟨0, Nat.zero_le _, rfl, hI, hy, fun q e => by have : gx = q := Option.some.inj e; omega, M, hM, ho⟩
            case round =>
              clear hI hy ho hM hkl hlt hk
              obtain ⟨k, hk, rfl, hI, hy, hne, M, hM, ho⟩ := hrel
              by_cases hlt : k < 70
              · have hki : (k : Int) < 70 := by omega
                obtain ⟨i0, hi, hz0, hz1, hz2⟩ := info_parts Try.infoU
                have ho' : wr.ownsRow base 5 1 u13 M.length (ub M) := ho
                have HN : Hid (∀ q, u13.ownBlock = some q → q ≠ gy) := hne
                have hle := hI.le
                clear hne
                go_wp2_with (at_builtin; refine wpList_append_own_at _ rfl _ _ 37 rfl base 5 i0 (.int .u8 0) 1 1 Try.underlying37 hi hz0 hz1 hz2 rfl (by decide) _ _ _ rfl (World.ownsRow.alloc ho' _) ⟨wr.heap.size, 0, none⟩ 1 1 [.int .u8 9] rfl rfl (one_at _ _ _) (one_cell _ rfl) (by unfold maxLen; omega) (by omega) (by simp; omega) ?_; intro v' w1 hown hgrow _ hat; have hA := kept_add hI ho hy HN.out hown hgrow hat; clear hown hgrow hat ho' ho)
                go_roundw
                case rel => exact ⟨k + 1, by omega, by go_num, hA.1, hA.2.2.1, hA.2.2.2, _, by rw [List.length_append, hM]; rfl, hA.2.1⟩
                case measure => simp [intOf]; omega
              · obtain rfl : k = 70 := by omega
                obtain ⟨a13, c13, e13⟩ : ∃ a cap, u13 = .slice a 134 cap := by
                  rcases ho.form with ⟨_, e⟩ | ⟨g', cap', e, _⟩
                  · rw [e] at hM; simp at hM
                  · rw [hM] at e; exact ⟨_, _, e⟩
                subst e13
                clear ho hne hM
                go_wp2_with (first
                  | (go_at_call 16; refine (read_any b g S K _ hI.d).mono ?_; rintro e w8 ⟨v8, rfl, ho8, hb8⟩; rw [HS.out.1]; rw [HS.out.2] at ho8)
                  | (go_at_call 14; have _q := hb10; refine (HB.out _).mono ?_; rintro e w11 ⟨v11, rfl, ho11, hb11⟩)
                  | (go_at_call 14; refine (HB.out _).mono ?_; rintro e w9 ⟨v9, rfl, ho9, hb9⟩)
                  | (go_at_call 18; have _q := hb11; refine (same_any v8 v11 L _ _ _ (((ho8.below hb9).below hb10).below hb11) ho11 (by rw [HL.out]; decide)).mono ?_; rintro e w12 ⟨rfl, hb12⟩)
                  | (go_at_call 18; refine (same_any _ v9 L _ _ _ ((hy.below hb8).below hb9) ho9 (by rw [HL.out]; decide)).mono ?_; rintro e w10 ⟨rfl, hb10⟩)
                  | (go_at_call 11; refine (awake_any _).mono ?_; rintro e w13 ⟨rfl, hb13⟩))
                go_ret
                exact ⟨rfl, chainB (chainB (chainB (chainB (chainB (chainB hI.bel hb8) hb9) hb10) hb11) hb12) hb13⟩
  · go_enter Try.func6, Try.ntmps6
    by_cases hs : n < 1
    · have hd : decide (n < 1) = true := decide_eq_true hs
      go_wp2_with (first
        | (go_at_call 9; refine (new_no n _ (by omega)).mono ?_; rintro e w1 ⟨rfl, rfl⟩)
        | (go_at_call 11; refine (awake_any _).mono ?_; rintro e w2 ⟨rfl, hb2⟩))
      go_ret
      exact ⟨rfl, hb2⟩
    · have hd : decide (n < 1) = false := decide_eq_false hs
      have hd2 : decide (1024 < n) = true := decide_eq_true (by omega)
      go_wp2_with (first
        | (go_at_call 9; refine (new_no n _ (by omega)).mono ?_; rintro e w1 ⟨rfl, rfl⟩)
        | (go_at_call 11; refine (awake_any _).mono ?_; rintro e w2 ⟨rfl, hb2⟩))
      go_ret
      exact ⟨rfl, hb2⟩
end Go.Proofs.Ytfomnnlilmahhaa
