/- A disk of the law's own; the walk of the law BlockLast. -/
import Derived.Test.YtfomnnlilmahhaaBkV
namespace Go.Proofs.Ytfomnnlilmahhaa
open Go.RowKit

/-- a list of ints that came in -/
def RowI (w : World) (a : Option Addr) (len : Nat) (A : Nat → Int) : Prop :=
  len = 0 ∨ ∃ b off, a = some ⟨b, off, none⟩ ∧ b < w.heap.size ∧ ∀ i, i < len → w.cell? ⟨b, off + i, none⟩ = some (.int .i64 (A i)) ∧ (Lit.int .i64 (A i)).wf = true
theorem RowI.below {w w' : World} {a : Option Addr} {len : Nat} {A : Nat → Int} (h : RowI w a len A) (hb : Below w.heap.size w w') : RowI w' a len A := by
  rcases h with h | ⟨b, off, rfl, hs, hc⟩
  · exact .inl h
  · exact .inr ⟨b, off, rfl, Nat.lt_of_lt_of_le hs hb.size, fun i hi => ⟨(hb.cell (p := ⟨b, off + i, none⟩) hs).trans (hc i hi).1, (hc i hi).2⟩⟩

/-- a disk of the law's own: made in w, its blocks below 'base' -/
structure Inv (w : World) (base b g N : Nat) (wr : World) (s : Dsk) : Prop where
  d : IsD wr b g s
  bel : Below w.heap.size w wr
  len : s.cs.length = N
  lb : w.heap.size ≤ b
  lg : w.heap.size ≤ g
  hb : b < base
  hg : g < base
  le : base ≤ wr.heap.size
theorem Inv.start {w w1 : World} {b g N : Nat} (hb : w.heap.size ≤ b) (hg : w.heap.size ≤ g) (hD : IsD w1 b g (Dsk.new N)) (hB : Below w.heap.size w w1) : Inv w w1.heap.size b g N w1 (Dsk.new N) :=
  ⟨hD, hB, new_len N, hb, hg, hD.lb, hD.lg, Nat.le_refl _⟩
theorem Inv.below {w wr w' : World} {base b g N : Nat} {s : Dsk} (h : Inv w base b g N wr s) (hb : Below wr.heap.size wr w') : Inv w base b g N w' s :=
  ⟨h.d.below hb, chainB h.bel hb, h.len, h.lb, h.lg, h.hb, h.hg, Nat.le_trans h.le hb.size⟩
theorem Inv.step {w wr w' : World} {base b g N : Nat} {s s' : Dsk} (h : Inv w base b g N wr s) (hD : IsD w' b g s') (hO : Only (fun x => x = b ∨ x = g) wr w') (hl : s'.cs.length = s.cs.length) : Inv w base b g N w' s' :=
  ⟨hD, hO.below h.bel h.bel.size (fun _ hk => hk.elim (fun e => e ▸ h.lb) (fun e => e ▸ h.lg)), hl.trans h.len, h.lb, h.lg, h.hb, h.hg, Nat.le_trans h.le hO.size⟩
theorem Inv.stepB {w wr w' : World} {base b g N : Nat} {s s' : Dsk} (h : Inv w base b g N wr s) (hD : IsD w' b g s') (hO : Only (· = b) wr w') (hl : s'.cs.length = s.cs.length) : Inv w base b g N w' s' :=
  h.step hD (hO.mono fun _ h => .inl h) hl
/-- what lies above 'base' stays -/
theorem Inv.own {w wr w' : World} {base b g N : Nat} {s : Dsk} (h : Inv w base b g N wr s) (hO : Only (fun x => x = b ∨ x = g) wr w') {v : Value} {l : List Int} (ho : OwnB wr base v l) : OwnB w' base v l :=
  ho.only hO (fun _ hk => hk.elim (fun e => e ▸ h.hb) (fun e => e ▸ h.hg))

theorem int_beq (n : Nat) (c : Nat) : ((n : Int) == (c : Int)) = decide (n = c) := by
  rw [Bool.eq_iff_iff]; simp; omega

/-- what a block holds behind so many writes -/
theorem set_same (cs : List (List Int)) (i : Nat) (l : List Int) (h : i < cs.length) : (cs.set i l)[i]? = some l := by
  rw [List.getElem?_set, if_pos rfl, if_pos h]
theorem set_other (cs : List (List Int)) (i j : Nat) (l : List Int) (h : i ≠ j) : (cs.set i l)[j]? = cs[j]? := by
  rw [List.getElem?_set, if_neg h]

set_option maxHeartbeats 2000000 in
theorem walk_BlockLast (n : Int) (a : Option Addr) (len cap : Nat) (A : Nat → Int) (t : Int) (w : World) (_ : (Lit.int .i64 n).wf = true) (row : RowI w a len A) (hlen : len * 8 ≤ 140737488351232) (_ : (Lit.int .i64 t).wf = true) :
    Calls Try.prog 5 #[.int .i64 n, .slice a len cap, .int .i64 t] w fun e w' => e = .returned (.bool true) ∧ Below w.heap.size w w' := by
  by_cases hn : 1 ≤ n ∧ n ≤ 1024
  · obtain ⟨N, rfl⟩ := Int.eq_ofNat_of_zero_le (show 0 ≤ n by omega)
    have h1 : 1 ≤ N := by omega
    have h2 : N ≤ 1024 := by omega
    have hK := pl_lt t N h1
    obtain ⟨K, hK'⟩ : ∃ K, pl t N = K := ⟨_, rfl⟩
    have HK : Hid (pl t N = K) := hK'
    rw [hK'] at hK
    obtain ⟨i0, hi0, hz0, hz1, hz2⟩ := info_parts Try.infoU
    have HR : Hid (RowI w a len A) := row
    clear hn hK' row
    go_enter Try.func5, Try.ntmps5
    go_wp2_with (first
      | (go_at_call 9; refine (new_yes N _ h1 h2).mono ?_; rintro e w1 ⟨b, g, rfl, hb, hg, hD, hB⟩; have hI := Inv.start hb hg hD hB; clear hb hg hD hB)
      | (go_at_call 12; refine (place_any t N _ h1 h2).mono ?_; rintro e w2 ⟨rfl, rfl⟩; rw [HK.out])
      | (at_make; refine wpList_make_full _ rfl (.const (.int .i64 64)) (.const (.int .i64 64)) 37 rfl _ 5 i0 (.int .u8 0) 1 Try.underlying37 hi0 hz0 hz1 .i64 .i64 64 64 64 rfl rfl rfl rfl (by rw [hz2]; decide) (by decide) (Nat.le_refl _) ?_; intro w3 hown hgrow; have hb1 := below_grown hgrow; have ho1 := OwnB.made hown; have hI3 := hI.below hb1; clear hown hgrow hb1))
    obtain ⟨base, hbase⟩ : ∃ base, w2.heap.size = base := ⟨_, rfl⟩
    have ho1' : OwnB w3 base (.slice (some ⟨w2.heap.size, 0, none⟩) 64 64) (List.replicate 64 0) := hbase ▸ ho1
    have hI3' : Inv w base b g N w3 (Dsk.new N) := hbase ▸ hI3
    clear hI ho1 hI3 hbase
    go_loopw [10, 11] (fun v i wr => ∃ k : Nat, k ≤ len ∧ i = .int .i64 k ∧ ∃ s L, Inv w base b g N wr s ∧ s.plain ∧ s.writes = k ∧ OwnB wr base v L ∧ s.cs[K]? = some L ∧ L.length = 64) (fun _ i _ => len - (intOf i).toNat)
    case atStart => exact ⟨0, Nat.zero_le _, rfl, _, _, hI3', new_plain N, rfl, ho1', by simp [Dsk.new, zeros, hK], by simp⟩
    case round =>
      clear hI3' ho1'
      obtain ⟨k, hk, rfl, s, L, hI, hp, hw, ho, hL, hLl⟩ := hrel
      have HP : Hid (s.plain ∧ s.writes = k ∧ s.cs[K]? = some L) := ⟨hp, hw, hL⟩
      clear hp hw hL
      by_cases hlt : k < len
      · rcases HR.out with h0 | ⟨ab, off, rfl, hs, hc⟩
        · omega
        have d1 := (hI.bel.cell (p := ⟨ab, off + k, none⟩) hs).trans (hc k hlt).1
        have hki : (k : Int) < (len : Int) := by omega
        have hj := pl_lt (A k) N h1
        obtain ⟨J, hJ'⟩ : ∃ J, pl (A k) N = J := ⟨_, rfl⟩
        have HJ : Hid (pl (A k) N = J) := hJ'
        rw [hJ'] at hj
        clear hc hJ'
        by_cases hJK : J = K
        · have hb : ((J : Int) == (K : Int)) = true := by rw [int_beq]; exact decide_eq_true hJK
          have HE : Hid (J = K) := hJK
          clear hJK
          go_wp2_with (first
            | (go_at_call 12; refine (place_any (A k) N _ h1 h2).mono ?_; rintro e w4 ⟨rfl, rfl⟩; rw [HJ.out])
            | (go_at_call 14; have _q := hI6; refine (bytes_64 _ _).mono ?_; rintro e w7 ⟨v7, rfl, ho7, hb7⟩)
            | (go_at_call 14; refine (bytes_64 _ _).mono ?_; rintro e w5 ⟨v5, rfl, ho5, hb5⟩)
            | (go_at_call 13; refine (write_plain b g s J v5 _ _ _ (hI.below hb5).d HP.out.1 (by rw [HP.out.2.1]; omega) (by rw [HP.out.2.1]; omega) (by rw [hI.len]; exact hj) (bl_len _ _) ho5 (by have := hI.d.lb; omega)).mono ?_; rintro e w6 ⟨rfl, hD6, hO6⟩; have hI6 := (hI.below hb5).step hD6 hO6 (List.length_set ..)))
          go_roundw
          case rel => exact ⟨k + 1, by omega, by go_num, _, _, hI6.below hb7, HP.out.1, by rw [HP.out.2.1]; rfl, ho7.le hI6.le, by rw [HE.out]; exact set_same _ _ _ (by rw [hI.len]; exact hK), bl_len _ _⟩
          case measure => simp [intOf]; omega
        · have hb : ((J : Int) == (K : Int)) = false := by rw [int_beq]; exact decide_eq_false hJK
          have HE : Hid (J ≠ K) := hJK
          clear hJK
          go_wp2_with (first
            | (go_at_call 12; refine (place_any (A k) N _ h1 h2).mono ?_; rintro e w4 ⟨rfl, rfl⟩; rw [HJ.out])
            | (go_at_call 14; refine (bytes_64 _ _).mono ?_; rintro e w5 ⟨v5, rfl, ho5, hb5⟩)
            | (go_at_call 13; refine (write_plain b g s J v5 _ _ _ (hI.below hb5).d HP.out.1 (by rw [HP.out.2.1]; omega) (by rw [HP.out.2.1]; omega) (by rw [hI.len]; exact hj) (bl_len _ _) ho5 (by have := hI.d.lb; omega)).mono ?_; rintro e w6 ⟨rfl, hD6, hO6⟩; have hI6 := (hI.below hb5).step hD6 hO6 (List.length_set ..)))
          go_roundw
          case rel => exact ⟨k + 1, by omega, by go_num, _, _, hI6, HP.out.1, by rw [HP.out.2.1]; rfl, (hI.below hb5).own hO6 (ho.below hb5), by rw [← HP.out.2.2]; exact set_other _ _ _ _ HE.out, hLl⟩
          case measure => simp [intOf]; omega
      · have hkl : k = len := by omega
        have hrd : s.rdE K = 0 ∧ s.rd K = L := by
          have hk' : K < s.cs.length := by rw [hI.len]; exact hK
          obtain ⟨e1, e2⟩ := rd_nat s K hk'
          have := HP.out.2.2
          rw [List.getElem?_eq_getElem hk'] at this
          exact ⟨e1, by rw [e2]; exact Option.some.inj this⟩
        have HD : Hid (s.rdE K = 0 ∧ s.rd K = L) := hrd
        clear hrd
        go_wp2_with (first
          | (go_at_call 16; refine (read_any b g s K _ hI.d).mono ?_; rintro e w4 ⟨v4, rfl, ho4, hb4⟩; rw [HD.out.1]; rw [HD.out.2] at ho4)
          | (go_at_call 18; refine (same_any v4 _ L _ base _ ho4 (ho.below hb4) (by omega)).mono ?_; rintro e w5 ⟨rfl, hb5⟩)
          | (go_at_call 11; refine (awake_any _).mono ?_; rintro e w6 ⟨rfl, hb6⟩))
        go_ret
        exact ⟨rfl, chainB (chainB (chainB hI.bel hb4) hb5) hb6⟩
  · go_enter Try.func5, Try.ntmps5
    by_cases hs : n < 1
    · have hd : decide (n < 1) = true := decide_eq_true hs
      go_wp2_with (first
        | (go_at_call 9; refine (new_no n _ (by omega)).mono ?_; rintro e w1 ⟨rfl, rfl⟩)
        | (go_at_call 11; refine (awake_any _).mono ?_; rintro e w2 ⟨rfl, hb2⟩))
      go_ret
      exact ⟨rfl, hb2⟩
    · have hd : decide (n < 1) = false := decide_eq_false hs
      have hd2 : decide (1024 < n) = true := decide_eq_true (by omega)
      go_wp2_with (first
        | (go_at_call 9; refine (new_no n _ (by omega)).mono ?_; rintro e w1 ⟨rfl, rfl⟩)
        | (go_at_call 11; refine (awake_any _).mono ?_; rintro e w2 ⟨rfl, hb2⟩))
      go_ret
      exact ⟨rfl, hb2⟩
end Go.Proofs.Ytfomnnlilmahhaa
