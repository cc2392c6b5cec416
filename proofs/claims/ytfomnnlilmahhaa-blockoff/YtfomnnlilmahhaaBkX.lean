/- The walk of the law BlockOff. -/
import Derived.Test.YtfomnnlilmahhaaBkW
namespace Go.Proofs.Ytfomnnlilmahhaa
open Go.RowKit

/-- a disk without power -/
def Dsk.dead (s : Dsk) : Prop := s.on = false ∧ s.burns = false
theorem dead_spend {s : Dsk} (h : s.dead) : s.spend = s := by unfold Dsk.spend; rw [h.2]; rfl
theorem dead_wrE {s : Dsk} (h : s.dead) (i : Nat) (hi : i < s.cs.length) : s.wrE i 64 = 21 := by
  unfold Dsk.wrE; rw [has_nat s i hi, if_pos rfl, if_pos rfl, dead_spend h, h.1]; rfl
theorem dead_wr {s : Dsk} (h : s.dead) (i : Nat) (hi : i < s.cs.length) (l : List Int) (hl : l.length = 64) : s.wr i l = s := by
  unfold Dsk.wr; rw [has_nat s i hi, if_pos rfl, if_pos hl, dead_spend h, if_neg (by rw [h.1]; decide)]
theorem dead_good {s : Dsk} (h : s.dead) (h1 : 0 ≤ s.writes) (h2 : s.writes < 9223372036854775807) : s.good := ⟨fun e => (by rw [h.2] at e; cases e), h1, h2⟩
theorem write_dead (b g : Nat) (s : Dsk) (i : Nat) (v : Value) (l : List Int) (base : Nat) (w : World) (h : IsD w b g s) (hp : s.dead) (h1 : 0 ≤ s.writes) (h2 : s.writes < 9223372036854775807) (hi : i < s.cs.length) (hl : l.length = 64) (hv : OwnB w base v l) (hb : b < base) :
    Calls Try.prog 13 #[.pointer (some ⟨b, 0, none⟩), .int .i64 i, v] w fun e w' => e = .returned (.int .i64 21) ∧ IsD w' b g s ∧ Only (fun x => x = b ∨ x = g) w w' := by
  have h := write_any b g s i v l base w h (dead_good hp h1 h2) hv hb
  rw [hl, dead_wrE hp i hi, dead_wr hp i hi l hl] at h
  exact h
theorem fuse_dead (b g : Nat) (s : Dsk) (n : Int) (w : World) (h : IsD w b g s) (hp : s.dead) :
    Calls Try.prog 19 #[.pointer (some ⟨b, 0, none⟩), .int .i64 n] w fun e w' => e = .returned (.int .i64 (if n < 0 then 1 else 21)) ∧ IsD w' b g s ∧ Only (· = b) w w' := by
  have h := fuse_any b g s n w h
  have e1 : s.fuseE n = if n < 0 then 1 else 21 := by unfold Dsk.fuseE; rw [hp.1]; rfl
  have e2 : s.fuse n = s := by unfold Dsk.fuse; rw [hp.1]; split <;> rfl
  rw [e1, e2] at h
  exact h

/-- a list's cell, in a later world -/
theorem RowI.at {w wr : World} {a : Option Addr} {len : Nat} {A : Nat → Int} (h : RowI w a len A) (hb : Below w.heap.size w wr) (k : Nat) (hk : k < len) : ∃ ab off, a = some ⟨ab, off, none⟩ ∧ wr.cell? ⟨ab, off + k, none⟩ = some (.int .i64 (A k)) := by
  rcases h with h0 | ⟨ab, off, rfl, hs, hc⟩
  · omega
  · exact ⟨ab, off, rfl, (hb.cell (p := ⟨ab, off + k, none⟩) hs).trans (hc k hk).1⟩

set_option maxHeartbeats 4000000 in
theorem walk_BlockOff (n : Int) (a : Option Addr) (len cap : Nat) (A : Nat → Int) (f : Int) (t : Int) (w : World) (_ : (Lit.int .i64 n).wf = true) (row : RowI w a len A) (hlen : len * 8 ≤ 140737488351232) (_ : (Lit.int .i64 f).wf = true) (_ : (Lit.int .i64 t).wf = true) :
    Calls Try.prog 8 #[.int .i64 n, .slice a len cap, .int .i64 f, .int .i64 t] w fun e w' => e = .returned (.bool true) ∧ Below w.heap.size w w' := by
  by_cases hn : 1 ≤ n ∧ n ≤ 1024
  · obtain ⟨N, rfl⟩ := Int.eq_ofNat_of_zero_le (show 0 ≤ n by omega)
    have h1 : 1 ≤ N := by omega
    have h2 : N ≤ 1024 := by omega
    have hK := pl_lt t N h1
    obtain ⟨K, hK'⟩ : ∃ K, pl t N = K := ⟨_, rfl⟩
    have HK : Hid (pl t N = K) := hK'
    rw [hK'] at hK
    have HR : Hid (RowI w a len A) := row
    obtain ⟨L, hL⟩ : ∃ L, bl 64 5 = L := ⟨_, rfl⟩
    have hLl : L.length = 64 := by rw [← hL]; exact bl_len _ _
    have HB : Hid (∀ w, Calls Try.prog 14 #[.int .i64 64, .int .i64 5] w fun e w' => ∃ v, e = .returned v ∧ OwnB w' w.heap.size v L ∧ Below w.heap.size w w') := by
      rw [← hL]; exact fun w => bytes_64 5 w
    clear hn hK' row hL
    go_enter Try.func8, Try.ntmps8
    by_cases hf : f < 0
    all_goals
      go_wp2_with (first
        | (go_at_call 9; refine (new_yes N _ h1 h2).mono ?_; rintro e w1 ⟨b, g, rfl, hb, hg, hD, hB⟩; have hI := Inv.start hb hg hD hB; clear hb hg hD hB)
        | (go_at_call 12; refine (place_any t N _ h1 h2).mono ?_; rintro e w2 ⟨rfl, rfl⟩; rw [HK.out])
        | (go_at_call 14; refine (HB.out _).mono ?_; rintro e w3 ⟨v3, rfl, ho3, hb3⟩)
        | (go_at_call 13; refine (write_plain b g (Dsk.new N) K v3 L _ _ (hI.below hb3).d (new_plain N) (show (0 : Int) ≤ 0 by decide) (show (0 : Int) < 9223372036854775807 by decide) (by rw [hI.len]; exact hK) hLl ho3 (by have := hI.d.lb; omega)).mono ?_; rintro e w4 ⟨rfl, hD4, hO4⟩; have hI4 := (hI.below hb3).step hD4 hO4 (List.length_set ..))
        | (go_at_call 21; refine (cut_any b g _ _ hI4.d).mono ?_; rintro e w5 ⟨rfl, hD5, hO5⟩; have hI5 := hI4.stepB hD5 hO5 rfl)
        | (go_at_call 27; refine (on_any b g _ _ hI5.d).mono ?_; rintro e w6 ⟨rfl, rfl⟩; rw [show ∀ s : Dsk, s.cut.on = false from fun _ => rfl])
        | (go_at_call 19; refine (fuse_dead b g _ f _ hI5.d ⟨rfl, rfl⟩).mono ?_; rintro e w7 ⟨rfl, hD7, hO7⟩; have hI7 := hI5.stepB hD7 hO7 rfl; (first | rw [if_pos hf] | rw [if_neg hf] | rw [if_neg (Int.not_lt.2 hf)])))
      obtain ⟨S, hS⟩ : ∃ S, Dsk.cut { cs := (Dsk.new N).cs.set K L, on := (Dsk.new N).on, burns := (Dsk.new N).burns, left := (Dsk.new N).left, writes := (Dsk.new N).writes + 1 } = S := ⟨_, rfl⟩
      rw [hS] at hI7
      have HS : Hid (S.dead ∧ S.writes = 1 ∧ S.cs[K]? = some L) := by
        rw [← hS]; exact ⟨⟨rfl, rfl⟩, rfl, set_same _ _ _ (by rw [new_len]; exact hK)⟩
      obtain ⟨base, hbase⟩ : ∃ base, w2.heap.size = base := ⟨_, rfl⟩
      rw [hbase] at hI7
      clear hI hI4 hI5 hD4 hO4 hD5 hO5 hD7 hO7 hS ho3 hb3 hbase hf
      go_loopw [13] (fun i wr => ∃ k : Nat, k ≤ len ∧ i = .int .i64 k ∧ Inv w base b g N wr S) (fun i _ => len - (intOf i).toNat)
      case atStart => exact ⟨0, Nat.zero_le _, rfl, hI7⟩
      case round =>
        clear hI7
        obtain ⟨k, hk, rfl, hI⟩ := hrel
        by_cases hlt : k < len
        · obtain ⟨ab, off, rfl, d1⟩ := HR.out.at hI.bel k hlt
          have hki : (k : Int) < (len : Int) := by omega
          have hj := pl_lt (A k) N h1
          obtain ⟨J, hJ'⟩ : ∃ J, pl (A k) N = J := ⟨_, rfl⟩
          have HJ : Hid (pl (A k) N = J) := hJ'
          rw [hJ'] at hj
          clear hJ'
          go_wp2_with (first
            | (go_at_call 12; refine (place_any (A k) N _ h1 h2).mono ?_; rintro e w4 ⟨rfl, rfl⟩; rw [HJ.out])
            | (go_at_call 14; refine (bytes_64 _ _).mono ?_; rintro e w5 ⟨v5, rfl, ho5, hb5⟩)
            | (go_at_call 13; refine (write_dead b g S J v5 _ _ _ (hI.below hb5).d HS.out.1 (by rw [HS.out.2.1]; decide) (by rw [HS.out.2.1]; decide) (by rw [hI.len]; exact hj) (bl_len _ _) ho5 (by have := hI.d.lb; omega)).mono ?_; rintro e w6 ⟨rfl, hD6, hO6⟩; have hI6 := (hI.below hb5).step hD6 hO6 rfl))
          go_roundw
          case rel => exact ⟨k + 1, by omega, by go_num, hI6⟩
          case measure => simp [intOf]; omega
        · have hkl : (len : Int) ≤ k := by omega
          have hrd : S.rdE K = 0 ∧ S.rd K = L := by
            have hk' : K < S.cs.length := by rw [hI.len]; exact hK
            obtain ⟨e1, e2⟩ := rd_nat S K hk'
            have := HS.out.2.2
            rw [List.getElem?_eq_getElem hk'] at this
            exact ⟨e1, by rw [e2]; exact Option.some.inj this⟩
          have HD : Hid (S.rdE K = 0 ∧ S.rd K = L) := hrd
          clear hrd
          go_wp2_with (first
            | (go_at_call 16; refine (read_any b g S K _ hI.d).mono ?_; rintro e w4 ⟨v4, rfl, ho4, hb4⟩; rw [HD.out.1]; rw [HD.out.2] at ho4)
            | (go_at_call 14; refine (HB.out _).mono ?_; rintro e w5 ⟨v5, rfl, ho5, hb5⟩)
            | (go_at_call 18; refine (same_any v4 v5 L _ _ _ (ho4.below hb5) ho5 (by omega)).mono ?_; rintro e w6 ⟨rfl, hb6⟩; have hI6 := ((hI.below hb4).below hb5).below hb6)
            | (go_at_call 28; refine (writes_any b g S _ hI6.d).mono ?_; rintro e w7 ⟨rfl, rfl⟩; rw [HS.out.2.1])
            | (go_at_call 27; refine (on_any b g S _ hI6.d).mono ?_; rintro e w8 ⟨rfl, rfl⟩; rw [HS.out.1.1])
            | (go_at_call 23; refine (power_any b g S _ hI6.d).mono ?_; rintro e w9 ⟨rfl, hD9, hO9⟩; have hI9 := hI6.stepB hD9 hO9 rfl))
          have HS2 : Hid (S.power.plain ∧ S.power.writes = 1) := ⟨⟨rfl, rfl⟩, HS.out.2.1⟩
          obtain ⟨T, hT⟩ : ∃ T, S.power = T := ⟨_, rfl⟩
          rw [hT] at hI9 HS2
          clear hT hI6 hI ho4 ho5 hb4 hb5 hb6 hD9 hO9
          go_loopw [16] (fun i wr => ∃ k : Nat, k ≤ len ∧ i = .int .i64 k ∧ ∃ s, Inv w base b g N wr s ∧ s.plain ∧ s.writes = 1 + k) (fun i _ => len - (intOf i).toNat)
          case atStart => exact ⟨0, Nat.zero_le _, rfl, T, hI9, HS2.out.1, HS2.out.2⟩
          case round =>
            clear hI9 hkl hk hlt
            obtain ⟨k, hk, rfl, s, hI, hp, hw⟩ := hrel
            have HP : Hid (s.plain ∧ s.writes = 1 + k) := ⟨hp, hw⟩
            clear hp hw
            by_cases hlt : k < len
            · obtain ⟨ab, off, rfl, d1⟩ := HR.out.at hI.bel k hlt
              have hki : (k : Int) < (len : Int) := by omega
              have hj := pl_lt (A k) N h1
              obtain ⟨J, hJ'⟩ : ∃ J, pl (A k) N = J := ⟨_, rfl⟩
              have HJ : Hid (pl (A k) N = J) := hJ'
              rw [hJ'] at hj
              clear hJ'
              go_wp2_with (first
                | (go_at_call 12; refine (place_any (A k) N _ h1 h2).mono ?_; rintro e w4 ⟨rfl, rfl⟩; rw [HJ.out])
                | (go_at_call 14; refine (bytes_64 _ _).mono ?_; rintro e w5 ⟨v5, rfl, ho5, hb5⟩)
                | (go_at_call 13; refine (write_plain b g s J v5 _ _ _ (hI.below hb5).d HP.out.1 (by rw [HP.out.2]; omega) (by rw [HP.out.2]; omega) (by rw [hI.len]; exact hj) (bl_len _ _) ho5 (by have := hI.d.lb; omega)).mono ?_; rintro e w6 ⟨rfl, hD6, hO6⟩; have hI6 := (hI.below hb5).step hD6 hO6 (List.length_set ..)))
              go_roundw
              case rel => exact ⟨k + 1, by omega, by go_num, _, hI6, HP.out.1, by show s.writes + 1 = _; rw [HP.out.2]; omega⟩
              case measure => simp [intOf]; omega
            · obtain rfl : k = len := by omega
              go_wp2_with (first
                | (go_at_call 27; refine (on_any b g s _ hI.d).mono ?_; rintro e w8 ⟨rfl, rfl⟩; rw [HP.out.1.1])
                | (go_at_call 28; refine (writes_any b g s _ hI.d).mono ?_; rintro e w7 ⟨rfl, rfl⟩; rw [HP.out.2])
                | (go_at_call 11; refine (awake_any _).mono ?_; rintro e w6 ⟨rfl, hb6⟩))
              go_ret
              exact ⟨rfl, chainB hI.bel hb6⟩
  · go_enter Try.func8, Try.ntmps8
    by_cases hs : n < 1
    · have hd : decide (n < 1) = true := decide_eq_true hs
      go_wp2_with (first
        | (go_at_call 9; refine (new_no n _ (by omega)).mono ?_; rintro e w1 ⟨rfl, rfl⟩)
        | (go_at_call 11; refine (awake_any _).mono ?_; rintro e w2 ⟨rfl, hb2⟩))
      go_ret
      exact ⟨rfl, hb2⟩
    · have hd : decide (n < 1) = false := decide_eq_false hs
      have hd2 : decide (1024 < n) = true := decide_eq_true (by omega)
      go_wp2_with (first
        | (go_at_call 9; refine (new_no n _ (by omega)).mono ?_; rintro e w1 ⟨rfl, rfl⟩)
        | (go_at_call 11; refine (awake_any _).mono ?_; rintro e w2 ⟨rfl, hb2⟩))
      go_ret
      exact ⟨rfl, hb2⟩
end Go.Proofs.Ytfomnnlilmahhaa
