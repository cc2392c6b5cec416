/- What plain disks answer; the contract of the law's awake. -/
import Derived.Test.YtfomnnlilmahhaaBkU
namespace Go.Proofs.Ytfomnnlilmahhaa
open Go.RowKit

/-- a disk with power, without a fuse -/
def Dsk.plain (s : Dsk) : Prop := s.on = true ∧ s.burns = false
theorem plain_spend {s : Dsk} (h : s.plain) : s.spend = s := by unfold Dsk.spend; rw [h.2]; rfl
theorem has_nat (s : Dsk) (i : Nat) (h : i < s.cs.length) : s.has i = true := by unfold Dsk.has; simp; exact h
theorem plain_wrE {s : Dsk} (h : s.plain) (i : Nat) (hi : i < s.cs.length) : s.wrE i 64 = 0 := by
  unfold Dsk.wrE; rw [has_nat s i hi, if_pos rfl, if_pos rfl, plain_spend h, h.1]; rfl
theorem plain_wr {s : Dsk} (h : s.plain) (i : Nat) (hi : i < s.cs.length) (l : List Int) (hl : l.length = 64) : s.wr i l = { s with cs := s.cs.set i l, writes := s.writes + 1 } := by
  unfold Dsk.wr; rw [has_nat s i hi, if_pos rfl, if_pos hl, plain_spend h, if_pos h.1, Int.toNat_natCast]
theorem plain_good {s : Dsk} (h : s.plain) (h1 : 0 ≤ s.writes) (h2 : s.writes < 9223372036854775807) : s.good := ⟨fun e => (by rw [h.2] at e; cases e), h1, h2⟩
theorem new_plain (n : Nat) : (Dsk.new n).plain := ⟨rfl, rfl⟩
theorem new_len (n : Nat) : (Dsk.new n).cs.length = n := List.length_replicate ..
theorem rd_nat (s : Dsk) (i : Nat) (h : i < s.cs.length) : s.rdE i = 0 ∧ s.rd i = s.cs[i]'h := by
  unfold Dsk.rdE Dsk.rd; rw [has_nat s i h, if_pos rfl, if_pos rfl, Int.toNat_natCast, List.getElem?_eq_getElem h]; exact ⟨rfl, rfl⟩

/-- a good write into a plain disk -/
theorem write_plain (b g : Nat) (s : Dsk) (i : Nat) (v : Value) (l : List Int) (base : Nat) (w : World) (h : IsD w b g s) (hp : s.plain) (h1 : 0 ≤ s.writes) (h2 : s.writes < 9223372036854775807) (hi : i < s.cs.length) (hl : l.length = 64) (hv : OwnB w base v l) (hb : b < base) :
    Calls Try.prog 13 #[.pointer (some ⟨b, 0, none⟩), .int .i64 i, v] w fun e w' => e = .returned (.int .i64 0) ∧ IsD w' b g { s with cs := s.cs.set i l, writes := s.writes + 1 } ∧ Only (fun x => x = b ∨ x = g) w w' := by
  have h := write_any b g s i v l base w h (plain_good hp h1 h2) hv hb
  rw [hl, plain_wrE hp i hi, plain_wr hp i hi l hl] at h
  exact h

set_option maxHeartbeats 1000000 in
theorem awake_any (w : World) : Calls Try.prog 11 #[] w fun e w' => e = .returned (.bool true) ∧ Below w.heap.size w w' := by
  have hnew : ∀ w, Calls Try.prog 9 #[.int .i64 2] w fun e w' => ∃ b g, e = .returned (.tuple #[.pointer (some ⟨b, 0, none⟩), .int .i64 0]) ∧ w.heap.size ≤ b ∧ w.heap.size ≤ g ∧ IsD w' b g (Dsk.new 2) ∧ Below w.heap.size w w' := fun w => new_yes 2 w (by decide) (by decide)
  have hwr : ∀ b g v base w, IsD w b g (Dsk.new 2) → OwnB w base v (bl 64 7) → b < base → Calls Try.prog 13 #[.pointer (some ⟨b, 0, none⟩), .int .i64 0, v] w fun e w' => e = .returned (.int .i64 0) ∧ IsD w' b g { Dsk.new 2 with cs := (Dsk.new 2).cs.set 0 (bl 64 7), writes := 1 } ∧ Only (fun x => x = b ∨ x = g) w w' :=
    fun b g v base w h hv hb => write_plain b g (Dsk.new 2) 0 v (bl 64 7) base w h (new_plain 2) (by decide) (by decide) (by rw [new_len]; decide) (bl_len _ _) hv hb
  have hrd : ∀ b g w, IsD w b g { Dsk.new 2 with cs := (Dsk.new 2).cs.set 0 (bl 64 7), writes := 1 } → Calls Try.prog 16 #[.pointer (some ⟨b, 0, none⟩), .int .i64 0] w fun e w' => ∃ v, e = .returned (.tuple #[v, .int .i64 0]) ∧ OwnB w' w.heap.size v (bl 64 7) ∧ Below w.heap.size w w' := by
    intro b g w h
    exact read_any b g _ 0 w h
  obtain ⟨S, hS⟩ : ∃ S, ({ Dsk.new 2 with cs := (Dsk.new 2).cs.set 0 (bl 64 7), writes := 1 } : Dsk) = S := ⟨_, rfl⟩
  have hSw : S.writes = 1 := by rw [← hS]
  have hSo : S.on = true := by rw [← hS]; rfl
  obtain ⟨L, hL⟩ : ∃ L, bl 64 7 = L := ⟨_, rfl⟩
  have hLl : L.length ≤ 1000000 := by rw [← hL, bl_len]; decide
  have hby := fun w => bytes_64 7 w
  rw [hS] at hwr hrd
  rw [hL] at hrd hwr
  simp only [hL] at hby
  have HN : Hid _ := hnew
  have HW : Hid _ := hwr
  have HR : Hid _ := hrd
  have HB : Hid _ := hby
  have HS : Hid (S.writes = 1 ∧ S.on = true) := ⟨hSw, hSo⟩
  clear hnew hwr hrd hby hS hL hSw hSo
  go_enter Try.func11, Try.ntmps11
  go_wp2_with (first
    | (go_at_call 9; refine (HN.out _).mono ?_; rintro e w1 ⟨b, g, rfl, hb, hg, hD, hb1⟩)
    | (go_at_call 14; have _q := hO3; refine (HB.out _).mono ?_; rintro e w5 ⟨v5, rfl, ho5, hb5⟩)
    | (go_at_call 14; refine (HB.out _).mono ?_; rintro e w2 ⟨v2, rfl, ho2, hb2⟩)
    | (go_at_call 13; refine (HW.out b g v2 _ _ (hD.below hb2) ho2 (by have := hD.lb; omega)).mono ?_; rintro e w3 ⟨rfl, hD3, hO3⟩)
    | (go_at_call 16; refine (HR.out b g _ hD3).mono ?_; rintro e w4 ⟨v4, rfl, ho4, hb4⟩)
    | (go_at_call 18; refine (same_any v4 v5 L _ _ _ (ho4.below hb5) ho5 hLl).mono ?_; rintro e w6 ⟨rfl, hb6⟩; have hD6 := ((hD3.below hb4).below hb5).below hb6)
    | (go_at_call 28; refine (writes_any b g S _ hD6).mono ?_; rintro e w7 ⟨rfl, rfl⟩; rw [HS.out.1])
    | (go_at_call 27; refine (on_any b g S _ hD6).mono ?_; rintro e w8 ⟨rfl, rfl⟩; rw [HS.out.2]))
  go_ret
  exact ⟨rfl, chainB (chainB (chainB (hO3.below (chainB hb1 hb2) (Nat.le_trans hb1.size hb2.size) (fun k hk => by omega)) hb4) hb5) hb6⟩
end Go.Proofs.Ytfomnnlilmahhaa
