/- The contracts of package block's Write and Read, whole. -/
import Derived.Test.YtfomnnlilmahhaaBkR
namespace Go.Proofs.Ytfomnnlilmahhaa
open Go.RowKit

theorem write_no20 (b g : Nat) (s : Dsk) (i : Int) (a : Option Addr) (n cap : Nat) (w : World) (h : IsD w b g s) (hh : s.has i = false) :
    Calls Try.prog 13 #[.pointer (some ⟨b, 0, none⟩), .int .i64 i, .slice a n cap] w fun e w' => e = .returned (.int .i64 20) ∧ w' = w := by
  have H : Hid (IsD w b g s) := h
  clear h
  go_enter Try.func13, Try.ntmps13
  go_wp2_with (go_at_call 33; refine (has_any b g s i _ H.out).mono ?_; rintro e w' ⟨rfl, rfl⟩; rw [hh])
  go_ret
  exact ⟨rfl, rfl⟩
theorem write_no1 (b g : Nat) (s : Dsk) (i : Int) (a : Option Addr) (n cap : Nat) (w : World) (h : IsD w b g s) (hh : s.has i = true) (hn : n ≠ 64) :
    Calls Try.prog 13 #[.pointer (some ⟨b, 0, none⟩), .int .i64 i, .slice a n cap] w fun e w' => e = .returned (.int .i64 1) ∧ w' = w := by
  have H : Hid (IsD w b g s) := h
  have hn' : ((n : Int) != 64) = true := by rw [bne_iff_ne]; omega
  clear h
  go_enter Try.func13, Try.ntmps13
  go_wp2_with (go_at_call 33; refine (has_any b g s i _ H.out).mono ?_; rintro e w' ⟨rfl, rfl⟩; rw [hh])
  go_ret
  exact ⟨rfl, rfl⟩
theorem write_no21 (b g : Nat) (s : Dsk) (i : Int) (a : Option Addr) (cap : Nat) (w : World) (h : IsD w b g s) (hg : s.good) (hh : s.has i = true) (ho : s.spend.on = false) :
    Calls Try.prog 13 #[.pointer (some ⟨b, 0, none⟩), .int .i64 i, .slice a 64 cap] w fun e w' => e = .returned (.int .i64 21) ∧ IsD w' b g s.spend ∧ Only (· = b) w w' := by
  have H : Hid (IsD w b g s) := h
  have hsp := spend_any b g s w h hg.1
  rw [ho] at hsp
  clear h hg ho
  go_enter Try.func13, Try.ntmps13
  go_wp2_with (first
    | (go_at_call 33; refine (has_any b g s i _ H.out).mono ?_; rintro e w' ⟨rfl, rfl⟩; rw [hh])
    | (go_at_call 34; refine hsp.mono ?_; rintro e w1 ⟨rfl, hD, hO⟩))
  go_ret
  exact ⟨rfl, hD, hO⟩
theorem write_any (b g : Nat) (s : Dsk) (i : Int) (v : Value) (l : List Int) (base : Nat) (w : World) (h : IsD w b g s) (hg : s.good) (hv : OwnB w base v l) (hb : b < base) :
    Calls Try.prog 13 #[.pointer (some ⟨b, 0, none⟩), .int .i64 i, v] w fun e w' => e = .returned (.int .i64 (s.wrE i l.length)) ∧ IsD w' b g (s.wr i l) ∧ Only (fun x => x = b ∨ x = g) w w' := by
  obtain ⟨a, cap, rfl⟩ : ∃ a cap, v = .slice a l.length cap := by
    rcases hv.form with ⟨rfl, rfl⟩ | ⟨g', cap, rfl, _⟩
    · exact ⟨_, _, rfl⟩
    · exact ⟨_, _, rfl⟩
  cases hh : s.has i
  · have e1 : s.wrE i l.length = 20 := by unfold Dsk.wrE; rw [hh]; rfl
    have e2 : s.wr i l = s := by unfold Dsk.wr; rw [hh]; rfl
    rw [e1, e2]
    refine (write_no20 b g s i a l.length cap w h hh).mono ?_
    rintro e w' ⟨rfl, rfl⟩
    exact ⟨rfl, h, Only.refl _ _⟩
  · by_cases hn : l.length = 64
    · cases ho : s.spend.on
      · have e1 : s.wrE i l.length = 21 := by unfold Dsk.wrE; rw [hh, if_pos rfl, if_pos hn, ho]; rfl
        have e2 : s.wr i l = s.spend := by unfold Dsk.wr; rw [hh, if_pos rfl, if_pos hn, ho]; rfl
        rw [e1, e2, hn]
        refine (write_no21 b g s i a cap w h hg hh ho).mono ?_
        rintro e w' ⟨rfl, hD, hO⟩
        exact ⟨rfl, hD, hO.mono fun _ h => .inl h⟩
      · have e1 : s.wrE i l.length = 0 := by unfold Dsk.wrE; rw [hh, if_pos rfl, if_pos hn, ho]; rfl
        have e2 : s.wr i l = { s.spend with cs := s.cs.set i.toNat l, writes := s.writes + 1 } := by unfold Dsk.wr; rw [hh, if_pos rfl, if_pos hn, ho]; rfl
        rw [e1, e2]
        have hi : 0 ≤ i ∧ i < s.cs.length := by unfold Dsk.has at hh; simpa using hh
        obtain ⟨n, rfl⟩ := Int.eq_ofNat_of_zero_le hi.1
        rcases hv.form with ⟨e, e'⟩ | ⟨k, cap', e, hk, hk2, hcap, hc, hf⟩
        · rw [e'] at hn; simp at hn
        · cases e
          rw [hn]
          refine (write_yes b g s n k cap l w h hg (by omega) hn ho (by omega) hc hk2).mono ?_
          rintro e w' ⟨rfl, hD, hO⟩
          exact ⟨rfl, hD, hO⟩
    · have e1 : s.wrE i l.length = 1 := by unfold Dsk.wrE; rw [hh, if_pos rfl, if_neg hn]
      have e2 : s.wr i l = s := by unfold Dsk.wr; rw [hh, if_pos rfl, if_neg hn]
      rw [e1, e2]
      refine (write_no1 b g s i a l.length cap w h hh hn).mono ?_
      rintro e w' ⟨rfl, rfl⟩
      exact ⟨rfl, h, Only.refl _ _⟩

def Dsk.rd (s : Dsk) (i : Int) : List Int := if s.has i then (s.cs[i.toNat]?).getD [] else []
def Dsk.rdE (s : Dsk) (i : Int) : Int := if s.has i then 0 else 20
theorem read_any (b g : Nat) (s : Dsk) (i : Int) (w : World) (h : IsD w b g s) :
    Calls Try.prog 16 #[.pointer (some ⟨b, 0, none⟩), .int .i64 i] w fun e w' => ∃ v, e = .returned (.tuple #[v, .int .i64 (s.rdE i)]) ∧ OwnB w' w.heap.size v (s.rd i) ∧ Below w.heap.size w w' := by
  cases hh : s.has i
  · have e1 : s.rdE i = 20 := by unfold Dsk.rdE; rw [hh]; rfl
    have e2 : s.rd i = [] := by unfold Dsk.rd; rw [hh]; rfl
    rw [e1, e2]
    have H : Hid (IsD w b g s) := h
    clear h e1 e2
    go_enter Try.func16, Try.ntmps16
    go_wp2_with (go_at_call 33; refine (has_any b g s i _ H.out).mono ?_; rintro e w' ⟨rfl, rfl⟩; rw [hh])
    go_ret2
    exact ⟨_, rfl, OwnB.nil _ _, Below.refl _ _⟩
  · have hi : 0 ≤ i ∧ i < s.cs.length := by unfold Dsk.has at hh; simpa using hh
    obtain ⟨n, rfl⟩ := Int.eq_ofNat_of_zero_le hi.1
    have hn : n < s.cs.length := by omega
    have e1 : s.rdE n = 0 := by unfold Dsk.rdE; rw [hh]; rfl
    have e2 : s.rd n = s.cs[n]'hn := by unfold Dsk.rd; rw [hh, if_pos rfl, Int.toNat_natCast, List.getElem?_eq_getElem hn]; rfl
    rw [e1, e2]
    exact read_yes b g s n w h hn
end Go.Proofs.Ytfomnnlilmahhaa
