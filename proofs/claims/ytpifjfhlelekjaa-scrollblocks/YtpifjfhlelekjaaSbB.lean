/- The walk of the law ScrollBlocks. -/
import Derived.Test.YtpifjfhlelekjaaSaW
namespace Go.Proofs.Ytpifjfhlelekjaa
open Go.RowKit

theorem rblocks_any (v : Value) (l : List Int) (w : World) (hv : RB w v l) (hl : l.length ≤ 1000000) :
    Calls Try.prog 30 #[v] w fun e w' => e = .returned (.int .i64 (nb l.length : Nat)) ∧ w' = w := by
  obtain ⟨a, cap, rfl, _⟩ := hv
  have e : ((nb l.length : Nat) : Int) = ((l.length : Int) + 52) / 53 := by unfold nb; omega
  rw [e]
  go_enter Try.func30, Try.ntmps30
  go_wp2
  go_ret
  exact ⟨rfl, rfl⟩
set_option maxRecDepth 100000 in
set_option maxHeartbeats 2000000 in
theorem walk_ScrollBlocks (n fill : Int) (_ : (Lit.int .i64 n).wf = true) (_ : (Lit.int .i64 fill).wf = true) (w : World) :
    Calls Try.prog 4 #[.int .i64 n, .int .i64 fill] w fun e w' => e = .returned (.bool true) ∧ Below w.heap.size w w' := by
  have hlen := bl_len (bn n) fill
  have hbn := bn_le n
  obtain ⟨l, hl⟩ : ∃ l, bl (bn n) fill = l := ⟨_, rfl⟩
  have HR : Hid (∀ w, Calls Try.prog 14 #[.int .i64 n, .int .i64 fill] w fun e w' => ∃ a c, e = .returned (.slice a l.length c) ∧ RB w' (.slice a l.length c) l ∧ Below w.heap.size w w') := fun w => (record_any n fill w).mono fun e w' ⟨v, h1, h2, h3⟩ => by
    rw [hl] at h2
    obtain ⟨a, c, rfl⟩ := owns_len h2
    exact ⟨a, c, h1, h2.rb, h3⟩
  rw [hl] at hlen
  obtain ⟨L, hL⟩ : ∃ L, l.length = L := ⟨_, rfl⟩
  have hL5 : L ≤ 500 := by omega
  have HB : Hid (∀ v w, RB w v l → Calls Try.prog 29 #[v] w fun e w' => e = .returned (.int .i64 (nb L : Nat)) ∧ w = w') := fun v w h => by
    have := blocks_any v l w h (by omega); rw [hL] at this; exact this.mono fun e w2 hq => ⟨hq.1, hq.2.symm⟩
  have HB2 : Hid (∀ v w, RB w v l → Calls Try.prog 30 #[v] w fun e w' => e = .returned (.int .i64 (nb L : Nat)) ∧ w = w') := fun v w h => by
    have := rblocks_any v l w h (by omega); rw [hL] at this; exact this.mono fun e w2 hq => ⟨hq.1, hq.2.symm⟩
  rw [hL] at HR
  have hk : nb L * 53 ≥ L ∧ nb L * 53 < L + 53 + 1 ∧ (nb L = 0 ↔ L = 0) ∧ nb L ≤ 500 := by unfold nb; omega
  obtain ⟨C, hC⟩ : ∃ C, nb L = C := ⟨_, rfl⟩
  rw [hC] at HB HB2 hk
  have d1 : decide ((L : Int) ≤ (C : Int) * 53) = true := decide_eq_true (by omega)
  have d2 : decide (((C : Int) - 1) * 53 < (L : Int) + 1) = true := decide_eq_true (by omega)
  have d3 : (((C : Int) == 0) == ((L : Int) == 0)) = true := by
    by_cases h0 : L = 0
    · have : C = 0 := hk.2.2.1.2 h0
      rw [this, h0]; rfl
    · have : ¬ C = 0 := fun e => h0 (hk.2.2.1.1 e)
      have e1 : ((C : Int) == 0) = false := by rw [beq_eq_false_iff_ne]; omega
      have e2 : ((L : Int) == 0) = false := by rw [beq_eq_false_iff_ne]; omega
      rw [e1, e2]; rfl
  clear hl hlen hL hC
  go_enter Try.func4, Try.ntmps4
  go_wp2_with (first
    | (go_at_call 14; refine (HR.out _).mono ?_; rintro e w1 ⟨a, c, rfl, hr1, hb1⟩)
    | (go_at_call 29; refine (HB.out _ _ hr1).mono ?_; rintro e w2 ⟨rfl, rfl⟩)
    | (go_at_call 30; refine (HB2.out _ _ hr1).mono ?_; rintro e w3 ⟨rfl, rfl⟩)
    | (go_at_call 10; refine (awake_any _).mono ?_; rintro e w4 ⟨rfl, hb4⟩))
  go_ret
  exact ⟨rfl, chainB hb1 hb4⟩
end Go.Proofs.Ytpifjfhlelekjaa
