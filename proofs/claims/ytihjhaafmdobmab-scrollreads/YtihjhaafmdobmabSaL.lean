/- The contracts of package scroll's write, Format and add. -/
import Derived.Test.YtihjhaafmdobmabSaK
namespace Go.Proofs.Ytihjhaafmdobmab
open Go.RowKit

set_option maxHeartbeats 1000000 in
theorem hwrite_any (b g : Nat) (s : Dsk) (G Hh : Nat) (w : World) (h : IsD w b g s) (hg : s.good) (hG : G < 4294967296) :
    Calls Try.prog 85 #[.agg #[.int .i64 (G : Nat), .int .i64 (Hh : Nat)], .pointer (some ⟨b, 0, none⟩)] w fun e w' => e = .returned (.int .i64 (s.wrE 0 64)) ∧ IsD w' b g (s.wr 0 (hdrB G Hh)) ∧ Only (fun x => x = b ∨ x = g) w w' := by
  have H : Hid (∀ w', Below w.heap.size w w' → IsD w' b g s) := fun w' hw => h.below hw
  have hlb := h.lb
  have HG : Hid s.good := hg
  obtain ⟨E, hE⟩ : ∃ E, s.wrE 0 64 = E := ⟨_, rfl⟩
  have HE : Hid (s.wrE 0 64 = E) := hE
  rw [hE]
  clear h hg hE
  go_enter Try.func85, Try.ntmps85
  go_wp2_with (first
    | (go_at_call 142; refine (hdrBlock_any G Hh _ hG).mono ?_; rintro e w1 ⟨v1, rfl, ho1, hb1⟩; have B1 := chainB (below_alloc _ _) hb1)
    | (go_at_call 72; refine (write_any b g s 0 v1 (hdrB G Hh) _ _ (H.out _ B1) HG.out ho1 (by simp; omega)).mono ?_; rintro e w2 ⟨rfl, hD, hO⟩; rw [hdrB_len, HE.out]))
  go_ret
  exact ⟨rfl, hD, (Only.of B1).trans hO⟩

def fmtE (s : Dsk) : Int := if hS s.cs = 0 then 1 else if nextG s.cs ≤ 1073741824 then s.wrE 0 64 else 60
def fmtD (s : Dsk) : Dsk := if hS s.cs = 0 then s else if nextG s.cs ≤ 1073741824 then s.wr 0 (hdrB (nextG s.cs) (nextH s.cs)) else s
set_option maxRecDepth 100000 in
set_option maxHeartbeats 1000000 in
theorem format_any (b g : Nat) (s : Dsk) (w : World) (h : IsD w b g s) (hg : s.good) (h1 : 1 ≤ s.cs.length) (hb : BytC s.cs) :
    Calls Try.prog 37 #[.pointer (some ⟨b, 0, none⟩)] w fun e w' => e = .returned (.int .i64 (fmtE s)) ∧ IsD w' b g (fmtD s) ∧ Only (fun x => x = b ∨ x = g) w w' := by
  have hS1 := hS_lt h.few
  have H : Hid (∀ w', Below w.heap.size w w' → IsD w' b g s) := fun w' hw => h.below hw
  have HZ : Hid (Calls Try.prog 89 #[.pointer (some ⟨b, 0, none⟩)] w fun e w2 => e = .returned (.int .i64 (hS s.cs : Nat)) ∧ w2 = w) := halfSize_any b g s w h h1
  have HN : Hid (Calls Try.prog 84 #[.pointer (some ⟨b, 0, none⟩)] w fun e w' => e = .returned (.tuple #[.agg #[.int .i64 (nextG s.cs : Nat), .int .i64 (nextH s.cs : Nat)], .bool (decide (nextG s.cs ≤ 1073741824))]) ∧ Below w.heap.size w w') := next_any b g s w h h1 hb
  by_cases h0 : hS s.cs = 0
  · have e1 : fmtE s = 1 := if_pos h0
    have e2 : fmtD s = s := if_pos h0
    rw [e1, e2]
    rw [h0] at HZ
    clear h e1 e2 HN
    go_enter Try.func37, Try.ntmps37
    go_wp2_with (go_at_call 89; refine HZ.out.mono ?_; rintro e w2 ⟨rfl, rfl⟩)
    go_ret
    exact ⟨rfl, H.out _ (Below.refl _ _), Only.refl _ _⟩
  · obtain ⟨N, hN⟩ : ∃ N, hS s.cs = N := ⟨_, rfl⟩
    have hz : ((N : Int) == 0) = false := by rw [beq_eq_false_iff_ne]; omega
    by_cases h2 : nextG s.cs ≤ 1073741824
    · have e1 : fmtE s = s.wrE 0 64 := by unfold fmtE; rw [if_neg h0, if_pos h2]
      have e2 : fmtD s = s.wr 0 (hdrB (nextG s.cs) (nextH s.cs)) := by unfold fmtD; rw [if_neg h0, if_pos h2]
      rw [e1, e2]
      rw [decide_eq_true h2] at HN
      rw [hN] at HZ
      obtain ⟨A, hA⟩ : ∃ A, nextG s.cs = A := ⟨_, rfl⟩
      obtain ⟨B, hB⟩ : ∃ B, nextH s.cs = B := ⟨_, rfl⟩
      obtain ⟨E, hE⟩ : ∃ E, s.wrE 0 64 = E := ⟨_, rfl⟩
      rw [hA, hB] at HN
      rw [hA, hB, hE]
      rw [hA] at h2
      have HW : Hid (∀ w', Below w.heap.size w w' → Calls Try.prog 85 #[.agg #[.int .i64 (A : Nat), .int .i64 (B : Nat)], .pointer (some ⟨b, 0, none⟩)] w' fun e w2 => e = .returned (.int .i64 E) ∧ IsD w2 b g (s.wr 0 (hdrB A B)) ∧ Only (fun x => x = b ∨ x = g) w' w2) := fun w' hw => by
        have := hwrite_any b g s A B w' (h.below hw) hg (by omega)
        rw [hE] at this; exact this
      clear h e1 e2 hA hB hE hN h0
      go_enter Try.func37, Try.ntmps37
      go_wp2_with (first
        | (go_at_call 89; refine HZ.out.mono ?_; rintro e w2 ⟨rfl, rfl⟩)
        | (go_at_call 84; refine HN.out.mono ?_; rintro e w3 ⟨rfl, hb3⟩)
        | (go_at_call 85; refine (HW.out _ (chainB hb3 (below_alloc _ _))).mono ?_; rintro e w4 ⟨rfl, hD4, hO4⟩))
      go_ret
      exact ⟨rfl, hD4, (Only.of (chainB hb3 (below_alloc _ _))).trans hO4⟩
    · have e1 : fmtE s = 60 := by unfold fmtE; rw [if_neg h0, if_neg h2]
      have e2 : fmtD s = s := by unfold fmtD; rw [if_neg h0, if_neg h2]
      rw [e1, e2]
      rw [decide_eq_false h2] at HN
      rw [hN] at HZ
      clear h e1 e2 hN h0
      go_enter Try.func37, Try.ntmps37
      go_wp2_with (first
        | (go_at_call 89; refine HZ.out.mono ?_; rintro e w2 ⟨rfl, rfl⟩)
        | (go_at_call 84; refine HN.out.mono ?_; rintro e w3 ⟨rfl, hb3⟩))
      go_ret
      exact ⟨rfl, H.out _ (chainB hb3 (below_alloc _ _)), Only.of (chainB hb3 (below_alloc _ _))⟩
end Go.Proofs.Ytihjhaafmdobmab
