/- The program's tree: permitted, right, add; create, mkdir, symlink. -/
import Derived.Test.YtjelggpkeogebaaTpF
namespace Go.Proofs.Ytjelggpkeogebaa
open Go.RowKit
attribute [local go_sem high] eqK' neqK' eqE neqE eqN neqN guardK guardE guardN

theorem permitted_p (m : Int) (w : World) : Calls Try.prog 69 #[.int .i64 m] w fun e w' => e = .returned (.bool (!badM m)) ∧ w' = w := by
  by_cases h1 : m < 0
  · have hb : badM m = true := by unfold badM; simp [h1]
    have h1' : ¬ (0 ≤ m) := by omega
    rw [hb]
    go_enter Try.func69, Try.ntmps69
    go_wp2
    go_ret
    exact ⟨rfl, rfl⟩
  · have h1' : 0 ≤ m := by omega
    by_cases h2 : 511 < m
    · have hb : badM m = true := by unfold badM; simp [h2]
      have h2' : ¬ (m ≤ 511) := by omega
      rw [hb]
      go_enter Try.func69, Try.ntmps69
      go_wp2
      go_ret
      exact ⟨rfl, rfl⟩
    · have hb : badM m = false := by unfold badM; simp; omega
      have h2' : m ≤ 511 := by omega
      rw [hb]
      go_enter Try.func69, Try.ntmps69
      go_wp2
      go_ret
      exact ⟨rfl, rfl⟩

def rightE (M : Nms) (kind mode : Int) (tg : ByteArray) : Int := if badM mode then 1 else if kind = 3 then M.tgt tg else if (kind = 1 ∨ kind = 2) ∧ tg.toList = [] then 0 else 1
set_option maxHeartbeats 4000000 in
theorem right_p (M : Nms) (hM : NmsP M) (id kind mode : Int) (tg : ByteArray) (w : World) : Calls Try.prog 41 #[.agg #[.int .i64 id, .int .i64 kind, .int .i64 mode, .string tg]] w fun e w' => e = .returned (.int .i64 (rightE M kind mode tg)) ∧ Below w.heap.size w w' := by
  have HM : Hid (NmsP M) := hM
  clear hM
  cases hb : badM mode with
  | true =>
    have hE : rightE M kind mode tg = 1 := by unfold rightE; rw [hb]; rfl
    rw [hE]
    have HP : Hid (∀ w, Calls Try.prog 69 #[.int .i64 mode] w fun e w' => e = .returned (.bool false) ∧ w' = w) := fun w => by have := permitted_p mode w; rw [hb] at this; exact this
    clear hE hb
    go_enter Try.func41, Try.ntmps41
    go_wp2_with (go_at_call 69; refine (HP.out _).mono ?_; rintro x w1 ⟨rfl, rfl⟩)
    go_ret
    exact ⟨rfl, below_alloc _ _⟩
  | false =>
    have HP : Hid (∀ w, Calls Try.prog 69 #[.int .i64 mode] w fun e w' => e = .returned (.bool true) ∧ w' = w) := fun w => by have := permitted_p mode w; rw [hb] at this; exact this
    by_cases h3 : kind = 3
    · subst h3
      have hE : rightE M 3 mode tg = M.tgt tg := by unfold rightE; rw [hb]; rfl
      rw [hE]
      clear hE hb
      go_enter Try.func41, Try.ntmps41
      go_wp2_with (first
        | (go_at_call 69; refine (HP.out _).mono ?_; rintro x w1 ⟨rfl, rfl⟩)
        | (go_at_call 70; refine (HM.out.target tg _).mono ?_; rintro x w2 ⟨v2, a2, b2, rfl, hb2⟩))
      all_goals
        go_ret
        exact ⟨rfl, chainB (below_alloc _ _) hb2⟩
    · have h3b : (kind == 3) = false := by simpa using h3
      by_cases h12 : (kind = 1 ∨ kind = 2) ∧ tg.toList = []
      · have hE : rightE M kind mode tg = 0 := by unfold rightE; rw [hb]; simp [h3, h12]
        rw [hE]
        obtain ⟨h12, htg⟩ := h12
        clear hE hb h3
        rcases h12 with rfl | rfl
        · go_enter Try.func41, Try.ntmps41
          go_wp2_with (go_at_call 69; refine (HP.out _).mono ?_; rintro x w1 ⟨rfl, rfl⟩)
          go_ret
          exact ⟨rfl, below_alloc _ _⟩
        · go_enter Try.func41, Try.ntmps41
          go_wp2_with (go_at_call 69; refine (HP.out _).mono ?_; rintro x w1 ⟨rfl, rfl⟩)
          go_ret
          exact ⟨rfl, below_alloc _ _⟩
      · have hE : rightE M kind mode tg = 1 := by unfold rightE; rw [hb]; simp only [Bool.false_eq_true, if_false]; rw [if_neg h3, if_neg h12]
        rw [hE]
        clear hE hb h3
        by_cases k1 : kind = 1
        · subst k1
          have htg : (tg.toList == []) = false := by
            simp only [true_or, true_and] at h12
            simpa using h12
          clear h12
          go_enter Try.func41, Try.ntmps41
          go_wp2_with (go_at_call 69; refine (HP.out _).mono ?_; rintro x w1 ⟨rfl, rfl⟩)
          go_ret
          exact ⟨rfl, below_alloc _ _⟩
        · by_cases k2 : kind = 2
          · subst k2
            have htg : (tg.toList == []) = false := by
              simp only [or_true, true_and] at h12
              simpa using h12
            clear h12
            go_enter Try.func41, Try.ntmps41
            go_wp2_with (go_at_call 69; refine (HP.out _).mono ?_; rintro x w1 ⟨rfl, rfl⟩)
            go_ret
            exact ⟨rfl, below_alloc _ _⟩
          · have k1b : (kind == 1) = false := by simpa using k1
            have k2b : (kind == 2) = false := by simpa using k2
            clear h12 k1 k2
            go_enter Try.func41, Try.ntmps41
            go_wp2_with (go_at_call 69; refine (HP.out _).mono ?_; rintro x w1 ⟨rfl, rfl⟩)
            go_ret
            exact ⟨rfl, below_alloc _ _⟩
end Go.Proofs.Ytjelggpkeogebaa
