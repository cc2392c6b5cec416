/- The law WirePacks. -/
import Derived.Test.YtihjhaafmdobmaaU6J
import Derived.Test.YtihjhaafmdobmaaWvF
import Derived.Test.YtihjhaafmdobmaaWlD
import Derived.Test.YtihjhaafmdobmaaWlI
namespace Go.Proofs.Ytihjhaafmdobmaa
open Go.RowKit Go.Lib
attribute [local go_sem ↓ high] loadN

set_option maxRecDepth 20000 in
set_option maxHeartbeats 4000000 in
theorem walk_WirePacks (n : Nt) (w : World) :
    Calls Try.prog 8 #[.agg n.arr] w fun e w' => e = .returned (.bool true) ∧ Below w.heap.size w w' := by
  have HAw : Hid (∀ W, Calls Try.prog 28 #[] W fun e w' => e = .returned (.bool true) ∧ Below W.heap.size W w') := awake_w
  have hsz : n.arr.size = 22 := rfl
  cases hP : plainN n with
  | false =>
    have H1 : Hid (∀ W, Calls Try.prog 33 #[.agg n.arr] W fun e w' => e = .returned (.tuple #[.slice none 0 0, .int .i64 50]) ∧ Below W.heap.size W w') := fun W => (pack_p n W).mono fun e w' hh => by
      rcases hh with ⟨h0, _⟩ | ⟨_, he, hb⟩
      · rw [hP] at h0; cases h0
      · exact ⟨he, hb⟩
    have H2 : Hid (∀ W, Calls Try.prog 34 #[.agg n.arr] W fun e w' => e = .returned (.tuple #[.slice none 0 0, .int .i64 50]) ∧ Below W.heap.size W w') := fun W => packd_no n W hP
    have H3 : Hid (∀ W, Calls Try.prog 27 #[.slice none 0 0, .slice none 0 0] W fun e w' => e = .returned (.bool true) ∧ Below W.heap.size W w') := fun W => by
      have := same_any (.slice none 0 0) (.slice none 0 0) [] [] W (RB.nil W) (RB.nil W) (by simp) (by simp)
      rw [decide_eq_true rfl] at this
      exact this
    obtain ⟨A, hA⟩ : ∃ x, n.arr = x := ⟨_, rfl⟩
    rw [hA] at H1 H2 hsz ⊢
    obtain ⟨W, hW⟩ : ∃ W, w.alloc (.cells A 81) = W := ⟨_, rfl⟩
    have hb := boxB hW
    have HB : Hid (W.heap[w.heap.size]? = some (.cells A 81 (0, 0)) ∧ Below w.heap.size w W ∧ A.size = 22) := ⟨hb.1, hb.2, hsz⟩
    have nl := noteS_of hb.1 hsz
    clear hA hb hsz hP
    go_enter Try.func8, Try.ntmps8
    go_upto_region 1 with fail
    clear hW
    go_wp2_with (first
      | (go_at_call 33; refine (H1.out _).mono ?_; rintro e w1 ⟨rfl, hb1⟩; have nl1 := noteS_of (hkeep HB.out.1 hb1) HB.out.2.2; clear nl)
      | (go_at_call 34; refine (H2.out _).mono ?_; rintro e w2 ⟨rfl, hb2⟩; clear nl1)
      | (go_at_call 27; refine (H3.out _).mono ?_; rintro e w3 ⟨rfl, hb3⟩)
      | (go_at_call 28; refine (HAw.out _).mono ?_; rintro e w4 ⟨rfl, hb4⟩))
    go_ret
    exact ⟨rfl, chainB HB.out.2.1 (chainB hb1 (chainB hb2 (chainB hb3 hb4)))⟩
  | true =>
    have hok := (plainN_iff n).1 hP
    have H1 : Hid (∀ W, Calls Try.prog 33 #[.agg n.arr] W fun e w' => ∃ a c, e = .returned (.tuple #[.slice a (noteB n).length c, .int .i64 0]) ∧ OwnB w' W.heap.size (.slice a (noteB n).length c) (noteB n) ∧ Below W.heap.size W w') := fun W => (pack_p n W).mono fun e w' hh => by
      rcases hh with ⟨_, v, he, ho, hb⟩ | ⟨h0, _⟩
      · obtain ⟨a, c, hv⟩ := owns_len ho
        subst hv
        exact ⟨a, c, he, ho, hb⟩
      · rw [hP] at h0; cases h0
    have H2 : Hid (∀ W, Calls Try.prog 34 #[.agg n.arr] W fun e w' => ∃ a c, e = .returned (.tuple #[.slice a (noteB n).length c, .int .i64 0]) ∧ OwnB w' W.heap.size (.slice a (noteB n).length c) (noteB n) ∧ Below W.heap.size W w') := fun W => packd_yes n W hok
    have hl := noteB_len hok
    obtain ⟨B, hB⟩ : ∃ x, noteB n = x := ⟨_, rfl⟩
    rw [hB] at H1 H2 hl
    have H3 : Hid (∀ v v' W, RB W v B → RB W v' B → Calls Try.prog 27 #[v, v'] W fun e w' => e = .returned (.bool true) ∧ Below W.heap.size W w') := fun v v' W h1 h2 => by
      have := same_any v v' B B W h1 h2 (by unfold LB; omega) (by unfold LB; omega)
      rw [decide_eq_true rfl] at this
      exact this
    obtain ⟨A, hA⟩ : ∃ x, n.arr = x := ⟨_, rfl⟩
    rw [hA] at H1 H2 hsz ⊢
    obtain ⟨W, hW⟩ : ∃ W, w.alloc (.cells A 81) = W := ⟨_, rfl⟩
    have hb := boxB hW
    have HB : Hid (W.heap[w.heap.size]? = some (.cells A 81 (0, 0)) ∧ Below w.heap.size w W ∧ A.size = 22) := ⟨hb.1, hb.2, hsz⟩
    have nl := noteS_of hb.1 hsz
    clear hA hb hsz hP hok hB hl
    go_enter Try.func8, Try.ntmps8
    go_upto_region 1 with fail
    clear hW
    go_wp2_with (first
      | (go_at_call 33; refine (H1.out _).mono ?_; rintro e w1 ⟨a1, c1, rfl, ho1, hb1⟩; have nl1 := noteS_of (hkeep HB.out.1 hb1) HB.out.2.2; have HO1 : Hid (OwnB w1 W.heap.size (.slice a1 B.length c1) B) := ho1; clear nl ho1)
      | (go_at_call 34; refine (H2.out _).mono ?_; rintro e w2 ⟨a2, c2, rfl, ho2, hb2⟩; have HO2 : Hid (RB w2 (.slice a2 B.length c2) B) := ho2.rb; clear nl1 ho2)
      | (go_at_call 27; refine (H3.out _ _ _ (HO1.out.below hb2).rb HO2.out).mono ?_; rintro e w3 ⟨rfl, hb3⟩)
      | (go_at_call 28; refine (HAw.out _).mono ?_; rintro e w4 ⟨rfl, hb4⟩))
    go_ret
    exact ⟨rfl, chainB HB.out.2.1 (chainB hb1 (chainB hb2 (chainB hb3 hb4)))⟩
end Go.Proofs.Ytihjhaafmdobmaa
