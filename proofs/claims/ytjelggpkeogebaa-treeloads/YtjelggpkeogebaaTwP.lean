/- The walk of the law TreePlays: it returns true. -/
import Derived.Test.YtjelggpkeogebaaTsJ
namespace Go.Proofs.Ytjelggpkeogebaa
open Go.RowKit
attribute [local go_sem high] eqK' neqK' eqE neqE eqN neqN guardK guardE guardN

theorem lk_keep {W0 W W' : World} {d : Nat} {a b c : Value} (h : W.cell? ⟨d, 0, none⟩ = some a ∧ W.cell? ⟨d, 1, none⟩ = some b ∧ W.cell? ⟨d, 2, none⟩ = some c ∧ Below W0.heap.size W0 W) (hb : Below W.heap.size W W') :
    W'.cell? ⟨d, 0, none⟩ = some a ∧ W'.cell? ⟨d, 1, none⟩ = some b ∧ W'.cell? ⟨d, 2, none⟩ = some c ∧ Below W0.heap.size W0 W' :=
  ⟨(hb.cell (cellLt h.1)).trans h.1, (hb.cell (cellLt h.2.1)).trans h.2.1, (hb.cell (cellLt h.2.2.1)).trans h.2.2.1, chainB h.2.2.2 hb⟩
set_option maxRecDepth 20000 in
set_option maxHeartbeats 16000000 in
theorem like_p {w0 w : World} {t d : Nat} {s D : Tr} {k : Int} (h : Twin w0 w t s k d D) :
    Calls Try.prog 9 #[.pointer (some ⟨t, 0, none⟩), .pointer (some ⟨d, 0, none⟩)] w fun e w' => e = .returned (.bool true) ∧ Below w.heap.size w w' := by
  have H : Hid (Twin w0 w t s k d D) := h
  obtain ⟨c0, c1, c2, _⟩ := h.two.cells
  obtain ⟨a, cap, e⟩ := owns_len h.two.row
  obtain ⟨n, hn⟩ : ∃ n, s.es.length = n := ⟨_, rfl⟩
  have hn2 : D.es.length = n := by rw [← hn]; exact h.likes.es.length_eq.symm
  rw [hn2] at e
  rw [e] at c0
  rw [← h.likes.vers] at c1
  rw [← h.likes.next] at c2
  have hn47 : n ≤ 47 := by rw [← hn]; exact h.one.good.wf.len
  have k0 : w.drew.cell? ⟨d, 0, none⟩ = some (.slice a n cap) ∧ w.drew.cell? ⟨d, 1, none⟩ = some (.int .i64 s.vers) ∧ w.drew.cell? ⟨d, 2, none⟩ = some (.int .i64 s.next) ∧ Below w.heap.size w w.drew := ⟨c0, c1, c2, (Below.refl _ _).drew⟩
  have HVe : Hid (∀ W, Below w.heap.size w W → Calls Try.prog 17 #[.pointer (some ⟨t, 0, none⟩)] W fun e w' => e = .returned (.int .i64 s.vers) ∧ W = w') := fun W hb => (version_p t s W (H.out.one.own.is.below hb)).mono fun _ _ h => ⟨h.1, h.2.symm⟩
  have HNx : Hid (∀ W, Below w.heap.size w W → Calls Try.prog 18 #[.pointer (some ⟨t, 0, none⟩)] W fun e w' => e = .returned (.int .i64 s.next) ∧ W = w') := fun W hb => (next_p t s W (H.out.one.own.is.below hb)).mono fun _ _ h => ⟨h.1, h.2.symm⟩
  have HCt : Hid (∀ W, Below w.heap.size w W → Calls Try.prog 31 #[.pointer (some ⟨t, 0, none⟩)] W fun e w' => e = .returned (.int .i64 ((n : Int) + 1)) ∧ W = w') := fun W hb => by rw [← hn]; exact (count_p t s W (H.out.one.own.is.below hb)).mono fun _ _ h => ⟨h.1, h.2.symm⟩
  have HDd : Hid (∀ W, Below w.heap.size w W → Calls Try.prog 32 #[.pointer (some ⟨d, 0, none⟩)] W fun e w' => ∃ v', e = .returned v' ∧ Row7 w' W.heap.size v' s.es ∧ Below W.heap.size W w') := fun W hb => by
    have := dumpD_any d D W (H.out.two.below hb) (H.out.one.good.wf.rises.apart.perm H.out.likes.es)
    rw [H.out.likes.srt H.out.one.good.wf] at this
    exact this
  have hwr : IntKind.i64.wrap ((n : Int) + 1) = (n : Int) + 1 := IntWalk.i64_in _ (by omega)
  clear h c0 c1 c2 e hn hn2
  go_enter Try.func9, Try.ntmps9
  go_upto_region 1 with fail
  go_region_held3 (fun w' => w'.cell? ⟨d, 0, none⟩ = some (.slice a n cap) ∧ w'.cell? ⟨d, 1, none⟩ = some (.int .i64 s.vers) ∧ w'.cell? ⟨d, 2, none⟩ = some (.int .i64 s.next) ∧ Below w.heap.size w w')
    (with_reducible first | exact hK10 | exact hK9 | exact hK8 | exact k0)
    (first
      | (go_at_call 17; refine (HVe.out _ k0.2.2.2).mono ?_; rintro x w4 ⟨rfl, rfl⟩)
      | (go_at_call 18; refine (HNx.out _ k0.2.2.2).mono ?_; rintro x w4 ⟨rfl, rfl⟩)
      | (go_at_call 31; refine (HCt.out _ k0.2.2.2).mono ?_; rintro x w4 ⟨rfl, rfl⟩)
      | (go_at_call 16; refine (dump_p t s _ (H.out.one.own.is.below k0.2.2.2)).mono ?_; rintro x w8 ⟨v8, rfl, hr8, hb8⟩; have hK8 := lk_keep k0 hb8)
      | (go_at_call 32; refine (HDd.out _ hK8.2.2.2).mono ?_; rintro x w9 ⟨v9, rfl, hr9, hb9⟩; have hK9 := lk_keep hK8 hb9)
      | (go_at_call 12; refine (same_yes (hr8.below hb9) hr9 H.out.one.len).mono ?_; rintro x w10 ⟨rfl, hb10⟩; have hK10 := lk_keep hK9 hb10))
  go_wp2
  go_ret
  exact ⟨rfl, hK10.2.2.2⟩
end Go.Proofs.Ytjelggpkeogebaa
