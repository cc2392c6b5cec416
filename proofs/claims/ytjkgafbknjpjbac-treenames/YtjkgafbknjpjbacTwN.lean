/- The walk of the law TreeNames: it returns true. -/
import Derived.Test.YtjkgafbknjpjbacTqE
import Derived.Test.YtjkgafbknjpjbacTqP
namespace Go.Proofs.Ytjkgafbknjpjbac
open Go.RowKit
attribute [local go_sem high] eqK' neqK' eqE neqE eqN neqN guardK guardE guardN

set_option maxRecDepth 20000 in
set_option maxHeartbeats 16000000 in
theorem walk_TreeNames (a : Option Addr) (cap : Nat) (ops : List Opn) (dir : Int) (nm : ByteArray) (kind : Int) (w : World) (row : RowOps w a ops) (hlen : ops.length ≤ 3000000000000) (_ : (Lit.int .i64 dir).wf = true) (_ : (Lit.int .i64 kind).wf = true) :
    Calls Try.prog 5 #[.slice a ops.length cap, .int .i64 dir, .string nm, .int .i64 kind] w fun e w' => e = .returned (.bool true) ∧ Below w.heap.size w w' := by
  have pk := placeV_bd kind 7 (by omega)
  obtain ⟨P, hP⟩ : ∃ x, placeV kind 7 = x := ⟨_, rfl⟩
  rw [hP] at pk
  have HP : Hid (∀ w, Calls Try.prog 13 #[.int .i64 kind, .int .i64 7] w fun e w' => e = .returned (.int .i64 P) ∧ w' = w) := fun w => by rw [← hP]; exact place_any kind 7 w (by omega) (by omega)
  have HBe : Hid (Calls Try.prog 6 #[.slice a ops.length cap] w fun e w' => ∃ t s, e = .returned (.tuple #[.pointer (some ⟨t, 0, none⟩), .bool true]) ∧ Law w w' t s ops.length) := (behind_p a cap ops w row hlen).mono fun _ _ h => Law.of h
  have HAw : Hid (∀ w, Calls Try.prog 11 #[] w fun e w' => e = .returned (.bool true) ∧ Below w.heap.size w w') := awake_p
  obtain ⟨C, hC⟩ : ∃ x, chkE nm = x := ⟨_, rfl⟩
  have HC : Hid (∀ w, Calls Try.prog 16 #[.string nm] w fun e w' => e = .returned (.int .i64 C) ∧ Below w.heap.size w w') := fun w => by rw [← hC]; exact check_any nm w
  clear hP row
  go_enter Try.func5, Try.ntmps5
  go_upto_region 4 with (go_at_call 6; refine HBe.out.mono ?_; rintro x w1 ⟨t, s, rfl, hL⟩; have H1 : Hid (Law w w1 t s ops.length) := hL; clear hL)
  obtain ⟨D, hD⟩ : ∃ x, dirE s.es dir = x := ⟨_, rfl⟩
  have HLi : Hid (∀ w, IsP w t s → Calls Try.prog 17 #[.pointer (some ⟨t, 0, none⟩), .int .i64 dir] w fun e w' => ∃ v', e = .returned (.tuple #[v', .int .i64 D]) ∧ Row7 w' w.heap.size v' (listR s.es dir) ∧ Below w.heap.size w w') := fun w hw => by rw [← hD]; exact list_p t s dir w hw
  have hN : namedE Mn s.es dir nm = if D = 0 then C else D := by unfold namedE; rw [hD, ← hC]; rfl
  obtain ⟨f, F, hF, -, HLo⟩ := Look_q Mn nmsP t s dir nm
  rw [hN] at hF
  have hop := fun w (h : IsP w t s) => apply_g t s ⟨5 + P, dir, nm, 1, ⟨#[120]⟩, 0, ⟨#[97]⟩⟩ ops.length w h H1.out.good (by omega)
  obtain ⟨A, hA⟩ : ∃ x, doesE Mn s ⟨5 + P, dir, nm, 1, ⟨#[120]⟩, 0, ⟨#[97]⟩⟩ = x := ⟨_, rfl⟩
  have HF : Hid (F = (if D = 0 then C else D) ∧ (F ≠ 0 → A = F)) := ⟨hF, fun h => by
    rw [← hA, hF, ← hN]
    exact does_named (by show 5 ≤ 5 + P; omega) (by show 5 + P ≤ 11; omega) (by show namedE Mn s.es dir nm ≠ 0; rw [hN, ← hF]; exact h)⟩
  have HAp : Hid (∀ w, IsP w t s → Calls Try.prog 9 #[.pointer (some ⟨t, 0, none⟩), .agg #[.int .i64 (5 + P), .int .i64 dir, .string nm, .int .i64 1, .string ⟨#[120]⟩, .int .i64 0, .string ⟨#[97]⟩]] w fun e w' => ∃ v k s', e = .returned (.tuple #[v, k, .int .i64 A]) ∧ Hid (PS w w' t s s' ∧ (A ≠ 0 → s'.es = s.es))) := fun w h => (hop w h).mono fun e w' ⟨v, k, s', he, hps, hst, _⟩ => ⟨v, k, s', by rw [← hA]; exact he, hps, fun hz => (hst.no (by rw [hA]; exact hz)).1⟩
  clear hop hA hN hF hD hC
  go_upto_region 9 with (first
    | (go_at_call 7; refine (dump_p t s _ H1.out.own.is).mono ?_; rintro x w2 ⟨v2, rfl, hr2, hb2⟩; have H2 : Hid (Law w w2 t s ops.length ∧ Lst w.heap.size w2 s v2 s.es) := ⟨H1.out.below hb2, Lst.of H1.out.own.is hr2 H1.out.bel.size⟩; clear hr2 hb2)
    | (go_at_call 16; refine (HC.out _).mono ?_; rintro x w3 ⟨rfl, hb3⟩; have H3 : Hid (Law w w3 t s ops.length ∧ Lst w.heap.size w3 s v2 s.es) := ⟨H2.out.1.below hb3, H2.out.2.below hb3⟩; clear hb3)
    | (go_at_call 17; refine (HLi.out _ H3.out.1.own.is).mono ?_; rintro x w4 ⟨v4, rfl, hr4, hb4⟩; have H4 : Hid (Law w w4 t s ops.length ∧ Lst w.heap.size w4 s v2 s.es) := ⟨H3.out.1.below hb4, H3.out.2.below hb4⟩; clear hr4 hb4)
    | (go_at_call 8; refine (HLo.out _ H4.out.1.own.is).mono ?_; rintro x w5 ⟨rfl, hb5⟩; have H5 : Hid (∀ o, Law w (w5.alloc o) t s ops.length ∧ Lst w.heap.size (w5.alloc o) s v2 s.es) := fun o => ⟨(H4.out.1.below hb5).alloc o, (H4.out.2.below hb5).below (below_alloc _ _)⟩; clear hb5)
    | (go_at_call 13; refine (HP.out _).mono ?_; rintro x w6 ⟨rfl, rfl⟩)
    | (go_at_call 9; refine (HAp.out _ (H5.out _).1.own.is).mono ?_; rintro x w7 ⟨v7, k7, s7, rfl, h7⟩; have H7 : Hid (IsP w7 t s7 ∧ (A ≠ 0 → s7.es = s.es) ∧ Below w.heap.size w w7 ∧ Row7 w7 w.heap.size v2 s.es) := ⟨h7.out.1.is, h7.out.2, ((H5.out _).1.own.step (H5.out _).1.bel (H5.out _).1.bel.size h7.out.1).2, ((H5.out _).2.step (H5.out _).1.own.is h7.out.1).row⟩; clear h7))
  clear HLi HLo HAp HC HP HBe H5 H4 H3 H2
  by_cases hD0 : D = 0
  · subst hD0
    by_cases hC0 : C = 0
    · subst hC0
      have hF0 : F = 0 := by rw [HF.out.1]; simp
      subst hF0
      go_wp2_with (go_at_call 11; refine (HAw.out _).mono ?_; rintro x w12 ⟨rfl, hb12⟩)
      go_ret
      exact ⟨rfl, chainB H7.out.2.2.1 hb12⟩
    · have hF0 : F = C := by rw [HF.out.1]; simp
      subst hF0
      have hA0 : A = F := HF.out.2 hC0
      subst hA0
      have hCb : (A != 0) = true := by simpa using hC0
      have HZ : Hid (s7.es = s.es) := H7.out.2.1 hC0
      clear hC0
      go_wp2_with (first
        | (go_at_call 7; refine (dump_p t s7 _ H7.out.1).mono ?_; rintro x w8 ⟨v8, rfl, hr8, hb8⟩; rw [HZ.out] at hr8)
        | (go_at_call 10; refine (same_yes hr8 (H7.out.2.2.2.below hb8) H1.out.len).mono ?_; rintro x w9 ⟨rfl, hb9⟩)
        | (go_at_call 11; refine (HAw.out _).mono ?_; rintro x w12 ⟨rfl, hb12⟩))
      go_ret
      exact ⟨rfl, chainB (chainB (chainB H7.out.2.2.1 hb8) hb9) hb12⟩
  · have hF0 : F = D := by rw [HF.out.1]; simp [hD0]
    subst hF0
    have hA0 : A = F := HF.out.2 hD0
    subst hA0
    have hCb : (A != 0) = true := by simpa using hD0
    have HZ : Hid (s7.es = s.es) := H7.out.2.1 hD0
    clear hD0
    go_wp2_with (first
      | (go_at_call 7; refine (dump_p t s7 _ H7.out.1).mono ?_; rintro x w8 ⟨v8, rfl, hr8, hb8⟩; rw [HZ.out] at hr8)
      | (go_at_call 10; refine (same_yes hr8 (H7.out.2.2.2.below hb8) H1.out.len).mono ?_; rintro x w9 ⟨rfl, hb9⟩)
      | (go_at_call 11; refine (HAw.out _).mono ?_; rintro x w12 ⟨rfl, hb12⟩))
    go_ret
    exact ⟨rfl, chainB (chainB (chainB H7.out.2.2.1 hb8) hb9) hb12⟩
end Go.Proofs.Ytjkgafbknjpjbac
