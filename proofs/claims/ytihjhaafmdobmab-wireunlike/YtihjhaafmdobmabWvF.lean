/- Pack. -/
import Derived.Test.YtihjhaafmdobmabWvE
import Derived.Test.YtihjhaafmdobmabWqA
namespace Go.Proofs.Ytihjhaafmdobmab
open Go.RowKit Go.Lib
attribute [local go_sem ↓ high] loadN

set_option maxRecDepth 20000 in
set_option maxHeartbeats 8000000 in
theorem pack_p (n : Nt) (w : World) : Calls Try.prog 17 #[.agg n.arr] w fun e w' => EncR (plainN n) (noteB n) w w' e := by
  have HPl : Hid (∀ W2, Calls Try.prog 47 #[.agg n.arr] W2 fun e w' => e = .returned (.bool (plainN n)) ∧ Below W2.heap.size W2 w') := fun W2 => plainNote_p n W2
  have HM : Hid (plainN n = true → ∀ w0 W2 t, Wg w0 W2 t [] → Calls Try.prog 60 #[.pointer (some ⟨t, 0, none⟩), .agg n.arr] W2 fun e w' => e = .returned (.tuple #[]) ∧ Hid (Wrote w0 W2 w' t (noteB n))) := fun hp w0 W2 t h2 => note_w n h2 ((plainN_iff n).1 hp) (by simp)
  obtain ⟨B, hB⟩ : ∃ x, noteB n = x := ⟨_, rfl⟩
  obtain ⟨P, hP⟩ : ∃ x, plainN n = x := ⟨_, rfl⟩
  rw [hB] at HM ⊢
  rw [hP] at HM HPl ⊢
  have hsz : n.arr.size = 22 := rfl
  obtain ⟨A, hA⟩ : ∃ x, n.arr = x := ⟨_, rfl⟩
  rw [hA] at HM HPl hsz ⊢
  obtain ⟨W, hW⟩ : ∃ W, w.alloc (.cells A 35) = W := ⟨_, rfl⟩
  have hb := boxB hW
  have HB : Hid (W.heap[w.heap.size]? = some (.cells A 35 (0, 0)) ∧ Below w.heap.size w W) := hb
  have nl := noteS_of hb.1 hsz
  have HZ : Hid (A.size = 22) := hsz
  clear hA hB hP hb hsz
  cases P with
  | false =>
    go_enter Try.func17, Try.ntmps17
    go_upto_region 1 with fail
    clear hW
    go_wp2_with (go_at_call 47; refine (HPl.out W).mono ?_; rintro e w1 ⟨rfl, hb1⟩)
    go_ret2
    exact .inr ⟨rfl, rfl, chainB HB.out.2 hb1⟩
  | true =>
    go_enter Try.func17, Try.ntmps17
    go_upto_region 1 with fail
    clear hW
    go_upto_region 4 with (go_at_call 47; refine (HPl.out W).mono ?_; rintro e w1 ⟨rfl, hb1⟩)
    obtain ⟨W2, hW2⟩ : ∃ W2, w1.alloc (.cells #[.slice none 0 0] 114) = W2 := ⟨_, rfl⟩
    have hg := new_writer (chainB HB.out.2 hb1) hW2
    have hb2 := chainB hb1 (boxB hW2).2
    have HG : Hid (Wg w W2 w1.heap.size []) := hg
    have nl2 := noteS_of (hkeep HB.out.1 hb2) HZ.out
    rw [hW2]
    clear hW2 hg hb2 nl
    go_wp2_with (go_at_call 60; (refine (HM.out (by simp) w W2 w1.heap.size HG.out).mono ?_; rintro e w3 ⟨rfl, h3⟩; obtain ⟨⟨v3, hv3⟩, hk3⟩ := h3.out; have y0 := hv3.cells.1; obtain ⟨a3, c3, hv3e⟩ := owns_len hv3.row; subst hv3e; have HF : Hid (IsW w w3 w1.heap.size B (.slice a3 B.length c3)) := hv3; clear hv3 hk3 h3))
    go_ret2
    exact .inl ⟨rfl, _, rfl, HF.out.row, HF.out.bel⟩
end Go.Proofs.Ytihjhaafmdobmab
