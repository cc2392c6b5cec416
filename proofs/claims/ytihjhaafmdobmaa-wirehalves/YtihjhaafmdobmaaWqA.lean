/- Encode. -/
import Derived.Test.YtihjhaafmdobmaaWpG
namespace Go.Proofs.Ytihjhaafmdobmaa
open Go.RowKit Go.Lib

/-- what Encode and Pack answer -/
def EncR (ok : Bool) (B : List Int) (w w' : World) (e : Ending) : Prop :=
  (ok = true ∧ ∃ v, e = .returned (.tuple #[v, .int .i64 0]) ∧ OwnB w' w.heap.size v B ∧ Below w.heap.size w w') ∨ (ok = false ∧ e = .returned (.tuple #[.slice none 0 0, .int .i64 50]) ∧ Below w.heap.size w w')
theorem new_writer {w W W2 : World} (hb : Below w.heap.size w W) (h : W.alloc (.cells #[.slice none 0 0] 109) = W2) : Wg w W2 W.heap.size [] := by
  subst h
  exact ⟨.slice none 0 0, heap_new _ _, OwnB.nil _ _, hb.size, chainB hb (below_alloc _ _)⟩
set_option maxRecDepth 20000 in
set_option maxHeartbeats 8000000 in
theorem encode_p (m : Ms) (w : World) (hr : Rows w m) : Calls Try.prog 24 #[.agg m.arr] w fun e w' => EncR (plainB m) (msgB m.mg) w w' e := by
  obtain ⟨W, hW⟩ : ∃ W, w.alloc (.cells m.arr 58) = W := ⟨_, rfl⟩
  have hb := boxB hW
  have HB : Hid (Below w.heap.size w W) := hb.2
  obtain ⟨av, cv, ev⟩ := owns_len hr.es
  obtain ⟨ak, ck, ek⟩ := owns_len hr.ks
  have HR : Hid (∀ W2, Below W.heap.size W W2 → Rows W2 m) := fun W2 h2 => ⟨(hr.es.below hb.2).below h2, (hr.ks.below hb.2).below h2⟩
  have HPl : Hid (∀ W2, Below W.heap.size W W2 → Calls Try.prog 53 #[.agg m.arr] W2 fun e w' => e = .returned (.bool (plainB m)) ∧ Below W2.heap.size W2 w') := fun W2 h2 => plainMsg_p m W2 (HR.out W2 h2)
  have HM : Hid (plainB m = true → ∀ w0 W2 t, Wg w0 W2 t [] → Below W.heap.size W W2 → Calls Try.prog 54 #[.pointer (some ⟨t, 0, none⟩), .agg m.arr] W2 fun e w' => e = .returned (.tuple #[]) ∧ Hid (Wrote w0 W2 w' t (msgB m.mg))) := fun hp w0 W2 t h2 hb2 => by
    obtain ⟨hg, hk⟩ := (plainB_iff m).1 hp
    exact message_w m h2 (HR.out W2 hb2) hg hk (by simp)
  obtain ⟨B, hB⟩ : ∃ x, msgB m.mg = x := ⟨_, rfl⟩
  obtain ⟨P, hP⟩ : ∃ x, plainB m = x := ⟨_, rfl⟩
  rw [hB] at HM ⊢
  rw [hP] at HM HPl ⊢
  obtain ⟨kind, client, life, seq, re, im, vers, err, op, ve, vk, es, ks⟩ := m
  simp only [] at ev ek
  subst ev ek
  unfold Ms.arr at *
  simp only [] at *
  have x0 := cell_of hb.1 0
  have x1 := cell_of hb.1 1
  have x2 := cell_of hb.1 2
  have x3 := cell_of hb.1 3
  have x4 := cell_of hb.1 4
  have x5 := cell_of hb.1 5
  have x6 := cell_of hb.1 6
  have x7 := cell_of hb.1 7
  have x8 := cell_of hb.1 8
  have x9 := cell_of hb.1 9
  have x10 := cell_of hb.1 10
  have x11 := cell_of hb.1 11
  have x12 := cell_of hb.1 12
  have x13 := cell_of hb.1 13
  have x14 := cell_of hb.1 14
  have x15 := cell_of hb.1 15
  simp at x0 x1 x2 x3 x4 x5 x6 x7 x8 x9 x10 x11 x12 x13 x14 x15
  have HBx : Hid (W.heap[w.heap.size]? = some (.cells #[.int .i64 kind, .int .i64 client, .int .i64 life, .int .i64 seq, .complex .f64 re im, .int .i64 vers, .int .i64 err, .int .i64 op.kind, .int .i64 op.dir, .string op.nm, .int .i64 op.dst, .string op.new, .int .i64 op.mode, .string op.tg, .slice av es.length cv, .slice ak ks.length ck] 58 (0, 0))) := hb.1
  clear hr hB hP hb
  cases P with
  | false =>
    go_enter Try.func24, Try.ntmps24
    go_upto_region 1 with fail
    clear hW
    go_wp2_with (go_at_call 53; refine (HPl.out W (Below.refl _ _)).mono ?_; rintro e w1 ⟨rfl, hb1⟩)
    go_ret2
    exact .inr ⟨rfl, rfl, chainB HB.out hb1⟩
  | true =>
    go_enter Try.func24, Try.ntmps24
    go_upto_region 1 with fail
    clear hW
    go_upto_region 4 with (go_at_call 53; refine (HPl.out W (Below.refl _ _)).mono ?_; rintro e w1 ⟨rfl, hb1⟩)
    obtain ⟨W2, hW2⟩ : ∃ W2, w1.alloc (.cells #[.slice none 0 0] 109) = W2 := ⟨_, rfl⟩
    have hg := new_writer (chainB HB.out hb1) hW2
    have hb2 := chainB hb1 (boxB hW2).2
    have HG : Hid (Wg w W2 w1.heap.size [] ∧ Below W.heap.size W W2) := ⟨hg, hb2⟩
    have n2 := hkeep HBx.out hb2
    have z0 := cell_of n2 0
    have z1 := cell_of n2 1
    have z2 := cell_of n2 2
    have z3 := cell_of n2 3
    have z4 := cell_of n2 4
    have z5 := cell_of n2 5
    have z6 := cell_of n2 6
    have z7 := cell_of n2 7
    have z8 := cell_of n2 8
    have z9 := cell_of n2 9
    have z10 := cell_of n2 10
    have z11 := cell_of n2 11
    have z12 := cell_of n2 12
    have z13 := cell_of n2 13
    have z14 := cell_of n2 14
    have z15 := cell_of n2 15
    simp at z0 z1 z2 z3 z4 z5 z6 z7 z8 z9 z10 z11 z12 z13 z14 z15
    rw [hW2]
    clear hW2 n2 hg hb2 x0 x1 x2 x3 x4 x5 x6 x7 x8 x9 x10 x11 x12 x13 x14 x15
    go_wp2_with (go_at_call 54; (refine (HM.out (by simp) w W2 w1.heap.size HG.out.1 HG.out.2).mono ?_; rintro e w3 ⟨rfl, h3⟩; obtain ⟨⟨v3, hv3⟩, hk3⟩ := h3.out; have y0 := hv3.cells.1; obtain ⟨a3, c3, hv3e⟩ := owns_len hv3.row; subst hv3e; have HF : Hid (IsW w w3 w1.heap.size B (.slice a3 B.length c3)) := hv3; clear hv3 hk3 h3))
    go_ret2
    exact .inl ⟨rfl, _, rfl, HF.out.row, HF.out.bel⟩
end Go.Proofs.Ytihjhaafmdobmaa
