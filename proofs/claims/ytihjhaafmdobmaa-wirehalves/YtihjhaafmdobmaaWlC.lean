/- Messages compared: the same ones. -/
import Derived.Test.YtihjhaafmdobmaaWlB
namespace Go.Proofs.Ytihjhaafmdobmaa
open Go.RowKit Go.Lib
attribute [local go_sem high] eqO neqO guardO

set_option maxRecDepth 20000 in
set_option maxHeartbeats 16000000 in
theorem sameMsg_yes (kind client life seq : Int) (re im re2 im2 : Nat) (vers err : Int) (op : Opn) (ve vk ve2 vk2 : Value) (es : List En) (ks : List Ky) (w : World) (h1 : FloatKind.f64.format.order re re2 = some .eq) (h2 : FloatKind.f64.format.order im im2 = some .eq)
    (he : Row7 w 0 ve es) (he2 : Row7 w 0 ve2 es) (hk : RowK w 0 vk ks) (hk2 : RowK w 0 vk2 ks) (hle : es.length ≤ 1000000000) (hlk : ks.length ≤ 1000000000) :
    Calls Try.prog 32 #[.agg (Ms.arr ⟨kind, client, life, seq, re, im, vers, err, op, ve, vk, es, ks⟩), .agg (Ms.arr ⟨kind, client, life, seq, re2, im2, vers, err, op, ve2, vk2, es, ks⟩)] w fun e w' => e = .returned (.bool true) ∧ Below w.heap.size w w' := by
  obtain ⟨ae, ce, rfl⟩ := owns_len he
  obtain ⟨ae2, ce2, rfl⟩ := owns_len he2
  obtain ⟨ak, ck, rfl⟩ := owns_len hk
  obtain ⟨ak2, ck2, rfl⟩ := owns_len hk2
  unfold Ms.arr
  simp only []
  obtain ⟨W, hW⟩ : ∃ W, w.alloc (.cells #[.int .i64 kind, .int .i64 client, .int .i64 life, .int .i64 seq, .complex .f64 re im, .int .i64 vers, .int .i64 err, .int .i64 op.kind, .int .i64 op.dir, .string op.nm, .int .i64 op.dst, .string op.new, .int .i64 op.mode, .string op.tg, .slice ae es.length ce, .slice ak ks.length ck] 58) = W := ⟨_, rfl⟩
  obtain ⟨W2, hW2⟩ : ∃ W2, W.alloc (.cells #[.int .i64 kind, .int .i64 client, .int .i64 life, .int .i64 seq, .complex .f64 re2 im2, .int .i64 vers, .int .i64 err, .int .i64 op.kind, .int .i64 op.dir, .string op.nm, .int .i64 op.dst, .string op.new, .int .i64 op.mode, .string op.tg, .slice ae2 es.length ce2, .slice ak2 ks.length ck2] 58) = W2 := ⟨_, rfl⟩
  have hb := boxB hW
  have hb2 := boxB hW2
  have HB : Hid (W2.heap[w.heap.size]? = some (.cells #[.int .i64 kind, .int .i64 client, .int .i64 life, .int .i64 seq, .complex .f64 re im, .int .i64 vers, .int .i64 err, .int .i64 op.kind, .int .i64 op.dir, .string op.nm, .int .i64 op.dst, .string op.new, .int .i64 op.mode, .string op.tg, .slice ae es.length ce, .slice ak ks.length ck] 58 (0, 0)) ∧ W2.heap[W.heap.size]? = some (.cells #[.int .i64 kind, .int .i64 client, .int .i64 life, .int .i64 seq, .complex .f64 re2 im2, .int .i64 vers, .int .i64 err, .int .i64 op.kind, .int .i64 op.dir, .string op.nm, .int .i64 op.dst, .string op.new, .int .i64 op.mode, .string op.tg, .slice ae2 es.length ce2, .slice ak2 ks.length ck2] 58 (0, 0)) ∧ Below w.heap.size w W2) := ⟨hkeep hb.1 hb2.2, hb2.1, chainB hb.2 hb2.2⟩
  have x0 := cell_of HB.out.1 0
  have y0 := cell_of HB.out.2.1 0
  have x1 := cell_of HB.out.1 1
  have y1 := cell_of HB.out.2.1 1
  have x2 := cell_of HB.out.1 2
  have y2 := cell_of HB.out.2.1 2
  have x3 := cell_of HB.out.1 3
  have y3 := cell_of HB.out.2.1 3
  have x4 := cell_of HB.out.1 4
  have y4 := cell_of HB.out.2.1 4
  have x5 := cell_of HB.out.1 5
  have y5 := cell_of HB.out.2.1 5
  have x6 := cell_of HB.out.1 6
  have y6 := cell_of HB.out.2.1 6
  have x7 := cell_of HB.out.1 7
  have y7 := cell_of HB.out.2.1 7
  have x8 := cell_of HB.out.1 8
  have y8 := cell_of HB.out.2.1 8
  have x9 := cell_of HB.out.1 9
  have y9 := cell_of HB.out.2.1 9
  have x10 := cell_of HB.out.1 10
  have y10 := cell_of HB.out.2.1 10
  have x11 := cell_of HB.out.1 11
  have y11 := cell_of HB.out.2.1 11
  have x12 := cell_of HB.out.1 12
  have y12 := cell_of HB.out.2.1 12
  have x13 := cell_of HB.out.1 13
  have y13 := cell_of HB.out.2.1 13
  have x14 := cell_of HB.out.1 14
  have y14 := cell_of HB.out.2.1 14
  have x15 := cell_of HB.out.1 15
  have y15 := cell_of HB.out.2.1 15
  simp at x0 y0 x1 y1 x2 y2 x3 y3 x4 y4 x5 y5 x6 y6 x7 y7 x8 y8 x9 y9 x10 y10 x11 y11 x12 y12 x13 y13 x14 y14 x15 y15
  have HSe : Hid (∀ W3, Below W2.heap.size W2 W3 → Calls Try.prog 16 #[.slice ae es.length ce, .slice ae2 es.length ce2] W3 fun e w' => e = .returned (.bool true) ∧ Below W3.heap.size W3 w') := fun W3 h3 => by
    have := sameE_any _ _ es es 0 0 W3 (he.below (chainB HB.out.2.2 h3)) (he2.below (chainB HB.out.2.2 h3)) hle hle
    rw [(sameEs_iff es es).2 rfl] at this
    exact this
  have HSk : Hid (∀ W3, Below W2.heap.size W2 W3 → Calls Try.prog 17 #[.slice ak ks.length ck, .slice ak2 ks.length ck2] W3 fun e w' => e = .returned (.bool true) ∧ Below W3.heap.size W3 w') := fun W3 h3 => by
    have := sameK_any _ _ ks ks 0 0 W3 (hk.below (chainB HB.out.2.2 h3)) (hk2.below (chainB HB.out.2.2 h3)) hlk hlk
    rw [(sameKs_iff ks ks).2 rfl] at this
    exact this
  have heO : eqOp ⟨op.kind, op.dir, op.nm, op.dst, op.new, op.mode, op.tg⟩ ⟨op.kind, op.dir, op.nm, op.dst, op.new, op.mode, op.tg⟩ = true := (eqOp_iff _ _).2 rfl
  clear he he2 hk hk2 hb hb2
  go_enter Try.func32, Try.ntmps32
  go_upto_region 1 with fail
  clear hW hW2
  go_wp2_with (first
    | (go_at_call 16; refine (HSe.out _ (Below.refl _ _)).mono ?_; rintro e w1 ⟨rfl, hb1⟩; have p15 := cell_of (hkeep HB.out.1 hb1) 15; have q15 := cell_of (hkeep HB.out.2.1 hb1) 15; simp at p15 q15)
    | (go_at_call 17; refine (HSk.out _ hb1).mono ?_; rintro e w2 ⟨rfl, hb2⟩))
  go_ret
  exact ⟨rfl, chainB HB.out.2.2 (chainB hb1 hb2)⟩
end Go.Proofs.Ytihjhaafmdobmaa
