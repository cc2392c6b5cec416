/- Messages compared: those that differ. -/
import Derived.Test.YtihjhaafmdobmabWlC
import Derived.Test.YtihjhaafmdobmabWlE
namespace Go.Proofs.Ytihjhaafmdobmab
section
open Go.RowKit Go.Lib
attribute [local go_sem high] eqO neqO guardO

set_option maxRecDepth 20000 in
set_option maxHeartbeats 16000000 in
theorem sameMsg_no_kind (kind client life seq vers err : Int) (kind2 client2 life2 seq2 vers2 err2 : Int) (re im re2 im2 : Nat) (op op2 : Opn) (ve vk ve2 vk2 : Value) (es es2 : List En) (ks ks2 : List Ky) (w : World) (hne : ¬ kind = kind2) (he : Row7 w 0 ve es) (he2 : Row7 w 0 ve2 es2) (hk : RowK w 0 vk ks) (hk2 : RowK w 0 vk2 ks2) :
    Calls Try.prog 21 #[.agg (Ms.arr ⟨kind, client, life, seq, re, im, vers, err, op, ve, vk, es, ks⟩), .agg (Ms.arr ⟨kind2, client2, life2, seq2, re2, im2, vers2, err2, op2, ve2, vk2, es2, ks2⟩)] w fun e w' => e = .returned (.bool false) ∧ Below w.heap.size w w' := by
  obtain ⟨ae, ce, rfl⟩ := owns_len he
  obtain ⟨ae2, ce2, rfl⟩ := owns_len he2
  obtain ⟨ak, ck, rfl⟩ := owns_len hk
  obtain ⟨ak2, ck2, rfl⟩ := owns_len hk2
  unfold Ms.arr
  simp only []
  obtain ⟨W, hW⟩ : ∃ W, w.alloc (.cells #[.int .i64 kind, .int .i64 client, .int .i64 life, .int .i64 seq, .complex .f64 re im, .int .i64 vers, .int .i64 err, .int .i64 op.kind, .int .i64 op.dir, .string op.nm, .int .i64 op.dst, .string op.new, .int .i64 op.mode, .string op.tg, .slice ae es.length ce, .slice ak ks.length ck] 51) = W := ⟨_, rfl⟩
  obtain ⟨W2, hW2⟩ : ∃ W2, W.alloc (.cells #[.int .i64 kind2, .int .i64 client2, .int .i64 life2, .int .i64 seq2, .complex .f64 re2 im2, .int .i64 vers2, .int .i64 err2, .int .i64 op2.kind, .int .i64 op2.dir, .string op2.nm, .int .i64 op2.dst, .string op2.new, .int .i64 op2.mode, .string op2.tg, .slice ae2 es2.length ce2, .slice ak2 ks2.length ck2] 51) = W2 := ⟨_, rfl⟩
  have hb := boxB hW
  have hb2 := boxB hW2
  have HB : Hid (W2.heap[w.heap.size]? = some (.cells #[.int .i64 kind, .int .i64 client, .int .i64 life, .int .i64 seq, .complex .f64 re im, .int .i64 vers, .int .i64 err, .int .i64 op.kind, .int .i64 op.dir, .string op.nm, .int .i64 op.dst, .string op.new, .int .i64 op.mode, .string op.tg, .slice ae es.length ce, .slice ak ks.length ck] 51 (0, 0)) ∧ W2.heap[W.heap.size]? = some (.cells #[.int .i64 kind2, .int .i64 client2, .int .i64 life2, .int .i64 seq2, .complex .f64 re2 im2, .int .i64 vers2, .int .i64 err2, .int .i64 op2.kind, .int .i64 op2.dir, .string op2.nm, .int .i64 op2.dst, .string op2.new, .int .i64 op2.mode, .string op2.tg, .slice ae2 es2.length ce2, .slice ak2 ks2.length ck2] 51 (0, 0)) ∧ Below w.heap.size w W2) := ⟨hkeep hb.1 hb2.2, hb2.1, chainB hb.2 hb2.2⟩
  have x0 := cell_of HB.out.1 0
  have y0 := cell_of HB.out.2.1 0
  simp at x0 y0
  have hbq : (kind == kind2) = false := by simpa using hne
  clear hne
  clear he he2 hk hk2 hb hb2
  go_enter Try.func21, Try.ntmps21
  go_upto_region 1 with fail
  clear hW hW2
  go_wp2
  go_ret
  exact ⟨rfl, HB.out.2.2⟩
set_option maxRecDepth 20000 in
set_option maxHeartbeats 16000000 in
theorem sameMsg_no_client (kind client life seq vers err : Int) (client2 life2 seq2 vers2 err2 : Int) (re im re2 im2 : Nat) (op op2 : Opn) (ve vk ve2 vk2 : Value) (es es2 : List En) (ks ks2 : List Ky) (w : World) (hne : ¬ client = client2) (he : Row7 w 0 ve es) (he2 : Row7 w 0 ve2 es2) (hk : RowK w 0 vk ks) (hk2 : RowK w 0 vk2 ks2) :
    Calls Try.prog 21 #[.agg (Ms.arr ⟨kind, client, life, seq, re, im, vers, err, op, ve, vk, es, ks⟩), .agg (Ms.arr ⟨kind, client2, life2, seq2, re2, im2, vers2, err2, op2, ve2, vk2, es2, ks2⟩)] w fun e w' => e = .returned (.bool false) ∧ Below w.heap.size w w' := by
  obtain ⟨ae, ce, rfl⟩ := owns_len he
  obtain ⟨ae2, ce2, rfl⟩ := owns_len he2
  obtain ⟨ak, ck, rfl⟩ := owns_len hk
  obtain ⟨ak2, ck2, rfl⟩ := owns_len hk2
  unfold Ms.arr
  simp only []
  obtain ⟨W, hW⟩ : ∃ W, w.alloc (.cells #[.int .i64 kind, .int .i64 client, .int .i64 life, .int .i64 seq, .complex .f64 re im, .int .i64 vers, .int .i64 err, .int .i64 op.kind, .int .i64 op.dir, .string op.nm, .int .i64 op.dst, .string op.new, .int .i64 op.mode, .string op.tg, .slice ae es.length ce, .slice ak ks.length ck] 51) = W := ⟨_, rfl⟩
  obtain ⟨W2, hW2⟩ : ∃ W2, W.alloc (.cells #[.int .i64 kind, .int .i64 client2, .int .i64 life2, .int .i64 seq2, .complex .f64 re2 im2, .int .i64 vers2, .int .i64 err2, .int .i64 op2.kind, .int .i64 op2.dir, .string op2.nm, .int .i64 op2.dst, .string op2.new, .int .i64 op2.mode, .string op2.tg, .slice ae2 es2.length ce2, .slice ak2 ks2.length ck2] 51) = W2 := ⟨_, rfl⟩
  have hb := boxB hW
  have hb2 := boxB hW2
  have HB : Hid (W2.heap[w.heap.size]? = some (.cells #[.int .i64 kind, .int .i64 client, .int .i64 life, .int .i64 seq, .complex .f64 re im, .int .i64 vers, .int .i64 err, .int .i64 op.kind, .int .i64 op.dir, .string op.nm, .int .i64 op.dst, .string op.new, .int .i64 op.mode, .string op.tg, .slice ae es.length ce, .slice ak ks.length ck] 51 (0, 0)) ∧ W2.heap[W.heap.size]? = some (.cells #[.int .i64 kind, .int .i64 client2, .int .i64 life2, .int .i64 seq2, .complex .f64 re2 im2, .int .i64 vers2, .int .i64 err2, .int .i64 op2.kind, .int .i64 op2.dir, .string op2.nm, .int .i64 op2.dst, .string op2.new, .int .i64 op2.mode, .string op2.tg, .slice ae2 es2.length ce2, .slice ak2 ks2.length ck2] 51 (0, 0)) ∧ Below w.heap.size w W2) := ⟨hkeep hb.1 hb2.2, hb2.1, chainB hb.2 hb2.2⟩
  have x0 := cell_of HB.out.1 0
  have y0 := cell_of HB.out.2.1 0
  have x1 := cell_of HB.out.1 1
  have y1 := cell_of HB.out.2.1 1
  simp at x0 y0 x1 y1
  have hbq : (client == client2) = false := by simpa using hne
  clear hne
  clear he he2 hk hk2 hb hb2
  go_enter Try.func21, Try.ntmps21
  go_upto_region 1 with fail
  clear hW hW2
  go_wp2
  go_ret
  exact ⟨rfl, HB.out.2.2⟩
set_option maxRecDepth 20000 in
set_option maxHeartbeats 16000000 in
theorem sameMsg_no_life (kind client life seq vers err : Int) (life2 seq2 vers2 err2 : Int) (re im re2 im2 : Nat) (op op2 : Opn) (ve vk ve2 vk2 : Value) (es es2 : List En) (ks ks2 : List Ky) (w : World) (hne : ¬ life = life2) (he : Row7 w 0 ve es) (he2 : Row7 w 0 ve2 es2) (hk : RowK w 0 vk ks) (hk2 : RowK w 0 vk2 ks2) :
    Calls Try.prog 21 #[.agg (Ms.arr ⟨kind, client, life, seq, re, im, vers, err, op, ve, vk, es, ks⟩), .agg (Ms.arr ⟨kind, client, life2, seq2, re2, im2, vers2, err2, op2, ve2, vk2, es2, ks2⟩)] w fun e w' => e = .returned (.bool false) ∧ Below w.heap.size w w' := by
  obtain ⟨ae, ce, rfl⟩ := owns_len he
  obtain ⟨ae2, ce2, rfl⟩ := owns_len he2
  obtain ⟨ak, ck, rfl⟩ := owns_len hk
  obtain ⟨ak2, ck2, rfl⟩ := owns_len hk2
  unfold Ms.arr
  simp only []
  obtain ⟨W, hW⟩ : ∃ W, w.alloc (.cells #[.int .i64 kind, .int .i64 client, .int .i64 life, .int .i64 seq, .complex .f64 re im, .int .i64 vers, .int .i64 err, .int .i64 op.kind, .int .i64 op.dir, .string op.nm, .int .i64 op.dst, .string op.new, .int .i64 op.mode, .string op.tg, .slice ae es.length ce, .slice ak ks.length ck] 51) = W := ⟨_, rfl⟩
  obtain ⟨W2, hW2⟩ : ∃ W2, W.alloc (.cells #[.int .i64 kind, .int .i64 client, .int .i64 life2, .int .i64 seq2, .complex .f64 re2 im2, .int .i64 vers2, .int .i64 err2, .int .i64 op2.kind, .int .i64 op2.dir, .string op2.nm, .int .i64 op2.dst, .string op2.new, .int .i64 op2.mode, .string op2.tg, .slice ae2 es2.length ce2, .slice ak2 ks2.length ck2] 51) = W2 := ⟨_, rfl⟩
  have hb := boxB hW
  have hb2 := boxB hW2
  have HB : Hid (W2.heap[w.heap.size]? = some (.cells #[.int .i64 kind, .int .i64 client, .int .i64 life, .int .i64 seq, .complex .f64 re im, .int .i64 vers, .int .i64 err, .int .i64 op.kind, .int .i64 op.dir, .string op.nm, .int .i64 op.dst, .string op.new, .int .i64 op.mode, .string op.tg, .slice ae es.length ce, .slice ak ks.length ck] 51 (0, 0)) ∧ W2.heap[W.heap.size]? = some (.cells #[.int .i64 kind, .int .i64 client, .int .i64 life2, .int .i64 seq2, .complex .f64 re2 im2, .int .i64 vers2, .int .i64 err2, .int .i64 op2.kind, .int .i64 op2.dir, .string op2.nm, .int .i64 op2.dst, .string op2.new, .int .i64 op2.mode, .string op2.tg, .slice ae2 es2.length ce2, .slice ak2 ks2.length ck2] 51 (0, 0)) ∧ Below w.heap.size w W2) := ⟨hkeep hb.1 hb2.2, hb2.1, chainB hb.2 hb2.2⟩
  have x0 := cell_of HB.out.1 0
  have y0 := cell_of HB.out.2.1 0
  have x1 := cell_of HB.out.1 1
  have y1 := cell_of HB.out.2.1 1
  have x2 := cell_of HB.out.1 2
  have y2 := cell_of HB.out.2.1 2
  simp at x0 y0 x1 y1 x2 y2
  have hbq : (life == life2) = false := by simpa using hne
  clear hne
  clear he he2 hk hk2 hb hb2
  go_enter Try.func21, Try.ntmps21
  go_upto_region 1 with fail
  clear hW hW2
  go_wp2
  go_ret
  exact ⟨rfl, HB.out.2.2⟩
set_option maxRecDepth 20000 in
set_option maxHeartbeats 16000000 in
theorem sameMsg_no_seq (kind client life seq vers err : Int) (seq2 vers2 err2 : Int) (re im re2 im2 : Nat) (op op2 : Opn) (ve vk ve2 vk2 : Value) (es es2 : List En) (ks ks2 : List Ky) (w : World) (hne : ¬ seq = seq2) (he : Row7 w 0 ve es) (he2 : Row7 w 0 ve2 es2) (hk : RowK w 0 vk ks) (hk2 : RowK w 0 vk2 ks2) :
    Calls Try.prog 21 #[.agg (Ms.arr ⟨kind, client, life, seq, re, im, vers, err, op, ve, vk, es, ks⟩), .agg (Ms.arr ⟨kind, client, life, seq2, re2, im2, vers2, err2, op2, ve2, vk2, es2, ks2⟩)] w fun e w' => e = .returned (.bool false) ∧ Below w.heap.size w w' := by
  obtain ⟨ae, ce, rfl⟩ := owns_len he
  obtain ⟨ae2, ce2, rfl⟩ := owns_len he2
  obtain ⟨ak, ck, rfl⟩ := owns_len hk
  obtain ⟨ak2, ck2, rfl⟩ := owns_len hk2
  unfold Ms.arr
  simp only []
  obtain ⟨W, hW⟩ : ∃ W, w.alloc (.cells #[.int .i64 kind, .int .i64 client, .int .i64 life, .int .i64 seq, .complex .f64 re im, .int .i64 vers, .int .i64 err, .int .i64 op.kind, .int .i64 op.dir, .string op.nm, .int .i64 op.dst, .string op.new, .int .i64 op.mode, .string op.tg, .slice ae es.length ce, .slice ak ks.length ck] 51) = W := ⟨_, rfl⟩
  obtain ⟨W2, hW2⟩ : ∃ W2, W.alloc (.cells #[.int .i64 kind, .int .i64 client, .int .i64 life, .int .i64 seq2, .complex .f64 re2 im2, .int .i64 vers2, .int .i64 err2, .int .i64 op2.kind, .int .i64 op2.dir, .string op2.nm, .int .i64 op2.dst, .string op2.new, .int .i64 op2.mode, .string op2.tg, .slice ae2 es2.length ce2, .slice ak2 ks2.length ck2] 51) = W2 := ⟨_, rfl⟩
  have hb := boxB hW
  have hb2 := boxB hW2
  have HB : Hid (W2.heap[w.heap.size]? = some (.cells #[.int .i64 kind, .int .i64 client, .int .i64 life, .int .i64 seq, .complex .f64 re im, .int .i64 vers, .int .i64 err, .int .i64 op.kind, .int .i64 op.dir, .string op.nm, .int .i64 op.dst, .string op.new, .int .i64 op.mode, .string op.tg, .slice ae es.length ce, .slice ak ks.length ck] 51 (0, 0)) ∧ W2.heap[W.heap.size]? = some (.cells #[.int .i64 kind, .int .i64 client, .int .i64 life, .int .i64 seq2, .complex .f64 re2 im2, .int .i64 vers2, .int .i64 err2, .int .i64 op2.kind, .int .i64 op2.dir, .string op2.nm, .int .i64 op2.dst, .string op2.new, .int .i64 op2.mode, .string op2.tg, .slice ae2 es2.length ce2, .slice ak2 ks2.length ck2] 51 (0, 0)) ∧ Below w.heap.size w W2) := ⟨hkeep hb.1 hb2.2, hb2.1, chainB hb.2 hb2.2⟩
  have x0 := cell_of HB.out.1 0
  have y0 := cell_of HB.out.2.1 0
  have x1 := cell_of HB.out.1 1
  have y1 := cell_of HB.out.2.1 1
  have x2 := cell_of HB.out.1 2
  have y2 := cell_of HB.out.2.1 2
  have x3 := cell_of HB.out.1 3
  have y3 := cell_of HB.out.2.1 3
  simp at x0 y0 x1 y1 x2 y2 x3 y3
  have hbq : (seq == seq2) = false := by simpa using hne
  clear hne
  clear he he2 hk hk2 hb hb2
  go_enter Try.func21, Try.ntmps21
  go_upto_region 1 with fail
  clear hW hW2
  go_wp2
  go_ret
  exact ⟨rfl, HB.out.2.2⟩
set_option maxRecDepth 20000 in
set_option maxHeartbeats 16000000 in
theorem sameMsg_no_ep (kind client life seq vers err : Int) (vers2 err2 : Int) (re im re2 im2 : Nat) (op op2 : Opn) (ve vk ve2 vk2 : Value) (es es2 : List En) (ks ks2 : List Ky) (w : World) (c : Ordering) (h1 : FloatKind.f64.format.order re re2 = some c) (hc : c ≠ .eq) (he : Row7 w 0 ve es) (he2 : Row7 w 0 ve2 es2) (hk : RowK w 0 vk ks) (hk2 : RowK w 0 vk2 ks2) :
    Calls Try.prog 21 #[.agg (Ms.arr ⟨kind, client, life, seq, re, im, vers, err, op, ve, vk, es, ks⟩), .agg (Ms.arr ⟨kind, client, life, seq, re2, im2, vers2, err2, op2, ve2, vk2, es2, ks2⟩)] w fun e w' => e = .returned (.bool false) ∧ Below w.heap.size w w' := by
  obtain ⟨ae, ce, rfl⟩ := owns_len he
  obtain ⟨ae2, ce2, rfl⟩ := owns_len he2
  obtain ⟨ak, ck, rfl⟩ := owns_len hk
  obtain ⟨ak2, ck2, rfl⟩ := owns_len hk2
  unfold Ms.arr
  simp only []
  obtain ⟨W, hW⟩ : ∃ W, w.alloc (.cells #[.int .i64 kind, .int .i64 client, .int .i64 life, .int .i64 seq, .complex .f64 re im, .int .i64 vers, .int .i64 err, .int .i64 op.kind, .int .i64 op.dir, .string op.nm, .int .i64 op.dst, .string op.new, .int .i64 op.mode, .string op.tg, .slice ae es.length ce, .slice ak ks.length ck] 51) = W := ⟨_, rfl⟩
  obtain ⟨W2, hW2⟩ : ∃ W2, W.alloc (.cells #[.int .i64 kind, .int .i64 client, .int .i64 life, .int .i64 seq, .complex .f64 re2 im2, .int .i64 vers2, .int .i64 err2, .int .i64 op2.kind, .int .i64 op2.dir, .string op2.nm, .int .i64 op2.dst, .string op2.new, .int .i64 op2.mode, .string op2.tg, .slice ae2 es2.length ce2, .slice ak2 ks2.length ck2] 51) = W2 := ⟨_, rfl⟩
  have hb := boxB hW
  have hb2 := boxB hW2
  have HB : Hid (W2.heap[w.heap.size]? = some (.cells #[.int .i64 kind, .int .i64 client, .int .i64 life, .int .i64 seq, .complex .f64 re im, .int .i64 vers, .int .i64 err, .int .i64 op.kind, .int .i64 op.dir, .string op.nm, .int .i64 op.dst, .string op.new, .int .i64 op.mode, .string op.tg, .slice ae es.length ce, .slice ak ks.length ck] 51 (0, 0)) ∧ W2.heap[W.heap.size]? = some (.cells #[.int .i64 kind, .int .i64 client, .int .i64 life, .int .i64 seq, .complex .f64 re2 im2, .int .i64 vers2, .int .i64 err2, .int .i64 op2.kind, .int .i64 op2.dir, .string op2.nm, .int .i64 op2.dst, .string op2.new, .int .i64 op2.mode, .string op2.tg, .slice ae2 es2.length ce2, .slice ak2 ks2.length ck2] 51 (0, 0)) ∧ Below w.heap.size w W2) := ⟨hkeep hb.1 hb2.2, hb2.1, chainB hb.2 hb2.2⟩
  have x0 := cell_of HB.out.1 0
  have y0 := cell_of HB.out.2.1 0
  have x1 := cell_of HB.out.1 1
  have y1 := cell_of HB.out.2.1 1
  have x2 := cell_of HB.out.1 2
  have y2 := cell_of HB.out.2.1 2
  have x3 := cell_of HB.out.1 3
  have y3 := cell_of HB.out.2.1 3
  have x4 := cell_of HB.out.1 4
  have y4 := cell_of HB.out.2.1 4
  simp at x0 y0 x1 y1 x2 y2 x3 y3 x4 y4
  clear he he2 hk hk2 hb hb2
  cases c with
  | eq => exact absurd rfl hc
  | lt =>
    clear hc
    go_enter Try.func21, Try.ntmps21
    go_upto_region 1 with fail
    clear hW hW2
    go_wp2
    go_ret
    exact ⟨rfl, HB.out.2.2⟩
  | gt =>
    clear hc
    go_enter Try.func21, Try.ntmps21
    go_upto_region 1 with fail
    clear hW hW2
    go_wp2
    go_ret
    exact ⟨rfl, HB.out.2.2⟩
set_option maxRecDepth 20000 in
set_option maxHeartbeats 16000000 in
theorem sameMsg_no_nb (kind client life seq vers err : Int) (vers2 err2 : Int) (re im re2 im2 : Nat) (op op2 : Opn) (ve vk ve2 vk2 : Value) (es es2 : List En) (ks ks2 : List Ky) (w : World) (h1 : FloatKind.f64.format.order re re2 = some .eq) (c : Ordering) (h2 : FloatKind.f64.format.order im im2 = some c) (hc : c ≠ .eq) (he : Row7 w 0 ve es) (he2 : Row7 w 0 ve2 es2) (hk : RowK w 0 vk ks) (hk2 : RowK w 0 vk2 ks2) :
    Calls Try.prog 21 #[.agg (Ms.arr ⟨kind, client, life, seq, re, im, vers, err, op, ve, vk, es, ks⟩), .agg (Ms.arr ⟨kind, client, life, seq, re2, im2, vers2, err2, op2, ve2, vk2, es2, ks2⟩)] w fun e w' => e = .returned (.bool false) ∧ Below w.heap.size w w' := by
  obtain ⟨ae, ce, rfl⟩ := owns_len he
  obtain ⟨ae2, ce2, rfl⟩ := owns_len he2
  obtain ⟨ak, ck, rfl⟩ := owns_len hk
  obtain ⟨ak2, ck2, rfl⟩ := owns_len hk2
  unfold Ms.arr
  simp only []
  obtain ⟨W, hW⟩ : ∃ W, w.alloc (.cells #[.int .i64 kind, .int .i64 client, .int .i64 life, .int .i64 seq, .complex .f64 re im, .int .i64 vers, .int .i64 err, .int .i64 op.kind, .int .i64 op.dir, .string op.nm, .int .i64 op.dst, .string op.new, .int .i64 op.mode, .string op.tg, .slice ae es.length ce, .slice ak ks.length ck] 51) = W := ⟨_, rfl⟩
  obtain ⟨W2, hW2⟩ : ∃ W2, W.alloc (.cells #[.int .i64 kind, .int .i64 client, .int .i64 life, .int .i64 seq, .complex .f64 re2 im2, .int .i64 vers2, .int .i64 err2, .int .i64 op2.kind, .int .i64 op2.dir, .string op2.nm, .int .i64 op2.dst, .string op2.new, .int .i64 op2.mode, .string op2.tg, .slice ae2 es2.length ce2, .slice ak2 ks2.length ck2] 51) = W2 := ⟨_, rfl⟩
  have hb := boxB hW
  have hb2 := boxB hW2
  have HB : Hid (W2.heap[w.heap.size]? = some (.cells #[.int .i64 kind, .int .i64 client, .int .i64 life, .int .i64 seq, .complex .f64 re im, .int .i64 vers, .int .i64 err, .int .i64 op.kind, .int .i64 op.dir, .string op.nm, .int .i64 op.dst, .string op.new, .int .i64 op.mode, .string op.tg, .slice ae es.length ce, .slice ak ks.length ck] 51 (0, 0)) ∧ W2.heap[W.heap.size]? = some (.cells #[.int .i64 kind, .int .i64 client, .int .i64 life, .int .i64 seq, .complex .f64 re2 im2, .int .i64 vers2, .int .i64 err2, .int .i64 op2.kind, .int .i64 op2.dir, .string op2.nm, .int .i64 op2.dst, .string op2.new, .int .i64 op2.mode, .string op2.tg, .slice ae2 es2.length ce2, .slice ak2 ks2.length ck2] 51 (0, 0)) ∧ Below w.heap.size w W2) := ⟨hkeep hb.1 hb2.2, hb2.1, chainB hb.2 hb2.2⟩
  have x0 := cell_of HB.out.1 0
  have y0 := cell_of HB.out.2.1 0
  have x1 := cell_of HB.out.1 1
  have y1 := cell_of HB.out.2.1 1
  have x2 := cell_of HB.out.1 2
  have y2 := cell_of HB.out.2.1 2
  have x3 := cell_of HB.out.1 3
  have y3 := cell_of HB.out.2.1 3
  have x4 := cell_of HB.out.1 4
  have y4 := cell_of HB.out.2.1 4
  simp at x0 y0 x1 y1 x2 y2 x3 y3 x4 y4
  clear he he2 hk hk2 hb hb2
  cases c with
  | eq => exact absurd rfl hc
  | lt =>
    clear hc
    go_enter Try.func21, Try.ntmps21
    go_upto_region 1 with fail
    clear hW hW2
    go_wp2
    go_ret
    exact ⟨rfl, HB.out.2.2⟩
  | gt =>
    clear hc
    go_enter Try.func21, Try.ntmps21
    go_upto_region 1 with fail
    clear hW hW2
    go_wp2
    go_ret
    exact ⟨rfl, HB.out.2.2⟩
end
section
open Go.RowKit Go.Lib
attribute [local go_sem high] eqO neqO guardO

set_option maxRecDepth 20000 in
set_option maxHeartbeats 16000000 in
theorem sameMsg_no_vers (kind client life seq vers err : Int) (vers2 err2 : Int) (re im re2 im2 : Nat) (op op2 : Opn) (ve vk ve2 vk2 : Value) (es es2 : List En) (ks ks2 : List Ky) (w : World) (hne : ¬ vers = vers2) (h1 : FloatKind.f64.format.order re re2 = some .eq) (h2 : FloatKind.f64.format.order im im2 = some .eq) (he : Row7 w 0 ve es) (he2 : Row7 w 0 ve2 es2) (hk : RowK w 0 vk ks) (hk2 : RowK w 0 vk2 ks2) :
    Calls Try.prog 21 #[.agg (Ms.arr ⟨kind, client, life, seq, re, im, vers, err, op, ve, vk, es, ks⟩), .agg (Ms.arr ⟨kind, client, life, seq, re2, im2, vers2, err2, op2, ve2, vk2, es2, ks2⟩)] w fun e w' => e = .returned (.bool false) ∧ Below w.heap.size w w' := by
  obtain ⟨ae, ce, rfl⟩ := owns_len he
  obtain ⟨ae2, ce2, rfl⟩ := owns_len he2
  obtain ⟨ak, ck, rfl⟩ := owns_len hk
  obtain ⟨ak2, ck2, rfl⟩ := owns_len hk2
  unfold Ms.arr
  simp only []
  obtain ⟨W, hW⟩ : ∃ W, w.alloc (.cells #[.int .i64 kind, .int .i64 client, .int .i64 life, .int .i64 seq, .complex .f64 re im, .int .i64 vers, .int .i64 err, .int .i64 op.kind, .int .i64 op.dir, .string op.nm, .int .i64 op.dst, .string op.new, .int .i64 op.mode, .string op.tg, .slice ae es.length ce, .slice ak ks.length ck] 51) = W := ⟨_, rfl⟩
  obtain ⟨W2, hW2⟩ : ∃ W2, W.alloc (.cells #[.int .i64 kind, .int .i64 client, .int .i64 life, .int .i64 seq, .complex .f64 re2 im2, .int .i64 vers2, .int .i64 err2, .int .i64 op2.kind, .int .i64 op2.dir, .string op2.nm, .int .i64 op2.dst, .string op2.new, .int .i64 op2.mode, .string op2.tg, .slice ae2 es2.length ce2, .slice ak2 ks2.length ck2] 51) = W2 := ⟨_, rfl⟩
  have hb := boxB hW
  have hb2 := boxB hW2
  have HB : Hid (W2.heap[w.heap.size]? = some (.cells #[.int .i64 kind, .int .i64 client, .int .i64 life, .int .i64 seq, .complex .f64 re im, .int .i64 vers, .int .i64 err, .int .i64 op.kind, .int .i64 op.dir, .string op.nm, .int .i64 op.dst, .string op.new, .int .i64 op.mode, .string op.tg, .slice ae es.length ce, .slice ak ks.length ck] 51 (0, 0)) ∧ W2.heap[W.heap.size]? = some (.cells #[.int .i64 kind, .int .i64 client, .int .i64 life, .int .i64 seq, .complex .f64 re2 im2, .int .i64 vers2, .int .i64 err2, .int .i64 op2.kind, .int .i64 op2.dir, .string op2.nm, .int .i64 op2.dst, .string op2.new, .int .i64 op2.mode, .string op2.tg, .slice ae2 es2.length ce2, .slice ak2 ks2.length ck2] 51 (0, 0)) ∧ Below w.heap.size w W2) := ⟨hkeep hb.1 hb2.2, hb2.1, chainB hb.2 hb2.2⟩
  have x0 := cell_of HB.out.1 0
  have y0 := cell_of HB.out.2.1 0
  have x1 := cell_of HB.out.1 1
  have y1 := cell_of HB.out.2.1 1
  have x2 := cell_of HB.out.1 2
  have y2 := cell_of HB.out.2.1 2
  have x3 := cell_of HB.out.1 3
  have y3 := cell_of HB.out.2.1 3
  have x4 := cell_of HB.out.1 4
  have y4 := cell_of HB.out.2.1 4
  have x5 := cell_of HB.out.1 5
  have y5 := cell_of HB.out.2.1 5
  simp at x0 y0 x1 y1 x2 y2 x3 y3 x4 y4 x5 y5
  have hbq : (vers == vers2) = false := by simpa using hne
  clear hne
  clear he he2 hk hk2 hb hb2
  go_enter Try.func21, Try.ntmps21
  go_upto_region 1 with fail
  clear hW hW2
  go_wp2
  go_ret
  exact ⟨rfl, HB.out.2.2⟩
set_option maxRecDepth 20000 in
set_option maxHeartbeats 16000000 in
theorem sameMsg_no_err (kind client life seq vers err : Int) (err2 : Int) (re im re2 im2 : Nat) (op op2 : Opn) (ve vk ve2 vk2 : Value) (es es2 : List En) (ks ks2 : List Ky) (w : World) (hne : ¬ err = err2) (h1 : FloatKind.f64.format.order re re2 = some .eq) (h2 : FloatKind.f64.format.order im im2 = some .eq) (he : Row7 w 0 ve es) (he2 : Row7 w 0 ve2 es2) (hk : RowK w 0 vk ks) (hk2 : RowK w 0 vk2 ks2) :
    Calls Try.prog 21 #[.agg (Ms.arr ⟨kind, client, life, seq, re, im, vers, err, op, ve, vk, es, ks⟩), .agg (Ms.arr ⟨kind, client, life, seq, re2, im2, vers, err2, op2, ve2, vk2, es2, ks2⟩)] w fun e w' => e = .returned (.bool false) ∧ Below w.heap.size w w' := by
  obtain ⟨ae, ce, rfl⟩ := owns_len he
  obtain ⟨ae2, ce2, rfl⟩ := owns_len he2
  obtain ⟨ak, ck, rfl⟩ := owns_len hk
  obtain ⟨ak2, ck2, rfl⟩ := owns_len hk2
  unfold Ms.arr
  simp only []
  obtain ⟨W, hW⟩ : ∃ W, w.alloc (.cells #[.int .i64 kind, .int .i64 client, .int .i64 life, .int .i64 seq, .complex .f64 re im, .int .i64 vers, .int .i64 err, .int .i64 op.kind, .int .i64 op.dir, .string op.nm, .int .i64 op.dst, .string op.new, .int .i64 op.mode, .string op.tg, .slice ae es.length ce, .slice ak ks.length ck] 51) = W := ⟨_, rfl⟩
  obtain ⟨W2, hW2⟩ : ∃ W2, W.alloc (.cells #[.int .i64 kind, .int .i64 client, .int .i64 life, .int .i64 seq, .complex .f64 re2 im2, .int .i64 vers, .int .i64 err2, .int .i64 op2.kind, .int .i64 op2.dir, .string op2.nm, .int .i64 op2.dst, .string op2.new, .int .i64 op2.mode, .string op2.tg, .slice ae2 es2.length ce2, .slice ak2 ks2.length ck2] 51) = W2 := ⟨_, rfl⟩
  have hb := boxB hW
  have hb2 := boxB hW2
  have HB : Hid (W2.heap[w.heap.size]? = some (.cells #[.int .i64 kind, .int .i64 client, .int .i64 life, .int .i64 seq, .complex .f64 re im, .int .i64 vers, .int .i64 err, .int .i64 op.kind, .int .i64 op.dir, .string op.nm, .int .i64 op.dst, .string op.new, .int .i64 op.mode, .string op.tg, .slice ae es.length ce, .slice ak ks.length ck] 51 (0, 0)) ∧ W2.heap[W.heap.size]? = some (.cells #[.int .i64 kind, .int .i64 client, .int .i64 life, .int .i64 seq, .complex .f64 re2 im2, .int .i64 vers, .int .i64 err2, .int .i64 op2.kind, .int .i64 op2.dir, .string op2.nm, .int .i64 op2.dst, .string op2.new, .int .i64 op2.mode, .string op2.tg, .slice ae2 es2.length ce2, .slice ak2 ks2.length ck2] 51 (0, 0)) ∧ Below w.heap.size w W2) := ⟨hkeep hb.1 hb2.2, hb2.1, chainB hb.2 hb2.2⟩
  have x0 := cell_of HB.out.1 0
  have y0 := cell_of HB.out.2.1 0
  have x1 := cell_of HB.out.1 1
  have y1 := cell_of HB.out.2.1 1
  have x2 := cell_of HB.out.1 2
  have y2 := cell_of HB.out.2.1 2
  have x3 := cell_of HB.out.1 3
  have y3 := cell_of HB.out.2.1 3
  have x4 := cell_of HB.out.1 4
  have y4 := cell_of HB.out.2.1 4
  have x5 := cell_of HB.out.1 5
  have y5 := cell_of HB.out.2.1 5
  have x6 := cell_of HB.out.1 6
  have y6 := cell_of HB.out.2.1 6
  simp at x0 y0 x1 y1 x2 y2 x3 y3 x4 y4 x5 y5 x6 y6
  have hbq : (err == err2) = false := by simpa using hne
  clear hne
  clear he he2 hk hk2 hb hb2
  go_enter Try.func21, Try.ntmps21
  go_upto_region 1 with fail
  clear hW hW2
  go_wp2
  go_ret
  exact ⟨rfl, HB.out.2.2⟩
set_option maxRecDepth 20000 in
set_option maxHeartbeats 16000000 in
theorem sameMsg_no_op (kind client life seq vers err : Int) (re im re2 im2 : Nat) (op op2 : Opn) (ve vk ve2 vk2 : Value) (es es2 : List En) (ks ks2 : List Ky) (w : World) (h1 : FloatKind.f64.format.order re re2 = some .eq) (h2 : FloatKind.f64.format.order im im2 = some .eq) (hne : ¬ op = op2) (he : Row7 w 0 ve es) (he2 : Row7 w 0 ve2 es2) (hk : RowK w 0 vk ks) (hk2 : RowK w 0 vk2 ks2) :
    Calls Try.prog 21 #[.agg (Ms.arr ⟨kind, client, life, seq, re, im, vers, err, op, ve, vk, es, ks⟩), .agg (Ms.arr ⟨kind, client, life, seq, re2, im2, vers, err, op2, ve2, vk2, es2, ks2⟩)] w fun e w' => e = .returned (.bool false) ∧ Below w.heap.size w w' := by
  obtain ⟨ae, ce, rfl⟩ := owns_len he
  obtain ⟨ae2, ce2, rfl⟩ := owns_len he2
  obtain ⟨ak, ck, rfl⟩ := owns_len hk
  obtain ⟨ak2, ck2, rfl⟩ := owns_len hk2
  unfold Ms.arr
  simp only []
  obtain ⟨W, hW⟩ : ∃ W, w.alloc (.cells #[.int .i64 kind, .int .i64 client, .int .i64 life, .int .i64 seq, .complex .f64 re im, .int .i64 vers, .int .i64 err, .int .i64 op.kind, .int .i64 op.dir, .string op.nm, .int .i64 op.dst, .string op.new, .int .i64 op.mode, .string op.tg, .slice ae es.length ce, .slice ak ks.length ck] 51) = W := ⟨_, rfl⟩
  obtain ⟨W2, hW2⟩ : ∃ W2, W.alloc (.cells #[.int .i64 kind, .int .i64 client, .int .i64 life, .int .i64 seq, .complex .f64 re2 im2, .int .i64 vers, .int .i64 err, .int .i64 op2.kind, .int .i64 op2.dir, .string op2.nm, .int .i64 op2.dst, .string op2.new, .int .i64 op2.mode, .string op2.tg, .slice ae2 es2.length ce2, .slice ak2 ks2.length ck2] 51) = W2 := ⟨_, rfl⟩
  have hb := boxB hW
  have hb2 := boxB hW2
  have HB : Hid (W2.heap[w.heap.size]? = some (.cells #[.int .i64 kind, .int .i64 client, .int .i64 life, .int .i64 seq, .complex .f64 re im, .int .i64 vers, .int .i64 err, .int .i64 op.kind, .int .i64 op.dir, .string op.nm, .int .i64 op.dst, .string op.new, .int .i64 op.mode, .string op.tg, .slice ae es.length ce, .slice ak ks.length ck] 51 (0, 0)) ∧ W2.heap[W.heap.size]? = some (.cells #[.int .i64 kind, .int .i64 client, .int .i64 life, .int .i64 seq, .complex .f64 re2 im2, .int .i64 vers, .int .i64 err, .int .i64 op2.kind, .int .i64 op2.dir, .string op2.nm, .int .i64 op2.dst, .string op2.new, .int .i64 op2.mode, .string op2.tg, .slice ae2 es2.length ce2, .slice ak2 ks2.length ck2] 51 (0, 0)) ∧ Below w.heap.size w W2) := ⟨hkeep hb.1 hb2.2, hb2.1, chainB hb.2 hb2.2⟩
  have x0 := cell_of HB.out.1 0
  have y0 := cell_of HB.out.2.1 0
  have x1 := cell_of HB.out.1 1
  have y1 := cell_of HB.out.2.1 1
  have x2 := cell_of HB.out.1 2
  have y2 := cell_of HB.out.2.1 2
  have x3 := cell_of HB.out.1 3
  have y3 := cell_of HB.out.2.1 3
  have x4 := cell_of HB.out.1 4
  have y4 := cell_of HB.out.2.1 4
  have x5 := cell_of HB.out.1 5
  have y5 := cell_of HB.out.2.1 5
  have x6 := cell_of HB.out.1 6
  have y6 := cell_of HB.out.2.1 6
  have x7 := cell_of HB.out.1 7
  have y7 := cell_of HB.out.2.1 7
  have x8 := cell_of HB.out.1 8
  have y8 := cell_of HB.out.2.1 8
  have x9 := cell_of HB.out.1 9
  have y9 := cell_of HB.out.2.1 9
  have x10 := cell_of HB.out.1 10
  have y10 := cell_of HB.out.2.1 10
  have x11 := cell_of HB.out.1 11
  have y11 := cell_of HB.out.2.1 11
  have x12 := cell_of HB.out.1 12
  have y12 := cell_of HB.out.2.1 12
  have x13 := cell_of HB.out.1 13
  have y13 := cell_of HB.out.2.1 13
  simp at x0 y0 x1 y1 x2 y2 x3 y3 x4 y4 x5 y5 x6 y6 x7 y7 x8 y8 x9 y9 x10 y10 x11 y11 x12 y12 x13 y13
  have heO : eqOp ⟨op.kind, op.dir, op.nm, op.dst, op.new, op.mode, op.tg⟩ ⟨op2.kind, op2.dir, op2.nm, op2.dst, op2.new, op2.mode, op2.tg⟩ = false := by
    cases hq : eqOp op op2 with
    | false => rfl
    | true => exact absurd ((eqOp_iff _ _).1 hq) hne
  clear hne
  clear he he2 hk hk2 hb hb2
  go_enter Try.func21, Try.ntmps21
  go_upto_region 1 with fail
  clear hW hW2
  go_wp2
  go_ret
  exact ⟨rfl, HB.out.2.2⟩
set_option maxRecDepth 20000 in
set_option maxHeartbeats 16000000 in
theorem sameMsg_no_es (kind client life seq vers err : Int) (re im re2 im2 : Nat) (op : Opn) (ve vk ve2 vk2 : Value) (es es2 : List En) (ks ks2 : List Ky) (w : World) (h1 : FloatKind.f64.format.order re re2 = some .eq) (h2 : FloatKind.f64.format.order im im2 = some .eq) (hne : ¬ es = es2) (he : Row7 w 0 ve es) (he2 : Row7 w 0 ve2 es2) (hk : RowK w 0 vk ks) (hk2 : RowK w 0 vk2 ks2) (hle : es.length ≤ 1000000000) (hle2 : es2.length ≤ 1000000000) :
    Calls Try.prog 21 #[.agg (Ms.arr ⟨kind, client, life, seq, re, im, vers, err, op, ve, vk, es, ks⟩), .agg (Ms.arr ⟨kind, client, life, seq, re2, im2, vers, err, op, ve2, vk2, es2, ks2⟩)] w fun e w' => e = .returned (.bool false) ∧ Below w.heap.size w w' := by
  obtain ⟨ae, ce, rfl⟩ := owns_len he
  obtain ⟨ae2, ce2, rfl⟩ := owns_len he2
  obtain ⟨ak, ck, rfl⟩ := owns_len hk
  obtain ⟨ak2, ck2, rfl⟩ := owns_len hk2
  unfold Ms.arr
  simp only []
  obtain ⟨W, hW⟩ : ∃ W, w.alloc (.cells #[.int .i64 kind, .int .i64 client, .int .i64 life, .int .i64 seq, .complex .f64 re im, .int .i64 vers, .int .i64 err, .int .i64 op.kind, .int .i64 op.dir, .string op.nm, .int .i64 op.dst, .string op.new, .int .i64 op.mode, .string op.tg, .slice ae es.length ce, .slice ak ks.length ck] 51) = W := ⟨_, rfl⟩
  obtain ⟨W2, hW2⟩ : ∃ W2, W.alloc (.cells #[.int .i64 kind, .int .i64 client, .int .i64 life, .int .i64 seq, .complex .f64 re2 im2, .int .i64 vers, .int .i64 err, .int .i64 op.kind, .int .i64 op.dir, .string op.nm, .int .i64 op.dst, .string op.new, .int .i64 op.mode, .string op.tg, .slice ae2 es2.length ce2, .slice ak2 ks2.length ck2] 51) = W2 := ⟨_, rfl⟩
  have hb := boxB hW
  have hb2 := boxB hW2
  have HB : Hid (W2.heap[w.heap.size]? = some (.cells #[.int .i64 kind, .int .i64 client, .int .i64 life, .int .i64 seq, .complex .f64 re im, .int .i64 vers, .int .i64 err, .int .i64 op.kind, .int .i64 op.dir, .string op.nm, .int .i64 op.dst, .string op.new, .int .i64 op.mode, .string op.tg, .slice ae es.length ce, .slice ak ks.length ck] 51 (0, 0)) ∧ W2.heap[W.heap.size]? = some (.cells #[.int .i64 kind, .int .i64 client, .int .i64 life, .int .i64 seq, .complex .f64 re2 im2, .int .i64 vers, .int .i64 err, .int .i64 op.kind, .int .i64 op.dir, .string op.nm, .int .i64 op.dst, .string op.new, .int .i64 op.mode, .string op.tg, .slice ae2 es2.length ce2, .slice ak2 ks2.length ck2] 51 (0, 0)) ∧ Below w.heap.size w W2) := ⟨hkeep hb.1 hb2.2, hb2.1, chainB hb.2 hb2.2⟩
  have x0 := cell_of HB.out.1 0
  have y0 := cell_of HB.out.2.1 0
  have x1 := cell_of HB.out.1 1
  have y1 := cell_of HB.out.2.1 1
  have x2 := cell_of HB.out.1 2
  have y2 := cell_of HB.out.2.1 2
  have x3 := cell_of HB.out.1 3
  have y3 := cell_of HB.out.2.1 3
  have x4 := cell_of HB.out.1 4
  have y4 := cell_of HB.out.2.1 4
  have x5 := cell_of HB.out.1 5
  have y5 := cell_of HB.out.2.1 5
  have x6 := cell_of HB.out.1 6
  have y6 := cell_of HB.out.2.1 6
  have x7 := cell_of HB.out.1 7
  have y7 := cell_of HB.out.2.1 7
  have x8 := cell_of HB.out.1 8
  have y8 := cell_of HB.out.2.1 8
  have x9 := cell_of HB.out.1 9
  have y9 := cell_of HB.out.2.1 9
  have x10 := cell_of HB.out.1 10
  have y10 := cell_of HB.out.2.1 10
  have x11 := cell_of HB.out.1 11
  have y11 := cell_of HB.out.2.1 11
  have x12 := cell_of HB.out.1 12
  have y12 := cell_of HB.out.2.1 12
  have x13 := cell_of HB.out.1 13
  have y13 := cell_of HB.out.2.1 13
  have x14 := cell_of HB.out.1 14
  have y14 := cell_of HB.out.2.1 14
  simp at x0 y0 x1 y1 x2 y2 x3 y3 x4 y4 x5 y5 x6 y6 x7 y7 x8 y8 x9 y9 x10 y10 x11 y11 x12 y12 x13 y13 x14 y14
  have heO : eqOp ⟨op.kind, op.dir, op.nm, op.dst, op.new, op.mode, op.tg⟩ ⟨op.kind, op.dir, op.nm, op.dst, op.new, op.mode, op.tg⟩ = true := (eqOp_iff _ _).2 rfl
  have HSe : Hid (∀ W3, Below W2.heap.size W2 W3 → Calls Try.prog 62 #[.slice ae es.length ce, .slice ae2 es2.length ce2] W3 fun e w' => e = .returned (.bool false) ∧ Below W3.heap.size W3 w') := fun W3 h3 => by
    have := sameE_any _ _ es es2 0 0 W3 (he.below (chainB HB.out.2.2 h3)) (he2.below (chainB HB.out.2.2 h3)) hle hle2
    cases hq : sameEs es es2 with
    | true => exact absurd ((sameEs_iff _ _).1 hq) hne
    | false => rw [hq] at this; exact this
  clear hne hle hle2
  clear he he2 hk hk2 hb hb2
  go_enter Try.func21, Try.ntmps21
  go_upto_region 1 with fail
  clear hW hW2
  go_wp2_with (go_at_call 62; refine (HSe.out _ (Below.refl _ _)).mono ?_; rintro e w1 ⟨rfl, hb1⟩)
  go_ret
  exact ⟨rfl, chainB HB.out.2.2 hb1⟩
set_option maxRecDepth 20000 in
set_option maxHeartbeats 16000000 in
theorem sameMsg_no_ks (kind client life seq vers err : Int) (re im re2 im2 : Nat) (op : Opn) (ve vk ve2 vk2 : Value) (es : List En) (ks ks2 : List Ky) (w : World) (h1 : FloatKind.f64.format.order re re2 = some .eq) (h2 : FloatKind.f64.format.order im im2 = some .eq) (hne : ¬ ks = ks2) (he : Row7 w 0 ve es) (he2 : Row7 w 0 ve2 es) (hk : RowK w 0 vk ks) (hk2 : RowK w 0 vk2 ks2) (hle : es.length ≤ 1000000000) (hlk : ks.length ≤ 1000000000) (hlk2 : ks2.length ≤ 1000000000) :
    Calls Try.prog 21 #[.agg (Ms.arr ⟨kind, client, life, seq, re, im, vers, err, op, ve, vk, es, ks⟩), .agg (Ms.arr ⟨kind, client, life, seq, re2, im2, vers, err, op, ve2, vk2, es, ks2⟩)] w fun e w' => e = .returned (.bool false) ∧ Below w.heap.size w w' := by
  obtain ⟨ae, ce, rfl⟩ := owns_len he
  obtain ⟨ae2, ce2, rfl⟩ := owns_len he2
  obtain ⟨ak, ck, rfl⟩ := owns_len hk
  obtain ⟨ak2, ck2, rfl⟩ := owns_len hk2
  unfold Ms.arr
  simp only []
  obtain ⟨W, hW⟩ : ∃ W, w.alloc (.cells #[.int .i64 kind, .int .i64 client, .int .i64 life, .int .i64 seq, .complex .f64 re im, .int .i64 vers, .int .i64 err, .int .i64 op.kind, .int .i64 op.dir, .string op.nm, .int .i64 op.dst, .string op.new, .int .i64 op.mode, .string op.tg, .slice ae es.length ce, .slice ak ks.length ck] 51) = W := ⟨_, rfl⟩
  obtain ⟨W2, hW2⟩ : ∃ W2, W.alloc (.cells #[.int .i64 kind, .int .i64 client, .int .i64 life, .int .i64 seq, .complex .f64 re2 im2, .int .i64 vers, .int .i64 err, .int .i64 op.kind, .int .i64 op.dir, .string op.nm, .int .i64 op.dst, .string op.new, .int .i64 op.mode, .string op.tg, .slice ae2 es.length ce2, .slice ak2 ks2.length ck2] 51) = W2 := ⟨_, rfl⟩
  have hb := boxB hW
  have hb2 := boxB hW2
  have HB : Hid (W2.heap[w.heap.size]? = some (.cells #[.int .i64 kind, .int .i64 client, .int .i64 life, .int .i64 seq, .complex .f64 re im, .int .i64 vers, .int .i64 err, .int .i64 op.kind, .int .i64 op.dir, .string op.nm, .int .i64 op.dst, .string op.new, .int .i64 op.mode, .string op.tg, .slice ae es.length ce, .slice ak ks.length ck] 51 (0, 0)) ∧ W2.heap[W.heap.size]? = some (.cells #[.int .i64 kind, .int .i64 client, .int .i64 life, .int .i64 seq, .complex .f64 re2 im2, .int .i64 vers, .int .i64 err, .int .i64 op.kind, .int .i64 op.dir, .string op.nm, .int .i64 op.dst, .string op.new, .int .i64 op.mode, .string op.tg, .slice ae2 es.length ce2, .slice ak2 ks2.length ck2] 51 (0, 0)) ∧ Below w.heap.size w W2) := ⟨hkeep hb.1 hb2.2, hb2.1, chainB hb.2 hb2.2⟩
  have x0 := cell_of HB.out.1 0
  have y0 := cell_of HB.out.2.1 0
  have x1 := cell_of HB.out.1 1
  have y1 := cell_of HB.out.2.1 1
  have x2 := cell_of HB.out.1 2
  have y2 := cell_of HB.out.2.1 2
  have x3 := cell_of HB.out.1 3
  have y3 := cell_of HB.out.2.1 3
  have x4 := cell_of HB.out.1 4
  have y4 := cell_of HB.out.2.1 4
  have x5 := cell_of HB.out.1 5
  have y5 := cell_of HB.out.2.1 5
  have x6 := cell_of HB.out.1 6
  have y6 := cell_of HB.out.2.1 6
  have x7 := cell_of HB.out.1 7
  have y7 := cell_of HB.out.2.1 7
  have x8 := cell_of HB.out.1 8
  have y8 := cell_of HB.out.2.1 8
  have x9 := cell_of HB.out.1 9
  have y9 := cell_of HB.out.2.1 9
  have x10 := cell_of HB.out.1 10
  have y10 := cell_of HB.out.2.1 10
  have x11 := cell_of HB.out.1 11
  have y11 := cell_of HB.out.2.1 11
  have x12 := cell_of HB.out.1 12
  have y12 := cell_of HB.out.2.1 12
  have x13 := cell_of HB.out.1 13
  have y13 := cell_of HB.out.2.1 13
  have x14 := cell_of HB.out.1 14
  have y14 := cell_of HB.out.2.1 14
  have x15 := cell_of HB.out.1 15
  have y15 := cell_of HB.out.2.1 15
  simp at x0 y0 x1 y1 x2 y2 x3 y3 x4 y4 x5 y5 x6 y6 x7 y7 x8 y8 x9 y9 x10 y10 x11 y11 x12 y12 x13 y13 x14 y14 x15 y15
  have heO : eqOp ⟨op.kind, op.dir, op.nm, op.dst, op.new, op.mode, op.tg⟩ ⟨op.kind, op.dir, op.nm, op.dst, op.new, op.mode, op.tg⟩ = true := (eqOp_iff _ _).2 rfl
  have HSe : Hid (∀ W3, Below W2.heap.size W2 W3 → Calls Try.prog 62 #[.slice ae es.length ce, .slice ae2 es.length ce2] W3 fun e w' => e = .returned (.bool true) ∧ Below W3.heap.size W3 w') := fun W3 h3 => by
    have := sameE_any _ _ es es 0 0 W3 (he.below (chainB HB.out.2.2 h3)) (he2.below (chainB HB.out.2.2 h3)) hle hle
    rw [(sameEs_iff es es).2 rfl] at this
    exact this
  have HSk : Hid (∀ W3, Below W2.heap.size W2 W3 → Calls Try.prog 63 #[.slice ak ks.length ck, .slice ak2 ks2.length ck2] W3 fun e w' => e = .returned (.bool false) ∧ Below W3.heap.size W3 w') := fun W3 h3 => by
    have := sameK_any _ _ ks ks2 0 0 W3 (hk.below (chainB HB.out.2.2 h3)) (hk2.below (chainB HB.out.2.2 h3)) hlk hlk2
    cases hq : sameKs ks ks2 with
    | true => exact absurd ((sameKs_iff _ _).1 hq) hne
    | false => rw [hq] at this; exact this
  clear hne hle hlk hlk2
  clear he he2 hk hk2 hb hb2
  go_enter Try.func21, Try.ntmps21
  go_upto_region 1 with fail
  clear hW hW2
  go_wp2_with (first
    | (go_at_call 62; refine (HSe.out _ (Below.refl _ _)).mono ?_; rintro e w1 ⟨rfl, hb1⟩; have p15 := cell_of (hkeep HB.out.1 hb1) 15; have q15 := cell_of (hkeep HB.out.2.1 hb1) 15; simp at p15 q15)
    | (go_at_call 63; refine (HSk.out _ hb1).mono ?_; rintro e w2 ⟨rfl, hb2⟩))
  go_ret
  exact ⟨rfl, chainB HB.out.2.2 (chainB hb1 hb2)⟩
end
section
open Go.RowKit Go.Lib

theorem sameMs_yes {m o : Mm} (hM : m.plain = true) (hO : o.plain = true) (hS : m.mg = o.mg) (ve vk ve2 vk2 : Value) (w : World) (h1 : Row7 w 0 ve m.es ∧ RowK w 0 vk m.ks) (h2 : Row7 w 0 ve2 o.es ∧ RowK w 0 vk2 o.ks) :
    Calls Try.prog 21 #[.agg (m.ms ve vk).arr, .agg (o.ms ve2 vk2).arr] w fun e w' => e = .returned (.bool true) ∧ Below w.heap.size w w' := by
  obtain ⟨gM, okM⟩ := (m.plain_iff).1 hM
  obtain ⟨gO, okO⟩ := (o.plain_iff).1 hO
  obtain ⟨_, _, _, _, m5, m6⟩ := good_parts gM
  obtain ⟨_, _, _, _, o5, o6⟩ := good_parts gO
  have or1 := order_whole m5 o5
  have or2 := order_whole m6 o6
  have fw := okM.few
  obtain ⟨kind, client, life, seq, ep, nb, vers, err, op, ve0, vk0, es, ks⟩ := m
  obtain ⟨kind2, client2, life2, seq2, ep2, nb2, vers2, err2, op2, ve02, vk02, es2, ks2⟩ := o
  have hS' : (⟨kind, client, life, seq, part (floatOfInt .f64 ep), part (floatOfInt .f64 nb), vers, err, op, es, ks⟩ : Mg) = ⟨kind2, client2, life2, seq2, part (floatOfInt .f64 ep2), part (floatOfInt .f64 nb2), vers2, err2, op2, es2, ks2⟩ := hS
  injection hS' with e1 e2 e3 e4 e5 e6 e7 e8 e9 e10 e11
  subst e1 e2 e3 e4 e7 e8 e9 e10 e11
  simp only [] at or1 or2 fw h1 h2
  rw [e5, Int.compare_eq_eq.2 rfl] at or1
  rw [e6, Int.compare_eq_eq.2 rfl] at or2
  have f1 : es.length ≤ 48 := fw.1
  have f2 : ks.length ≤ 48 := fw.2
  exact sameMsg_yes kind client life seq _ _ _ _ vers err op ve vk ve2 vk2 es ks w or1 or2 h1.1 h2.1 h1.2 h2.2 (by omega) (by omega)
theorem sameMs_no {m o : Mm} (hM : m.plain = true) (hO : o.plain = true) (hS : ¬ m.mg = o.mg) (ve vk ve2 vk2 : Value) (w : World) (h1 : Row7 w 0 ve m.es ∧ RowK w 0 vk m.ks) (h2 : Row7 w 0 ve2 o.es ∧ RowK w 0 vk2 o.ks) :
    Calls Try.prog 21 #[.agg (m.ms ve vk).arr, .agg (o.ms ve2 vk2).arr] w fun e w' => e = .returned (.bool false) ∧ Below w.heap.size w w' := by
  obtain ⟨gM, okM⟩ := (m.plain_iff).1 hM
  obtain ⟨gO, okO⟩ := (o.plain_iff).1 hO
  obtain ⟨_, _, _, _, m5, m6⟩ := good_parts gM
  obtain ⟨_, _, _, _, o5, o6⟩ := good_parts gO
  have or1 := order_whole m5 o5
  have or2 := order_whole m6 o6
  have fw := okM.few
  have fw2 := okO.few
  obtain ⟨kind, client, life, seq, ep, nb, vers, err, op, ve0, vk0, es, ks⟩ := m
  obtain ⟨kind2, client2, life2, seq2, ep2, nb2, vers2, err2, op2, ve02, vk02, es2, ks2⟩ := o
  have hS' : ¬ (⟨kind, client, life, seq, part (floatOfInt .f64 ep), part (floatOfInt .f64 nb), vers, err, op, es, ks⟩ : Mg) = ⟨kind2, client2, life2, seq2, part (floatOfInt .f64 ep2), part (floatOfInt .f64 nb2), vers2, err2, op2, es2, ks2⟩ := hS
  simp only [] at or1 or2 fw fw2 h1 h2
  have f1 : es.length ≤ 48 := fw.1
  have f2 : ks.length ≤ 48 := fw.2
  have f3 : es2.length ≤ 48 := fw2.1
  have f4 : ks2.length ≤ 48 := fw2.2
  clear hS hM hO gM gO okM okO m5 m6 o5 o6 fw fw2
  by_cases q_kind : kind = kind2
  case neg => exact sameMsg_no_kind _ _ _ _ _ _ _ _ _ _ _ _ _ _ _ _ _ _ _ _ _ _ _ _ _ _ _ q_kind h1.1 h2.1 h1.2 h2.2
  subst q_kind
  by_cases q_client : client = client2
  case neg => exact sameMsg_no_client _ _ _ _ _ _ _ _ _ _ _ _ _ _ _ _ _ _ _ _ _ _ _ _ _ _ q_client h1.1 h2.1 h1.2 h2.2
  subst q_client
  by_cases q_life : life = life2
  case neg => exact sameMsg_no_life _ _ _ _ _ _ _ _ _ _ _ _ _ _ _ _ _ _ _ _ _ _ _ _ _ q_life h1.1 h2.1 h1.2 h2.2
  subst q_life
  by_cases q_seq : seq = seq2
  case neg => exact sameMsg_no_seq _ _ _ _ _ _ _ _ _ _ _ _ _ _ _ _ _ _ _ _ _ _ _ _ q_seq h1.1 h2.1 h1.2 h2.2
  subst q_seq
  by_cases q_ep : part (floatOfInt .f64 ep) = part (floatOfInt .f64 ep2)
  case neg => exact sameMsg_no_ep _ _ _ _ _ _ _ _ _ _ _ _ _ _ _ _ _ _ _ _ _ _ _ _ or1 (fun e => q_ep (Int.compare_eq_eq.1 e)) h1.1 h2.1 h1.2 h2.2
  rw [q_ep, Int.compare_eq_eq.2 rfl] at or1
  by_cases q_nb : part (floatOfInt .f64 nb) = part (floatOfInt .f64 nb2)
  case neg => exact sameMsg_no_nb _ _ _ _ _ _ _ _ _ _ _ _ _ _ _ _ _ _ _ _ _ _ _ or1 _ or2 (fun e => q_nb (Int.compare_eq_eq.1 e)) h1.1 h2.1 h1.2 h2.2
  rw [q_nb, Int.compare_eq_eq.2 rfl] at or2
  by_cases q_vers : vers = vers2
  case neg => exact sameMsg_no_vers _ _ _ _ _ _ _ _ _ _ _ _ _ _ _ _ _ _ _ _ _ _ _ q_vers or1 or2 h1.1 h2.1 h1.2 h2.2
  subst q_vers
  by_cases q_err : err = err2
  case neg => exact sameMsg_no_err _ _ _ _ _ _ _ _ _ _ _ _ _ _ _ _ _ _ _ _ _ _ q_err or1 or2 h1.1 h2.1 h1.2 h2.2
  subst q_err
  by_cases q_op : op = op2
  case neg => exact sameMsg_no_op _ _ _ _ _ _ _ _ _ _ _ _ _ _ _ _ _ _ _ _ _ or1 or2 q_op h1.1 h2.1 h1.2 h2.2
  subst q_op
  by_cases q_es : es = es2
  case neg => exact sameMsg_no_es _ _ _ _ _ _ _ _ _ _ _ _ _ _ _ _ _ _ _ _ or1 or2 q_es h1.1 h2.1 h1.2 h2.2 (Nat.le_trans f1 (by decide)) (Nat.le_trans f3 (by decide))
  subst q_es
  by_cases q_ks : ks = ks2
  case neg => exact sameMsg_no_ks _ _ _ _ _ _ _ _ _ _ _ _ _ _ _ _ _ _ _ or1 or2 q_ks h1.1 h2.1 h1.2 h2.2 (Nat.le_trans f1 (by decide)) (Nat.le_trans f2 (by decide)) (Nat.le_trans f4 (by decide))
  subst q_ks
  exact absurd (by rw [q_ep, q_nb]) hS'
end
end Go.Proofs.Ytihjhaafmdobmab
