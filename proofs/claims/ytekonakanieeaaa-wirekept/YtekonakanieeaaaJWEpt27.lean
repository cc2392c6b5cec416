/- What is plain, in the document's own words: messages, kind 1. -/
import Derived.Test.YtekonakanieeaaaJWEpt26
import Derived.Test.YtekonakanieeaaaJWEpt06
import Derived.Test.YtekonakanieeaaaJWEpt07
namespace Go.Proofs.Ytekonakanieeaaa
section
open Go.RowKit Go.Lib
attribute [local go_sem high] eqO neqO guardO

set_option maxRecDepth 20000 in
set_option maxHeartbeats 8000000 in
theorem plm1_op (client life seq : Int) (re im : Nat) (vers err : Int) (op : Opn) (ve vk : Value) (es : List En) (ks : List Ky) (w : World) (he : Row7 w 0 ve es) (hk : RowK w 0 vk ks) (hG : goodB re im = true) (h0 : numOk client) (h1 : numOk life) (h2 : numOk seq) (h3 : numOk vers) (h4 : numOk err) (hop : ¬ opOk op) : Calls Try.prog 37 #[.agg (Ms.arr ⟨1, client, life, seq, re, im, vers, err, op, ve, vk, es, ks⟩)] w fun e w' => e = .returned (.bool false) ∧ Below w.heap.size w w' := by
  obtain ⟨ae, ce, rfl⟩ := owns_len he
  obtain ⟨ak, ck, rfl⟩ := owns_len hk
  unfold Ms.arr
  simp only []
  obtain ⟨W, hW⟩ : ∃ W, w.alloc (.cells #[.int .i64 1, .int .i64 client, .int .i64 life, .int .i64 seq, .complex .f64 re im, .int .i64 vers, .int .i64 err, .int .i64 op.kind, .int .i64 op.dir, .string op.nm, .int .i64 op.dst, .string op.new, .int .i64 op.mode, .string op.tg, .slice ae es.length ce, .slice ak ks.length ck] 30) = W := ⟨_, rfl⟩
  have hb := boxB hW
  have HB : Hid (W.heap[w.heap.size]? = some (.cells #[.int .i64 1, .int .i64 client, .int .i64 life, .int .i64 seq, .complex .f64 re im, .int .i64 vers, .int .i64 err, .int .i64 op.kind, .int .i64 op.dir, .string op.nm, .int .i64 op.dst, .string op.new, .int .i64 op.mode, .string op.tg, .slice ae es.length ce, .slice ak ks.length ck] 30 (0, 0)) ∧ Below w.heap.size w W) := hb
  have x0 := cell_of hb.1 0
  have x1 := cell_of hb.1 1
  have x2 := cell_of hb.1 2
  have x3 := cell_of hb.1 3
  have x4 := cell_of hb.1 4
  have x5 := cell_of hb.1 5
  have x6 := cell_of hb.1 6
  have x7 := cell_of hb.1 7
  have x8 := cell_of hb.1 8
  have x9 := cell_of hb.1 9
  have x10 := cell_of hb.1 10
  have x11 := cell_of hb.1 11
  have x12 := cell_of hb.1 12
  have x13 := cell_of hb.1 13
  simp at x0 x1 x2 x3 x4 x5 x6 x7 x8 x9 x10 x11 x12 x13
  have HPt : Hid (∀ W, Calls Try.prog 38 #[.complex .f64 re im] W fun e w' => ∃ E N, e = .returned (.tuple #[.int .i64 E, .int .i64 N, .bool true]) ∧ W = w') := fun W => (parts_any re im W).mono fun e w' h => by rw [hG] at h; exact ⟨_, _, h.1, h.2.symm⟩
  have HBad : Hid (∀ v W, Calls Try.prog 72 #[.int .i64 v] W fun e w' => e = .returned (.bool (!decide (numOk v))) ∧ W = w') := bad_d
  have e0 : decide (numOk client) = true := decide_eq_true h0
  have e1 : decide (numOk life) = true := decide_eq_true h1
  have e2 : decide (numOk seq) = true := decide_eq_true h2
  have e3 : decide (numOk vers) = true := decide_eq_true h3
  have e4 : decide (numOk err) = true := decide_eq_true h4
  have HOp : Hid (∀ W, Calls Try.prog 73 #[.agg #[.int .i64 op.kind, .int .i64 op.dir, .string op.nm, .int .i64 op.dst, .string op.new, .int .i64 op.mode, .string op.tg]] W fun e w' => e = .returned (.bool false) ∧ Below W.heap.size W w') := fun W => by have := plainOp_d op W; rw [decide_eq_false hop] at this; exact this
  clear hb he hk hG hop h0 h1 h2 h3 h4
  go_enter Try.func37, Try.ntmps37
  go_upto_region 1 with fail
  clear hW
  go_wp2_with (first
    | (go_at_call 38; refine (HPt.out _).mono ?_; rintro e w9 ⟨E9, N9, rfl, rfl⟩)
    | (go_at_call 72; refine (HBad.out _ _).mono ?_; rintro e w9 ⟨rfl, rfl⟩; first | rw [e0] | rw [e1] | rw [e2] | rw [e3] | rw [e4])
    | (go_at_call 73; refine (HOp.out _).mono ?_; rintro e w1 ⟨rfl, hb1⟩))
  go_ret
  exact ⟨rfl, chainB HB.out.2 hb1⟩
set_option maxRecDepth 20000 in
set_option maxHeartbeats 8000000 in
theorem plm1_e48 (client life seq : Int) (re im : Nat) (vers err : Int) (op : Opn) (ve vk : Value) (es : List En) (ks : List Ky) (w : World) (he : Row7 w 0 ve es) (hk : RowK w 0 vk ks) (hG : goodB re im = true) (h0 : numOk client) (h1 : numOk life) (h2 : numOk seq) (h3 : numOk vers) (h4 : numOk err) (hop : opOk op) (hl : 48 < es.length) : Calls Try.prog 37 #[.agg (Ms.arr ⟨1, client, life, seq, re, im, vers, err, op, ve, vk, es, ks⟩)] w fun e w' => e = .returned (.bool false) ∧ Below w.heap.size w w' := by
  obtain ⟨ae, ce, rfl⟩ := owns_len he
  obtain ⟨ak, ck, rfl⟩ := owns_len hk
  unfold Ms.arr
  simp only []
  obtain ⟨W, hW⟩ : ∃ W, w.alloc (.cells #[.int .i64 1, .int .i64 client, .int .i64 life, .int .i64 seq, .complex .f64 re im, .int .i64 vers, .int .i64 err, .int .i64 op.kind, .int .i64 op.dir, .string op.nm, .int .i64 op.dst, .string op.new, .int .i64 op.mode, .string op.tg, .slice ae es.length ce, .slice ak ks.length ck] 30) = W := ⟨_, rfl⟩
  have hb := boxB hW
  have HB : Hid (W.heap[w.heap.size]? = some (.cells #[.int .i64 1, .int .i64 client, .int .i64 life, .int .i64 seq, .complex .f64 re im, .int .i64 vers, .int .i64 err, .int .i64 op.kind, .int .i64 op.dir, .string op.nm, .int .i64 op.dst, .string op.new, .int .i64 op.mode, .string op.tg, .slice ae es.length ce, .slice ak ks.length ck] 30 (0, 0)) ∧ Below w.heap.size w W) := hb
  have x0 := cell_of hb.1 0
  have x1 := cell_of hb.1 1
  have x2 := cell_of hb.1 2
  have x3 := cell_of hb.1 3
  have x4 := cell_of hb.1 4
  have x5 := cell_of hb.1 5
  have x6 := cell_of hb.1 6
  have x7 := cell_of hb.1 7
  have x8 := cell_of hb.1 8
  have x9 := cell_of hb.1 9
  have x10 := cell_of hb.1 10
  have x11 := cell_of hb.1 11
  have x12 := cell_of hb.1 12
  have x13 := cell_of hb.1 13
  have x14 := cell_of hb.1 14
  have x15 := cell_of hb.1 15
  simp at x0 x1 x2 x3 x4 x5 x6 x7 x8 x9 x10 x11 x12 x13 x14 x15
  have HPt : Hid (∀ W, Calls Try.prog 38 #[.complex .f64 re im] W fun e w' => ∃ E N, e = .returned (.tuple #[.int .i64 E, .int .i64 N, .bool true]) ∧ W = w') := fun W => (parts_any re im W).mono fun e w' h => by rw [hG] at h; exact ⟨_, _, h.1, h.2.symm⟩
  have HBad : Hid (∀ v W, Calls Try.prog 72 #[.int .i64 v] W fun e w' => e = .returned (.bool (!decide (numOk v))) ∧ W = w') := bad_d
  have e0 : decide (numOk client) = true := decide_eq_true h0
  have e1 : decide (numOk life) = true := decide_eq_true h1
  have e2 : decide (numOk seq) = true := decide_eq_true h2
  have e3 : decide (numOk vers) = true := decide_eq_true h3
  have e4 : decide (numOk err) = true := decide_eq_true h4
  have HOp : Hid (∀ W, Calls Try.prog 73 #[.agg #[.int .i64 op.kind, .int .i64 op.dir, .string op.nm, .int .i64 op.dst, .string op.new, .int .i64 op.mode, .string op.tg]] W fun e w' => e = .returned (.bool true) ∧ Below W.heap.size W w') := fun W => by have := plainOp_d op W; rw [decide_eq_true hop] at this; exact this
  have d5 : decide ((48 : Int) < (es.length : Int)) = true := decide_eq_true (by omega)
  clear hb he hk hG hop h0 h1 h2 h3 h4 
  go_enter Try.func37, Try.ntmps37
  go_upto_region 1 with fail
  clear hW
  go_wp2_with (first
    | (go_at_call 38; refine (HPt.out _).mono ?_; rintro e w9 ⟨E9, N9, rfl, rfl⟩)
    | (go_at_call 72; refine (HBad.out _ _).mono ?_; rintro e w9 ⟨rfl, rfl⟩; first | rw [e0] | rw [e1] | rw [e2] | rw [e3] | rw [e4])
    | (go_at_call 73; refine (HOp.out _).mono ?_; rintro e w1 ⟨rfl, hb1⟩; have z0 := cell_of (hkeep HB.out.1 hb1) 0; have z14 := cell_of (hkeep HB.out.1 hb1) 14; have z15 := cell_of (hkeep HB.out.1 hb1) 15; simp at z0 z14 z15))
  go_ret
  exact ⟨rfl, chainB HB.out.2 hb1⟩
set_option maxRecDepth 20000 in
set_option maxHeartbeats 8000000 in
theorem plm1_e0 (client life seq : Int) (re im : Nat) (vers err : Int) (op : Opn) (ve vk : Value) (es : List En) (ks : List Ky) (w : World) (he : Row7 w 0 ve es) (hk : RowK w 0 vk ks) (hG : goodB re im = true) (h0 : numOk client) (h1 : numOk life) (h2 : numOk seq) (h3 : numOk vers) (h4 : numOk err) (hop : opOk op) (hl : es.length ≤ 48) (hl2 : 0 < es.length) : Calls Try.prog 37 #[.agg (Ms.arr ⟨1, client, life, seq, re, im, vers, err, op, ve, vk, es, ks⟩)] w fun e w' => e = .returned (.bool false) ∧ Below w.heap.size w w' := by
  obtain ⟨ae, ce, rfl⟩ := owns_len he
  obtain ⟨ak, ck, rfl⟩ := owns_len hk
  unfold Ms.arr
  simp only []
  obtain ⟨W, hW⟩ : ∃ W, w.alloc (.cells #[.int .i64 1, .int .i64 client, .int .i64 life, .int .i64 seq, .complex .f64 re im, .int .i64 vers, .int .i64 err, .int .i64 op.kind, .int .i64 op.dir, .string op.nm, .int .i64 op.dst, .string op.new, .int .i64 op.mode, .string op.tg, .slice ae es.length ce, .slice ak ks.length ck] 30) = W := ⟨_, rfl⟩
  have hb := boxB hW
  have HB : Hid (W.heap[w.heap.size]? = some (.cells #[.int .i64 1, .int .i64 client, .int .i64 life, .int .i64 seq, .complex .f64 re im, .int .i64 vers, .int .i64 err, .int .i64 op.kind, .int .i64 op.dir, .string op.nm, .int .i64 op.dst, .string op.new, .int .i64 op.mode, .string op.tg, .slice ae es.length ce, .slice ak ks.length ck] 30 (0, 0)) ∧ Below w.heap.size w W) := hb
  have x0 := cell_of hb.1 0
  have x1 := cell_of hb.1 1
  have x2 := cell_of hb.1 2
  have x3 := cell_of hb.1 3
  have x4 := cell_of hb.1 4
  have x5 := cell_of hb.1 5
  have x6 := cell_of hb.1 6
  have x7 := cell_of hb.1 7
  have x8 := cell_of hb.1 8
  have x9 := cell_of hb.1 9
  have x10 := cell_of hb.1 10
  have x11 := cell_of hb.1 11
  have x12 := cell_of hb.1 12
  have x13 := cell_of hb.1 13
  have x14 := cell_of hb.1 14
  have x15 := cell_of hb.1 15
  simp at x0 x1 x2 x3 x4 x5 x6 x7 x8 x9 x10 x11 x12 x13 x14 x15
  have HPt : Hid (∀ W, Calls Try.prog 38 #[.complex .f64 re im] W fun e w' => ∃ E N, e = .returned (.tuple #[.int .i64 E, .int .i64 N, .bool true]) ∧ W = w') := fun W => (parts_any re im W).mono fun e w' h => by rw [hG] at h; exact ⟨_, _, h.1, h.2.symm⟩
  have HBad : Hid (∀ v W, Calls Try.prog 72 #[.int .i64 v] W fun e w' => e = .returned (.bool (!decide (numOk v))) ∧ W = w') := bad_d
  have e0 : decide (numOk client) = true := decide_eq_true h0
  have e1 : decide (numOk life) = true := decide_eq_true h1
  have e2 : decide (numOk seq) = true := decide_eq_true h2
  have e3 : decide (numOk vers) = true := decide_eq_true h3
  have e4 : decide (numOk err) = true := decide_eq_true h4
  have HOp : Hid (∀ W, Calls Try.prog 73 #[.agg #[.int .i64 op.kind, .int .i64 op.dir, .string op.nm, .int .i64 op.dst, .string op.new, .int .i64 op.mode, .string op.tg]] W fun e w' => e = .returned (.bool true) ∧ Below W.heap.size W w') := fun W => by have := plainOp_d op W; rw [decide_eq_true hop] at this; exact this
  have d5 : decide ((48 : Int) < (es.length : Int)) = false := decide_eq_false (by omega)
  have d6 : decide ((0 : Int) < (es.length : Int)) = true := decide_eq_true (by omega)
  have d6n : decide (0 < es.length) = true := decide_eq_true hl2
  clear hl2
  clear hb he hk hG hop h0 h1 h2 h3 h4 
  go_enter Try.func37, Try.ntmps37
  go_upto_region 1 with fail
  clear hW
  go_wp2_with (first
    | (go_at_call 38; refine (HPt.out _).mono ?_; rintro e w9 ⟨E9, N9, rfl, rfl⟩)
    | (go_at_call 72; refine (HBad.out _ _).mono ?_; rintro e w9 ⟨rfl, rfl⟩; first | rw [e0] | rw [e1] | rw [e2] | rw [e3] | rw [e4])
    | (go_at_call 73; refine (HOp.out _).mono ?_; rintro e w1 ⟨rfl, hb1⟩; have z0 := cell_of (hkeep HB.out.1 hb1) 0; have z14 := cell_of (hkeep HB.out.1 hb1) 14; have z15 := cell_of (hkeep HB.out.1 hb1) 15; simp at z0 z14 z15))
  go_ret
  exact ⟨rfl, chainB HB.out.2 hb1⟩
set_option maxRecDepth 20000 in
set_option maxHeartbeats 8000000 in
theorem plm1_k48 (client life seq : Int) (re im : Nat) (vers err : Int) (op : Opn) (ve vk : Value) (es : List En) (ks : List Ky) (w : World) (he : Row7 w 0 ve es) (hk : RowK w 0 vk ks) (hG : goodB re im = true) (h0 : numOk client) (h1 : numOk life) (h2 : numOk seq) (h3 : numOk vers) (h4 : numOk err) (hop : opOk op) (hl : es.length = 0) (hm : 48 < ks.length) : Calls Try.prog 37 #[.agg (Ms.arr ⟨1, client, life, seq, re, im, vers, err, op, ve, vk, es, ks⟩)] w fun e w' => e = .returned (.bool false) ∧ Below w.heap.size w w' := by
  obtain ⟨ae, ce, rfl⟩ := owns_len he
  obtain ⟨ak, ck, rfl⟩ := owns_len hk
  unfold Ms.arr
  simp only []
  obtain ⟨W, hW⟩ : ∃ W, w.alloc (.cells #[.int .i64 1, .int .i64 client, .int .i64 life, .int .i64 seq, .complex .f64 re im, .int .i64 vers, .int .i64 err, .int .i64 op.kind, .int .i64 op.dir, .string op.nm, .int .i64 op.dst, .string op.new, .int .i64 op.mode, .string op.tg, .slice ae es.length ce, .slice ak ks.length ck] 30) = W := ⟨_, rfl⟩
  have hb := boxB hW
  have HB : Hid (W.heap[w.heap.size]? = some (.cells #[.int .i64 1, .int .i64 client, .int .i64 life, .int .i64 seq, .complex .f64 re im, .int .i64 vers, .int .i64 err, .int .i64 op.kind, .int .i64 op.dir, .string op.nm, .int .i64 op.dst, .string op.new, .int .i64 op.mode, .string op.tg, .slice ae es.length ce, .slice ak ks.length ck] 30 (0, 0)) ∧ Below w.heap.size w W) := hb
  have x0 := cell_of hb.1 0
  have x1 := cell_of hb.1 1
  have x2 := cell_of hb.1 2
  have x3 := cell_of hb.1 3
  have x4 := cell_of hb.1 4
  have x5 := cell_of hb.1 5
  have x6 := cell_of hb.1 6
  have x7 := cell_of hb.1 7
  have x8 := cell_of hb.1 8
  have x9 := cell_of hb.1 9
  have x10 := cell_of hb.1 10
  have x11 := cell_of hb.1 11
  have x12 := cell_of hb.1 12
  have x13 := cell_of hb.1 13
  have x14 := cell_of hb.1 14
  have x15 := cell_of hb.1 15
  simp at x0 x1 x2 x3 x4 x5 x6 x7 x8 x9 x10 x11 x12 x13 x14 x15
  have HPt : Hid (∀ W, Calls Try.prog 38 #[.complex .f64 re im] W fun e w' => ∃ E N, e = .returned (.tuple #[.int .i64 E, .int .i64 N, .bool true]) ∧ W = w') := fun W => (parts_any re im W).mono fun e w' h => by rw [hG] at h; exact ⟨_, _, h.1, h.2.symm⟩
  have HBad : Hid (∀ v W, Calls Try.prog 72 #[.int .i64 v] W fun e w' => e = .returned (.bool (!decide (numOk v))) ∧ W = w') := bad_d
  have e0 : decide (numOk client) = true := decide_eq_true h0
  have e1 : decide (numOk life) = true := decide_eq_true h1
  have e2 : decide (numOk seq) = true := decide_eq_true h2
  have e3 : decide (numOk vers) = true := decide_eq_true h3
  have e4 : decide (numOk err) = true := decide_eq_true h4
  have HOp : Hid (∀ W, Calls Try.prog 73 #[.agg #[.int .i64 op.kind, .int .i64 op.dir, .string op.nm, .int .i64 op.dst, .string op.new, .int .i64 op.mode, .string op.tg]] W fun e w' => e = .returned (.bool true) ∧ Below W.heap.size W w') := fun W => by have := plainOp_d op W; rw [decide_eq_true hop] at this; exact this
  have d5 : decide ((48 : Int) < (es.length : Int)) = false := decide_eq_false (by omega)
  have d6 : decide ((0 : Int) < (es.length : Int)) = false := decide_eq_false (by omega)
  have d6n : decide (0 < es.length) = false := decide_eq_false (by omega)
  clear hl
  have d7 : decide ((48 : Int) < (ks.length : Int)) = true := decide_eq_true (by omega)
  clear hb he hk hG hop h0 h1 h2 h3 h4 
  go_enter Try.func37, Try.ntmps37
  go_upto_region 1 with fail
  clear hW
  go_wp2_with (first
    | (go_at_call 38; refine (HPt.out _).mono ?_; rintro e w9 ⟨E9, N9, rfl, rfl⟩)
    | (go_at_call 72; refine (HBad.out _ _).mono ?_; rintro e w9 ⟨rfl, rfl⟩; first | rw [e0] | rw [e1] | rw [e2] | rw [e3] | rw [e4])
    | (go_at_call 73; refine (HOp.out _).mono ?_; rintro e w1 ⟨rfl, hb1⟩; have z0 := cell_of (hkeep HB.out.1 hb1) 0; have z14 := cell_of (hkeep HB.out.1 hb1) 14; have z15 := cell_of (hkeep HB.out.1 hb1) 15; simp at z0 z14 z15))
  go_ret
  exact ⟨rfl, chainB HB.out.2 hb1⟩
set_option maxRecDepth 20000 in
set_option maxHeartbeats 8000000 in
theorem plm1_k0 (client life seq : Int) (re im : Nat) (vers err : Int) (op : Opn) (ve vk : Value) (es : List En) (ks : List Ky) (w : World) (he : Row7 w 0 ve es) (hk : RowK w 0 vk ks) (hG : goodB re im = true) (h0 : numOk client) (h1 : numOk life) (h2 : numOk seq) (h3 : numOk vers) (h4 : numOk err) (hop : opOk op) (hl : es.length = 0) (hm : ks.length ≤ 48) (hm2 : 0 < ks.length) : Calls Try.prog 37 #[.agg (Ms.arr ⟨1, client, life, seq, re, im, vers, err, op, ve, vk, es, ks⟩)] w fun e w' => e = .returned (.bool false) ∧ Below w.heap.size w w' := by
  obtain ⟨ae, ce, rfl⟩ := owns_len he
  obtain ⟨ak, ck, rfl⟩ := owns_len hk
  unfold Ms.arr
  simp only []
  obtain ⟨W, hW⟩ : ∃ W, w.alloc (.cells #[.int .i64 1, .int .i64 client, .int .i64 life, .int .i64 seq, .complex .f64 re im, .int .i64 vers, .int .i64 err, .int .i64 op.kind, .int .i64 op.dir, .string op.nm, .int .i64 op.dst, .string op.new, .int .i64 op.mode, .string op.tg, .slice ae es.length ce, .slice ak ks.length ck] 30) = W := ⟨_, rfl⟩
  have hb := boxB hW
  have HB : Hid (W.heap[w.heap.size]? = some (.cells #[.int .i64 1, .int .i64 client, .int .i64 life, .int .i64 seq, .complex .f64 re im, .int .i64 vers, .int .i64 err, .int .i64 op.kind, .int .i64 op.dir, .string op.nm, .int .i64 op.dst, .string op.new, .int .i64 op.mode, .string op.tg, .slice ae es.length ce, .slice ak ks.length ck] 30 (0, 0)) ∧ Below w.heap.size w W) := hb
  have x0 := cell_of hb.1 0
  have x1 := cell_of hb.1 1
  have x2 := cell_of hb.1 2
  have x3 := cell_of hb.1 3
  have x4 := cell_of hb.1 4
  have x5 := cell_of hb.1 5
  have x6 := cell_of hb.1 6
  have x7 := cell_of hb.1 7
  have x8 := cell_of hb.1 8
  have x9 := cell_of hb.1 9
  have x10 := cell_of hb.1 10
  have x11 := cell_of hb.1 11
  have x12 := cell_of hb.1 12
  have x13 := cell_of hb.1 13
  have x14 := cell_of hb.1 14
  have x15 := cell_of hb.1 15
  simp at x0 x1 x2 x3 x4 x5 x6 x7 x8 x9 x10 x11 x12 x13 x14 x15
  have HPt : Hid (∀ W, Calls Try.prog 38 #[.complex .f64 re im] W fun e w' => ∃ E N, e = .returned (.tuple #[.int .i64 E, .int .i64 N, .bool true]) ∧ W = w') := fun W => (parts_any re im W).mono fun e w' h => by rw [hG] at h; exact ⟨_, _, h.1, h.2.symm⟩
  have HBad : Hid (∀ v W, Calls Try.prog 72 #[.int .i64 v] W fun e w' => e = .returned (.bool (!decide (numOk v))) ∧ W = w') := bad_d
  have e0 : decide (numOk client) = true := decide_eq_true h0
  have e1 : decide (numOk life) = true := decide_eq_true h1
  have e2 : decide (numOk seq) = true := decide_eq_true h2
  have e3 : decide (numOk vers) = true := decide_eq_true h3
  have e4 : decide (numOk err) = true := decide_eq_true h4
  have HOp : Hid (∀ W, Calls Try.prog 73 #[.agg #[.int .i64 op.kind, .int .i64 op.dir, .string op.nm, .int .i64 op.dst, .string op.new, .int .i64 op.mode, .string op.tg]] W fun e w' => e = .returned (.bool true) ∧ Below W.heap.size W w') := fun W => by have := plainOp_d op W; rw [decide_eq_true hop] at this; exact this
  have d5 : decide ((48 : Int) < (es.length : Int)) = false := decide_eq_false (by omega)
  have d6 : decide ((0 : Int) < (es.length : Int)) = false := decide_eq_false (by omega)
  have d6n : decide (0 < es.length) = false := decide_eq_false (by omega)
  clear hl
  have d7 : decide ((48 : Int) < (ks.length : Int)) = false := decide_eq_false (by omega)
  have d8 : decide ((0 : Int) < (ks.length : Int)) = true := decide_eq_true (by omega)
  have d8n : decide (0 < ks.length) = true := decide_eq_true hm2
  clear hm2
  clear hb he hk hG hop h0 h1 h2 h3 h4 
  go_enter Try.func37, Try.ntmps37
  go_upto_region 1 with fail
  clear hW
  go_wp2_with (first
    | (go_at_call 38; refine (HPt.out _).mono ?_; rintro e w9 ⟨E9, N9, rfl, rfl⟩)
    | (go_at_call 72; refine (HBad.out _ _).mono ?_; rintro e w9 ⟨rfl, rfl⟩; first | rw [e0] | rw [e1] | rw [e2] | rw [e3] | rw [e4])
    | (go_at_call 73; refine (HOp.out _).mono ?_; rintro e w1 ⟨rfl, hb1⟩; have z0 := cell_of (hkeep HB.out.1 hb1) 0; have z14 := cell_of (hkeep HB.out.1 hb1) 14; have z15 := cell_of (hkeep HB.out.1 hb1) 15; simp at z0 z14 z15))
  go_ret
  exact ⟨rfl, chainB HB.out.2 hb1⟩
end
section
open Go.RowKit Go.Lib
attribute [local go_sem high] eqO neqO guardO

set_option maxRecDepth 20000 in
set_option maxHeartbeats 8000000 in
theorem plm2_op (client life seq : Int) (re im : Nat) (vers err : Int) (op : Opn) (ve vk : Value) (es : List En) (ks : List Ky) (w : World) (he : Row7 w 0 ve es) (hk : RowK w 0 vk ks) (hG : goodB re im = true) (h0 : numOk client) (h1 : numOk life) (h2 : numOk seq) (h3 : numOk vers) (h4 : numOk err) (hop : ¬ op = zeroOp) : Calls Try.prog 37 #[.agg (Ms.arr ⟨2, client, life, seq, re, im, vers, err, op, ve, vk, es, ks⟩)] w fun e w' => e = .returned (.bool false) ∧ Below w.heap.size w w' := by
  obtain ⟨ae, ce, rfl⟩ := owns_len he
  obtain ⟨ak, ck, rfl⟩ := owns_len hk
  unfold Ms.arr
  simp only []
  obtain ⟨W, hW⟩ : ∃ W, w.alloc (.cells #[.int .i64 2, .int .i64 client, .int .i64 life, .int .i64 seq, .complex .f64 re im, .int .i64 vers, .int .i64 err, .int .i64 op.kind, .int .i64 op.dir, .string op.nm, .int .i64 op.dst, .string op.new, .int .i64 op.mode, .string op.tg, .slice ae es.length ce, .slice ak ks.length ck] 30) = W := ⟨_, rfl⟩
  have hb := boxB hW
  have HB : Hid (W.heap[w.heap.size]? = some (.cells #[.int .i64 2, .int .i64 client, .int .i64 life, .int .i64 seq, .complex .f64 re im, .int .i64 vers, .int .i64 err, .int .i64 op.kind, .int .i64 op.dir, .string op.nm, .int .i64 op.dst, .string op.new, .int .i64 op.mode, .string op.tg, .slice ae es.length ce, .slice ak ks.length ck] 30 (0, 0)) ∧ Below w.heap.size w W) := hb
  have x0 := cell_of hb.1 0
  have x1 := cell_of hb.1 1
  have x2 := cell_of hb.1 2
  have x3 := cell_of hb.1 3
  have x4 := cell_of hb.1 4
  have x5 := cell_of hb.1 5
  have x6 := cell_of hb.1 6
  have x7 := cell_of hb.1 7
  have x8 := cell_of hb.1 8
  have x9 := cell_of hb.1 9
  have x10 := cell_of hb.1 10
  have x11 := cell_of hb.1 11
  have x12 := cell_of hb.1 12
  have x13 := cell_of hb.1 13
  simp at x0 x1 x2 x3 x4 x5 x6 x7 x8 x9 x10 x11 x12 x13
  have HPt : Hid (∀ W, Calls Try.prog 38 #[.complex .f64 re im] W fun e w' => ∃ E N, e = .returned (.tuple #[.int .i64 E, .int .i64 N, .bool true]) ∧ W = w') := fun W => (parts_any re im W).mono fun e w' h => by rw [hG] at h; exact ⟨_, _, h.1, h.2.symm⟩
  have HBad : Hid (∀ v W, Calls Try.prog 72 #[.int .i64 v] W fun e w' => e = .returned (.bool (!decide (numOk v))) ∧ W = w') := bad_d
  have e0 : decide (numOk client) = true := decide_eq_true h0
  have e1 : decide (numOk life) = true := decide_eq_true h1
  have e2 : decide (numOk seq) = true := decide_eq_true h2
  have e3 : decide (numOk vers) = true := decide_eq_true h3
  have e4 : decide (numOk err) = true := decide_eq_true h4
  have heO : eqOp ⟨op.kind, op.dir, op.nm, op.dst, op.new, op.mode, op.tg⟩ ⟨0, 0, ⟨#[]⟩, 0, ⟨#[]⟩, 0, ⟨#[]⟩⟩ = false := by
    cases hq : eqOp op zeroOp with
    | false => exact hq
    | true => exact absurd ((eqOp_iff op zeroOp).1 hq) hop
  clear hb he hk hG hop h0 h1 h2 h3 h4
  go_enter Try.func37, Try.ntmps37
  go_upto_region 1 with fail
  clear hW
  go_wp2_with (first
    | (go_at_call 38; refine (HPt.out _).mono ?_; rintro e w9 ⟨E9, N9, rfl, rfl⟩)
    | (go_at_call 72; refine (HBad.out _ _).mono ?_; rintro e w9 ⟨rfl, rfl⟩; first | rw [e0] | rw [e1] | rw [e2] | rw [e3] | rw [e4]))
  go_ret
  exact ⟨rfl, HB.out.2⟩
set_option maxRecDepth 20000 in
set_option maxHeartbeats 8000000 in
theorem plm2_e48 (client life seq : Int) (re im : Nat) (vers err : Int) (op : Opn) (ve vk : Value) (es : List En) (ks : List Ky) (w : World) (he : Row7 w 0 ve es) (hk : RowK w 0 vk ks) (hG : goodB re im = true) (h0 : numOk client) (h1 : numOk life) (h2 : numOk seq) (h3 : numOk vers) (h4 : numOk err) (hop : op = zeroOp) (hl : 48 < es.length) : Calls Try.prog 37 #[.agg (Ms.arr ⟨2, client, life, seq, re, im, vers, err, op, ve, vk, es, ks⟩)] w fun e w' => e = .returned (.bool false) ∧ Below w.heap.size w w' := by
  obtain ⟨ae, ce, rfl⟩ := owns_len he
  obtain ⟨ak, ck, rfl⟩ := owns_len hk
  unfold Ms.arr
  simp only []
  obtain ⟨W, hW⟩ : ∃ W, w.alloc (.cells #[.int .i64 2, .int .i64 client, .int .i64 life, .int .i64 seq, .complex .f64 re im, .int .i64 vers, .int .i64 err, .int .i64 op.kind, .int .i64 op.dir, .string op.nm, .int .i64 op.dst, .string op.new, .int .i64 op.mode, .string op.tg, .slice ae es.length ce, .slice ak ks.length ck] 30) = W := ⟨_, rfl⟩
  have hb := boxB hW
  have HB : Hid (W.heap[w.heap.size]? = some (.cells #[.int .i64 2, .int .i64 client, .int .i64 life, .int .i64 seq, .complex .f64 re im, .int .i64 vers, .int .i64 err, .int .i64 op.kind, .int .i64 op.dir, .string op.nm, .int .i64 op.dst, .string op.new, .int .i64 op.mode, .string op.tg, .slice ae es.length ce, .slice ak ks.length ck] 30 (0, 0)) ∧ Below w.heap.size w W) := hb
  have x0 := cell_of hb.1 0
  have x1 := cell_of hb.1 1
  have x2 := cell_of hb.1 2
  have x3 := cell_of hb.1 3
  have x4 := cell_of hb.1 4
  have x5 := cell_of hb.1 5
  have x6 := cell_of hb.1 6
  have x7 := cell_of hb.1 7
  have x8 := cell_of hb.1 8
  have x9 := cell_of hb.1 9
  have x10 := cell_of hb.1 10
  have x11 := cell_of hb.1 11
  have x12 := cell_of hb.1 12
  have x13 := cell_of hb.1 13
  have x14 := cell_of hb.1 14
  have x15 := cell_of hb.1 15
  simp at x0 x1 x2 x3 x4 x5 x6 x7 x8 x9 x10 x11 x12 x13 x14 x15
  have HPt : Hid (∀ W, Calls Try.prog 38 #[.complex .f64 re im] W fun e w' => ∃ E N, e = .returned (.tuple #[.int .i64 E, .int .i64 N, .bool true]) ∧ W = w') := fun W => (parts_any re im W).mono fun e w' h => by rw [hG] at h; exact ⟨_, _, h.1, h.2.symm⟩
  have HBad : Hid (∀ v W, Calls Try.prog 72 #[.int .i64 v] W fun e w' => e = .returned (.bool (!decide (numOk v))) ∧ W = w') := bad_d
  have e0 : decide (numOk client) = true := decide_eq_true h0
  have e1 : decide (numOk life) = true := decide_eq_true h1
  have e2 : decide (numOk seq) = true := decide_eq_true h2
  have e3 : decide (numOk vers) = true := decide_eq_true h3
  have e4 : decide (numOk err) = true := decide_eq_true h4
  have heO : eqOp ⟨op.kind, op.dir, op.nm, op.dst, op.new, op.mode, op.tg⟩ ⟨0, 0, ⟨#[]⟩, 0, ⟨#[]⟩, 0, ⟨#[]⟩⟩ = true := by
    exact (eqOp_iff op zeroOp).2 hop
  have d5 : decide ((48 : Int) < (es.length : Int)) = true := decide_eq_true (by omega)
  clear hb he hk hG hop h0 h1 h2 h3 h4 
  go_enter Try.func37, Try.ntmps37
  go_upto_region 1 with fail
  clear hW
  go_wp2_with (first
    | (go_at_call 38; refine (HPt.out _).mono ?_; rintro e w9 ⟨E9, N9, rfl, rfl⟩)
    | (go_at_call 72; refine (HBad.out _ _).mono ?_; rintro e w9 ⟨rfl, rfl⟩; first | rw [e0] | rw [e1] | rw [e2] | rw [e3] | rw [e4]))
  go_ret
  exact ⟨rfl, HB.out.2⟩
set_option maxRecDepth 20000 in
set_option maxHeartbeats 8000000 in
theorem plm2_k48 (client life seq : Int) (re im : Nat) (vers err : Int) (op : Opn) (ve vk : Value) (es : List En) (ks : List Ky) (w : World) (he : Row7 w 0 ve es) (hk : RowK w 0 vk ks) (hG : goodB re im = true) (h0 : numOk client) (h1 : numOk life) (h2 : numOk seq) (h3 : numOk vers) (h4 : numOk err) (hop : op = zeroOp) (hl : es.length ≤ 48) (hm : 48 < ks.length) : Calls Try.prog 37 #[.agg (Ms.arr ⟨2, client, life, seq, re, im, vers, err, op, ve, vk, es, ks⟩)] w fun e w' => e = .returned (.bool false) ∧ Below w.heap.size w w' := by
  obtain ⟨ae, ce, rfl⟩ := owns_len he
  obtain ⟨ak, ck, rfl⟩ := owns_len hk
  unfold Ms.arr
  simp only []
  obtain ⟨W, hW⟩ : ∃ W, w.alloc (.cells #[.int .i64 2, .int .i64 client, .int .i64 life, .int .i64 seq, .complex .f64 re im, .int .i64 vers, .int .i64 err, .int .i64 op.kind, .int .i64 op.dir, .string op.nm, .int .i64 op.dst, .string op.new, .int .i64 op.mode, .string op.tg, .slice ae es.length ce, .slice ak ks.length ck] 30) = W := ⟨_, rfl⟩
  have hb := boxB hW
  have HB : Hid (W.heap[w.heap.size]? = some (.cells #[.int .i64 2, .int .i64 client, .int .i64 life, .int .i64 seq, .complex .f64 re im, .int .i64 vers, .int .i64 err, .int .i64 op.kind, .int .i64 op.dir, .string op.nm, .int .i64 op.dst, .string op.new, .int .i64 op.mode, .string op.tg, .slice ae es.length ce, .slice ak ks.length ck] 30 (0, 0)) ∧ Below w.heap.size w W) := hb
  have x0 := cell_of hb.1 0
  have x1 := cell_of hb.1 1
  have x2 := cell_of hb.1 2
  have x3 := cell_of hb.1 3
  have x4 := cell_of hb.1 4
  have x5 := cell_of hb.1 5
  have x6 := cell_of hb.1 6
  have x7 := cell_of hb.1 7
  have x8 := cell_of hb.1 8
  have x9 := cell_of hb.1 9
  have x10 := cell_of hb.1 10
  have x11 := cell_of hb.1 11
  have x12 := cell_of hb.1 12
  have x13 := cell_of hb.1 13
  have x14 := cell_of hb.1 14
  have x15 := cell_of hb.1 15
  simp at x0 x1 x2 x3 x4 x5 x6 x7 x8 x9 x10 x11 x12 x13 x14 x15
  have HPt : Hid (∀ W, Calls Try.prog 38 #[.complex .f64 re im] W fun e w' => ∃ E N, e = .returned (.tuple #[.int .i64 E, .int .i64 N, .bool true]) ∧ W = w') := fun W => (parts_any re im W).mono fun e w' h => by rw [hG] at h; exact ⟨_, _, h.1, h.2.symm⟩
  have HBad : Hid (∀ v W, Calls Try.prog 72 #[.int .i64 v] W fun e w' => e = .returned (.bool (!decide (numOk v))) ∧ W = w') := bad_d
  have e0 : decide (numOk client) = true := decide_eq_true h0
  have e1 : decide (numOk life) = true := decide_eq_true h1
  have e2 : decide (numOk seq) = true := decide_eq_true h2
  have e3 : decide (numOk vers) = true := decide_eq_true h3
  have e4 : decide (numOk err) = true := decide_eq_true h4
  have heO : eqOp ⟨op.kind, op.dir, op.nm, op.dst, op.new, op.mode, op.tg⟩ ⟨0, 0, ⟨#[]⟩, 0, ⟨#[]⟩, 0, ⟨#[]⟩⟩ = true := by
    exact (eqOp_iff op zeroOp).2 hop
  have d5 : decide ((48 : Int) < (es.length : Int)) = false := decide_eq_false (by omega)
  have d7 : decide ((48 : Int) < (ks.length : Int)) = true := decide_eq_true (by omega)
  clear hb he hk hG hop h0 h1 h2 h3 h4 
  go_enter Try.func37, Try.ntmps37
  go_upto_region 1 with fail
  clear hW
  go_wp2_with (first
    | (go_at_call 38; refine (HPt.out _).mono ?_; rintro e w9 ⟨E9, N9, rfl, rfl⟩)
    | (go_at_call 72; refine (HBad.out _ _).mono ?_; rintro e w9 ⟨rfl, rfl⟩; first | rw [e0] | rw [e1] | rw [e2] | rw [e3] | rw [e4]))
  go_ret
  exact ⟨rfl, HB.out.2⟩
set_option maxRecDepth 20000 in
set_option maxHeartbeats 8000000 in
theorem plm2_k0 (client life seq : Int) (re im : Nat) (vers err : Int) (op : Opn) (ve vk : Value) (es : List En) (ks : List Ky) (w : World) (he : Row7 w 0 ve es) (hk : RowK w 0 vk ks) (hG : goodB re im = true) (h0 : numOk client) (h1 : numOk life) (h2 : numOk seq) (h3 : numOk vers) (h4 : numOk err) (hop : op = zeroOp) (hl : es.length ≤ 48) (hm : ks.length ≤ 48) (hm2 : 0 < ks.length) : Calls Try.prog 37 #[.agg (Ms.arr ⟨2, client, life, seq, re, im, vers, err, op, ve, vk, es, ks⟩)] w fun e w' => e = .returned (.bool false) ∧ Below w.heap.size w w' := by
  obtain ⟨ae, ce, rfl⟩ := owns_len he
  obtain ⟨ak, ck, rfl⟩ := owns_len hk
  unfold Ms.arr
  simp only []
  obtain ⟨W, hW⟩ : ∃ W, w.alloc (.cells #[.int .i64 2, .int .i64 client, .int .i64 life, .int .i64 seq, .complex .f64 re im, .int .i64 vers, .int .i64 err, .int .i64 op.kind, .int .i64 op.dir, .string op.nm, .int .i64 op.dst, .string op.new, .int .i64 op.mode, .string op.tg, .slice ae es.length ce, .slice ak ks.length ck] 30) = W := ⟨_, rfl⟩
  have hb := boxB hW
  have HB : Hid (W.heap[w.heap.size]? = some (.cells #[.int .i64 2, .int .i64 client, .int .i64 life, .int .i64 seq, .complex .f64 re im, .int .i64 vers, .int .i64 err, .int .i64 op.kind, .int .i64 op.dir, .string op.nm, .int .i64 op.dst, .string op.new, .int .i64 op.mode, .string op.tg, .slice ae es.length ce, .slice ak ks.length ck] 30 (0, 0)) ∧ Below w.heap.size w W) := hb
  have x0 := cell_of hb.1 0
  have x1 := cell_of hb.1 1
  have x2 := cell_of hb.1 2
  have x3 := cell_of hb.1 3
  have x4 := cell_of hb.1 4
  have x5 := cell_of hb.1 5
  have x6 := cell_of hb.1 6
  have x7 := cell_of hb.1 7
  have x8 := cell_of hb.1 8
  have x9 := cell_of hb.1 9
  have x10 := cell_of hb.1 10
  have x11 := cell_of hb.1 11
  have x12 := cell_of hb.1 12
  have x13 := cell_of hb.1 13
  have x14 := cell_of hb.1 14
  have x15 := cell_of hb.1 15
  simp at x0 x1 x2 x3 x4 x5 x6 x7 x8 x9 x10 x11 x12 x13 x14 x15
  have HPt : Hid (∀ W, Calls Try.prog 38 #[.complex .f64 re im] W fun e w' => ∃ E N, e = .returned (.tuple #[.int .i64 E, .int .i64 N, .bool true]) ∧ W = w') := fun W => (parts_any re im W).mono fun e w' h => by rw [hG] at h; exact ⟨_, _, h.1, h.2.symm⟩
  have HBad : Hid (∀ v W, Calls Try.prog 72 #[.int .i64 v] W fun e w' => e = .returned (.bool (!decide (numOk v))) ∧ W = w') := bad_d
  have e0 : decide (numOk client) = true := decide_eq_true h0
  have e1 : decide (numOk life) = true := decide_eq_true h1
  have e2 : decide (numOk seq) = true := decide_eq_true h2
  have e3 : decide (numOk vers) = true := decide_eq_true h3
  have e4 : decide (numOk err) = true := decide_eq_true h4
  have heO : eqOp ⟨op.kind, op.dir, op.nm, op.dst, op.new, op.mode, op.tg⟩ ⟨0, 0, ⟨#[]⟩, 0, ⟨#[]⟩, 0, ⟨#[]⟩⟩ = true := by
    exact (eqOp_iff op zeroOp).2 hop
  have d5 : decide ((48 : Int) < (es.length : Int)) = false := decide_eq_false (by omega)
  have d7 : decide ((48 : Int) < (ks.length : Int)) = false := decide_eq_false (by omega)
  have d8 : decide ((0 : Int) < (ks.length : Int)) = true := decide_eq_true (by omega)
  have d8n : decide (0 < ks.length) = true := decide_eq_true hm2
  clear hm2
  clear hb he hk hG hop h0 h1 h2 h3 h4 
  go_enter Try.func37, Try.ntmps37
  go_upto_region 1 with fail
  clear hW
  go_wp2_with (first
    | (go_at_call 38; refine (HPt.out _).mono ?_; rintro e w9 ⟨E9, N9, rfl, rfl⟩)
    | (go_at_call 72; refine (HBad.out _ _).mono ?_; rintro e w9 ⟨rfl, rfl⟩; first | rw [e0] | rw [e1] | rw [e2] | rw [e3] | rw [e4]))
  go_ret
  exact ⟨rfl, HB.out.2⟩
end
end Go.Proofs.Ytekonakanieeaaa
