/- What is plain, in the document's own words: messages, the head. -/
import Derived.Test.YtekonakanieeaaaJWDes28
import Derived.Test.YtekonakanieeaaaJWDes07
import Derived.Test.YtekonakanieeaaaJWDes09
namespace Go.Proofs.Ytekonakanieeaaa
section
open Go.RowKit Go.Lib
attribute [local go_sem high] eqO neqO guardO

set_option maxRecDepth 20000 in
set_option maxHeartbeats 8000000 in
theorem plm_G (kind : Int) (client life seq : Int) (re im : Nat) (vers err : Int) (op : Opn) (ve vk : Value) (es : List En) (ks : List Ky) (w : World) (he : Row7 w 0 ve es) (hk : RowK w 0 vk ks) (hG : goodB re im = false) : Calls Try.prog 37 #[.agg (Ms.arr ⟨kind, client, life, seq, re, im, vers, err, op, ve, vk, es, ks⟩)] w fun e w' => e = .returned (.bool false) ∧ Below w.heap.size w w' := by
  obtain ⟨ae, ce, rfl⟩ := owns_len he
  obtain ⟨ak, ck, rfl⟩ := owns_len hk
  unfold Ms.arr
  simp only []
  obtain ⟨W, hW⟩ : ∃ W, w.alloc (.cells #[.int .i64 kind, .int .i64 client, .int .i64 life, .int .i64 seq, .complex .f64 re im, .int .i64 vers, .int .i64 err, .int .i64 op.kind, .int .i64 op.dir, .string op.nm, .int .i64 op.dst, .string op.new, .int .i64 op.mode, .string op.tg, .slice ae es.length ce, .slice ak ks.length ck] 30) = W := ⟨_, rfl⟩
  have hb := boxB hW
  have HB : Hid (W.heap[w.heap.size]? = some (.cells #[.int .i64 kind, .int .i64 client, .int .i64 life, .int .i64 seq, .complex .f64 re im, .int .i64 vers, .int .i64 err, .int .i64 op.kind, .int .i64 op.dir, .string op.nm, .int .i64 op.dst, .string op.new, .int .i64 op.mode, .string op.tg, .slice ae es.length ce, .slice ak ks.length ck] 30 (0, 0)) ∧ Below w.heap.size w W) := hb
  have x4 := cell_of hb.1 4
  simp at x4
  have HPt : Hid (∀ W, Calls Try.prog 38 #[.complex .f64 re im] W fun e w' => ∃ E N, e = .returned (.tuple #[.int .i64 E, .int .i64 N, .bool false]) ∧ W = w') := fun W => (parts_any re im W).mono fun e w' h => by rw [hG] at h; exact ⟨_, _, h.1, h.2.symm⟩
  clear hb he hk hG
  go_enter Try.func37, Try.ntmps37
  go_upto_region 1 with fail
  clear hW
  go_wp2_with (first
    | (go_at_call 38; refine (HPt.out _).mono ?_; rintro e w9 ⟨E9, N9, rfl, rfl⟩))
  go_ret
  exact ⟨rfl, HB.out.2⟩
set_option maxRecDepth 20000 in
set_option maxHeartbeats 8000000 in
theorem plm_lo (kind : Int) (client life seq : Int) (re im : Nat) (vers err : Int) (op : Opn) (ve vk : Value) (es : List En) (ks : List Ky) (w : World) (he : Row7 w 0 ve es) (hk : RowK w 0 vk ks) (hG : goodB re im = true) (hK : kind < 1) : Calls Try.prog 37 #[.agg (Ms.arr ⟨kind, client, life, seq, re, im, vers, err, op, ve, vk, es, ks⟩)] w fun e w' => e = .returned (.bool false) ∧ Below w.heap.size w w' := by
  obtain ⟨ae, ce, rfl⟩ := owns_len he
  obtain ⟨ak, ck, rfl⟩ := owns_len hk
  unfold Ms.arr
  simp only []
  obtain ⟨W, hW⟩ : ∃ W, w.alloc (.cells #[.int .i64 kind, .int .i64 client, .int .i64 life, .int .i64 seq, .complex .f64 re im, .int .i64 vers, .int .i64 err, .int .i64 op.kind, .int .i64 op.dir, .string op.nm, .int .i64 op.dst, .string op.new, .int .i64 op.mode, .string op.tg, .slice ae es.length ce, .slice ak ks.length ck] 30) = W := ⟨_, rfl⟩
  have hb := boxB hW
  have HB : Hid (W.heap[w.heap.size]? = some (.cells #[.int .i64 kind, .int .i64 client, .int .i64 life, .int .i64 seq, .complex .f64 re im, .int .i64 vers, .int .i64 err, .int .i64 op.kind, .int .i64 op.dir, .string op.nm, .int .i64 op.dst, .string op.new, .int .i64 op.mode, .string op.tg, .slice ae es.length ce, .slice ak ks.length ck] 30 (0, 0)) ∧ Below w.heap.size w W) := hb
  have x0 := cell_of hb.1 0
  have x4 := cell_of hb.1 4
  simp at x0 x4
  have HPt : Hid (∀ W, Calls Try.prog 38 #[.complex .f64 re im] W fun e w' => ∃ E N, e = .returned (.tuple #[.int .i64 E, .int .i64 N, .bool true]) ∧ W = w') := fun W => (parts_any re im W).mono fun e w' h => by rw [hG] at h; exact ⟨_, _, h.1, h.2.symm⟩
  have d1 : decide (kind < 1) = true := decide_eq_true hK
  clear hb he hk hG
  go_enter Try.func37, Try.ntmps37
  go_upto_region 1 with fail
  clear hW
  go_wp2_with (first
    | (go_at_call 38; refine (HPt.out _).mono ?_; rintro e w9 ⟨E9, N9, rfl, rfl⟩))
  go_ret
  exact ⟨rfl, HB.out.2⟩
set_option maxRecDepth 20000 in
set_option maxHeartbeats 8000000 in
theorem plm_hi (kind : Int) (client life seq : Int) (re im : Nat) (vers err : Int) (op : Opn) (ve vk : Value) (es : List En) (ks : List Ky) (w : World) (he : Row7 w 0 ve es) (hk : RowK w 0 vk ks) (hG : goodB re im = true) (hK : 4 < kind) : Calls Try.prog 37 #[.agg (Ms.arr ⟨kind, client, life, seq, re, im, vers, err, op, ve, vk, es, ks⟩)] w fun e w' => e = .returned (.bool false) ∧ Below w.heap.size w w' := by
  obtain ⟨ae, ce, rfl⟩ := owns_len he
  obtain ⟨ak, ck, rfl⟩ := owns_len hk
  unfold Ms.arr
  simp only []
  obtain ⟨W, hW⟩ : ∃ W, w.alloc (.cells #[.int .i64 kind, .int .i64 client, .int .i64 life, .int .i64 seq, .complex .f64 re im, .int .i64 vers, .int .i64 err, .int .i64 op.kind, .int .i64 op.dir, .string op.nm, .int .i64 op.dst, .string op.new, .int .i64 op.mode, .string op.tg, .slice ae es.length ce, .slice ak ks.length ck] 30) = W := ⟨_, rfl⟩
  have hb := boxB hW
  have HB : Hid (W.heap[w.heap.size]? = some (.cells #[.int .i64 kind, .int .i64 client, .int .i64 life, .int .i64 seq, .complex .f64 re im, .int .i64 vers, .int .i64 err, .int .i64 op.kind, .int .i64 op.dir, .string op.nm, .int .i64 op.dst, .string op.new, .int .i64 op.mode, .string op.tg, .slice ae es.length ce, .slice ak ks.length ck] 30 (0, 0)) ∧ Below w.heap.size w W) := hb
  have x0 := cell_of hb.1 0
  have x4 := cell_of hb.1 4
  simp at x0 x4
  have HPt : Hid (∀ W, Calls Try.prog 38 #[.complex .f64 re im] W fun e w' => ∃ E N, e = .returned (.tuple #[.int .i64 E, .int .i64 N, .bool true]) ∧ W = w') := fun W => (parts_any re im W).mono fun e w' h => by rw [hG] at h; exact ⟨_, _, h.1, h.2.symm⟩
  have d1 : decide (kind < 1) = false := decide_eq_false (by omega)
  have d2 : decide (4 < kind) = true := decide_eq_true hK
  clear hb he hk hG
  go_enter Try.func37, Try.ntmps37
  go_upto_region 1 with fail
  clear hW
  go_wp2_with (first
    | (go_at_call 38; refine (HPt.out _).mono ?_; rintro e w9 ⟨E9, N9, rfl, rfl⟩))
  go_ret
  exact ⟨rfl, HB.out.2⟩
set_option maxRecDepth 20000 in
set_option maxHeartbeats 8000000 in
theorem plm_n0 (kind : Int) (client life seq : Int) (re im : Nat) (vers err : Int) (op : Opn) (ve vk : Value) (es : List En) (ks : List Ky) (w : World) (he : Row7 w 0 ve es) (hk : RowK w 0 vk ks) (hG : goodB re im = true) (hK : 1 ≤ kind ∧ kind ≤ 4) (h0 : ¬ numOk client) : Calls Try.prog 37 #[.agg (Ms.arr ⟨kind, client, life, seq, re, im, vers, err, op, ve, vk, es, ks⟩)] w fun e w' => e = .returned (.bool false) ∧ Below w.heap.size w w' := by
  obtain ⟨ae, ce, rfl⟩ := owns_len he
  obtain ⟨ak, ck, rfl⟩ := owns_len hk
  unfold Ms.arr
  simp only []
  obtain ⟨W, hW⟩ : ∃ W, w.alloc (.cells #[.int .i64 kind, .int .i64 client, .int .i64 life, .int .i64 seq, .complex .f64 re im, .int .i64 vers, .int .i64 err, .int .i64 op.kind, .int .i64 op.dir, .string op.nm, .int .i64 op.dst, .string op.new, .int .i64 op.mode, .string op.tg, .slice ae es.length ce, .slice ak ks.length ck] 30) = W := ⟨_, rfl⟩
  have hb := boxB hW
  have HB : Hid (W.heap[w.heap.size]? = some (.cells #[.int .i64 kind, .int .i64 client, .int .i64 life, .int .i64 seq, .complex .f64 re im, .int .i64 vers, .int .i64 err, .int .i64 op.kind, .int .i64 op.dir, .string op.nm, .int .i64 op.dst, .string op.new, .int .i64 op.mode, .string op.tg, .slice ae es.length ce, .slice ak ks.length ck] 30 (0, 0)) ∧ Below w.heap.size w W) := hb
  have x0 := cell_of hb.1 0
  have x4 := cell_of hb.1 4
  have x1 := cell_of hb.1 1
  simp at x0 x4 x1
  have HPt : Hid (∀ W, Calls Try.prog 38 #[.complex .f64 re im] W fun e w' => ∃ E N, e = .returned (.tuple #[.int .i64 E, .int .i64 N, .bool true]) ∧ W = w') := fun W => (parts_any re im W).mono fun e w' h => by rw [hG] at h; exact ⟨_, _, h.1, h.2.symm⟩
  have HBad : Hid (∀ v W, Calls Try.prog 72 #[.int .i64 v] W fun e w' => e = .returned (.bool (!decide (numOk v))) ∧ W = w') := bad_d
  have d1 : decide (kind < 1) = false := decide_eq_false (by omega)
  have d2 : decide (4 < kind) = false := decide_eq_false (by omega)
  have e0 : decide (numOk client) = false := decide_eq_false h0
  clear hb he hk hG hK
  go_enter Try.func37, Try.ntmps37
  go_upto_region 1 with fail
  clear hW
  go_wp2_with (first
    | (go_at_call 38; refine (HPt.out _).mono ?_; rintro e w9 ⟨E9, N9, rfl, rfl⟩)
    | (go_at_call 72; refine (HBad.out _ _).mono ?_; rintro e w9 ⟨rfl, rfl⟩; first | rw [e0]))
  go_ret
  exact ⟨rfl, HB.out.2⟩
set_option maxRecDepth 20000 in
set_option maxHeartbeats 8000000 in
theorem plm_n1 (kind : Int) (client life seq : Int) (re im : Nat) (vers err : Int) (op : Opn) (ve vk : Value) (es : List En) (ks : List Ky) (w : World) (he : Row7 w 0 ve es) (hk : RowK w 0 vk ks) (hG : goodB re im = true) (hK : 1 ≤ kind ∧ kind ≤ 4) (h0 : numOk client) (h1 : ¬ numOk life) : Calls Try.prog 37 #[.agg (Ms.arr ⟨kind, client, life, seq, re, im, vers, err, op, ve, vk, es, ks⟩)] w fun e w' => e = .returned (.bool false) ∧ Below w.heap.size w w' := by
  obtain ⟨ae, ce, rfl⟩ := owns_len he
  obtain ⟨ak, ck, rfl⟩ := owns_len hk
  unfold Ms.arr
  simp only []
  obtain ⟨W, hW⟩ : ∃ W, w.alloc (.cells #[.int .i64 kind, .int .i64 client, .int .i64 life, .int .i64 seq, .complex .f64 re im, .int .i64 vers, .int .i64 err, .int .i64 op.kind, .int .i64 op.dir, .string op.nm, .int .i64 op.dst, .string op.new, .int .i64 op.mode, .string op.tg, .slice ae es.length ce, .slice ak ks.length ck] 30) = W := ⟨_, rfl⟩
  have hb := boxB hW
  have HB : Hid (W.heap[w.heap.size]? = some (.cells #[.int .i64 kind, .int .i64 client, .int .i64 life, .int .i64 seq, .complex .f64 re im, .int .i64 vers, .int .i64 err, .int .i64 op.kind, .int .i64 op.dir, .string op.nm, .int .i64 op.dst, .string op.new, .int .i64 op.mode, .string op.tg, .slice ae es.length ce, .slice ak ks.length ck] 30 (0, 0)) ∧ Below w.heap.size w W) := hb
  have x0 := cell_of hb.1 0
  have x4 := cell_of hb.1 4
  have x1 := cell_of hb.1 1
  have x2 := cell_of hb.1 2
  simp at x0 x4 x1 x2
  have HPt : Hid (∀ W, Calls Try.prog 38 #[.complex .f64 re im] W fun e w' => ∃ E N, e = .returned (.tuple #[.int .i64 E, .int .i64 N, .bool true]) ∧ W = w') := fun W => (parts_any re im W).mono fun e w' h => by rw [hG] at h; exact ⟨_, _, h.1, h.2.symm⟩
  have HBad : Hid (∀ v W, Calls Try.prog 72 #[.int .i64 v] W fun e w' => e = .returned (.bool (!decide (numOk v))) ∧ W = w') := bad_d
  have d1 : decide (kind < 1) = false := decide_eq_false (by omega)
  have d2 : decide (4 < kind) = false := decide_eq_false (by omega)
  have e0 : decide (numOk client) = true := decide_eq_true h0
  have e1 : decide (numOk life) = false := decide_eq_false h1
  clear hb he hk hG hK
  go_enter Try.func37, Try.ntmps37
  go_upto_region 1 with fail
  clear hW
  go_wp2_with (first
    | (go_at_call 38; refine (HPt.out _).mono ?_; rintro e w9 ⟨E9, N9, rfl, rfl⟩)
    | (go_at_call 72; refine (HBad.out _ _).mono ?_; rintro e w9 ⟨rfl, rfl⟩; first | rw [e0] | rw [e1]))
  go_ret
  exact ⟨rfl, HB.out.2⟩
set_option maxRecDepth 20000 in
set_option maxHeartbeats 8000000 in
theorem plm_n2 (kind : Int) (client life seq : Int) (re im : Nat) (vers err : Int) (op : Opn) (ve vk : Value) (es : List En) (ks : List Ky) (w : World) (he : Row7 w 0 ve es) (hk : RowK w 0 vk ks) (hG : goodB re im = true) (hK : 1 ≤ kind ∧ kind ≤ 4) (h0 : numOk client) (h1 : numOk life) (h2 : ¬ numOk seq) : Calls Try.prog 37 #[.agg (Ms.arr ⟨kind, client, life, seq, re, im, vers, err, op, ve, vk, es, ks⟩)] w fun e w' => e = .returned (.bool false) ∧ Below w.heap.size w w' := by
  obtain ⟨ae, ce, rfl⟩ := owns_len he
  obtain ⟨ak, ck, rfl⟩ := owns_len hk
  unfold Ms.arr
  simp only []
  obtain ⟨W, hW⟩ : ∃ W, w.alloc (.cells #[.int .i64 kind, .int .i64 client, .int .i64 life, .int .i64 seq, .complex .f64 re im, .int .i64 vers, .int .i64 err, .int .i64 op.kind, .int .i64 op.dir, .string op.nm, .int .i64 op.dst, .string op.new, .int .i64 op.mode, .string op.tg, .slice ae es.length ce, .slice ak ks.length ck] 30) = W := ⟨_, rfl⟩
  have hb := boxB hW
  have HB : Hid (W.heap[w.heap.size]? = some (.cells #[.int .i64 kind, .int .i64 client, .int .i64 life, .int .i64 seq, .complex .f64 re im, .int .i64 vers, .int .i64 err, .int .i64 op.kind, .int .i64 op.dir, .string op.nm, .int .i64 op.dst, .string op.new, .int .i64 op.mode, .string op.tg, .slice ae es.length ce, .slice ak ks.length ck] 30 (0, 0)) ∧ Below w.heap.size w W) := hb
  have x0 := cell_of hb.1 0
  have x4 := cell_of hb.1 4
  have x1 := cell_of hb.1 1
  have x2 := cell_of hb.1 2
  have x3 := cell_of hb.1 3
  simp at x0 x4 x1 x2 x3
  have HPt : Hid (∀ W, Calls Try.prog 38 #[.complex .f64 re im] W fun e w' => ∃ E N, e = .returned (.tuple #[.int .i64 E, .int .i64 N, .bool true]) ∧ W = w') := fun W => (parts_any re im W).mono fun e w' h => by rw [hG] at h; exact ⟨_, _, h.1, h.2.symm⟩
  have HBad : Hid (∀ v W, Calls Try.prog 72 #[.int .i64 v] W fun e w' => e = .returned (.bool (!decide (numOk v))) ∧ W = w') := bad_d
  have d1 : decide (kind < 1) = false := decide_eq_false (by omega)
  have d2 : decide (4 < kind) = false := decide_eq_false (by omega)
  have e0 : decide (numOk client) = true := decide_eq_true h0
  have e1 : decide (numOk life) = true := decide_eq_true h1
  have e2 : decide (numOk seq) = false := decide_eq_false h2
  clear hb he hk hG hK
  go_enter Try.func37, Try.ntmps37
  go_upto_region 1 with fail
  clear hW
  go_wp2_with (first
    | (go_at_call 38; refine (HPt.out _).mono ?_; rintro e w9 ⟨E9, N9, rfl, rfl⟩)
    | (go_at_call 72; refine (HBad.out _ _).mono ?_; rintro e w9 ⟨rfl, rfl⟩; first | rw [e0] | rw [e1] | rw [e2]))
  go_ret
  exact ⟨rfl, HB.out.2⟩
set_option maxRecDepth 20000 in
set_option maxHeartbeats 8000000 in
theorem plm_n3 (kind : Int) (client life seq : Int) (re im : Nat) (vers err : Int) (op : Opn) (ve vk : Value) (es : List En) (ks : List Ky) (w : World) (he : Row7 w 0 ve es) (hk : RowK w 0 vk ks) (hG : goodB re im = true) (hK : 1 ≤ kind ∧ kind ≤ 4) (h0 : numOk client) (h1 : numOk life) (h2 : numOk seq) (h3 : ¬ numOk vers) : Calls Try.prog 37 #[.agg (Ms.arr ⟨kind, client, life, seq, re, im, vers, err, op, ve, vk, es, ks⟩)] w fun e w' => e = .returned (.bool false) ∧ Below w.heap.size w w' := by
  obtain ⟨ae, ce, rfl⟩ := owns_len he
  obtain ⟨ak, ck, rfl⟩ := owns_len hk
  unfold Ms.arr
  simp only []
  obtain ⟨W, hW⟩ : ∃ W, w.alloc (.cells #[.int .i64 kind, .int .i64 client, .int .i64 life, .int .i64 seq, .complex .f64 re im, .int .i64 vers, .int .i64 err, .int .i64 op.kind, .int .i64 op.dir, .string op.nm, .int .i64 op.dst, .string op.new, .int .i64 op.mode, .string op.tg, .slice ae es.length ce, .slice ak ks.length ck] 30) = W := ⟨_, rfl⟩
  have hb := boxB hW
  have HB : Hid (W.heap[w.heap.size]? = some (.cells #[.int .i64 kind, .int .i64 client, .int .i64 life, .int .i64 seq, .complex .f64 re im, .int .i64 vers, .int .i64 err, .int .i64 op.kind, .int .i64 op.dir, .string op.nm, .int .i64 op.dst, .string op.new, .int .i64 op.mode, .string op.tg, .slice ae es.length ce, .slice ak ks.length ck] 30 (0, 0)) ∧ Below w.heap.size w W) := hb
  have x0 := cell_of hb.1 0
  have x4 := cell_of hb.1 4
  have x1 := cell_of hb.1 1
  have x2 := cell_of hb.1 2
  have x3 := cell_of hb.1 3
  have x5 := cell_of hb.1 5
  simp at x0 x4 x1 x2 x3 x5
  have HPt : Hid (∀ W, Calls Try.prog 38 #[.complex .f64 re im] W fun e w' => ∃ E N, e = .returned (.tuple #[.int .i64 E, .int .i64 N, .bool true]) ∧ W = w') := fun W => (parts_any re im W).mono fun e w' h => by rw [hG] at h; exact ⟨_, _, h.1, h.2.symm⟩
  have HBad : Hid (∀ v W, Calls Try.prog 72 #[.int .i64 v] W fun e w' => e = .returned (.bool (!decide (numOk v))) ∧ W = w') := bad_d
  have d1 : decide (kind < 1) = false := decide_eq_false (by omega)
  have d2 : decide (4 < kind) = false := decide_eq_false (by omega)
  have e0 : decide (numOk client) = true := decide_eq_true h0
  have e1 : decide (numOk life) = true := decide_eq_true h1
  have e2 : decide (numOk seq) = true := decide_eq_true h2
  have e3 : decide (numOk vers) = false := decide_eq_false h3
  clear hb he hk hG hK
  go_enter Try.func37, Try.ntmps37
  go_upto_region 1 with fail
  clear hW
  go_wp2_with (first
    | (go_at_call 38; refine (HPt.out _).mono ?_; rintro e w9 ⟨E9, N9, rfl, rfl⟩)
    | (go_at_call 72; refine (HBad.out _ _).mono ?_; rintro e w9 ⟨rfl, rfl⟩; first | rw [e0] | rw [e1] | rw [e2] | rw [e3]))
  go_ret
  exact ⟨rfl, HB.out.2⟩
set_option maxRecDepth 20000 in
set_option maxHeartbeats 8000000 in
theorem plm_n4 (kind : Int) (client life seq : Int) (re im : Nat) (vers err : Int) (op : Opn) (ve vk : Value) (es : List En) (ks : List Ky) (w : World) (he : Row7 w 0 ve es) (hk : RowK w 0 vk ks) (hG : goodB re im = true) (hK : 1 ≤ kind ∧ kind ≤ 4) (h0 : numOk client) (h1 : numOk life) (h2 : numOk seq) (h3 : numOk vers) (h4 : ¬ numOk err) : Calls Try.prog 37 #[.agg (Ms.arr ⟨kind, client, life, seq, re, im, vers, err, op, ve, vk, es, ks⟩)] w fun e w' => e = .returned (.bool false) ∧ Below w.heap.size w w' := by
  obtain ⟨ae, ce, rfl⟩ := owns_len he
  obtain ⟨ak, ck, rfl⟩ := owns_len hk
  unfold Ms.arr
  simp only []
  obtain ⟨W, hW⟩ : ∃ W, w.alloc (.cells #[.int .i64 kind, .int .i64 client, .int .i64 life, .int .i64 seq, .complex .f64 re im, .int .i64 vers, .int .i64 err, .int .i64 op.kind, .int .i64 op.dir, .string op.nm, .int .i64 op.dst, .string op.new, .int .i64 op.mode, .string op.tg, .slice ae es.length ce, .slice ak ks.length ck] 30) = W := ⟨_, rfl⟩
  have hb := boxB hW
  have HB : Hid (W.heap[w.heap.size]? = some (.cells #[.int .i64 kind, .int .i64 client, .int .i64 life, .int .i64 seq, .complex .f64 re im, .int .i64 vers, .int .i64 err, .int .i64 op.kind, .int .i64 op.dir, .string op.nm, .int .i64 op.dst, .string op.new, .int .i64 op.mode, .string op.tg, .slice ae es.length ce, .slice ak ks.length ck] 30 (0, 0)) ∧ Below w.heap.size w W) := hb
  have x0 := cell_of hb.1 0
  have x4 := cell_of hb.1 4
  have x1 := cell_of hb.1 1
  have x2 := cell_of hb.1 2
  have x3 := cell_of hb.1 3
  have x5 := cell_of hb.1 5
  have x6 := cell_of hb.1 6
  simp at x0 x4 x1 x2 x3 x5 x6
  have HPt : Hid (∀ W, Calls Try.prog 38 #[.complex .f64 re im] W fun e w' => ∃ E N, e = .returned (.tuple #[.int .i64 E, .int .i64 N, .bool true]) ∧ W = w') := fun W => (parts_any re im W).mono fun e w' h => by rw [hG] at h; exact ⟨_, _, h.1, h.2.symm⟩
  have HBad : Hid (∀ v W, Calls Try.prog 72 #[.int .i64 v] W fun e w' => e = .returned (.bool (!decide (numOk v))) ∧ W = w') := bad_d
  have d1 : decide (kind < 1) = false := decide_eq_false (by omega)
  have d2 : decide (4 < kind) = false := decide_eq_false (by omega)
  have e0 : decide (numOk client) = true := decide_eq_true h0
  have e1 : decide (numOk life) = true := decide_eq_true h1
  have e2 : decide (numOk seq) = true := decide_eq_true h2
  have e3 : decide (numOk vers) = true := decide_eq_true h3
  have e4 : decide (numOk err) = false := decide_eq_false h4
  clear hb he hk hG hK
  go_enter Try.func37, Try.ntmps37
  go_upto_region 1 with fail
  clear hW
  go_wp2_with (first
    | (go_at_call 38; refine (HPt.out _).mono ?_; rintro e w9 ⟨E9, N9, rfl, rfl⟩)
    | (go_at_call 72; refine (HBad.out _ _).mono ?_; rintro e w9 ⟨rfl, rfl⟩; first | rw [e0] | rw [e1] | rw [e2] | rw [e3] | rw [e4]))
  go_ret
  exact ⟨rfl, HB.out.2⟩
end
end Go.Proofs.Ytekonakanieeaaa
