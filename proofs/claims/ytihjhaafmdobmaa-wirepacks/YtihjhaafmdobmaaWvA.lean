/- The writer in memory: notes. -/
import Derived.Test.YtihjhaafmdobmaaWwI
namespace Go.Proofs.Ytihjhaafmdobmaa
open Go.RowKit Go.Lib

/-- a note in memory -/
def Nt.arr (n : Nt) : Array Value := #[.int .i64 n.kind, .int .i64 n.epoch, .int .i64 n.vers, .int .i64 n.next, .int .i64 n.client, .int .i64 n.e.d, .string n.e.nm, .bool n.e.neg, .int .i64 n.e.id, .int .i64 n.e.kind, .int .i64 n.e.mode, .string n.e.tg, .int .i64 n.life, .int .i64 n.seq, .int .i64 n.err, .int .i64 n.op.kind, .int .i64 n.op.dir, .string n.op.nm, .int .i64 n.op.dst, .string n.op.new, .int .i64 n.op.mode, .string n.op.tg]
theorem nums3 (a b c : Int) : numsB [a, b, c] = numI a ++ (numI b ++ numI c) := by unfold numsB; simp
theorem nums4 (a b c d : Int) : numsB [a, b, c, d] = numI a ++ (numI b ++ (numI c ++ numI d)) := by unfold numsB; simp
theorem all3 {a b c : Int} (h1 : numOk a) (h2 : numOk b) (h3 : numOk c) : ∀ x ∈ [a, b, c], numOk x := by
  intro x hx
  simp only [List.mem_cons, List.not_mem_nil, or_false] at hx
  rcases hx with rfl | rfl | rfl <;> assumption
theorem all4 {a b c d : Int} (h1 : numOk a) (h2 : numOk b) (h3 : numOk c) (h4 : numOk d) : ∀ x ∈ [a, b, c, d], numOk x := by
  intro x hx
  simp only [List.mem_cons, List.not_mem_nil, or_false] at hx
  rcases hx with rfl | rfl | rfl | rfl <;> assumption

set_option maxRecDepth 20000 in
set_option maxHeartbeats 4000000 in
theorem seen_w {w0 w : World} {t : Nat} {l : List Int} (n : Nt) (h : Wg w0 w t l) (hk : numsOk n) (hl : l.length ≤ 600) :
    Calls Try.prog 132 #[.pointer (some ⟨t, 0, none⟩), .agg n.arr] w fun e w' => WrR w0 w t (l ++ seenB n) e w' := by
  obtain ⟨kind, epoch, vers, next, client, e, life, seq, err, op⟩ := n
  unfold Nt.arr
  simp only []
  obtain ⟨W, hW⟩ : ∃ W, w.alloc (.cells #[.int .i64 kind, .int .i64 epoch, .int .i64 vers, .int .i64 next, .int .i64 client, .int .i64 e.d, .string e.nm, .bool e.neg, .int .i64 e.id, .int .i64 e.kind, .int .i64 e.mode, .string e.tg, .int .i64 life, .int .i64 seq, .int .i64 err, .int .i64 op.kind, .int .i64 op.dir, .string op.nm, .int .i64 op.dst, .string op.new, .int .i64 op.mode, .string op.tg] 81) = W := ⟨_, rfl⟩
  have hb := boxed h hW
  have HB : Hid (W.heap[w.heap.size]? = some (.cells #[.int .i64 kind, .int .i64 epoch, .int .i64 vers, .int .i64 next, .int .i64 client, .int .i64 e.d, .string e.nm, .bool e.neg, .int .i64 e.id, .int .i64 e.kind, .int .i64 e.mode, .string e.tg, .int .i64 life, .int .i64 seq, .int .i64 err, .int .i64 op.kind, .int .i64 op.dir, .string op.nm, .int .i64 op.dst, .string op.new, .int .i64 op.mode, .string op.tg] 81 (0, 0)) ∧ w.heap.size ≠ t ∧ Kp t w W) := hb.2
  have x4 := cell_of hb.2.1 4
  have x12 := cell_of hb.2.1 12
  have x13 := cell_of hb.2.1 13
  have x14 := cell_of hb.2.1 14
  simp at x4 x12 x13 x14
  obtain ⟨L, hL⟩ : ∃ L, l ++ seenB ⟨kind, epoch, vers, next, client, e, life, seq, err, op⟩ = L := ⟨_, rfl⟩
  have HN : Hid (Calls Try.prog 104 #[.pointer (some ⟨t, 0, none⟩), .slice (some ⟨W.heap.size, 0, none⟩) 4 4] (W.alloc (.cells #[.int .i64 client, .int .i64 life, .int .i64 seq, .int .i64 err] 3)) fun e w' => WrR w0 W t L e w') := by
    have := hb.1.wrote.nums [client, life, seq, err] (all4 hk.client hk.life hk.seq hk.err) (by simp; omega)
    rw [nums4] at this
    rw [← hL]
    exact this
  rw [hL]
  clear hb h hk hL
  go_enter Try.func132, Try.ntmps132
  go_upto_region 1 with fail
  clear hW
  go_wp2_with (go_at_call 104; refine HN.out.mono ?_; rintro x w3 ⟨rfl, h3⟩)
  go_end0
  exact ⟨rfl, h3.out.1, HB.out.2.2.trans h3.out.2⟩

theorem Try.sizeNote : (Try.prog.info? 81).map (·.size) = some 22 := by kernel_rfl
/-- a whole note loaded, and stored (shut) -/
def noteS (v : Value) : Sem Value := Instr.loadAt 81 v
theorem loadN (v : Value) : Instr.loadAt 81 v = noteS v := rfl
theorem noteS_of {w : World} {g : Nat} {cs : Array Value} {t : TypeId} {fr : Nat × Nat} (h : w.heap[g]? = some (.cells cs t fr)) (hs : cs.size = 22) : (noteS (.pointer (some ⟨g, 0, none⟩))).run Try.prog w = .ok (.agg cs) w := by
  unfold noteS Instr.loadAt Instr.sureAddr
  simp [run_loadVar_row w g t 81 cs fr _ h Try.underlying81 rfl (by rw [hs]; exact Try.sizeNote)]
attribute [irreducible] noteS
attribute [local go_sem ↓ high] loadN
theorem seenB_len {n : Nt} (h : numsOk n) : (seenB n).length ≤ 24 := by
  unfold seenB
  have h1 := numI_len h.client
  have h2 := numI_len h.life
  have h3 := numI_len h.seq
  have h4 := numI_len h.err
  simp only [List.length_append]
  omega

set_option maxRecDepth 20000 in
set_option maxHeartbeats 8000000 in
theorem note_w1 {w0 w : World} {t : Nat} {l : List Int} (epoch vers next client : Int) (e : En) (life seq err : Int) (op : Opn) (h : Wg w0 w t l) (hk : noteOk ⟨1, epoch, vers, next, client, e, life, seq, err, op⟩) (hl : l.length ≤ 100) :
    Calls Try.prog 68 #[.pointer (some ⟨t, 0, none⟩), .agg #[.int .i64 1, .int .i64 epoch, .int .i64 vers, .int .i64 next, .int .i64 client, .int .i64 e.d, .string e.nm, .bool e.neg, .int .i64 e.id, .int .i64 e.kind, .int .i64 e.mode, .string e.tg, .int .i64 life, .int .i64 seq, .int .i64 err, .int .i64 op.kind, .int .i64 op.dir, .string op.nm, .int .i64 op.dst, .string op.new, .int .i64 op.mode, .string op.tg]] w fun x w' => WrR w0 w t ((l ++ [1]) ++ ntB ⟨1, epoch, vers, next, client, e, life, seq, err, op⟩) x w' := by
  obtain ⟨W, hW⟩ : ∃ W, w.alloc (.cells #[.int .i64 1, .int .i64 epoch, .int .i64 vers, .int .i64 next, .int .i64 client, .int .i64 e.d, .string e.nm, .bool e.neg, .int .i64 e.id, .int .i64 e.kind, .int .i64 e.mode, .string e.tg, .int .i64 life, .int .i64 seq, .int .i64 err, .int .i64 op.kind, .int .i64 op.dir, .string op.nm, .int .i64 op.dst, .string op.new, .int .i64 op.mode, .string op.tg] 81) = W := ⟨_, rfl⟩
  have hb := boxed h hW
  have HB : Hid (Wg w0 W t l ∧ W.heap[w.heap.size]? = some (.cells #[.int .i64 1, .int .i64 epoch, .int .i64 vers, .int .i64 next, .int .i64 client, .int .i64 e.d, .string e.nm, .bool e.neg, .int .i64 e.id, .int .i64 e.kind, .int .i64 e.mode, .string e.tg, .int .i64 life, .int .i64 seq, .int .i64 err, .int .i64 op.kind, .int .i64 op.dir, .string op.nm, .int .i64 op.dst, .string op.new, .int .i64 op.mode, .string op.tg] 81 (0, 0)) ∧ w.heap.size ≠ t ∧ Kp t w W) := hb
  have x0 := cell_of hb.2.1 0
  simp at x0
  have hl1 : (l ++ [(1 : Int)]).length ≤ 101 := by rw [List.length_append]; simp; omega
  obtain ⟨L1, hL1⟩ : ∃ L, l ++ [(1 : Int)] = L := ⟨_, rfl⟩
  have HO : Hid (Calls Try.prog 103 #[.pointer (some ⟨t, 0, none⟩), .int .i64 1] W fun x w' => x = .returned (.tuple #[]) ∧ Hid (Wrote w0 W w' t L1)) := by rw [← hL1]; exact hb.1.wrote.octet 1 (by omega) (by omega)
  rw [hL1] at hl1 ⊢
  clear hL1 hb h hl
  have HN : Hid (∀ W2, Wg w0 W2 t L1 → Calls Try.prog 104 #[.pointer (some ⟨t, 0, none⟩), .slice (some ⟨W2.heap.size, 0, none⟩) 1 1] (W2.alloc (.cells #[.int .i64 epoch] 3)) fun x w' => WrR w0 W2 t (L1 ++ numI epoch) x w') := fun W2 h2 => (Wg.wrote h2).num epoch hk.2.1.epoch (by omega)
  clear hk hl1
  go_enter Try.func68, Try.ntmps68
  go_upto_region 1 with fail
  clear hW
  go_upto_region 2 with (go_at_call 103; refine HO.out.mono ?_; rintro x w1 ⟨rfl, h1⟩)
  have z0 := h1.out.2.cell HB.out.2.1 (by decide) HB.out.2.2.1 0
  simp at z0
  clear x0 HO
  have y1 := h1.out.2.cell HB.out.2.1 (by decide) HB.out.2.2.1 1
  simp at y1
  go_wp2_with (go_at_call 104; refine (HN.out _ h1.out.1).mono ?_; rintro x w3 ⟨rfl, h3⟩)
  go_end0
  exact ⟨rfl, h3.out.1, (HB.out.2.2.2.trans h1.out.2).trans h3.out.2⟩

set_option maxRecDepth 20000 in
set_option maxHeartbeats 8000000 in
theorem note_w2 {w0 w : World} {t : Nat} {l : List Int} (epoch vers next client : Int) (e : En) (life seq err : Int) (op : Opn) (h : Wg w0 w t l) (hk : noteOk ⟨2, epoch, vers, next, client, e, life, seq, err, op⟩) (hl : l.length ≤ 100) :
    Calls Try.prog 68 #[.pointer (some ⟨t, 0, none⟩), .agg #[.int .i64 2, .int .i64 epoch, .int .i64 vers, .int .i64 next, .int .i64 client, .int .i64 e.d, .string e.nm, .bool e.neg, .int .i64 e.id, .int .i64 e.kind, .int .i64 e.mode, .string e.tg, .int .i64 life, .int .i64 seq, .int .i64 err, .int .i64 op.kind, .int .i64 op.dir, .string op.nm, .int .i64 op.dst, .string op.new, .int .i64 op.mode, .string op.tg]] w fun x w' => WrR w0 w t ((l ++ [2]) ++ ntB ⟨2, epoch, vers, next, client, e, life, seq, err, op⟩) x w' := by
  obtain ⟨W, hW⟩ : ∃ W, w.alloc (.cells #[.int .i64 2, .int .i64 epoch, .int .i64 vers, .int .i64 next, .int .i64 client, .int .i64 e.d, .string e.nm, .bool e.neg, .int .i64 e.id, .int .i64 e.kind, .int .i64 e.mode, .string e.tg, .int .i64 life, .int .i64 seq, .int .i64 err, .int .i64 op.kind, .int .i64 op.dir, .string op.nm, .int .i64 op.dst, .string op.new, .int .i64 op.mode, .string op.tg] 81) = W := ⟨_, rfl⟩
  have hb := boxed h hW
  have HB : Hid (Wg w0 W t l ∧ W.heap[w.heap.size]? = some (.cells #[.int .i64 2, .int .i64 epoch, .int .i64 vers, .int .i64 next, .int .i64 client, .int .i64 e.d, .string e.nm, .bool e.neg, .int .i64 e.id, .int .i64 e.kind, .int .i64 e.mode, .string e.tg, .int .i64 life, .int .i64 seq, .int .i64 err, .int .i64 op.kind, .int .i64 op.dir, .string op.nm, .int .i64 op.dst, .string op.new, .int .i64 op.mode, .string op.tg] 81 (0, 0)) ∧ w.heap.size ≠ t ∧ Kp t w W) := hb
  have x0 := cell_of hb.2.1 0
  simp at x0
  have hl1 : (l ++ [(2 : Int)]).length ≤ 101 := by rw [List.length_append]; simp; omega
  obtain ⟨L1, hL1⟩ : ∃ L, l ++ [(2 : Int)] = L := ⟨_, rfl⟩
  have HO : Hid (Calls Try.prog 103 #[.pointer (some ⟨t, 0, none⟩), .int .i64 2] W fun x w' => x = .returned (.tuple #[]) ∧ Hid (Wrote w0 W w' t L1)) := by rw [← hL1]; exact hb.1.wrote.octet 2 (by omega) (by omega)
  rw [hL1] at hl1 ⊢
  clear hL1 hb h hl
  have HN : Hid (∀ W2, Wg w0 W2 t L1 → Calls Try.prog 104 #[.pointer (some ⟨t, 0, none⟩), .slice (some ⟨W2.heap.size, 0, none⟩) 3 3] (W2.alloc (.cells #[.int .i64 epoch, .int .i64 vers, .int .i64 next] 3)) fun x w' => WrR w0 W2 t (L1 ++ (numI epoch ++ (numI vers ++ numI next))) x w') := fun W2 h2 => by
    rw [← nums3]
    exact (Wg.wrote h2).nums [epoch, vers, next] (all3 hk.2.1.epoch hk.2.1.vers hk.2.1.next) (by simp; omega)
  clear hk hl1
  go_enter Try.func68, Try.ntmps68
  go_upto_region 1 with fail
  clear hW
  go_upto_region 2 with (go_at_call 103; refine HO.out.mono ?_; rintro x w1 ⟨rfl, h1⟩)
  have z0 := h1.out.2.cell HB.out.2.1 (by decide) HB.out.2.2.1 0
  simp at z0
  clear x0 HO
  have y1 := h1.out.2.cell HB.out.2.1 (by decide) HB.out.2.2.1 1
  have y2 := h1.out.2.cell HB.out.2.1 (by decide) HB.out.2.2.1 2
  have y3 := h1.out.2.cell HB.out.2.1 (by decide) HB.out.2.2.1 3
  simp at y1 y2 y3
  go_wp2_with (go_at_call 104; refine (HN.out _ h1.out.1).mono ?_; rintro x w3 ⟨rfl, h3⟩)
  go_end0
  exact ⟨rfl, h3.out.1, (HB.out.2.2.2.trans h1.out.2).trans h3.out.2⟩

set_option maxRecDepth 20000 in
set_option maxHeartbeats 8000000 in
theorem note_w3 {w0 w : World} {t : Nat} {l : List Int} (epoch vers next client : Int) (e : En) (life seq err : Int) (op : Opn) (h : Wg w0 w t l) (hk : noteOk ⟨3, epoch, vers, next, client, e, life, seq, err, op⟩) (hl : l.length ≤ 100) :
    Calls Try.prog 68 #[.pointer (some ⟨t, 0, none⟩), .agg #[.int .i64 3, .int .i64 epoch, .int .i64 vers, .int .i64 next, .int .i64 client, .int .i64 e.d, .string e.nm, .bool e.neg, .int .i64 e.id, .int .i64 e.kind, .int .i64 e.mode, .string e.tg, .int .i64 life, .int .i64 seq, .int .i64 err, .int .i64 op.kind, .int .i64 op.dir, .string op.nm, .int .i64 op.dst, .string op.new, .int .i64 op.mode, .string op.tg]] w fun x w' => WrR w0 w t ((l ++ [3]) ++ ntB ⟨3, epoch, vers, next, client, e, life, seq, err, op⟩) x w' := by
  obtain ⟨W, hW⟩ : ∃ W, w.alloc (.cells #[.int .i64 3, .int .i64 epoch, .int .i64 vers, .int .i64 next, .int .i64 client, .int .i64 e.d, .string e.nm, .bool e.neg, .int .i64 e.id, .int .i64 e.kind, .int .i64 e.mode, .string e.tg, .int .i64 life, .int .i64 seq, .int .i64 err, .int .i64 op.kind, .int .i64 op.dir, .string op.nm, .int .i64 op.dst, .string op.new, .int .i64 op.mode, .string op.tg] 81) = W := ⟨_, rfl⟩
  have hb := boxed h hW
  have HB : Hid (Wg w0 W t l ∧ W.heap[w.heap.size]? = some (.cells #[.int .i64 3, .int .i64 epoch, .int .i64 vers, .int .i64 next, .int .i64 client, .int .i64 e.d, .string e.nm, .bool e.neg, .int .i64 e.id, .int .i64 e.kind, .int .i64 e.mode, .string e.tg, .int .i64 life, .int .i64 seq, .int .i64 err, .int .i64 op.kind, .int .i64 op.dir, .string op.nm, .int .i64 op.dst, .string op.new, .int .i64 op.mode, .string op.tg] 81 (0, 0)) ∧ w.heap.size ≠ t ∧ Kp t w W) := hb
  have x0 := cell_of hb.2.1 0
  simp at x0
  have hl1 : (l ++ [(3 : Int)]).length ≤ 101 := by rw [List.length_append]; simp; omega
  obtain ⟨L1, hL1⟩ : ∃ L, l ++ [(3 : Int)] = L := ⟨_, rfl⟩
  have HO : Hid (Calls Try.prog 103 #[.pointer (some ⟨t, 0, none⟩), .int .i64 3] W fun x w' => x = .returned (.tuple #[]) ∧ Hid (Wrote w0 W w' t L1)) := by rw [← hL1]; exact hb.1.wrote.octet 3 (by omega) (by omega)
  rw [hL1] at hl1 ⊢
  clear hL1 hb h hl
  have HN : Hid (∀ W2, Wg w0 W2 t L1 → Calls Try.prog 109 #[.pointer (some ⟨t, 0, none⟩), .agg #[.int .i64 e.d, .string e.nm, .bool e.neg, .int .i64 e.id, .int .i64 e.kind, .int .i64 e.mode, .string e.tg]] W2 fun x w' => WrR w0 W2 t (L1 ++ entB e) x w') := fun W2 h2 => entry_w h2 e (by have := hk.2.2; simp at this; exact this.2) (by omega)
  clear hk hl1
  go_enter Try.func68, Try.ntmps68
  go_upto_region 1 with fail
  clear hW
  go_upto_region 2 with (go_at_call 103; refine HO.out.mono ?_; rintro x w1 ⟨rfl, h1⟩)
  have z0 := h1.out.2.cell HB.out.2.1 (by decide) HB.out.2.2.1 0
  simp at z0
  clear x0 HO
  have y5 := h1.out.2.cell HB.out.2.1 (by decide) HB.out.2.2.1 5
  have y6 := h1.out.2.cell HB.out.2.1 (by decide) HB.out.2.2.1 6
  have y7 := h1.out.2.cell HB.out.2.1 (by decide) HB.out.2.2.1 7
  have y8 := h1.out.2.cell HB.out.2.1 (by decide) HB.out.2.2.1 8
  have y9 := h1.out.2.cell HB.out.2.1 (by decide) HB.out.2.2.1 9
  have y10 := h1.out.2.cell HB.out.2.1 (by decide) HB.out.2.2.1 10
  have y11 := h1.out.2.cell HB.out.2.1 (by decide) HB.out.2.2.1 11
  simp at y5 y6 y7 y8 y9 y10 y11
  go_wp2_with (go_at_call 109; refine (HN.out _ h1.out.1).mono ?_; rintro x w3 ⟨rfl, h3⟩)
  go_end0
  exact ⟨rfl, h3.out.1, (HB.out.2.2.2.trans h1.out.2).trans h3.out.2⟩

set_option maxRecDepth 20000 in
set_option maxHeartbeats 8000000 in
theorem note_w4 {w0 w : World} {t : Nat} {l : List Int} (epoch vers next client : Int) (e : En) (life seq err : Int) (op : Opn) (h : Wg w0 w t l) (hk : noteOk ⟨4, epoch, vers, next, client, e, life, seq, err, op⟩) (hl : l.length ≤ 100) :
    Calls Try.prog 68 #[.pointer (some ⟨t, 0, none⟩), .agg #[.int .i64 4, .int .i64 epoch, .int .i64 vers, .int .i64 next, .int .i64 client, .int .i64 e.d, .string e.nm, .bool e.neg, .int .i64 e.id, .int .i64 e.kind, .int .i64 e.mode, .string e.tg, .int .i64 life, .int .i64 seq, .int .i64 err, .int .i64 op.kind, .int .i64 op.dir, .string op.nm, .int .i64 op.dst, .string op.new, .int .i64 op.mode, .string op.tg]] w fun x w' => WrR w0 w t ((l ++ [4]) ++ ntB ⟨4, epoch, vers, next, client, e, life, seq, err, op⟩) x w' := by
  obtain ⟨W, hW⟩ : ∃ W, w.alloc (.cells #[.int .i64 4, .int .i64 epoch, .int .i64 vers, .int .i64 next, .int .i64 client, .int .i64 e.d, .string e.nm, .bool e.neg, .int .i64 e.id, .int .i64 e.kind, .int .i64 e.mode, .string e.tg, .int .i64 life, .int .i64 seq, .int .i64 err, .int .i64 op.kind, .int .i64 op.dir, .string op.nm, .int .i64 op.dst, .string op.new, .int .i64 op.mode, .string op.tg] 81) = W := ⟨_, rfl⟩
  have hb := boxed h hW
  have HB : Hid (Wg w0 W t l ∧ W.heap[w.heap.size]? = some (.cells #[.int .i64 4, .int .i64 epoch, .int .i64 vers, .int .i64 next, .int .i64 client, .int .i64 e.d, .string e.nm, .bool e.neg, .int .i64 e.id, .int .i64 e.kind, .int .i64 e.mode, .string e.tg, .int .i64 life, .int .i64 seq, .int .i64 err, .int .i64 op.kind, .int .i64 op.dir, .string op.nm, .int .i64 op.dst, .string op.new, .int .i64 op.mode, .string op.tg] 81 (0, 0)) ∧ w.heap.size ≠ t ∧ Kp t w W) := hb
  have x0 := cell_of hb.2.1 0
  simp at x0
  have hl1 : (l ++ [(4 : Int)]).length ≤ 101 := by rw [List.length_append]; simp; omega
  obtain ⟨L1, hL1⟩ : ∃ L, l ++ [(4 : Int)] = L := ⟨_, rfl⟩
  have HO : Hid (Calls Try.prog 103 #[.pointer (some ⟨t, 0, none⟩), .int .i64 4] W fun x w' => x = .returned (.tuple #[]) ∧ Hid (Wrote w0 W w' t L1)) := by rw [← hL1]; exact hb.1.wrote.octet 4 (by omega) (by omega)
  rw [hL1] at hl1 ⊢
  clear hL1 hb h hl
  have HN : Hid (∀ W2, Wg w0 W2 t L1 → Calls Try.prog 132 #[.pointer (some ⟨t, 0, none⟩), .agg #[.int .i64 4, .int .i64 epoch, .int .i64 vers, .int .i64 next, .int .i64 client, .int .i64 e.d, .string e.nm, .bool e.neg, .int .i64 e.id, .int .i64 e.kind, .int .i64 e.mode, .string e.tg, .int .i64 life, .int .i64 seq, .int .i64 err, .int .i64 op.kind, .int .i64 op.dir, .string op.nm, .int .i64 op.dst, .string op.new, .int .i64 op.mode, .string op.tg]] W2 fun x w' => WrR w0 W2 t (L1 ++ seenB ⟨4, epoch, vers, next, client, e, life, seq, err, op⟩) x w') := fun W2 h2 => seen_w ⟨4, epoch, vers, next, client, e, life, seq, err, op⟩ h2 hk.2.1 (by omega)
  clear hk hl1
  go_enter Try.func68, Try.ntmps68
  go_upto_region 1 with fail
  clear hW
  go_upto_region 2 with (go_at_call 103; refine HO.out.mono ?_; rintro x w1 ⟨rfl, h1⟩)
  have z0 := h1.out.2.cell HB.out.2.1 (by decide) HB.out.2.2.1 0
  simp at z0
  clear x0 HO
  have nl := noteS_of (h1.out.2.heap HB.out.2.1 (by decide) HB.out.2.2.1) rfl
  go_wp2_with (go_at_call 132; refine (HN.out _ h1.out.1).mono ?_; rintro x w3 ⟨rfl, h3⟩)
  go_end0
  exact ⟨rfl, h3.out.1, (HB.out.2.2.2.trans h1.out.2).trans h3.out.2⟩

set_option maxRecDepth 20000 in
set_option maxHeartbeats 8000000 in
theorem note_w5 {w0 w : World} {t : Nat} {l : List Int} (epoch vers next client : Int) (e : En) (life seq err : Int) (op : Opn) (h : Wg w0 w t l) (hk : noteOk ⟨5, epoch, vers, next, client, e, life, seq, err, op⟩) (hl : l.length ≤ 100) :
    Calls Try.prog 68 #[.pointer (some ⟨t, 0, none⟩), .agg #[.int .i64 5, .int .i64 epoch, .int .i64 vers, .int .i64 next, .int .i64 client, .int .i64 e.d, .string e.nm, .bool e.neg, .int .i64 e.id, .int .i64 e.kind, .int .i64 e.mode, .string e.tg, .int .i64 life, .int .i64 seq, .int .i64 err, .int .i64 op.kind, .int .i64 op.dir, .string op.nm, .int .i64 op.dst, .string op.new, .int .i64 op.mode, .string op.tg]] w fun x w' => WrR w0 w t ((l ++ [5]) ++ ntB ⟨5, epoch, vers, next, client, e, life, seq, err, op⟩) x w' := by
  obtain ⟨W, hW⟩ : ∃ W, w.alloc (.cells #[.int .i64 5, .int .i64 epoch, .int .i64 vers, .int .i64 next, .int .i64 client, .int .i64 e.d, .string e.nm, .bool e.neg, .int .i64 e.id, .int .i64 e.kind, .int .i64 e.mode, .string e.tg, .int .i64 life, .int .i64 seq, .int .i64 err, .int .i64 op.kind, .int .i64 op.dir, .string op.nm, .int .i64 op.dst, .string op.new, .int .i64 op.mode, .string op.tg] 81) = W := ⟨_, rfl⟩
  have hb := boxed h hW
  have HB : Hid (Wg w0 W t l ∧ W.heap[w.heap.size]? = some (.cells #[.int .i64 5, .int .i64 epoch, .int .i64 vers, .int .i64 next, .int .i64 client, .int .i64 e.d, .string e.nm, .bool e.neg, .int .i64 e.id, .int .i64 e.kind, .int .i64 e.mode, .string e.tg, .int .i64 life, .int .i64 seq, .int .i64 err, .int .i64 op.kind, .int .i64 op.dir, .string op.nm, .int .i64 op.dst, .string op.new, .int .i64 op.mode, .string op.tg] 81 (0, 0)) ∧ w.heap.size ≠ t ∧ Kp t w W) := hb
  have x0 := cell_of hb.2.1 0
  simp at x0
  have hl1 : (l ++ [(5 : Int)]).length ≤ 101 := by rw [List.length_append]; simp; omega
  obtain ⟨L1, hL1⟩ : ∃ L, l ++ [(5 : Int)] = L := ⟨_, rfl⟩
  have HO : Hid (Calls Try.prog 103 #[.pointer (some ⟨t, 0, none⟩), .int .i64 5] W fun x w' => x = .returned (.tuple #[]) ∧ Hid (Wrote w0 W w' t L1)) := by rw [← hL1]; exact hb.1.wrote.octet 5 (by omega) (by omega)
  rw [hL1] at hl1 ⊢
  clear hL1 hb h hl
  have HN : Hid (∀ W2, Wg w0 W2 t L1 → Calls Try.prog 132 #[.pointer (some ⟨t, 0, none⟩), .agg #[.int .i64 5, .int .i64 epoch, .int .i64 vers, .int .i64 next, .int .i64 client, .int .i64 e.d, .string e.nm, .bool e.neg, .int .i64 e.id, .int .i64 e.kind, .int .i64 e.mode, .string e.tg, .int .i64 life, .int .i64 seq, .int .i64 err, .int .i64 op.kind, .int .i64 op.dir, .string op.nm, .int .i64 op.dst, .string op.new, .int .i64 op.mode, .string op.tg]] W2 fun x w' => WrR w0 W2 t (L1 ++ seenB ⟨5, epoch, vers, next, client, e, life, seq, err, op⟩) x w') := fun W2 h2 => seen_w ⟨5, epoch, vers, next, client, e, life, seq, err, op⟩ h2 hk.2.1 (by omega)
  have hsl := seenB_len hk.2.1
  have hl2 : (L1 ++ seenB ⟨5, epoch, vers, next, client, e, life, seq, err, op⟩).length ≤ 600 := by rw [List.length_append]; omega
  obtain ⟨L2, hL2⟩ : ∃ L, L1 ++ seenB ⟨5, epoch, vers, next, client, e, life, seq, err, op⟩ = L := ⟨_, rfl⟩
  have HE : Hid (L1 ++ ntB ⟨5, epoch, vers, next, client, e, life, seq, err, op⟩ = L2 ++ opB op) := by rw [← hL2, List.append_assoc]; rfl
  rw [hL2] at HN hl2
  have HP : Hid (∀ W2, Wg w0 W2 t L2 → Calls Try.prog 107 #[.pointer (some ⟨t, 0, none⟩), .agg #[.int .i64 op.kind, .int .i64 op.dir, .string op.nm, .int .i64 op.dst, .string op.new, .int .i64 op.mode, .string op.tg]] W2 fun x w' => WrR w0 W2 t (L2 ++ opB op) x w') := fun W2 h2 => op_w h2 op (by have := hk.2.2; simpa using this) (by omega)
  clear hsl hl2 hL2
  clear hk hl1
  go_enter Try.func68, Try.ntmps68
  go_upto_region 1 with fail
  clear hW
  go_upto_region 2 with (go_at_call 103; refine HO.out.mono ?_; rintro x w1 ⟨rfl, h1⟩)
  have z0 := h1.out.2.cell HB.out.2.1 (by decide) HB.out.2.2.1 0
  simp at z0
  clear x0 HO
  have nl := noteS_of (h1.out.2.heap HB.out.2.1 (by decide) HB.out.2.2.1) rfl
  go_wp2_with (first
    | (go_at_call 107; refine (HP.out _ h2.out.1).mono ?_; rintro x w3 ⟨rfl, h3⟩)
    | (go_at_call 132; refine (HN.out _ h1.out.1).mono ?_; rintro x w2 ⟨rfl, h2⟩; have u15 := (h1.out.2.trans h2.out.2).cell HB.out.2.1 (by decide) HB.out.2.2.1 15; have u16 := (h1.out.2.trans h2.out.2).cell HB.out.2.1 (by decide) HB.out.2.2.1 16; have u17 := (h1.out.2.trans h2.out.2).cell HB.out.2.1 (by decide) HB.out.2.2.1 17; have u18 := (h1.out.2.trans h2.out.2).cell HB.out.2.1 (by decide) HB.out.2.2.1 18; have u19 := (h1.out.2.trans h2.out.2).cell HB.out.2.1 (by decide) HB.out.2.2.1 19; have u20 := (h1.out.2.trans h2.out.2).cell HB.out.2.1 (by decide) HB.out.2.2.1 20; have u21 := (h1.out.2.trans h2.out.2).cell HB.out.2.1 (by decide) HB.out.2.2.1 21; simp at u15 u16 u17 u18 u19 u20 u21))
  go_end0
  exact ⟨rfl, by rw [HE.out]; exact ⟨h3.out.1, ((HB.out.2.2.2.trans h1.out.2).trans h2.out.2).trans h3.out.2⟩⟩

theorem note_w {w0 w : World} {t : Nat} {l : List Int} (n : Nt) (h : Wg w0 w t l) (hk : noteOk n) (hl : l.length ≤ 100) :
    Calls Try.prog 68 #[.pointer (some ⟨t, 0, none⟩), .agg n.arr] w fun x w' => WrR w0 w t (l ++ noteB n) x w' := by
  have hs : l ++ noteB n = (l ++ [n.kind]) ++ ntB n := by unfold noteB; simp
  rw [hs]
  have hc := hk.2.2
  obtain ⟨kind, epoch, vers, next, client, e, life, seq, err, op⟩ := n
  simp only [] at hc
  rcases hc with rfl | rfl | rfl | ⟨rfl, _⟩ | ⟨rfl, _⟩
  · exact note_w1 epoch vers next client e life seq err op h hk hl
  · exact note_w2 epoch vers next client e life seq err op h hk hl
  · exact note_w4 epoch vers next client e life seq err op h hk hl
  · exact note_w3 epoch vers next client e life seq err op h hk hl
  · exact note_w5 epoch vers next client e life seq err op h hk hl
end Go.Proofs.Ytihjhaafmdobmaa
