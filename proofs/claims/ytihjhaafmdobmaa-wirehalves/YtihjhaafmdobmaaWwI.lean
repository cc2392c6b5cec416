/- The writer in memory: message. -/
import Derived.Test.YtihjhaafmdobmaaWwH
import Derived.Test.YtihjhaafmdobmaaRfA
namespace Go.Proofs.Ytihjhaafmdobmaa
open Go.RowKit Go.Lib

/-- a message in memory -/
structure Ms where
  kind : Int
  client : Int
  life : Int
  seq : Int
  re : Nat
  im : Nat
  vers : Int
  err : Int
  op : Opn
  ve : Value
  vk : Value
  es : List En
  ks : List Ky
def Ms.arr (m : Ms) : Array Value := #[.int .i64 m.kind, .int .i64 m.client, .int .i64 m.life, .int .i64 m.seq, .complex .f64 m.re m.im, .int .i64 m.vers, .int .i64 m.err, .int .i64 m.op.kind, .int .i64 m.op.dir, .string m.op.nm, .int .i64 m.op.dst, .string m.op.new, .int .i64 m.op.mode, .string m.op.tg, m.ve, m.vk]
/-- what it says, the mark by its parts -/
def Ms.mg (m : Ms) : Mg := ⟨m.kind, m.client, m.life, m.seq, part m.re, part m.im, m.vers, m.err, m.op, m.es, m.ks⟩
/-- its lists -/
structure Rows (w : World) (m : Ms) : Prop where
  es : Row7 w 0 m.ve m.es
  ks : RowK w 0 m.vk m.ks
theorem Rows.kp {t : Nat} {w w' : World} {m : Ms} (h : Rows w m) (k : Kp t w w') (ht : Tag w t 109) : Rows w' m := ⟨h.es.kp k ht, h.ks.kp k ht⟩
theorem Wrote.drew {w0 w wr : World} {t : Nat} {l : List Int} (h : Wrote w0 w wr t l) : Wrote w0 w wr.drew t l := by
  obtain ⟨⟨v, hv⟩, hk⟩ := h
  exact ⟨⟨v, hv.below (Below.refl _ _).drew⟩, hk.trans (Kp.of (Below.refl _ _).drew)⟩
theorem Wrote.numsD {w0 w wr : World} {t : Nat} {l : List Int} (h : Wrote w0 w wr t l) (xs : List Int) (hx : ∀ x ∈ xs, numOk x) (hl : l.length + xs.length * 6 ≤ 1000000) :
    Calls Try.prog 104 #[.pointer (some ⟨t, 0, none⟩), .slice (some ⟨wr.heap.size, 0, none⟩) xs.length xs.length] (wr.alloc (.cells (xs.map (Value.int .i64)).toArray 3)).drew fun e w' => WrR w0 w t (l ++ numsB xs) e w' := by
  have h1 := (h.alloc (.cells (xs.map (Value.int .i64)).toArray 3)).drew
  obtain ⟨⟨v, hv⟩, hk⟩ := h1
  have htl : t < wr.heap.size := by obtain ⟨⟨v, hv⟩, _⟩ := h; exact hv.tt.lt
  have hh : (wr.alloc (.cells (xs.map (Value.int .i64)).toArray 3)).drew.heap[wr.heap.size]? = some (.cells (xs.map (Value.int .i64)).toArray 3 (0, 0)) := heap_new _ _
  have hr : RowN (wr.alloc (.cells (xs.map (Value.int .i64)).toArray 3)).drew t (some ⟨wr.heap.size, 0, none⟩) xs := by
    refine ⟨wr.heap.size, 3, rfl, ⟨_, _, hh⟩, by decide, by omega, fun i x hx => ?_⟩
    rw [cell_of hh]
    simp [hx]
  exact (numbers_w t _ xs.length xs l v w0 _ hv hr hx hl).mono fun e w' ⟨he, hw⟩ => ⟨he, hw.1, hk.trans hw.2⟩
def headB (m : Mg) : List Int := numsB [m.client, m.life, m.seq, m.ep, m.nb, m.vers, m.err]
theorem msg_step (l : List Int) (m : Mg) : ((l ++ [m.kind]) ++ headB m) ++ bodyB m = l ++ msgB m := by
  unfold msgB headB numsB
  simp
theorem headB_len {m : Mg} (h : headOk m) : (headB m).length ≤ 42 := by
  unfold headB numsB
  have h1 := numI_len h.client
  have h2 := numI_len h.life
  have h3 := numI_len h.seq
  have h4 := numI_len h.ep
  have h5 := numI_len h.nb
  have h6 := numI_len h.vers
  have h7 := numI_len h.err
  simp only [List.flatMap_cons, List.flatMap_nil, List.length_append, List.length_nil]
  omega
theorem headOk.all {m : Mg} (h : headOk m) : ∀ x ∈ [m.client, m.life, m.seq, m.ep, m.nb, m.vers, m.err], numOk x := by
  intro x hx
  simp only [List.mem_cons, List.not_mem_nil, or_false] at hx
  rcases hx with rfl | rfl | rfl | rfl | rfl | rfl | rfl
  · exact h.client
  · exact h.life
  · exact h.seq
  · exact h.ep
  · exact h.nb
  · exact h.vers
  · exact h.err
set_option maxRecDepth 20000 in
set_option maxHeartbeats 4000000 in
theorem message_w {w0 w : World} {t : Nat} {l : List Int} (m : Ms) (h : Wg w0 w t l) (hr : Rows w m) (hg : goodB m.re m.im = true) (hk : msgOk m.mg) (hl : l.length ≤ 100) :
    Calls Try.prog 54 #[.pointer (some ⟨t, 0, none⟩), .agg m.arr] w fun e w' => WrR w0 w t (l ++ msgB m.mg) e w' := by
  rw [← msg_step]
  have HM : Hid (msgOk m.mg ∧ (l ++ [m.mg.kind] ++ headB m.mg).length ≤ 200) := ⟨hk, by have := headB_len hk.1; rw [List.length_append, List.length_append]; simp; omega⟩
  have hbody := hk.2
  obtain ⟨kind, client, life, seq, re, im, vers, err, op, ve, vk, es, ks⟩ := m
  unfold Ms.arr
  simp only []
  obtain ⟨W, hW⟩ : ∃ W, w.alloc (.cells #[.int .i64 kind, .int .i64 client, .int .i64 life, .int .i64 seq, .complex .f64 re im, .int .i64 vers, .int .i64 err, .int .i64 op.kind, .int .i64 op.dir, .string op.nm, .int .i64 op.dst, .string op.new, .int .i64 op.mode, .string op.tg, ve, vk] 58) = W := ⟨_, rfl⟩
  have hb := boxed h hW
  have HB : Hid (Wg w0 W t l ∧ W.heap[w.heap.size]? = some (.cells #[.int .i64 kind, .int .i64 client, .int .i64 life, .int .i64 seq, .complex .f64 re im, .int .i64 vers, .int .i64 err, .int .i64 op.kind, .int .i64 op.dir, .string op.nm, .int .i64 op.dst, .string op.new, .int .i64 op.mode, .string op.tg, ve, vk] 58 (0, 0)) ∧ w.heap.size ≠ t ∧ Kp t w W) := hb
  have HR : Hid (Rows W ⟨kind, client, life, seq, re, im, vers, err, op, ve, vk, es, ks⟩) := hr.kp hb.2.2.2 h.tt
  have x0 := cell_of hb.2.1 0
  simp at x0
  have hk0 : 0 ≤ kind ∧ kind < 256 := by have := hk.2; unfold bodyOk at this; simp only [Ms.mg] at this; omega
  obtain ⟨L1, hL1⟩ : ∃ L, l ++ [kind] = L := ⟨_, rfl⟩
  have HO : Hid (Calls Try.prog 103 #[.pointer (some ⟨t, 0, none⟩), .int .i64 kind] W fun e w' => e = .returned (.tuple #[]) ∧ Hid (Wrote w0 W w' t L1)) := by rw [← hL1]; exact hb.1.wrote.octet kind (by omega) hk0
  obtain ⟨L2, hL2⟩ : ∃ L, L1 ++ headB (Ms.mg ⟨kind, client, life, seq, re, im, vers, err, op, ve, vk, es, ks⟩) = L := ⟨_, rfl⟩
  have HNu : Hid (∀ W2, Wrote w0 W W2 t L1 → Calls Try.prog 104 #[.pointer (some ⟨t, 0, none⟩), .slice (some ⟨W2.heap.size, 0, none⟩) 7 7] (W2.alloc (.cells #[.int .i64 client, .int .i64 life, .int .i64 seq, .int .i64 (part re), .int .i64 (part im), .int .i64 vers, .int .i64 err] 3)).drew fun e w' => WrR w0 W t L2 e w') := fun W2 h2 => by
    rw [← hL2]
    exact h2.numsD _ hk.1.all (by rw [← hL1, List.length_append]; simp; omega)
  have HEp : Hid (∀ W, Calls Try.prog 105 #[.complex .f64 re im] W fun e w' => e = .returned (.int .i64 (part re)) ∧ W = w') := fun W => (epoch_any re im W).mono fun _ _ hh => ⟨by rw [hh.1, if_pos hg], hh.2.symm⟩
  have HNb : Hid (∀ W, Calls Try.prog 106 #[.complex .f64 re im] W fun e w' => e = .returned (.int .i64 (part im)) ∧ W = w') := fun W => (number_any re im W).mono fun _ _ hh => ⟨by rw [hh.1, if_pos hg], hh.2.symm⟩
  rw [show (Ms.mg ⟨kind, client, life, seq, re, im, vers, err, op, ve, vk, es, ks⟩).kind = kind from rfl, hL1, hL2] at HM ⊢
  clear hb h hr hk hg hL1 hL2
  go_enter Try.func54, Try.ntmps54
  go_upto_region 1 with fail
  clear hW
  go_upto_region 2 with (go_at_call 103; refine HO.out.mono ?_; rintro e w1 ⟨rfl, h1⟩)
  have y0 := h1.out.2.cell HB.out.2.1 (by decide) HB.out.2.2.1 0
  have y1 := h1.out.2.cell HB.out.2.1 (by decide) HB.out.2.2.1 1
  have y2 := h1.out.2.cell HB.out.2.1 (by decide) HB.out.2.2.1 2
  have y3 := h1.out.2.cell HB.out.2.1 (by decide) HB.out.2.2.1 3
  have y4 := h1.out.2.cell HB.out.2.1 (by decide) HB.out.2.2.1 4
  have y5 := h1.out.2.cell HB.out.2.1 (by decide) HB.out.2.2.1 5
  have y6 := h1.out.2.cell HB.out.2.1 (by decide) HB.out.2.2.1 6
  simp at y0 y1 y2 y3 y4 y5 y6
  clear x0 HO
  have HKp : Hid (∀ w', Kp t W w' → w'.cell? ⟨w.heap.size, 1, none⟩ = some (.int .i64 client) ∧ w'.cell? ⟨w.heap.size, 2, none⟩ = some (.int .i64 life) ∧ w'.cell? ⟨w.heap.size, 3, none⟩ = some (.int .i64 seq) ∧ w'.cell? ⟨w.heap.size, 4, none⟩ = some (.complex .f64 re im) ∧ w'.cell? ⟨w.heap.size, 5, none⟩ = some (.int .i64 vers) ∧ w'.cell? ⟨w.heap.size, 6, none⟩ = some (.int .i64 err)) := fun w' hk => by
    have z1 := hk.cell HB.out.2.1 (by decide) HB.out.2.2.1 1
    have z2 := hk.cell HB.out.2.1 (by decide) HB.out.2.2.1 2
    have z3 := hk.cell HB.out.2.1 (by decide) HB.out.2.2.1 3
    have z4 := hk.cell HB.out.2.1 (by decide) HB.out.2.2.1 4
    have z5 := hk.cell HB.out.2.1 (by decide) HB.out.2.2.1 5
    have z6 := hk.cell HB.out.2.1 (by decide) HB.out.2.2.1 6
    simp at z1 z2 z3 z4 z5 z6
    exact ⟨z1, z2, z3, z4, z5, z6⟩
  have k0 := HKp.out _ h1.out.drew.2
  have kA := HKp.out _ (h1.out.alloc (.cells #[.int .i64 client, .int .i64 life, .int .i64 seq, .int .i64 (part re), .int .i64 (part im), .int .i64 vers, .int .i64 err] 3)).drew.2
  go_region_held3 (fun w' => w'.cell? ⟨w.heap.size, 1, none⟩ = some (.int .i64 client) ∧ w'.cell? ⟨w.heap.size, 2, none⟩ = some (.int .i64 life) ∧ w'.cell? ⟨w.heap.size, 3, none⟩ = some (.int .i64 seq) ∧ w'.cell? ⟨w.heap.size, 4, none⟩ = some (.complex .f64 re im) ∧ w'.cell? ⟨w.heap.size, 5, none⟩ = some (.int .i64 vers) ∧ w'.cell? ⟨w.heap.size, 6, none⟩ = some (.int .i64 err))
    (with_reducible first | exact k2 | exact kA | exact k0)
    (first
      | (go_at_call 105; refine (HEp.out _).mono ?_; rintro x w4 ⟨rfl, rfl⟩)
      | (go_at_call 106; refine (HNb.out _).mono ?_; rintro x w4 ⟨rfl, rfl⟩)
      | (go_at_call 104; refine (HNu.out _ h1.out).mono ?_; rintro x w2 ⟨rfl, h2⟩; have k2 := HKp.out _ h2.out.2))
  have HR2 : Hid (Rows w2 ⟨kind, client, life, seq, re, im, vers, err, op, ve, vk, es, ks⟩) := HR.out.kp h2.out.2 HB.out.1.tt
  clear y0 y1 y2 y3 y4 y5 y6 HNu HEp HNb HR h1 k0 kA k2 HKp
  unfold bodyOk at hbody
  simp only [Ms.mg] at hbody
  have z0 := h2.out.2.cell HB.out.2.1 (by decide) HB.out.2.2.1 0
  simp at z0
  have HF : Hid (∀ w3 (B : List Int), Wrote w0 w2 w3 t (L2 ++ B) → bodyB (Ms.mg ⟨kind, client, life, seq, re, im, vers, err, op, ve, vk, es, ks⟩) = B → Wrote w0 w w3 t (L2 ++ bodyB (Ms.mg ⟨kind, client, life, seq, re, im, vers, err, op, ve, vk, es, ks⟩))) := fun w3 B h3 hB => by rw [hB]; exact ⟨h3.1, (HB.out.2.2.2.trans h2.out.2).trans h3.2⟩
  rcases hbody with ⟨rfl, h5, h6, h7⟩ | ⟨rfl, h5, h6, h7, h8⟩ | ⟨rfl, h5, h6, h7, h8, h9⟩ | ⟨rfl, h5, h6, h7⟩
  · have HC : Hid (Calls Try.prog 107 #[.pointer (some ⟨t, 0, none⟩), .agg #[.int .i64 op.kind, .int .i64 op.dir, .string op.nm, .int .i64 op.dst, .string op.new, .int .i64 op.mode, .string op.tg]] w2 fun e w' => WrR w0 w2 t (L2 ++ opB op) e w') := op_w h2.out.1 op h5 (by have := HM.out.2; omega)
    have q0 := h2.out.2.cell HB.out.2.1 (by decide) HB.out.2.2.1 7
    have q1 := h2.out.2.cell HB.out.2.1 (by decide) HB.out.2.2.1 8
    have q2 := h2.out.2.cell HB.out.2.1 (by decide) HB.out.2.2.1 9
    have q3 := h2.out.2.cell HB.out.2.1 (by decide) HB.out.2.2.1 10
    have q4 := h2.out.2.cell HB.out.2.1 (by decide) HB.out.2.2.1 11
    have q5 := h2.out.2.cell HB.out.2.1 (by decide) HB.out.2.2.1 12
    have q6 := h2.out.2.cell HB.out.2.1 (by decide) HB.out.2.2.1 13
    simp at q0 q1 q2 q3 q4 q5 q6
    clear h5 h6 h7
    go_wp2_with (go_at_call 107; refine HC.out.mono ?_; rintro x w3 ⟨rfl, h3⟩)
    go_end0
    exact ⟨rfl, HF.out _ _ h3.out rfl⟩
  · have HC : Hid (Calls Try.prog 108 #[.pointer (some ⟨t, 0, none⟩), ve, .func (.func 109) #[.pointer (some ⟨t, 0, none⟩)] #[]] w2 fun e w' => WrR w0 w2 t (L2 ++ (numI es.length ++ es.flatMap entB)) e w') := listE_w h2.out.1 HR2.out.es h7 h6 (by have := HM.out.2; omega)
    have q0 := h2.out.2.cell HB.out.2.1 (by decide) HB.out.2.2.1 14
    simp at q0
    obtain ⟨av, cv, ev⟩ := owns_len HR2.out.es
    simp only [] at ev
    subst ev
    clear h5 h6 h7 h8
    go_wp2_with (go_at_call 108; refine HC.out.mono ?_; rintro x w3 ⟨rfl, h3⟩)
    go_end0
    exact ⟨rfl, HF.out _ _ h3.out rfl⟩
  · have HC : Hid (Calls Try.prog 110 #[.pointer (some ⟨t, 0, none⟩), vk, .func (.func 111) #[.pointer (some ⟨t, 0, none⟩)] #[]] w2 fun e w' => WrR w0 w2 t (L2 ++ (numI ks.length ++ ks.flatMap keyB)) e w') := listK_w h2.out.1 HR2.out.ks h9 h8 (by have := HM.out.2; omega)
    have q0 := h2.out.2.cell HB.out.2.1 (by decide) HB.out.2.2.1 15
    simp at q0
    obtain ⟨av, cv, ev⟩ := owns_len HR2.out.ks
    simp only [] at ev
    subst ev
    clear h5 h6 h7 h8 h9
    go_wp2_with (go_at_call 110; refine HC.out.mono ?_; rintro x w3 ⟨rfl, h3⟩)
    go_end0
    exact ⟨rfl, HF.out _ _ h3.out rfl⟩
  · clear h5 h6 h7
    go_wp2
    go_end0
    exact ⟨rfl, HF.out _ [] (by simpa using ⟨h2.out.1, Kp.refl _ _⟩) rfl⟩
end Go.Proofs.Ytihjhaafmdobmaa
