/- Messages compared: the same ones. -/
import Derived.Test.YtpmcecenhgppbaaJTEpt20
namespace Go.Proofs.Ytpmcecenhgppbaa
section
open Go.RowKit Go.Shelf

theorem Try.stoodO : Try.prog.stoodInHeld 32 = false := by kernel_rfl
theorem Try.guardO : Try.prog.eqGuardType Try.prog.depth 32 = false := by kernel_rfl
theorem Try.undO : Try.prog.underlying 32 = some (.struct (Try.prog.fieldsOf 32)) := by kernel_rfl
theorem guardO (w : World) (op : BinOp) (p q : Operand) (xs ys : Array Value) : (eqGuard op 32 p q (.agg xs) (.agg ys)).run Try.prog w = .ok () w := run_eqGuard_agg w op _ p q xs ys Try.guardO
/-- are two ops the same (shut) -/
def eqOp (e f : Opn) : Bool := decide (e.kind = f.kind) && (decide (e.dir = f.dir) && (decide (e.nm = f.nm) && (decide (e.dst = f.dst) && (decide (e.new = f.new) && (decide (e.mode = f.mode) && decide (e.tg = f.tg))))))
theorem eqOp_iff (e f : Opn) : eqOp e f = true ↔ e = f := by
  obtain ⟨a, b, c, d, g, h, i⟩ := e
  obtain ⟨a', b', c', d', g', h', i'⟩ := f
  unfold eqOp
  simp
theorem eqInO (n : Nat) (w : World) (e f : Opn) : (Op.equalIn (n + 1 + 1) 32 (.agg #[.int .i64 e.kind, .int .i64 e.dir, .string e.nm, .int .i64 e.dst, .string e.new, .int .i64 e.mode, .string e.tg]) (.agg #[.int .i64 f.kind, .int .i64 f.dir, .string f.nm, .int .i64 f.dst, .string f.new, .int .i64 f.mode, .string f.tg])).run Try.prog w = .ok (eqOp e f) w := by
  rw [run_equalIn_agg _ _ _ _ _ Try.undO Try.stoodO]
  simp [Program.fieldsOf, Try.underlying32, Op.eqFields, go_sem]
  simp only [bytes_eq]
  unfold eqOp
  obtain ⟨a, b, c, d, g, h, i⟩ := e
  obtain ⟨a', b', c', d', g', h', i'⟩ := f
  by_cases h1 : a = a' <;> by_cases h2 : b = b' <;> by_cases h3 : c = c' <;> by_cases h4 : d = d' <;> by_cases h5 : g = g' <;> by_cases h6 : h = h' <;> by_cases h7 : i = i' <;> simp [h1, h2, h3, h4, h5, h6, h7]
theorem eqO (w : World) (a b d m a' b' d' m' : Int) (x y z x' y' z' : ByteArray) : (binOp .eql 32 (.agg #[.int .i64 a, .int .i64 b, .string x, .int .i64 d, .string y, .int .i64 m, .string z]) (.agg #[.int .i64 a', .int .i64 b', .string x', .int .i64 d', .string y', .int .i64 m', .string z'])).run Try.prog w = .ok (.bool (eqOp ⟨a, b, x, d, y, m, z⟩ ⟨a', b', x', d', y', m', z'⟩)) w := by
  rw [run_eql_struct]
  have := eqInO 9998 w ⟨a, b, x, d, y, m, z⟩ ⟨a', b', x', d', y', m', z'⟩
  rw [this]; rfl
theorem neqO (w : World) (a b d m a' b' d' m' : Int) (x y z x' y' z' : ByteArray) : (binOp .neq 32 (.agg #[.int .i64 a, .int .i64 b, .string x, .int .i64 d, .string y, .int .i64 m, .string z]) (.agg #[.int .i64 a', .int .i64 b', .string x', .int .i64 d', .string y', .int .i64 m', .string z'])).run Try.prog w = .ok (.bool (!eqOp ⟨a, b, x, d, y, m, z⟩ ⟨a', b', x', d', y', m', z'⟩)) w := by
  rw [run_neq_struct]
  have := eqInO 9998 w ⟨a, b, x, d, y, m, z⟩ ⟨a', b', x', d', y', m', z'⟩
  rw [this]; rfl
attribute [local go_sem high] eqO neqO guardO eqC

theorem Mk.feq {a b : Nat} {e n : Int} (h : Mk a b e n) : (Op.floatEq .f64 a a && Op.floatEq .f64 b b) = true := by
  rw [floatEq_whole h.ha h.ha, floatEq_whole h.hb h.hb]; simp
set_option maxRecDepth 20000 in
set_option maxHeartbeats 16000000 in
theorem same_msg {w : World} {x y : Hm} {e n : Int} (hm : x.m = y.m) (hmk : Mk x.m.re x.m.im e n) (hx : Lists w 0 x) (hy : Lists w 0 y) (hle : x.m.es.length ≤ 1000000000) (hlk : x.m.ks.length ≤ 1000000000) :
    Calls Try.prog 16 #[.agg x.arr, .agg y.arr] w fun e w' => e = .returned (.bool true) ∧ Below w.heap.size w w' := by
  obtain ⟨⟨kind, client, life, seq, re, im, vers, err, op, es, ks⟩, ae, ce, ak, ck⟩ := x
  obtain ⟨m2, ae2, ce2, ak2, ck2⟩ := y
  obtain rfl : (⟨kind, client, life, seq, re, im, vers, err, op, es, ks⟩ : Pm) = m2 := hm
  have he : Row7 w 0 (.slice ae es.length ce) es := hx.es
  have he2 : Row7 w 0 (.slice ae2 es.length ce2) es := hy.es
  have hk : RowK w 0 (.slice ak ks.length ck) ks := hx.ks
  have hk2 : RowK w 0 (.slice ak2 ks.length ck2) ks := hy.ks
  replace hle : es.length ≤ 1000000000 := hle
  replace hlk : ks.length ≤ 1000000000 := hlk
  have hfe : (Op.floatEq .f64 re re && Op.floatEq .f64 im im) = true := Mk.feq hmk
  clear hx hy hmk
  unfold Hm.arr Hm.ve Hm.vk Pm.arr
  simp only []
  obtain ⟨W, hW⟩ : ∃ W, w.alloc (.cells #[.int .i64 kind, .int .i64 client, .int .i64 life, .int .i64 seq, .complex .f64 re im, .int .i64 vers, .int .i64 err, .int .i64 op.kind, .int .i64 op.dir, .string op.nm, .int .i64 op.dst, .string op.new, .int .i64 op.mode, .string op.tg, .slice ae es.length ce, .slice ak ks.length ck] 45) = W := ⟨_, rfl⟩
  obtain ⟨W2, hW2⟩ : ∃ W2, W.alloc (.cells #[.int .i64 kind, .int .i64 client, .int .i64 life, .int .i64 seq, .complex .f64 re im, .int .i64 vers, .int .i64 err, .int .i64 op.kind, .int .i64 op.dir, .string op.nm, .int .i64 op.dst, .string op.new, .int .i64 op.mode, .string op.tg, .slice ae2 es.length ce2, .slice ak2 ks.length ck2] 45) = W2 := ⟨_, rfl⟩
  have hb := boxB hW
  have hb2 := boxB hW2
  have HB : Hid (W2.heap[w.heap.size]? = some (.cells #[.int .i64 kind, .int .i64 client, .int .i64 life, .int .i64 seq, .complex .f64 re im, .int .i64 vers, .int .i64 err, .int .i64 op.kind, .int .i64 op.dir, .string op.nm, .int .i64 op.dst, .string op.new, .int .i64 op.mode, .string op.tg, .slice ae es.length ce, .slice ak ks.length ck] 45 (0, 0)) ∧ W2.heap[W.heap.size]? = some (.cells #[.int .i64 kind, .int .i64 client, .int .i64 life, .int .i64 seq, .complex .f64 re im, .int .i64 vers, .int .i64 err, .int .i64 op.kind, .int .i64 op.dir, .string op.nm, .int .i64 op.dst, .string op.new, .int .i64 op.mode, .string op.tg, .slice ae2 es.length ce2, .slice ak2 ks.length ck2] 45 (0, 0)) ∧ Below w.heap.size w W2) := ⟨hkeep hb.1 hb2.2, hb2.1, chainB hb.2 hb2.2⟩
  have x0 := cell_of HB.out.1 0
  have y0 := cell_of HB.out.2.1 0
  have x1 := cell_of HB.out.1 1
  have y1 := cell_of HB.out.2.1 1
  have x2 := cell_of HB.out.1 2
  have y2 := cell_of HB.out.2.1 2
  have x3 := cell_of HB.out.1 3
  have y3 := cell_of HB.out.2.1 3
  have x4 := cell_of HB.out.1 4
  have y4 := cell_of HB.out.2.1 4
  have x5 := cell_of HB.out.1 5
  have y5 := cell_of HB.out.2.1 5
  have x6 := cell_of HB.out.1 6
  have y6 := cell_of HB.out.2.1 6
  have x7 := cell_of HB.out.1 7
  have y7 := cell_of HB.out.2.1 7
  have x8 := cell_of HB.out.1 8
  have y8 := cell_of HB.out.2.1 8
  have x9 := cell_of HB.out.1 9
  have y9 := cell_of HB.out.2.1 9
  have x10 := cell_of HB.out.1 10
  have y10 := cell_of HB.out.2.1 10
  have x11 := cell_of HB.out.1 11
  have y11 := cell_of HB.out.2.1 11
  have x12 := cell_of HB.out.1 12
  have y12 := cell_of HB.out.2.1 12
  have x13 := cell_of HB.out.1 13
  have y13 := cell_of HB.out.2.1 13
  have x14 := cell_of HB.out.1 14
  have y14 := cell_of HB.out.2.1 14
  have x15 := cell_of HB.out.1 15
  have y15 := cell_of HB.out.2.1 15
  simp at x0 y0 x1 y1 x2 y2 x3 y3 x4 y4 x5 y5 x6 y6 x7 y7 x8 y8 x9 y9 x10 y10 x11 y11 x12 y12 x13 y13 x14 y14 x15 y15
  have HSe : Hid (∀ W3, Below W2.heap.size W2 W3 → Calls Try.prog 24 #[.slice ae es.length ce, .slice ae2 es.length ce2] W3 fun e w' => e = .returned (.bool true) ∧ Below W3.heap.size W3 w') := fun W3 h3 => by
    have := sameE_any _ _ es es 0 0 W3 (he.below (chainB HB.out.2.2 h3)) (he2.below (chainB HB.out.2.2 h3)) hle hle
    rw [(sameEs_iff es es).2 rfl] at this
    exact this
  have HSk : Hid (∀ W3, Below W2.heap.size W2 W3 → Calls Try.prog 23 #[.slice ak ks.length ck, .slice ak2 ks.length ck2] W3 fun e w' => e = .returned (.bool true) ∧ Below W3.heap.size W3 w') := fun W3 h3 => by
    have := sameK_any _ _ ks ks 0 0 W3 (hk.below (chainB HB.out.2.2 h3)) (hk2.below (chainB HB.out.2.2 h3)) hlk hlk
    rw [(sameKs_iff ks ks).2 rfl] at this
    exact this
  have heO : eqOp ⟨op.kind, op.dir, op.nm, op.dst, op.new, op.mode, op.tg⟩ ⟨op.kind, op.dir, op.nm, op.dst, op.new, op.mode, op.tg⟩ = true := (eqOp_iff _ _).2 rfl
  clear he he2 hk hk2 hb hb2
  go_enter Try.func16, Try.ntmps16
  go_upto_region 1 with fail
  clear hW hW2
  go_wp2_with (first
    | (go_at_call 24; refine (HSe.out _ (Below.refl _ _)).mono ?_; rintro e w1 ⟨rfl, hb1⟩; have p15 := cell_of (hkeep HB.out.1 hb1) 15; have q15 := cell_of (hkeep HB.out.2.1 hb1) 15; simp at p15 q15)
    | (go_at_call 23; refine (HSk.out _ hb1).mono ?_; rintro e w2 ⟨rfl, hb2⟩))
  go_ret
  exact ⟨rfl, chainB HB.out.2.2 (chainB hb1 hb2)⟩
end
section
section
open Go.RowKit
attribute [local go_sem high] eqK neqK eqE neqE eqN neqN guardK guardE guardN
set_option maxHeartbeats 4000000 in
theorem sameE_big (v v' : Value) (l l' : List En) (base base' : Nat) (w : World) (h : Row7 w base v l) (h' : Row7 w base' v' l') (hl : l.length ≤ 140737488351232) (hl' : l'.length ≤ 140737488351232) :
    Calls Try.prog 24 #[v, v'] w fun e w' => e = .returned (.bool (sameEs l l')) ∧ Below w.heap.size w w' := by
  obtain ⟨a, cap, rfl⟩ := owns_len h
  obtain ⟨a', cap', rfl⟩ := owns_len h'
  by_cases hn : l.length = l'.length
  · obtain ⟨n, hn1⟩ : ∃ n, l.length = n := ⟨_, rfl⟩
    have hn2 : l'.length = n := by omega
    rw [hn1] at hl
    have HC : Hid (Row7 w base (.slice a n cap) l ∧ Row7 w base' (.slice a' n cap') l' ∧ l.length = n ∧ l'.length = n) := ⟨by rw [← hn1]; exact h, by rw [← hn2]; exact h', hn1, hn2⟩
    rw [hn1, hn2]
    clear h h' hn hn1 hn2 hl'
    go_enter Try.func24, Try.ntmps24
    go_wp2
    go_loopw [5] (fun i wr => ∃ k : Nat, k ≤ n ∧ i = .int .i64 k ∧ l.take k = l'.take k ∧ Below w.heap.size w wr) (fun i _ => n - (intOf i).toNat)
    case atStart => exact ⟨0, Nat.zero_le _, rfl, rfl, Below.refl _ _⟩
    case round =>
      obtain ⟨k, hk, rfl, ht, hb⟩ := hrel
      by_cases hlt : k < n
      · obtain ⟨e, he⟩ : ∃ x, l[k]? = some x := ⟨_, List.getElem?_eq_getElem (by rw [HC.out.2.2.1]; exact hlt)⟩
        obtain ⟨f, hf⟩ : ∃ x, l'[k]? = some x := ⟨_, List.getElem?_eq_getElem (by rw [HC.out.2.2.2]; exact hlt)⟩
        obtain ⟨g, rfl, -, -, -, hc, -⟩ := owns_entry (HC.out.1.below hb) he
        obtain ⟨g', rfl, -, -, -, hc', -⟩ := owns_entry (HC.out.2.1.below hb) hf
        have x0 := hc.c0
        have x1 := hc.c1
        have x2 := hc.c2
        have x3 := hc.c3
        have x4 := hc.c4
        have x5 := hc.c5
        have x6 := hc.c6
        have y0 := hc'.c0
        have y1 := hc'.c1
        have y2 := hc'.c2
        have y3 := hc'.c3
        have y4 := hc'.c4
        have y5 := hc'.c5
        have y6 := hc'.c6
        have hki : (k : Int) < (n : Int) := by omega
        by_cases hxx : e = f
        · have HT : Hid (l.take (k + 1) = l'.take (k + 1)) := take_snocE ht he (hxx ▸ hf)
          subst hxx
          obtain ⟨e0, e1, e2, e3, e4, e5, e6⟩ := e
          have heq : eqEn ⟨e0, e1, e2, e3, e4, e5, e6⟩ ⟨e0, e1, e2, e3, e4, e5, e6⟩ = true := (eqEn_iff _ _).2 rfl
          clear he hf ht hc hc'
          go_upto_region 6 with fail
          go_quiet (fail)
          go_wp2
          exact ⟨⟨k + 1, by omega, by simp, HT.out, below_drewN hb _⟩, by simp [intOf]; omega⟩
        · have HE : Hid (sameEs l l' = false) := sameEs_no (by rintro rfl; rw [he] at hf; exact hxx (Option.some.inj hf))
          obtain ⟨e0, e1, e2, e3, e4, e5, e6⟩ := e
          obtain ⟨f0, f1, f2, f3, f4, f5, f6⟩ := f
          have hne : eqEn ⟨e0, e1, e2, e3, e4, e5, e6⟩ ⟨f0, f1, f2, f3, f4, f5, f6⟩ = false := eqEn_no hxx
          clear he hf ht hc hc' hxx
          go_upto_region 6 with fail
          go_quiet (fail)
          go_wp2
          go_ret
          exact ⟨by rw [HE.out]; rfl, below_drewN hb _⟩
      · have hkl : k = n := by omega
        subst hkl
        have HE : Hid (sameEs l l' = true) := (sameEs_iff l l').2 (take_eqE ht HC.out.2.2.1.symm HC.out.2.2.2.symm)
        clear ht
        go_wp2
        go_ret
        exact ⟨by rw [HE.out]; rfl, hb⟩
  · have HE : Hid (sameEs l l' = false) := sameEs_no (by rintro rfl; exact hn rfl)
    have hne : ((l.length : Int) != (l'.length : Int)) = true := by simp; omega
    clear h h'
    go_enter Try.func24, Try.ntmps24
    go_wp2
    go_ret
    exact ⟨by rw [HE.out]; rfl, Below.refl _ _⟩
end
section
open Go.RowKit
attribute [local go_sem high] eqK neqK eqE neqE eqN neqN guardK guardE guardN
set_option maxHeartbeats 4000000 in
theorem sameK_big (v v' : Value) (l l' : List Ky) (base base' : Nat) (w : World) (h : RowK w base v l) (h' : RowK w base' v' l') (hl : l.length ≤ 140737488351232) (hl' : l'.length ≤ 140737488351232) :
    Calls Try.prog 23 #[v, v'] w fun e w' => e = .returned (.bool (sameKs l l')) ∧ Below w.heap.size w w' := by
  obtain ⟨a, cap, rfl⟩ := owns_len h
  obtain ⟨a', cap', rfl⟩ := owns_len h'
  by_cases hn : l.length = l'.length
  · obtain ⟨n, hn1⟩ : ∃ n, l.length = n := ⟨_, rfl⟩
    have hn2 : l'.length = n := by omega
    rw [hn1] at hl
    have HC : Hid (RowK w base (.slice a n cap) l ∧ RowK w base' (.slice a' n cap') l' ∧ l.length = n ∧ l'.length = n) := ⟨by rw [← hn1]; exact h, by rw [← hn2]; exact h', hn1, hn2⟩
    rw [hn1, hn2]
    clear h h' hn hn1 hn2 hl'
    go_enter Try.func23, Try.ntmps23
    go_wp2
    go_loopw [5] (fun i wr => ∃ k : Nat, k ≤ n ∧ i = .int .i64 k ∧ l.take k = l'.take k ∧ Below w.heap.size w wr) (fun i _ => n - (intOf i).toNat)
    case atStart => exact ⟨0, Nat.zero_le _, rfl, rfl, Below.refl _ _⟩
    case round =>
      obtain ⟨k, hk, rfl, ht, hb⟩ := hrel
      by_cases hlt : k < n
      · obtain ⟨e, he⟩ : ∃ x, l[k]? = some x := ⟨_, List.getElem?_eq_getElem (by rw [HC.out.2.2.1]; exact hlt)⟩
        obtain ⟨f, hf⟩ : ∃ x, l'[k]? = some x := ⟨_, List.getElem?_eq_getElem (by rw [HC.out.2.2.2]; exact hlt)⟩
        obtain ⟨g, rfl, -, -, x0, x1, -⟩ := (HC.out.1.below hb).key he
        obtain ⟨g', rfl, -, -, y0, y1, -⟩ := (HC.out.2.1.below hb).key hf
        have hki : (k : Int) < (n : Int) := by omega
        by_cases hxx : e = f
        · have HT : Hid (l.take (k + 1) = l'.take (k + 1)) := take_snocK ht he (hxx ▸ hf)
          subst hxx
          clear he hf ht
          go_upto_region 6 with fail
          go_quiet (fail)
          go_wp2
          exact ⟨⟨k + 1, by omega, by simp, HT.out, below_drewN hb _⟩, by simp [intOf]; omega⟩
        · have HE : Hid (sameKs l l' = false) := sameKs_no (by rintro rfl; rw [he] at hf; exact hxx (Option.some.inj hf))
          have hne : decide (e.d = f.d ∧ e.nm = f.nm) = false := decide_eq_false (fun h => hxx (by cases e; cases f; simp only at h; rw [h.1, h.2]))
          clear he hf ht hxx
          go_upto_region 6 with fail
          go_quiet (fail)
          go_wp2
          go_ret
          exact ⟨by rw [HE.out]; rfl, below_drewN hb _⟩
      · have hkl : k = n := by omega
        subst hkl
        have HE : Hid (sameKs l l' = true) := (sameKs_iff l l').2 (take_eqK ht HC.out.2.2.1.symm HC.out.2.2.2.symm)
        clear ht
        go_wp2
        go_ret
        exact ⟨by rw [HE.out]; rfl, hb⟩
  · have HE : Hid (sameKs l l' = false) := sameKs_no (by rintro rfl; exact hn rfl)
    have hne : ((l.length : Int) != (l'.length : Int)) = true := by simp; omega
    clear h h'
    go_enter Try.func23, Try.ntmps23
    go_wp2
    go_ret
    exact ⟨by rw [HE.out]; rfl, Below.refl _ _⟩
end
section
open Go.RowKit Go.Shelf
attribute [local go_sem high] eqO neqO guardO eqC
set_option maxRecDepth 20000 in
set_option maxHeartbeats 16000000 in
theorem same_msgF {w : World} {x y : Hm} (hm : x.m = y.m) (hfl : (Op.floatEq .f64 x.m.re x.m.re && Op.floatEq .f64 x.m.im x.m.im) = true) (hx : Lists w 0 x) (hy : Lists w 0 y) (hle : x.m.es.length ≤ 140737488351232) (hlk : x.m.ks.length ≤ 140737488351232) :
    Calls Try.prog 16 #[.agg x.arr, .agg y.arr] w fun e w' => e = .returned (.bool true) ∧ Below w.heap.size w w' := by
  obtain ⟨⟨kind, client, life, seq, re, im, vers, err, op, es, ks⟩, ae, ce, ak, ck⟩ := x
  obtain ⟨m2, ae2, ce2, ak2, ck2⟩ := y
  obtain rfl : (⟨kind, client, life, seq, re, im, vers, err, op, es, ks⟩ : Pm) = m2 := hm
  have he : Row7 w 0 (.slice ae es.length ce) es := hx.es
  have he2 : Row7 w 0 (.slice ae2 es.length ce2) es := hy.es
  have hk : RowK w 0 (.slice ak ks.length ck) ks := hx.ks
  have hk2 : RowK w 0 (.slice ak2 ks.length ck2) ks := hy.ks
  replace hle : es.length ≤ 140737488351232 := hle
  replace hlk : ks.length ≤ 140737488351232 := hlk
  have hfe : (Op.floatEq .f64 re re && Op.floatEq .f64 im im) = true := hfl
  clear hx hy hfl
  unfold Hm.arr Hm.ve Hm.vk Pm.arr
  simp only []
  obtain ⟨W, hW⟩ : ∃ W, w.alloc (.cells #[.int .i64 kind, .int .i64 client, .int .i64 life, .int .i64 seq, .complex .f64 re im, .int .i64 vers, .int .i64 err, .int .i64 op.kind, .int .i64 op.dir, .string op.nm, .int .i64 op.dst, .string op.new, .int .i64 op.mode, .string op.tg, .slice ae es.length ce, .slice ak ks.length ck] 45) = W := ⟨_, rfl⟩
  obtain ⟨W2, hW2⟩ : ∃ W2, W.alloc (.cells #[.int .i64 kind, .int .i64 client, .int .i64 life, .int .i64 seq, .complex .f64 re im, .int .i64 vers, .int .i64 err, .int .i64 op.kind, .int .i64 op.dir, .string op.nm, .int .i64 op.dst, .string op.new, .int .i64 op.mode, .string op.tg, .slice ae2 es.length ce2, .slice ak2 ks.length ck2] 45) = W2 := ⟨_, rfl⟩
  have hb := boxB hW
  have hb2 := boxB hW2
  have HB : Hid (W2.heap[w.heap.size]? = some (.cells #[.int .i64 kind, .int .i64 client, .int .i64 life, .int .i64 seq, .complex .f64 re im, .int .i64 vers, .int .i64 err, .int .i64 op.kind, .int .i64 op.dir, .string op.nm, .int .i64 op.dst, .string op.new, .int .i64 op.mode, .string op.tg, .slice ae es.length ce, .slice ak ks.length ck] 45 (0, 0)) ∧ W2.heap[W.heap.size]? = some (.cells #[.int .i64 kind, .int .i64 client, .int .i64 life, .int .i64 seq, .complex .f64 re im, .int .i64 vers, .int .i64 err, .int .i64 op.kind, .int .i64 op.dir, .string op.nm, .int .i64 op.dst, .string op.new, .int .i64 op.mode, .string op.tg, .slice ae2 es.length ce2, .slice ak2 ks.length ck2] 45 (0, 0)) ∧ Below w.heap.size w W2) := ⟨hkeep hb.1 hb2.2, hb2.1, chainB hb.2 hb2.2⟩
  have x0 := cell_of HB.out.1 0
  have y0 := cell_of HB.out.2.1 0
  have x1 := cell_of HB.out.1 1
  have y1 := cell_of HB.out.2.1 1
  have x2 := cell_of HB.out.1 2
  have y2 := cell_of HB.out.2.1 2
  have x3 := cell_of HB.out.1 3
  have y3 := cell_of HB.out.2.1 3
  have x4 := cell_of HB.out.1 4
  have y4 := cell_of HB.out.2.1 4
  have x5 := cell_of HB.out.1 5
  have y5 := cell_of HB.out.2.1 5
  have x6 := cell_of HB.out.1 6
  have y6 := cell_of HB.out.2.1 6
  have x7 := cell_of HB.out.1 7
  have y7 := cell_of HB.out.2.1 7
  have x8 := cell_of HB.out.1 8
  have y8 := cell_of HB.out.2.1 8
  have x9 := cell_of HB.out.1 9
  have y9 := cell_of HB.out.2.1 9
  have x10 := cell_of HB.out.1 10
  have y10 := cell_of HB.out.2.1 10
  have x11 := cell_of HB.out.1 11
  have y11 := cell_of HB.out.2.1 11
  have x12 := cell_of HB.out.1 12
  have y12 := cell_of HB.out.2.1 12
  have x13 := cell_of HB.out.1 13
  have y13 := cell_of HB.out.2.1 13
  have x14 := cell_of HB.out.1 14
  have y14 := cell_of HB.out.2.1 14
  have x15 := cell_of HB.out.1 15
  have y15 := cell_of HB.out.2.1 15
  simp at x0 y0 x1 y1 x2 y2 x3 y3 x4 y4 x5 y5 x6 y6 x7 y7 x8 y8 x9 y9 x10 y10 x11 y11 x12 y12 x13 y13 x14 y14 x15 y15
  have HSe : Hid (∀ W3, Below W2.heap.size W2 W3 → Calls Try.prog 24 #[.slice ae es.length ce, .slice ae2 es.length ce2] W3 fun e w' => e = .returned (.bool true) ∧ Below W3.heap.size W3 w') := fun W3 h3 => by
    have := sameE_big _ _ es es 0 0 W3 (he.below (chainB HB.out.2.2 h3)) (he2.below (chainB HB.out.2.2 h3)) hle hle
    rw [(sameEs_iff es es).2 rfl] at this
    exact this
  have HSk : Hid (∀ W3, Below W2.heap.size W2 W3 → Calls Try.prog 23 #[.slice ak ks.length ck, .slice ak2 ks.length ck2] W3 fun e w' => e = .returned (.bool true) ∧ Below W3.heap.size W3 w') := fun W3 h3 => by
    have := sameK_big _ _ ks ks 0 0 W3 (hk.below (chainB HB.out.2.2 h3)) (hk2.below (chainB HB.out.2.2 h3)) hlk hlk
    rw [(sameKs_iff ks ks).2 rfl] at this
    exact this
  have heO : eqOp ⟨op.kind, op.dir, op.nm, op.dst, op.new, op.mode, op.tg⟩ ⟨op.kind, op.dir, op.nm, op.dst, op.new, op.mode, op.tg⟩ = true := (eqOp_iff _ _).2 rfl
  clear he he2 hk hk2 hb hb2
  go_enter Try.func16, Try.ntmps16
  go_upto_region 1 with fail
  clear hW hW2
  go_wp2_with (first
    | (go_at_call 24; refine (HSe.out _ (Below.refl _ _)).mono ?_; rintro e w1 ⟨rfl, hb1⟩; have p15 := cell_of (hkeep HB.out.1 hb1) 15; have q15 := cell_of (hkeep HB.out.2.1 hb1) 15; simp at p15 q15)
    | (go_at_call 23; refine (HSk.out _ hb1).mono ?_; rintro e w2 ⟨rfl, hb2⟩))
  go_ret
  exact ⟨rfl, chainB HB.out.2.2 (chainB hb1 hb2)⟩
theorem same_msgB {w : World} {x y : Hm} {e n : Int} (hm : x.m = y.m) (hmk : Mk x.m.re x.m.im e n) (hx : Lists w 0 x) (hy : Lists w 0 y) (hle : x.m.es.length ≤ 140737488351232) (hlk : x.m.ks.length ≤ 140737488351232) :
    Calls Try.prog 16 #[.agg x.arr, .agg y.arr] w fun e w' => e = .returned (.bool true) ∧ Below w.heap.size w w' := same_msgF hm (Mk.feq hmk) hx hy hle hlk
end
section
open Go.RowKit Go.Shelf
attribute [local go_sem ↓ high] loadMsg storeMsg buildMsg
theorem undrew {W w1 : World} (h : Below W.drew.heap.size W.drew w1) : Below W.heap.size W w1 := ⟨h.os, h.tape, h.output, h.size, h.block⟩
theorem lists_few {w : World} {B : Nat} {z : Hm} (h : Lists w B z) : z.m.es.length ≤ 140737488351232 ∧ z.m.ks.length ≤ 140737488351232 := by
  have h1 := h.le
  have h2 := h.lk
  unfold LB at h1 h2
  omega
set_option maxHeartbeats 4000000 in
set_option maxRecDepth 100000 in
/-- lists of the same messages -/
theorem sameMsgs_yes (v v2 : Value) (l l2 : List Hm) (w : World) (B B2 : Nat) (h : Msgs w B v l) (h2 : Msgs w B2 v2 l2) (hm : l.map Hm.m = l2.map Hm.m) (hg : ∀ z ∈ l, ∃ e n, Mk z.m.re z.m.im e n) (hl : l.length ≤ 1000) :
    Calls Try.prog 41 #[v, v2] w fun e w' => e = .returned (.bool true) ∧ Below w.heap.size w w' := by
  obtain ⟨a, c, rfl⟩ := owns_len h.row
  obtain ⟨a2, c2, rfl⟩ := owns_len h2.row
  have hle : l2.length = l.length := by have := congrArg List.length hm; simpa using this.symm
  obtain ⟨n, hn⟩ : ∃ n, l.length = n := ⟨_, rfl⟩
  have HH : Hid (Msgs w B (.slice a n c) l ∧ Msgs w B2 (.slice a2 n c2) l2 ∧ l.map Hm.m = l2.map Hm.m ∧ (∀ z ∈ l, ∃ e n, Mk z.m.re z.m.im e n) ∧ l.length = n ∧ l2.length = n) := ⟨by rw [← hn]; exact h, by rw [← hn, ← hle]; exact h2, hm, hg, hn, by omega⟩
  rw [hle, hn]
  rw [hn] at hl
  clear h h2 hm hg hle hn
  go_enter Try.func41, Try.ntmps41
  go_wp2
  go_loopw [5] (fun s5 wr => ∃ k : Nat, k ≤ n ∧ s5 = .int .i64 k ∧ Hid (Below w.heap.size w wr)) (fun s5 _ => n - (intOf s5).toNat)
  case atStart => exact ⟨0, Nat.zero_le _, rfl, Below.refl _ _⟩
  case round =>
    obtain ⟨k, hk, rfl, HB⟩ := hrel
    by_cases hlt : k < n
    · have hlz : (k : Int) < (n : Int) := by omega
      have hd : Below wr.heap.size wr wr.drew := (Below.refl _ _).drew
      have hbd : Below w.heap.size w wr.drew := chainB HB.out hd
      obtain ⟨y, hy⟩ : ∃ y, l[k]? = some y := ⟨_, List.getElem?_eq_getElem (by rw [HH.out.2.2.2.2.1]; exact hlt)⟩
      obtain ⟨z, hz⟩ : ∃ z, l2[k]? = some z := ⟨_, List.getElem?_eq_getElem (by rw [HH.out.2.2.2.2.2]; exact hlt)⟩
      have hyz : y.m = z.m := by
        have := congrArg (fun x => x[k]?) HH.out.2.2.1
        simp only [List.getElem?_map, hy, hz, Option.map_some] at this
        exact Option.some.inj this
      obtain ⟨e0, n0, hmk⟩ := HH.out.2.2.2.1 y (List.mem_of_getElem? hy)
      have hLy := (HH.out.1.each y (List.mem_of_getElem? hy))
      have hLz := (HH.out.2.1.each z (List.mem_of_getElem? hz))
      obtain ⟨gy, rfl, -, -, -, -⟩ := owns_msg HH.out.1.row hy
      obtain ⟨gz, rfl, -, -, -, -⟩ := owns_msg HH.out.2.1.row hz
      have HKp : Hid (∀ V, Below w.heap.size w V → (msgLd (.pointer (some ⟨gy, k * 16, none⟩))).run Try.prog V = .ok (.agg y.arr) V ∧ (msgLd (.pointer (some ⟨gz, k * 16, none⟩))).run Try.prog V = .ok (.agg z.arr) V) := fun V hb => by
        obtain ⟨g1, e1, -, -, -, q1⟩ := owns_msg (HH.out.1.row.below hb) hy
        obtain ⟨g2, e2, -, -, -, q2⟩ := owns_msg (HH.out.2.1.row.below hb) hz
        cases e1
        cases e2
        exact ⟨msgLd_at q1 y.size, msgLd_at q2 z.size⟩
      have HSm : Hid (Calls Try.prog 16 #[.agg y.arr, .agg z.arr] wr.drew fun e w' => e = .returned (.bool true) ∧ Below wr.drew.heap.size wr.drew w') := same_msgB hyz hmk ((hLy.down (Nat.zero_le _)).below hbd) ((hLz.down (Nat.zero_le _)).below hbd) (lists_few hLy).1 (lists_few hLy).2
      obtain ⟨Y, hY⟩ : ∃ Y, y.arr = Y := ⟨_, rfl⟩
      obtain ⟨Z, hZ⟩ : ∃ Z, z.arr = Z := ⟨_, rfl⟩
      rw [hY, hZ] at HKp HSm
      have kS := HKp.out wr.drew hbd
      clear hy hz hyz hmk hLy hLz hY hZ
      go_upto_region 6 with fail
      go_region_held3 (fun V => (msgLd (.pointer (some ⟨gy, k * 16, none⟩))).run Try.prog V = .ok (.agg Y) V ∧ (msgLd (.pointer (some ⟨gz, k * 16, none⟩))).run Try.prog V = .ok (.agg Z) V)
        (with_reducible first | exact kS | exact kT)
        (first | (go_at_call 16; refine HSm.out.mono ?_; rintro q w7 ⟨rfl, hb0⟩; have hb7 := undrew hb0; have kT := HKp.out w7 (chainB HB.out hb7)))
      clear kS kT
      go_wp2
      exact ⟨⟨k + 1, by omega, by simp, chainB HB.out hb7⟩, by simp [intOf]; omega⟩
    · have hlz : ¬ (k : Int) < (n : Int) := by omega
      go_wp2
      go_ret
      exact ⟨rfl, HB.out⟩
/-- what a tide holds has good marks, and is not much -/
theorem Lt.goods {w W : World} {t : Nat} {S : Ts} {F : Nat → Prop} (h : Lt w W t S F) : (∀ p ∈ S.held, Good S.e p) ∧ S.held.length ≤ S.hold ∧ S.hold ≤ 8 ∧ 0 ≤ S.asked := by
  obtain ⟨s, h1, h2, -⟩ := h.ex
  subst h2
  refine ⟨fun p hp => ?_, ?_, h1.l8, h1.ask0⟩
  · obtain ⟨z, hz, rfl⟩ := List.mem_map.1 hp
    exact (h1.each z hz).2
  · show (s.hs.map Hm.m).length ≤ _
    rw [List.length_map]; exact h1.lh
end
end
end Go.Proofs.Ytpmcecenhgppbaa
