/- Messages compared, of lists of any length. -/
import Derived.Test.YtekonakanieeaaaJWEpt34
import Derived.Test.YtekonakanieeaaaJWEpt36
namespace Go.Proofs.Ytekonakanieeaaa
section
section
open Go.RowKit
attribute [local go_sem high] eqK neqK eqE neqE eqN neqN guardK guardE guardN
set_option maxHeartbeats 4000000 in
theorem sameE_big (v v' : Value) (l l' : List En) (base base' : Nat) (w : World) (h : Row7 w base v l) (h' : Row7 w base' v' l') (hl : l.length ≤ 140737488351232) (hl' : l'.length ≤ 140737488351232) :
    Calls Try.prog 24 #[v, v'] w fun e w' => e = .returned (.bool (sameEs l l')) ∧ Below w.heap.size w w' := by
  obtain ⟨a, cap, rfl⟩ := owns_len h
  obtain ⟨a', cap', rfl⟩ := owns_len h'
  by_cases hn : l.length = l'.length
  · obtain ⟨n, hn1⟩ : ∃ n, l.length = n := ⟨_, rfl⟩
    have hn2 : l'.length = n := by omega
    rw [hn1] at hl
    have HC : Hid (Row7 w base (.slice a n cap) l ∧ Row7 w base' (.slice a' n cap') l' ∧ l.length = n ∧ l'.length = n) := ⟨by rw [← hn1]; exact h, by rw [← hn2]; exact h', hn1, hn2⟩
    rw [hn1, hn2]
    clear h h' hn hn1 hn2 hl'
    go_enter Try.func24, Try.ntmps24
    go_wp2
    go_loopw [5] (fun i wr => ∃ k : Nat, k ≤ n ∧ i = .int .i64 k ∧ l.take k = l'.take k ∧ Below w.heap.size w wr) (fun i _ => n - (intOf i).toNat)
    case atStart => exact ⟨0, Nat.zero_le _, rfl, rfl, Below.refl _ _⟩
    case round =>
      obtain ⟨k, hk, rfl, ht, hb⟩ := hrel
      by_cases hlt : k < n
      · obtain ⟨e, he⟩ : ∃ x, l[k]? = some x := ⟨_, List.getElem?_eq_getElem (by rw [HC.out.2.2.1]; exact hlt)⟩
        obtain ⟨f, hf⟩ : ∃ x, l'[k]? = some x := ⟨_, List.getElem?_eq_getElem (by rw [HC.out.2.2.2]; exact hlt)⟩
        obtain ⟨g, rfl, -, -, -, hc, -⟩ := owns_entry (HC.out.1.below hb) he
        obtain ⟨g', rfl, -, -, -, hc', -⟩ := owns_entry (HC.out.2.1.below hb) hf
        have x0 := hc.c0
        have x1 := hc.c1
        have x2 := hc.c2
        have x3 := hc.c3
        have x4 := hc.c4
        have x5 := hc.c5
        have x6 := hc.c6
        have y0 := hc'.c0
        have y1 := hc'.c1
        have y2 := hc'.c2
        have y3 := hc'.c3
        have y4 := hc'.c4
        have y5 := hc'.c5
        have y6 := hc'.c6
        have hki : (k : Int) < (n : Int) := by omega
        by_cases hxx : e = f
        · have HT : Hid (l.take (k + 1) = l'.take (k + 1)) := take_snocE ht he (hxx ▸ hf)
          subst hxx
          obtain ⟨e0, e1, e2, e3, e4, e5, e6⟩ := e
          have heq : eqEn ⟨e0, e1, e2, e3, e4, e5, e6⟩ ⟨e0, e1, e2, e3, e4, e5, e6⟩ = true := (eqEn_iff _ _).2 rfl
          clear he hf ht hc hc'
          go_upto_region 6 with fail
          go_quiet (fail)
          go_wp2
          exact ⟨⟨k + 1, by omega, by simp, HT.out, below_drewN hb _⟩, by simp [intOf]; omega⟩
        · have HE : Hid (sameEs l l' = false) := sameEs_no (by rintro rfl; rw [he] at hf; exact hxx (Option.some.inj hf))
          obtain ⟨e0, e1, e2, e3, e4, e5, e6⟩ := e
          obtain ⟨f0, f1, f2, f3, f4, f5, f6⟩ := f
          have hne : eqEn ⟨e0, e1, e2, e3, e4, e5, e6⟩ ⟨f0, f1, f2, f3, f4, f5, f6⟩ = false := eqEn_no hxx
          clear he hf ht hc hc' hxx
          go_upto_region 6 with fail
          go_quiet (fail)
          go_wp2
          go_ret
          exact ⟨by rw [HE.out]; rfl, below_drewN hb _⟩
      · have hkl : k = n := by omega
        subst hkl
        have HE : Hid (sameEs l l' = true) := (sameEs_iff l l').2 (take_eqE ht HC.out.2.2.1.symm HC.out.2.2.2.symm)
        clear ht
        go_wp2
        go_ret
        exact ⟨by rw [HE.out]; rfl, hb⟩
  · have HE : Hid (sameEs l l' = false) := sameEs_no (by rintro rfl; exact hn rfl)
    have hne : ((l.length : Int) != (l'.length : Int)) = true := by simp; omega
    clear h h'
    go_enter Try.func24, Try.ntmps24
    go_wp2
    go_ret
    exact ⟨by rw [HE.out]; rfl, Below.refl _ _⟩
end
section
open Go.RowKit
attribute [local go_sem high] eqK neqK eqE neqE eqN neqN guardK guardE guardN
set_option maxHeartbeats 4000000 in
theorem sameK_big (v v' : Value) (l l' : List Ky) (base base' : Nat) (w : World) (h : RowK w base v l) (h' : RowK w base' v' l') (hl : l.length ≤ 140737488351232) (hl' : l'.length ≤ 140737488351232) :
    Calls Try.prog 25 #[v, v'] w fun e w' => e = .returned (.bool (sameKs l l')) ∧ Below w.heap.size w w' := by
  obtain ⟨a, cap, rfl⟩ := owns_len h
  obtain ⟨a', cap', rfl⟩ := owns_len h'
  by_cases hn : l.length = l'.length
  · obtain ⟨n, hn1⟩ : ∃ n, l.length = n := ⟨_, rfl⟩
    have hn2 : l'.length = n := by omega
    rw [hn1] at hl
    have HC : Hid (RowK w base (.slice a n cap) l ∧ RowK w base' (.slice a' n cap') l' ∧ l.length = n ∧ l'.length = n) := ⟨by rw [← hn1]; exact h, by rw [← hn2]; exact h', hn1, hn2⟩
    rw [hn1, hn2]
    clear h h' hn hn1 hn2 hl'
    go_enter Try.func25, Try.ntmps25
    go_wp2
    go_loopw [5] (fun i wr => ∃ k : Nat, k ≤ n ∧ i = .int .i64 k ∧ l.take k = l'.take k ∧ Below w.heap.size w wr) (fun i _ => n - (intOf i).toNat)
    case atStart => exact ⟨0, Nat.zero_le _, rfl, rfl, Below.refl _ _⟩
    case round =>
      obtain ⟨k, hk, rfl, ht, hb⟩ := hrel
      by_cases hlt : k < n
      · obtain ⟨e, he⟩ : ∃ x, l[k]? = some x := ⟨_, List.getElem?_eq_getElem (by rw [HC.out.2.2.1]; exact hlt)⟩
        obtain ⟨f, hf⟩ : ∃ x, l'[k]? = some x := ⟨_, List.getElem?_eq_getElem (by rw [HC.out.2.2.2]; exact hlt)⟩
        obtain ⟨g, rfl, -, -, x0, x1, -⟩ := (HC.out.1.below hb).key he
        obtain ⟨g', rfl, -, -, y0, y1, -⟩ := (HC.out.2.1.below hb).key hf
        have hki : (k : Int) < (n : Int) := by omega
        by_cases hxx : e = f
        · have HT : Hid (l.take (k + 1) = l'.take (k + 1)) := take_snocK ht he (hxx ▸ hf)
          subst hxx
          clear he hf ht
          go_upto_region 6 with fail
          go_quiet (fail)
          go_wp2
          exact ⟨⟨k + 1, by omega, by simp, HT.out, below_drewN hb _⟩, by simp [intOf]; omega⟩
        · have HE : Hid (sameKs l l' = false) := sameKs_no (by rintro rfl; rw [he] at hf; exact hxx (Option.some.inj hf))
          have hne : decide (e.d = f.d ∧ e.nm = f.nm) = false := decide_eq_false (fun h => hxx (by cases e; cases f; simp only at h; rw [h.1, h.2]))
          clear he hf ht hxx
          go_upto_region 6 with fail
          go_quiet (fail)
          go_wp2
          go_ret
          exact ⟨by rw [HE.out]; rfl, below_drewN hb _⟩
      · have hkl : k = n := by omega
        subst hkl
        have HE : Hid (sameKs l l' = true) := (sameKs_iff l l').2 (take_eqK ht HC.out.2.2.1.symm HC.out.2.2.2.symm)
        clear ht
        go_wp2
        go_ret
        exact ⟨by rw [HE.out]; rfl, hb⟩
  · have HE : Hid (sameKs l l' = false) := sameKs_no (by rintro rfl; exact hn rfl)
    have hne : ((l.length : Int) != (l'.length : Int)) = true := by simp; omega
    clear h h'
    go_enter Try.func25, Try.ntmps25
    go_wp2
    go_ret
    exact ⟨by rw [HE.out]; rfl, Below.refl _ _⟩
end
section
open Go.RowKit Go.Lib
attribute [local go_sem high] eqO neqO guardO
set_option maxRecDepth 20000 in
set_option maxHeartbeats 16000000 in
theorem sameMsg_big (kind client life seq : Int) (re im re2 im2 : Nat) (vers err : Int) (op : Opn) (ve vk ve2 vk2 : Value) (es : List En) (ks : List Ky) (w : World) (h1 : FloatKind.f64.format.order re re2 = some .eq) (h2 : FloatKind.f64.format.order im im2 = some .eq)
    (he : Row7 w 0 ve es) (he2 : Row7 w 0 ve2 es) (hk : RowK w 0 vk ks) (hk2 : RowK w 0 vk2 ks) (hle : es.length ≤ 140737488351232) (hlk : ks.length ≤ 140737488351232) :
    Calls Try.prog 9 #[.agg (Ms.arr ⟨kind, client, life, seq, re, im, vers, err, op, ve, vk, es, ks⟩), .agg (Ms.arr ⟨kind, client, life, seq, re2, im2, vers, err, op, ve2, vk2, es, ks⟩)] w fun e w' => e = .returned (.bool true) ∧ Below w.heap.size w w' := by
  obtain ⟨ae, ce, rfl⟩ := owns_len he
  obtain ⟨ae2, ce2, rfl⟩ := owns_len he2
  obtain ⟨ak, ck, rfl⟩ := owns_len hk
  obtain ⟨ak2, ck2, rfl⟩ := owns_len hk2
  unfold Ms.arr
  simp only []
  obtain ⟨W, hW⟩ : ∃ W, w.alloc (.cells #[.int .i64 kind, .int .i64 client, .int .i64 life, .int .i64 seq, .complex .f64 re im, .int .i64 vers, .int .i64 err, .int .i64 op.kind, .int .i64 op.dir, .string op.nm, .int .i64 op.dst, .string op.new, .int .i64 op.mode, .string op.tg, .slice ae es.length ce, .slice ak ks.length ck] 30) = W := ⟨_, rfl⟩
  obtain ⟨W2, hW2⟩ : ∃ W2, W.alloc (.cells #[.int .i64 kind, .int .i64 client, .int .i64 life, .int .i64 seq, .complex .f64 re2 im2, .int .i64 vers, .int .i64 err, .int .i64 op.kind, .int .i64 op.dir, .string op.nm, .int .i64 op.dst, .string op.new, .int .i64 op.mode, .string op.tg, .slice ae2 es.length ce2, .slice ak2 ks.length ck2] 30) = W2 := ⟨_, rfl⟩
  have hb := boxB hW
  have hb2 := boxB hW2
  have HB : Hid (W2.heap[w.heap.size]? = some (.cells #[.int .i64 kind, .int .i64 client, .int .i64 life, .int .i64 seq, .complex .f64 re im, .int .i64 vers, .int .i64 err, .int .i64 op.kind, .int .i64 op.dir, .string op.nm, .int .i64 op.dst, .string op.new, .int .i64 op.mode, .string op.tg, .slice ae es.length ce, .slice ak ks.length ck] 30 (0, 0)) ∧ W2.heap[W.heap.size]? = some (.cells #[.int .i64 kind, .int .i64 client, .int .i64 life, .int .i64 seq, .complex .f64 re2 im2, .int .i64 vers, .int .i64 err, .int .i64 op.kind, .int .i64 op.dir, .string op.nm, .int .i64 op.dst, .string op.new, .int .i64 op.mode, .string op.tg, .slice ae2 es.length ce2, .slice ak2 ks.length ck2] 30 (0, 0)) ∧ Below w.heap.size w W2) := ⟨hkeep hb.1 hb2.2, hb2.1, chainB hb.2 hb2.2⟩
  have x0 := cell_of HB.out.1 0
  have y0 := cell_of HB.out.2.1 0
  have x1 := cell_of HB.out.1 1
  have y1 := cell_of HB.out.2.1 1
  have x2 := cell_of HB.out.1 2
  have y2 := cell_of HB.out.2.1 2
  have x3 := cell_of HB.out.1 3
  have y3 := cell_of HB.out.2.1 3
  have x4 := cell_of HB.out.1 4
  have y4 := cell_of HB.out.2.1 4
  have x5 := cell_of HB.out.1 5
  have y5 := cell_of HB.out.2.1 5
  have x6 := cell_of HB.out.1 6
  have y6 := cell_of HB.out.2.1 6
  have x7 := cell_of HB.out.1 7
  have y7 := cell_of HB.out.2.1 7
  have x8 := cell_of HB.out.1 8
  have y8 := cell_of HB.out.2.1 8
  have x9 := cell_of HB.out.1 9
  have y9 := cell_of HB.out.2.1 9
  have x10 := cell_of HB.out.1 10
  have y10 := cell_of HB.out.2.1 10
  have x11 := cell_of HB.out.1 11
  have y11 := cell_of HB.out.2.1 11
  have x12 := cell_of HB.out.1 12
  have y12 := cell_of HB.out.2.1 12
  have x13 := cell_of HB.out.1 13
  have y13 := cell_of HB.out.2.1 13
  have x14 := cell_of HB.out.1 14
  have y14 := cell_of HB.out.2.1 14
  have x15 := cell_of HB.out.1 15
  have y15 := cell_of HB.out.2.1 15
  simp at x0 y0 x1 y1 x2 y2 x3 y3 x4 y4 x5 y5 x6 y6 x7 y7 x8 y8 x9 y9 x10 y10 x11 y11 x12 y12 x13 y13 x14 y14 x15 y15
  have HSe : Hid (∀ W3, Below W2.heap.size W2 W3 → Calls Try.prog 24 #[.slice ae es.length ce, .slice ae2 es.length ce2] W3 fun e w' => e = .returned (.bool true) ∧ Below W3.heap.size W3 w') := fun W3 h3 => by
    have := sameE_big _ _ es es 0 0 W3 (he.below (chainB HB.out.2.2 h3)) (he2.below (chainB HB.out.2.2 h3)) hle hle
    rw [(sameEs_iff es es).2 rfl] at this
    exact this
  have HSk : Hid (∀ W3, Below W2.heap.size W2 W3 → Calls Try.prog 25 #[.slice ak ks.length ck, .slice ak2 ks.length ck2] W3 fun e w' => e = .returned (.bool true) ∧ Below W3.heap.size W3 w') := fun W3 h3 => by
    have := sameK_big _ _ ks ks 0 0 W3 (hk.below (chainB HB.out.2.2 h3)) (hk2.below (chainB HB.out.2.2 h3)) hlk hlk
    rw [(sameKs_iff ks ks).2 rfl] at this
    exact this
  have heO : eqOp ⟨op.kind, op.dir, op.nm, op.dst, op.new, op.mode, op.tg⟩ ⟨op.kind, op.dir, op.nm, op.dst, op.new, op.mode, op.tg⟩ = true := (eqOp_iff _ _).2 rfl
  clear he he2 hk hk2 hb hb2
  go_enter Try.func9, Try.ntmps9
  go_upto_region 1 with fail
  clear hW hW2
  go_wp2_with (first
    | (go_at_call 24; refine (HSe.out _ (Below.refl _ _)).mono ?_; rintro e w1 ⟨rfl, hb1⟩; have p15 := cell_of (hkeep HB.out.1 hb1) 15; have q15 := cell_of (hkeep HB.out.2.1 hb1) 15; simp at p15 q15)
    | (go_at_call 25; refine (HSk.out _ hb1).mono ?_; rintro e w2 ⟨rfl, hb2⟩))
  go_ret
  exact ⟨rfl, chainB HB.out.2.2 (chainB hb1 hb2)⟩
end
end
section
open Go.ChangeShapes Go.WideShapes Go.ChangeAt Go.RowKit Go.Joins

set_option maxRecDepth 100000 in
/-- a message as plain data, by value -/
theorem mm_wof {H : Type} {enc : TypeId × Value → H} {W : World} {r : Reach} {b0 : Nat} {v : Value} {d : DataW H} {ps : List MemPlace} (hv : Value.okWide Try.prog W r b0 54 v) (h : DataW.Trod enc Try.prog W 0 (fun _ => true) true 54 v d ps) (hw : ∀ n ∈ d.weights Try.prog 54, n ≤ reachBytes) : ∃ m : Mm, v = .agg m.arr ∧ ArgM W m ∧ (Lit.int .i64 m.ep).wf = true ∧ (Lit.int .i64 m.nb).wf = true := by
  obtain ⟨cs, rfl, hsz⟩ := okWide_struct Try.underlying54 hv
  obtain ⟨fuel, hf0⟩ := h
  obtain ⟨xs, n, _, hx, hl, hlen, hf⟩ := DataW.trod_struct Try.underlying54 hf0
  rw [Try.cellsMm] at hl
  have e : (Value.agg cs).cells.toList = cs.toList := rfl
  rw [e] at hl hf
  obtain ⟨c0, c1, c2, c3, c4, c5, c6, c7, c8, c9, c10, c11, c12, c13, c14, c15, c16, hcs⟩ := seventeen hl
  obtain ⟨y0, y1, y2, y3, y4, y5, y6, y7, y8, y9, y10, rfl⟩ := eleven (l := xs) (by simpa using hlen)
  rw [hcs] at hf
  have h0 : DataW.trod enc Try.prog W 0 (fun _ => true) true n 3 (([c0, c1, c2, c3, c4, c5, c6, c7, c8, c9, c10, c11, c12, c13, c14, c15, c16].drop 0).take (Try.prog.cellsOf 3)) = some y0 := hf 0 _ rfl
  have h1 : DataW.trod enc Try.prog W 0 (fun _ => true) true n 3 (([c0, c1, c2, c3, c4, c5, c6, c7, c8, c9, c10, c11, c12, c13, c14, c15, c16].drop 1).take (Try.prog.cellsOf 3)) = some y1 := hf 1 _ rfl
  have h2 : DataW.trod enc Try.prog W 0 (fun _ => true) true n 3 (([c0, c1, c2, c3, c4, c5, c6, c7, c8, c9, c10, c11, c12, c13, c14, c15, c16].drop 2).take (Try.prog.cellsOf 3)) = some y2 := hf 2 _ rfl
  have h3 : DataW.trod enc Try.prog W 0 (fun _ => true) true n 3 (([c0, c1, c2, c3, c4, c5, c6, c7, c8, c9, c10, c11, c12, c13, c14, c15, c16].drop 3).take (Try.prog.cellsOf 3)) = some y3 := hf 3 _ rfl
  have h4 : DataW.trod enc Try.prog W 0 (fun _ => true) true n 3 (([c0, c1, c2, c3, c4, c5, c6, c7, c8, c9, c10, c11, c12, c13, c14, c15, c16].drop 4).take (Try.prog.cellsOf 3)) = some y4 := hf 4 _ rfl
  have h5 : DataW.trod enc Try.prog W 0 (fun _ => true) true n 3 (([c0, c1, c2, c3, c4, c5, c6, c7, c8, c9, c10, c11, c12, c13, c14, c15, c16].drop 5).take (Try.prog.cellsOf 3)) = some y5 := hf 5 _ rfl
  have h6 : DataW.trod enc Try.prog W 0 (fun _ => true) true n 3 (([c0, c1, c2, c3, c4, c5, c6, c7, c8, c9, c10, c11, c12, c13, c14, c15, c16].drop 6).take (Try.prog.cellsOf 3)) = some y6 := hf 6 _ rfl
  have h7 : DataW.trod enc Try.prog W 0 (fun _ => true) true n 3 (([c0, c1, c2, c3, c4, c5, c6, c7, c8, c9, c10, c11, c12, c13, c14, c15, c16].drop 7).take (Try.prog.cellsOf 3)) = some y7 := hf 7 _ rfl
  have h8 : DataW.trod enc Try.prog W 0 (fun _ => true) true n 26 (([c0, c1, c2, c3, c4, c5, c6, c7, c8, c9, c10, c11, c12, c13, c14, c15, c16].drop 8).take (Try.prog.cellsOf 26)) = some y8 := hf 8 _ rfl
  have h9 : DataW.trod enc Try.prog W 0 (fun _ => true) true n 27 (([c0, c1, c2, c3, c4, c5, c6, c7, c8, c9, c10, c11, c12, c13, c14, c15, c16].drop 15).take (Try.prog.cellsOf 27)) = some y9 := hf 9 _ rfl
  have h10 : DataW.trod enc Try.prog W 0 (fun _ => true) true n 28 (([c0, c1, c2, c3, c4, c5, c6, c7, c8, c9, c10, c11, c12, c13, c14, c15, c16].drop 16).take (Try.prog.cellsOf 28)) = some y10 := hf 10 _ rfl
  rw [Try.cellsWord] at h0 h1 h2 h3 h4 h5 h6 h7
  rw [Try.cellsOpn] at h8
  rw [Try.cellsSlE] at h9
  rw [Try.cellsSlK] at h10
  obtain ⟨p0, e0, _, _⟩ := DataW.trod_int Try.underlying3 h0
  obtain ⟨p1, e1, _, _⟩ := DataW.trod_int Try.underlying3 h1
  obtain ⟨p2, e2, _, _⟩ := DataW.trod_int Try.underlying3 h2
  obtain ⟨p3, e3, _, _⟩ := DataW.trod_int Try.underlying3 h3
  obtain ⟨p4, e4, _, w4⟩ := DataW.trod_int Try.underlying3 h4
  obtain ⟨p5, e5, _, w5⟩ := DataW.trod_int Try.underlying3 h5
  obtain ⟨p6, e6, _, _⟩ := DataW.trod_int Try.underlying3 h6
  obtain ⟨p7, e7, _, _⟩ := DataW.trod_int Try.underlying3 h7
  obtain ⟨q, e8⟩ := op_of h8
  simp [Opn.arr] at e0 e1 e2 e3 e4 e5 e6 e7 e8
  simp only [Prod.mk.injEq] at hx
  rw [hx.1] at hw
  obtain ⟨es, hes⟩ := argE_of (v := c15) (x := y9) (by simpa using h9) (fun n hn => hw n (by
    simp only [DataW.weights, Try.underlying54]
    exact DataW.weights_mem_each (j := 9) rfl rfl n hn))
  obtain ⟨ks, hks⟩ := argK_of (v := c16) (x := y10) (by simpa using h10) (fun n hn => hw n (by
    simp only [DataW.weights, Try.underlying54]
    exact DataW.weights_mem_each (j := 10) rfl rfl n hn))
  refine ⟨⟨p0, p1, p2, p3, p4, p5, p6, p7, q, c15, c16, es, ks⟩, ?_, ⟨hes, hks⟩, w4, w5⟩
  obtain ⟨f0, f1, f2, f3, f4, f5, f6⟩ := e8
  have : cs.toList = (Mm.arr ⟨p0, p1, p2, p3, p4, p5, p6, p7, q, c15, c16, es, ks⟩).toList := by
    rw [hcs, e0, e1, e2, e3, e4, e5, e6, e7, f0, f1, f2, f3, f4, f5, f6]; rfl
  rw [Array.toList_inj.1 this]
end
end Go.Proofs.Ytekonakanieeaaa
