/- The writer in memory: text, key, node, entry, op. -/
import Derived.Test.YtekonakanieeaaaJWEpt03
namespace Go.Proofs.Ytekonakanieeaaa
section
open Go.RowKit Go.Lib

/-- what a call of the writer's answers -/
def WrR (w0 w : World) (t : Nat) (l : List Int) (e : Ending) (w' : World) : Prop := e = .returned (.tuple #[]) ∧ Hid (Wrote w0 w w' t l)
theorem Wrote.alloc {w0 w wr : World} {t : Nat} {l : List Int} (h : Wrote w0 w wr t l) (o : Obj) : Wrote w0 w (wr.alloc o) t l := by
  obtain ⟨⟨v, hv⟩, hk⟩ := h
  exact ⟨⟨v, hv.below (below_alloc _ _)⟩, hk.trans (Kp.of (below_alloc _ _))⟩
theorem Wrote.on {w0 w wr w' : World} {t : Nat} {l m : List Int} (h : Wrote w0 w wr t l) (h' : Wrote w0 wr w' t m) : Wrote w0 w w' t m := ⟨h'.1, h.2.trans h'.2⟩
theorem Wrote.nums {w0 w wr : World} {t : Nat} {l : List Int} (h : Wrote w0 w wr t l) (xs : List Int) (hx : ∀ x ∈ xs, numOk x) (hl : l.length + xs.length * 6 ≤ 1000000) :
    Calls Try.prog 64 #[.pointer (some ⟨t, 0, none⟩), .slice (some ⟨wr.heap.size, 0, none⟩) xs.length xs.length] (wr.alloc (.cells (xs.map (Value.int .i64)).toArray 3)) fun e w' => WrR w0 w t (l ++ numsB xs) e w' := by
  have h1 := h.alloc (.cells (xs.map (Value.int .i64)).toArray 3)
  obtain ⟨⟨v, hv⟩, hk⟩ := h1
  have htl : t < wr.heap.size := by obtain ⟨⟨v, hv⟩, _⟩ := h; exact hv.tt.lt
  have hr : RowN (wr.alloc (.cells (xs.map (Value.int .i64)).toArray 3)) t (some ⟨wr.heap.size, 0, none⟩) xs := by
    refine ⟨wr.heap.size, 3, rfl, ⟨_, _, heap_new _ _⟩, by decide, by omega, fun i x hx => ?_⟩
    rw [cell_of (heap_new _ _)]
    simp [hx]
  exact (numbers_w t _ xs.length xs l v w0 _ hv hr hx hl).mono fun e w' ⟨he, hw⟩ => ⟨he, hw.1, hk.trans hw.2⟩
theorem Wrote.num {w0 w wr : World} {t : Nat} {l : List Int} (h : Wrote w0 w wr t l) (x : Int) (hx : numOk x) (hl : l.length ≤ 999000) :
    Calls Try.prog 64 #[.pointer (some ⟨t, 0, none⟩), .slice (some ⟨wr.heap.size, 0, none⟩) 1 1] (wr.alloc (.cells #[.int .i64 x] 3)) fun e w' => WrR w0 w t (l ++ numI x) e w' := by
  have := h.nums [x] (fun y hy => by rw [List.mem_singleton.1 hy]; exact hx) (by simp; omega)
  rw [show numsB [x] = numI x by unfold numsB; simp] at this
  exact this
theorem ub_bs (s : ByteArray) : ub (bs s) = strCells s := by
  unfold ub bs strCells
  rw [List.map_map]; rfl
set_option maxRecDepth 20000 in
set_option maxHeartbeats 4000000 in
theorem text_w {w0 w wr : World} {t : Nat} {l : List Int} (h : Wrote w0 w wr t l) (s : ByteArray) (hs : s.size ≤ 96) (hl : l.length ≤ 990000) :
    Calls Try.prog 86 #[.pointer (some ⟨t, 0, none⟩), .string s] wr fun e w' => WrR w0 w t (l ++ textB s) e w' := by
  obtain ⟨i0, hi, hz0, hz1, hz2⟩ := info_parts Try.infoU
  have H : Hid (Wrote w0 w wr t l) := h
  clear h
  go_enter Try.func86, Try.ntmps86
  have hnum := numI_len (v := (s.size : Int)) (by unfold numOk; omega)
  obtain ⟨L, hL⟩ : ∃ L, l ++ numI (s.size : Int) = L := ⟨_, rfl⟩
  have hlen : L.length ≤ 999000 := by rw [← hL, List.length_append]; omega
  have HN := H.out.num (s.size : Int) (by unfold numOk; omega) (by omega)
  rw [hL] at HN
  have HN2 : Hid (Calls Try.prog 64 #[.pointer (some ⟨t, 0, none⟩), .slice (some ⟨wr.heap.size, 0, none⟩) 1 1] (wr.alloc (.cells #[.int .i64 (s.size : Int)] 3)) fun e w' => WrR w0 w t L e w') := HN
  have HL : Hid (L ++ bs s = l ++ textB s) := by show _ = _; rw [← hL]; unfold textB; rw [List.append_assoc]; rfl
  clear HN hL hnum H
  go_wp2_with (first
    | (go_at_call 64; refine HN2.out.mono ?_; rintro e w1 ⟨rfl, h1⟩; obtain ⟨⟨v, hv⟩, hk⟩ := h1.out; obtain ⟨c0, cf⟩ := hv.cells; obtain ⟨a, cap, e⟩ := owns_len hv.row; subst e; have HV : Hid (IsW w0 w1 t L (.slice a L.length cap) ∧ Kp t w w1) := ⟨hv, hk⟩; clear hv hk h1)
    | (at_builtin; refine wpList_append_own_string _ rfl (.tmp 13) (.tmp 14) 22 9 rfl w0.heap.size 5 i0 Try.underlying22 Try.underlying9 hi hz0 hz1 hz2 _ L.length (ub L) rfl HV.out.1.row s rfl (by unfold maxLen; omega) (by omega) HV.out.1.bel.size ?_; intro v2 w2 hown hgrow _; obtain ⟨d0, df, HE⟩ := HV.out.1.push (m := bs s) (Below.refl _ _) (by rw [bs_len, ub_bs]; exact hown) hgrow; obtain ⟨a1, c1, rfl⟩ := owns_len hown; clear hown hgrow))
  go_end0
  rw [HL.out] at HE
  exact ⟨rfl, HE.out.1, HV.out.2.trans HE.out.2⟩
end
section
open Go.RowKit Go.Lib

/-- a writer that has written l -/
def Wg (w0 w : World) (t : Nat) (l : List Int) : Prop := ∃ v, IsW w0 w t l v
theorem Wg.wrote {w0 w : World} {t : Nat} {l : List Int} (h : Wg w0 w t l) : Wrote w0 w w t l := ⟨h, Kp.refl _ _⟩
theorem Wg.below {w0 w w' : World} {t : Nat} {l : List Int} (h : Wg w0 w t l) (hb : Below w.heap.size w w') : Wg w0 w' t l := by obtain ⟨v, hv⟩ := h; exact ⟨v, hv.below hb⟩
theorem Wg.lt {w0 w : World} {t : Nat} {l : List Int} (h : Wg w0 w t l) : t < w.heap.size := by obtain ⟨v, hv⟩ := h; exact hv.tt.lt
theorem Kp.heap {t k : Nat} {w w' : World} {cs : Array Value} {ty : TypeId} {f : Nat × Nat} (h : Kp t w w') (hk : w.heap[k]? = some (.cells cs ty f)) (hy : ty ≠ 5) (ht : k ≠ t) : w'.heap[k]? = some (.cells cs ty f) := (h.keep k ty ⟨_, _, hk⟩ hy ht).trans hk
theorem Kp.cell {t k : Nat} {w w' : World} {cs : Array Value} {ty : TypeId} (h : Kp t w w') (hk : w.heap[k]? = some (.cells cs ty (0, 0))) (hy : ty ≠ 5) (ht : k ≠ t) (i : Nat) : w'.cell? ⟨k, i, none⟩ = cs[i]? := cell_of (h.heap hk hy ht) i
/-- the box of a parameter -/
theorem boxed {w0 w W : World} {t : Nat} {l : List Int} {cs : Array Value} {ty : TypeId} (h : Wg w0 w t l) (hW : w.alloc (.cells cs ty) = W) : Wg w0 W t l ∧ W.heap[w.heap.size]? = some (.cells cs ty (0, 0)) ∧ w.heap.size ≠ t ∧ Kp t w W := by
  subst hW
  exact ⟨h.below (below_alloc _ _), heap_new _ _, by have := h.lt; omega, Kp.of (below_alloc _ _)⟩
set_option maxRecDepth 20000 in
set_option maxHeartbeats 4000000 in
theorem key_w {w0 w : World} {t : Nat} {l : List Int} (h : Wg w0 w t l) (k : Ky) (hk : keyOk k) (hl : l.length ≤ 900000) :
    Calls Try.prog 71 #[.pointer (some ⟨t, 0, none⟩), .agg #[.int .i64 k.d, .string k.nm]] w fun e w' => WrR w0 w t (l ++ keyB k) e w' := by
  obtain ⟨W, hW⟩ : ∃ W, w.alloc (.cells #[.int .i64 k.d, .string k.nm] 40) = W := ⟨_, rfl⟩
  have hb := boxed h hW
  have HB : Hid (Wg w0 W t l ∧ W.heap[w.heap.size]? = some (.cells #[.int .i64 k.d, .string k.nm] 40 (0, 0)) ∧ w.heap.size ≠ t ∧ Kp t w W) := hb
  have x0 := cell_of hb.2.1 0
  have hn6 := numI_len hk.1
  have HK : Hid (keyOk k ∧ (l ++ numI k.d) ++ textB k.nm = l ++ keyB k) := ⟨hk, by unfold keyB; rw [List.append_assoc]⟩
  obtain ⟨L, hL⟩ : ∃ L, l ++ numI k.d = L := ⟨_, rfl⟩
  rw [hL] at HK
  have hlL : L.length ≤ 900010 := by rw [← hL, List.length_append]; omega
  have HN : Hid (Calls Try.prog 64 #[.pointer (some ⟨t, 0, none⟩), .slice (some ⟨W.heap.size, 0, none⟩) 1 1] (W.alloc (.cells #[.int .i64 k.d] 3)) fun e w' => WrR w0 W t L e w') := by rw [← hL]; exact hb.1.wrote.num k.d hk.1 (by omega)
  clear hb h hk hn6 hL
  go_enter Try.func71, Try.ntmps71
  go_upto_region 1 with fail
  clear hW
  go_wp2_with (first
    | (go_at_call 64; refine HN.out.mono ?_; rintro e w1 ⟨rfl, h1⟩; have x1 := h1.out.2.cell HB.out.2.1 (by decide) HB.out.2.2.1 1; simp at x1)
    | (go_at_call 86; refine (text_w h1.out k.nm HK.out.1.2 (by omega)).mono ?_; rintro e w2 ⟨rfl, h2⟩; rw [HK.out.2] at h2))
  go_end0
  exact ⟨rfl, h2.out.1, HB.out.2.2.2.trans h2.out.2⟩
end
section
open Go.RowKit Go.Lib

/-- the bytes of a node, behind others -/
theorem node_step (l : List Int) (e : En) : (((l ++ numI e.id) ++ [e.kind]) ++ numI e.mode) ++ textB e.tg = l ++ nodeB e := by unfold nodeB; simp
set_option maxRecDepth 20000 in
set_option maxHeartbeats 4000000 in
theorem node_w {w0 w : World} {t : Nat} {l : List Int} (h : Wg w0 w t l) (x : En) (hk : nodeOk x) (hl : l.length ≤ 800000) :
    Calls Try.prog 87 #[.pointer (some ⟨t, 0, none⟩), .agg #[.int .i64 x.id, .int .i64 x.kind, .int .i64 x.mode, .string x.tg]] w fun e w' => WrR w0 w t (l ++ nodeB x) e w' := by
  obtain ⟨W, hW⟩ : ∃ W, w.alloc (.cells #[.int .i64 x.id, .int .i64 x.kind, .int .i64 x.mode, .string x.tg] 42) = W := ⟨_, rfl⟩
  have hb := boxed h hW
  have HB : Hid (Wg w0 W t l ∧ W.heap[w.heap.size]? = some (.cells #[.int .i64 x.id, .int .i64 x.kind, .int .i64 x.mode, .string x.tg] 42 (0, 0)) ∧ w.heap.size ≠ t ∧ Kp t w W) := hb
  have x0 := cell_of hb.2.1 0
  have n1 := numI_len hk.1
  have n2 := numI_len hk.2.1
  have HK : Hid (nodeOk x ∧ (((l ++ numI x.id) ++ [x.kind]) ++ numI x.mode) ++ textB x.tg = l ++ nodeB x) := ⟨hk, node_step l x⟩
  have hlen1 : (l ++ numI x.id).length ≤ 800010 := by rw [List.length_append]; omega
  obtain ⟨L1, hL1⟩ : ∃ L, l ++ numI x.id = L := ⟨_, rfl⟩
  have HN : Hid (Calls Try.prog 64 #[.pointer (some ⟨t, 0, none⟩), .slice (some ⟨W.heap.size, 0, none⟩) 1 1] (W.alloc (.cells #[.int .i64 x.id] 3)) fun e w' => WrR w0 W t L1 e w') := by rw [← hL1]; exact hb.1.wrote.num x.id hk.1 (by omega)
  rw [hL1] at HK hlen1
  have hlen2 : (L1 ++ [x.kind]).length ≤ 800020 := by rw [List.length_append]; simp; omega
  obtain ⟨L2, hL2⟩ : ∃ L, L1 ++ [x.kind] = L := ⟨_, rfl⟩
  have HO : Hid (∀ W2, Wrote w0 W W2 t L1 → Calls Try.prog 63 #[.pointer (some ⟨t, 0, none⟩), .int .i64 x.kind] W2 fun e w' => e = .returned (.tuple #[]) ∧ Hid (Wrote w0 W w' t L2)) := fun W2 h2 => by rw [← hL2]; exact h2.octet x.kind (by omega) (by have := hk.2.2.1; omega)
  rw [hL2] at HK hlen2
  have hlen3 : (L2 ++ numI x.mode).length ≤ 800030 := by rw [List.length_append]; omega
  obtain ⟨L3, hL3⟩ : ∃ L, L2 ++ numI x.mode = L := ⟨_, rfl⟩
  have HM : Hid (∀ W2, Wrote w0 W W2 t L2 → Calls Try.prog 64 #[.pointer (some ⟨t, 0, none⟩), .slice (some ⟨W2.heap.size, 0, none⟩) 1 1] (W2.alloc (.cells #[.int .i64 x.mode] 3)) fun e w' => WrR w0 W t L3 e w') := fun W2 h2 => by rw [← hL3]; exact h2.num x.mode hk.2.1 (by omega)
  rw [hL3] at HK hlen3
  clear hb h hk n1 n2 hL1 hL2 hL3
  go_enter Try.func87, Try.ntmps87
  go_upto_region 1 with fail
  clear hW
  go_wp2_with (first
    | (go_at_call 86; refine (text_w h3.out x.tg HK.out.1.2.2.2 (by omega)).mono ?_; rintro e w4 ⟨rfl, h4⟩; rw [HK.out.2] at h4)
    | (go_at_call 64; refine (HM.out _ h2.out).mono ?_; rintro e w3 ⟨rfl, h3⟩; have x3 := h3.out.2.cell HB.out.2.1 (by decide) HB.out.2.2.1 3; simp at x3)
    | (go_at_call 63; refine (HO.out _ h1.out).mono ?_; rintro e w2 ⟨rfl, h2⟩; have x2 := h2.out.2.cell HB.out.2.1 (by decide) HB.out.2.2.1 2; simp at x2)
    | (go_at_call 64; refine HN.out.mono ?_; rintro e w1 ⟨rfl, h1⟩; have x1 := h1.out.2.cell HB.out.2.1 (by decide) HB.out.2.2.1 1; simp at x1))
  go_end0
  exact ⟨rfl, h4.out.1, HB.out.2.2.2.trans h4.out.2⟩

set_option maxRecDepth 20000 in
set_option maxHeartbeats 4000000 in
theorem entry_w {w0 w : World} {t : Nat} {l : List Int} (h : Wg w0 w t l) (x : En) (hk : entOk x) (hl : l.length ≤ 700000) :
    Calls Try.prog 69 #[.pointer (some ⟨t, 0, none⟩), x.agg] w fun e w' => WrR w0 w t (l ++ entB x) e w' := by
  obtain ⟨W, hW⟩ : ∃ W, w.alloc (.cells #[.int .i64 x.d, .string x.nm, .bool x.neg, .int .i64 x.id, .int .i64 x.kind, .int .i64 x.mode, .string x.tg] 44) = W := ⟨_, rfl⟩
  unfold En.agg
  have hb := boxed h hW
  have HB : Hid (Wg w0 W t l ∧ W.heap[w.heap.size]? = some (.cells #[.int .i64 x.d, .string x.nm, .bool x.neg, .int .i64 x.id, .int .i64 x.kind, .int .i64 x.mode, .string x.tg] 44 (0, 0)) ∧ w.heap.size ≠ t ∧ Kp t w W) := hb
  have x0 := cell_of hb.2.1 0
  have x1 := cell_of hb.2.1 1
  have n1 := numI_len hk.1.1
  have n2 := textB_len hk.1.2
  have hlen1 : (l ++ keyB ⟨x.d, x.nm⟩).length ≤ 700200 := by unfold keyB; rw [List.length_append, List.length_append]; simp only [] at n1 n2 ⊢; omega
  obtain ⟨L1, hL1⟩ : ∃ L, l ++ keyB ⟨x.d, x.nm⟩ = L := ⟨_, rfl⟩
  have HN : Hid (Calls Try.prog 71 #[.pointer (some ⟨t, 0, none⟩), .agg #[.int .i64 x.d, .string x.nm]] W fun e w' => WrR w0 W t L1 e w') := by rw [← hL1]; exact key_w hb.1 ⟨x.d, x.nm⟩ hk.1 (by omega)
  rw [hL1] at hlen1
  unfold entOk at hk
  have hE : l ++ entB x = L1 ++ (if x.neg then [1] else 0 :: nodeB x) := by unfold entB; rw [← List.append_assoc, hL1]
  rw [hE]
  cases hneg : x.neg with
  | true =>
    rw [hneg] at HB hW
    simp only [if_true]
    clear hb h hk n1 n2 hL1 hE
    go_enter Try.func69, Try.ntmps69
    go_upto_region 1 with fail
    clear hW
    go_wp2_with (first
      | (go_at_call 63; refine (h1.out.octet 1 (by omega) (by decide)).mono ?_; rintro e w2 ⟨rfl, h2⟩)
      | (go_at_call 71; refine HN.out.mono ?_; rintro e w1 ⟨rfl, h1⟩; have x2 := h1.out.2.cell HB.out.2.1 (by decide) HB.out.2.2.1 2; simp at x2))
    refine bodyPost_ret (results_none rfl _ _ _) rfl ?_
    exact ⟨rfl, h2.out.1, HB.out.2.2.2.trans h2.out.2⟩
  | false =>
    rw [hneg] at HB hW hk
    simp only [Bool.false_eq_true, if_false] at hk ⊢
    have HNd : Hid (nodeOk x) := hk.2
    have HE : Hid ((L1 ++ [0]) ++ nodeB x = L1 ++ 0 :: nodeB x) := by show _ = _; simp
    clear hb h hk n1 n2 hL1 hE
    go_enter Try.func69, Try.ntmps69
    go_upto_region 1 with fail
    clear hW
    go_wp2_with (first
      | (go_at_call 87; refine (node_w h2.out.1 x HNd.out (by rw [List.length_append]; simp; omega)).mono ?_; rintro e w3 ⟨rfl, h3⟩; rw [HE.out] at h3)
      | (go_at_call 63; refine (h1.out.octet 0 (by omega) (by decide)).mono ?_; rintro e w2 ⟨rfl, h2⟩; have x3 := h2.out.2.cell HB.out.2.1 (by decide) HB.out.2.2.1 3; have x4 := h2.out.2.cell HB.out.2.1 (by decide) HB.out.2.2.1 4; have x5 := h2.out.2.cell HB.out.2.1 (by decide) HB.out.2.2.1 5; have x6 := h2.out.2.cell HB.out.2.1 (by decide) HB.out.2.2.1 6; simp at x3 x4 x5 x6)
      | (go_at_call 71; refine HN.out.mono ?_; rintro e w1 ⟨rfl, h1⟩; have x2 := h1.out.2.cell HB.out.2.1 (by decide) HB.out.2.2.1 2; simp at x2))
    go_end0
    exact ⟨rfl, h3.out.1, (HB.out.2.2.2.trans h2.out.2).trans h3.out.2⟩
end
section
open Go.RowKit Go.Lib

theorem op_step (l : List Int) (x : Opn) : ((((((l ++ [x.kind]) ++ numI x.dir) ++ textB x.nm) ++ numI x.dst) ++ textB x.new) ++ numI x.mode) ++ textB x.tg = l ++ opB x := by unfold opB; simp
set_option maxRecDepth 20000 in
set_option maxHeartbeats 4000000 in
theorem op_w {w0 w : World} {t : Nat} {l : List Int} (h : Wg w0 w t l) (x : Opn) (hk : opOk x) (hl : l.length ≤ 600000) :
    Calls Try.prog 67 #[.pointer (some ⟨t, 0, none⟩), .agg #[.int .i64 x.kind, .int .i64 x.dir, .string x.nm, .int .i64 x.dst, .string x.new, .int .i64 x.mode, .string x.tg]] w fun e w' => WrR w0 w t (l ++ opB x) e w' := by
  obtain ⟨W, hW⟩ : ∃ W, w.alloc (.cells #[.int .i64 x.kind, .int .i64 x.dir, .string x.nm, .int .i64 x.dst, .string x.new, .int .i64 x.mode, .string x.tg] 26) = W := ⟨_, rfl⟩
  have hb := boxed h hW
  have HB : Hid (Wg w0 W t l ∧ W.heap[w.heap.size]? = some (.cells #[.int .i64 x.kind, .int .i64 x.dir, .string x.nm, .int .i64 x.dst, .string x.new, .int .i64 x.mode, .string x.tg] 26 (0, 0)) ∧ w.heap.size ≠ t ∧ Kp t w W) := hb
  have x0 := cell_of hb.2.1 0
  have n1 := numI_len hk.2.1
  have n2 := numI_len hk.2.2.1
  have n3 := numI_len hk.2.2.2.1
  have n4 := textB_len hk.2.2.2.2.1
  have n5 := textB_len hk.2.2.2.2.2.1
  have n6 := textB_len hk.2.2.2.2.2.2
  have HK := op_step l x
  have hlen1 : (l ++ [x.kind]).length ≤ 600200 := by rw [List.length_append]; simp; omega
  obtain ⟨L1, hL1⟩ : ∃ L, l ++ [x.kind] = L := ⟨_, rfl⟩
  have HS1 : Hid (∀ W1 W2, Wrote w0 W1 W2 t l → Calls Try.prog 63 #[.pointer (some ⟨t, 0, none⟩), .int .i64 x.kind] W2 fun e w' => e = .returned (.tuple #[]) ∧ Hid (Wrote w0 W1 w' t L1)) := fun W1 W2 h2 => by rw [← hL1]; exact h2.octet x.kind (by omega) (by have := hk.1; omega)
  rw [hL1] at HK hlen1
  have hlen2 : (L1 ++ numI x.dir).length ≤ 600400 := by rw [List.length_append]; omega
  obtain ⟨L2, hL2⟩ : ∃ L, L1 ++ numI x.dir = L := ⟨_, rfl⟩
  have HS2 : Hid (∀ W1 W2, Wrote w0 W1 W2 t L1 → Calls Try.prog 64 #[.pointer (some ⟨t, 0, none⟩), .slice (some ⟨W2.heap.size, 0, none⟩) 1 1] (W2.alloc (.cells #[.int .i64 x.dir] 3)) fun e w' => WrR w0 W1 t L2 e w') := fun W1 W2 h2 => by rw [← hL2]; exact h2.num x.dir hk.2.1 (by omega)
  rw [hL2] at HK hlen2
  have hlen3 : (L2 ++ textB x.nm).length ≤ 600600 := by rw [List.length_append]; omega
  obtain ⟨L3, hL3⟩ : ∃ L, L2 ++ textB x.nm = L := ⟨_, rfl⟩
  have HS3 : Hid (∀ W1 W2, Wrote w0 W1 W2 t L2 → Calls Try.prog 86 #[.pointer (some ⟨t, 0, none⟩), .string x.nm] W2 fun e w' => WrR w0 W1 t L3 e w') := fun W1 W2 h2 => by rw [← hL3]; exact text_w h2 x.nm hk.2.2.2.2.1 (by omega)
  rw [hL3] at HK hlen3
  have hlen4 : (L3 ++ numI x.dst).length ≤ 600800 := by rw [List.length_append]; omega
  obtain ⟨L4, hL4⟩ : ∃ L, L3 ++ numI x.dst = L := ⟨_, rfl⟩
  have HS4 : Hid (∀ W1 W2, Wrote w0 W1 W2 t L3 → Calls Try.prog 64 #[.pointer (some ⟨t, 0, none⟩), .slice (some ⟨W2.heap.size, 0, none⟩) 1 1] (W2.alloc (.cells #[.int .i64 x.dst] 3)) fun e w' => WrR w0 W1 t L4 e w') := fun W1 W2 h2 => by rw [← hL4]; exact h2.num x.dst hk.2.2.1 (by omega)
  rw [hL4] at HK hlen4
  have hlen5 : (L4 ++ textB x.new).length ≤ 601000 := by rw [List.length_append]; omega
  obtain ⟨L5, hL5⟩ : ∃ L, L4 ++ textB x.new = L := ⟨_, rfl⟩
  have HS5 : Hid (∀ W1 W2, Wrote w0 W1 W2 t L4 → Calls Try.prog 86 #[.pointer (some ⟨t, 0, none⟩), .string x.new] W2 fun e w' => WrR w0 W1 t L5 e w') := fun W1 W2 h2 => by rw [← hL5]; exact text_w h2 x.new hk.2.2.2.2.2.1 (by omega)
  rw [hL5] at HK hlen5
  have hlen6 : (L5 ++ numI x.mode).length ≤ 601200 := by rw [List.length_append]; omega
  obtain ⟨L6, hL6⟩ : ∃ L, L5 ++ numI x.mode = L := ⟨_, rfl⟩
  have HS6 : Hid (∀ W1 W2, Wrote w0 W1 W2 t L5 → Calls Try.prog 64 #[.pointer (some ⟨t, 0, none⟩), .slice (some ⟨W2.heap.size, 0, none⟩) 1 1] (W2.alloc (.cells #[.int .i64 x.mode] 3)) fun e w' => WrR w0 W1 t L6 e w') := fun W1 W2 h2 => by rw [← hL6]; exact h2.num x.mode hk.2.2.2.1 (by omega)
  rw [hL6] at HK hlen6
  have hlen7 : (L6 ++ textB x.tg).length ≤ 601400 := by rw [List.length_append]; omega
  obtain ⟨L7, hL7⟩ : ∃ L, L6 ++ textB x.tg = L := ⟨_, rfl⟩
  have HS7 : Hid (∀ W1 W2, Wrote w0 W1 W2 t L6 → Calls Try.prog 86 #[.pointer (some ⟨t, 0, none⟩), .string x.tg] W2 fun e w' => WrR w0 W1 t L7 e w') := fun W1 W2 h2 => by rw [← hL7]; exact text_w h2 x.tg hk.2.2.2.2.2.2 (by omega)
  rw [hL7] at HK hlen7
  have HKe : Hid (L7 = l ++ opB x) := HK
  clear hb h hk n1 n2 n3 n4 n5 n6 hL1 hL2 hL3 hL4 hL5 hL6 hL7 HK
  go_enter Try.func67, Try.ntmps67
  go_upto_region 1 with fail
  clear hW
  go_wp2_with (first
    | (go_at_call 86; refine (HS7.out _ _ h6.out).mono ?_; rintro e w7 ⟨rfl, h7⟩)
    | (go_at_call 64; refine (HS6.out _ _ h5.out).mono ?_; rintro e w6 ⟨rfl, h6⟩; have x6 := h6.out.2.cell HB.out.2.1 (by decide) HB.out.2.2.1 6; simp at x6)
    | (go_at_call 86; refine (HS5.out _ _ h4.out).mono ?_; rintro e w5 ⟨rfl, h5⟩; have x5 := h5.out.2.cell HB.out.2.1 (by decide) HB.out.2.2.1 5; simp at x5)
    | (go_at_call 64; refine (HS4.out _ _ h3.out).mono ?_; rintro e w4 ⟨rfl, h4⟩; have x4 := h4.out.2.cell HB.out.2.1 (by decide) HB.out.2.2.1 4; simp at x4)
    | (go_at_call 86; refine (HS3.out _ _ h2.out).mono ?_; rintro e w3 ⟨rfl, h3⟩; have x3 := h3.out.2.cell HB.out.2.1 (by decide) HB.out.2.2.1 3; simp at x3)
    | (go_at_call 64; refine (HS2.out _ _ h1.out).mono ?_; rintro e w2 ⟨rfl, h2⟩; have x2 := h2.out.2.cell HB.out.2.1 (by decide) HB.out.2.2.1 2; simp at x2)
    | (go_at_call 63; refine (HS1.out _ _ HB.out.1.wrote).mono ?_; rintro e w1 ⟨rfl, h1⟩; have x1 := h1.out.2.cell HB.out.2.1 (by decide) HB.out.2.2.1 1; simp at x1))
  go_end0
  rw [HKe.out] at h7
  exact ⟨rfl, h7.out.1, HB.out.2.2.2.trans h7.out.2⟩
end
section
open Go.RowKit Go.Lib

theorem Row7.kp {t base : Nat} {w w' : World} {v : Value} {es : List En} (h : Row7 w base v es) (k : Kp t w w') (ht : Tag w t 86) : Row7 w' base v es := owns_moved h fun q hq => k.keep q _ (Tag.own h hq) (by decide) ((Tag.own h hq).ne ht (by decide))
theorem RowK.kp {t base : Nat} {w w' : World} {v : Value} {ks : List Ky} (h : RowK w base v ks) (k : Kp t w w') (ht : Tag w t 86) : RowK w' base v ks := owns_moved h fun q hq => k.keep q _ (Tag.own h hq) (by decide) ((Tag.own h hq).ne ht (by decide))
theorem Wg.tt {w0 w : World} {t : Nat} {l : List Int} (h : Wg w0 w t l) : Tag w t 86 := by obtain ⟨v, hv⟩ := h; exact hv.tt
theorem flat_take {α : Type} (B : α → List Int) (es : List α) (k : Nat) (e : α) (h : es[k]? = some e) : (es.take (k + 1)).flatMap B = (es.take k).flatMap B ++ B e := by
  rw [List.take_add_one, h, List.flatMap_append]; simp
theorem entB_len {e : En} (h : entOk e) : (entB e).length ≤ 300 := by
  unfold entB keyB nodeB
  have a1 := numI_len h.1.1
  have a2 := textB_len h.1.2
  unfold entOk at h
  cases hn : e.neg with
  | true => simp only [if_true, List.length_append, List.length_cons]; simp only [] at a1 a2; simp; omega
  | false =>
    rw [hn] at h
    simp only [Bool.false_eq_true, if_false] at h
    have a3 := numI_len h.2.1
    have a4 := numI_len h.2.2.1
    have a5 := textB_len h.2.2.2.2
    simp only [Bool.false_eq_true, if_false, List.length_append, List.length_cons]
    simp only [] at a1 a2
    omega
theorem keyB_len {e : Ky} (h : keyOk e) : (keyB e).length ≤ 300 := by
  unfold keyB
  have a1 := numI_len h.1
  have a2 := textB_len h.2
  rw [List.length_append]; omega

set_option maxRecDepth 20000 in
set_option maxHeartbeats 4000000 in
theorem listE_w {w0 w : World} {t base : Nat} {l : List Int} {v : Value} {es : List En} (h : Wg w0 w t l) (hr : Row7 w base v es) (ho : ∀ e ∈ es, entOk e) (hn : es.length ≤ 48) (hl : l.length ≤ 500000) :
    Calls Try.prog 68 #[.pointer (some ⟨t, 0, none⟩), v, .func (.func 69) #[.pointer (some ⟨t, 0, none⟩)] #[]] w fun e w' => WrR w0 w t (l ++ (numI es.length ++ es.flatMap entB)) e w' := by
  obtain ⟨a, cap, rfl⟩ := owns_len hr
  obtain ⟨n, hn'⟩ : ∃ n, es.length = n := ⟨_, rfl⟩
  have HN : Hid (Calls Try.prog 64 #[.pointer (some ⟨t, 0, none⟩), .slice (some ⟨w.heap.size, 0, none⟩) 1 1] (w.alloc (.cells #[.int .i64 (n : Int)] 3)) fun e w' => WrR w0 w t (l ++ numI n) e w') := h.wrote.num n (by unfold numOk; omega) (by omega)
  have H : Hid (Row7 w base (.slice a n cap) es ∧ (∀ e ∈ es, entOk e) ∧ es.length = n ∧ Wg w0 w t l) := ⟨by rw [← hn']; exact hr, ho, hn', h⟩
  have hnl := numI_len (v := (n : Int)) (by unfold numOk; omega)
  rw [hn'] at hn ⊢
  obtain ⟨L, hL⟩ : ∃ L, l ++ numI n = L := ⟨_, rfl⟩
  have hlL : L.length ≤ 500010 := by rw [← hL, List.length_append]; omega
  have HL : Hid (l ++ (numI n ++ es.flatMap entB) = L ++ es.flatMap entB) := by show _ = _; rw [← List.append_assoc, hL]
  rw [hL] at HN
  clear hr ho hn' h hnl hL
  go_enter Try.func68, Try.ntmps68
  go_wp2_with (go_at_call 64; refine HN.out.mono ?_; rintro e w1 ⟨rfl, h1⟩)
  go_loopw [15] (fun i wr => ∃ k : Nat, k ≤ n ∧ i = .int .i64 k ∧ Hid (Wrote w0 w wr t (L ++ (es.take k).flatMap entB) ∧ ((es.take k).flatMap entB).length ≤ k * 300)) (fun i _ => n - (intOf i).toNat)
  case atStart => exact ⟨0, Nat.zero_le _, rfl, by simpa using h1.out, by simp⟩
  case round =>
    obtain ⟨k, hk, rfl, hI⟩ := hrel
    by_cases hkn : k < n
    · obtain ⟨e, he⟩ : ∃ e, es[k]? = some e := ⟨_, List.getElem?_eq_getElem (by rw [H.out.2.2.1]; exact hkn)⟩
      have hrow := H.out.1.kp hI.out.1.2 H.out.2.2.2.tt
      obtain ⟨g, rfl, -, -, hg, hc, -⟩ := owns_entry hrow he
      have x0 := hc.c0
      have x1 := hc.c1
      have x2 := hc.c2
      have x3 := hc.c3
      have x4 := hc.c4
      have x5 := hc.c5
      have x6 := hc.c6
      have hki : (k : Int) < (n : Int) := by omega
      have HEo : Hid (entOk e ∧ es[k]? = some e) := ⟨H.out.2.1 e (List.mem_of_getElem? he), he⟩
      obtain ⟨W5, hW5⟩ : ∃ W5, wr.alloc (.cells #[.int .i64 e.d, .string e.nm, .bool e.neg, .int .i64 e.id, .int .i64 e.kind, .int .i64 e.mode, .string e.tg] 44) = W5 := ⟨_, rfl⟩
      have hb5 := boxed hI.out.1.1 hW5
      have HB : Hid (Wg w0 W5 t (L ++ (es.take k).flatMap entB) ∧ Kp t w W5) := ⟨hb5.1, hI.out.1.2.trans hb5.2.2.2⟩
      have y0 := cell_of hb5.2.1 0
      have y1 := cell_of hb5.2.1 1
      have y2 := cell_of hb5.2.1 2
      have y3 := cell_of hb5.2.1 3
      have y4 := cell_of hb5.2.1 4
      have y5 := cell_of hb5.2.1 5
      have y6 := cell_of hb5.2.1 6
      simp at y0 y1 y2 y3 y4 y5 y6
      clear hrow hc he hb5
      go_upto_region 4 with fail
      clear hW5 x0 x1 x2 x3 x4 x5 x6
      go_wp2_with (go_at_call 69; refine (entry_w HB.out.1 e HEo.out.1 (by have := hI.out.2; rw [List.length_append]; omega)).mono ?_; rintro x w7 ⟨rfl, h7⟩)
      refine ⟨⟨k + 1, by omega, by simp, ?_⟩, by simp [intOf]; omega⟩
      rw [flat_take entB es k e HEo.out.2, ← List.append_assoc]
      refine ⟨⟨h7.out.1, HB.out.2.trans h7.out.2⟩, ?_⟩
      have := hI.out.2
      have := entB_len HEo.out.1
      rw [List.length_append]; omega
    · have hkn' : ¬ (k : Int) < (n : Int) := by omega
      have hke : es.take k = es := List.take_of_length_le (by rw [H.out.2.2.1]; omega)
      rw [hke] at hI
      go_wp2
      go_end0
      rw [HL.out]
      exact ⟨rfl, hI.out.1⟩
end
section
open Go.RowKit Go.Lib


set_option maxRecDepth 20000 in
set_option maxHeartbeats 4000000 in
theorem listK_w {w0 w : World} {t base : Nat} {l : List Int} {v : Value} {es : List Ky} (h : Wg w0 w t l) (hr : RowK w base v es) (ho : ∀ e ∈ es, keyOk e) (hn : es.length ≤ 48) (hl : l.length ≤ 500000) :
    Calls Try.prog 70 #[.pointer (some ⟨t, 0, none⟩), v, .func (.func 71) #[.pointer (some ⟨t, 0, none⟩)] #[]] w fun e w' => WrR w0 w t (l ++ (numI es.length ++ es.flatMap keyB)) e w' := by
  obtain ⟨a, cap, rfl⟩ := owns_len hr
  obtain ⟨n, hn'⟩ : ∃ n, es.length = n := ⟨_, rfl⟩
  have HN : Hid (Calls Try.prog 64 #[.pointer (some ⟨t, 0, none⟩), .slice (some ⟨w.heap.size, 0, none⟩) 1 1] (w.alloc (.cells #[.int .i64 (n : Int)] 3)) fun e w' => WrR w0 w t (l ++ numI n) e w') := h.wrote.num n (by unfold numOk; omega) (by omega)
  have H : Hid (RowK w base (.slice a n cap) es ∧ (∀ e ∈ es, keyOk e) ∧ es.length = n ∧ Wg w0 w t l) := ⟨by rw [← hn']; exact hr, ho, hn', h⟩
  have hnl := numI_len (v := (n : Int)) (by unfold numOk; omega)
  rw [hn'] at hn ⊢
  obtain ⟨L, hL⟩ : ∃ L, l ++ numI n = L := ⟨_, rfl⟩
  have hlL : L.length ≤ 500010 := by rw [← hL, List.length_append]; omega
  have HL : Hid (l ++ (numI n ++ es.flatMap keyB) = L ++ es.flatMap keyB) := by show _ = _; rw [← List.append_assoc, hL]
  rw [hL] at HN
  clear hr ho hn' h hnl hL
  go_enter Try.func70, Try.ntmps70
  go_wp2_with (go_at_call 64; refine HN.out.mono ?_; rintro e w1 ⟨rfl, h1⟩)
  go_loopw [15] (fun i wr => ∃ k : Nat, k ≤ n ∧ i = .int .i64 k ∧ Hid (Wrote w0 w wr t (L ++ (es.take k).flatMap keyB) ∧ ((es.take k).flatMap keyB).length ≤ k * 300)) (fun i _ => n - (intOf i).toNat)
  case atStart => exact ⟨0, Nat.zero_le _, rfl, by simpa using h1.out, by simp⟩
  case round =>
    obtain ⟨k, hk, rfl, hI⟩ := hrel
    by_cases hkn : k < n
    · obtain ⟨e, he⟩ : ∃ e, es[k]? = some e := ⟨_, List.getElem?_eq_getElem (by rw [H.out.2.2.1]; exact hkn)⟩
      have hrow := H.out.1.kp hI.out.1.2 H.out.2.2.2.tt
      obtain ⟨g, rfl, -, hg, x0, x1, -⟩ := hrow.key he
      have hc : True := trivial
      have hki : (k : Int) < (n : Int) := by omega
      have HEo : Hid (keyOk e ∧ es[k]? = some e) := ⟨H.out.2.1 e (List.mem_of_getElem? he), he⟩
      obtain ⟨W5, hW5⟩ : ∃ W5, wr.alloc (.cells #[.int .i64 e.d, .string e.nm] 40) = W5 := ⟨_, rfl⟩
      have hb5 := boxed hI.out.1.1 hW5
      have HB : Hid (Wg w0 W5 t (L ++ (es.take k).flatMap keyB) ∧ Kp t w W5) := ⟨hb5.1, hI.out.1.2.trans hb5.2.2.2⟩
      have y0 := cell_of hb5.2.1 0
      have y1 := cell_of hb5.2.1 1
      simp at y0 y1
      clear hrow hc he hb5
      go_upto_region 4 with fail
      clear hW5 x0 x1
      go_wp2_with (go_at_call 71; refine (key_w HB.out.1 e HEo.out.1 (by have := hI.out.2; rw [List.length_append]; omega)).mono ?_; rintro x w7 ⟨rfl, h7⟩)
      refine ⟨⟨k + 1, by omega, by simp, ?_⟩, by simp [intOf]; omega⟩
      rw [flat_take keyB es k e HEo.out.2, ← List.append_assoc]
      refine ⟨⟨h7.out.1, HB.out.2.trans h7.out.2⟩, ?_⟩
      have := hI.out.2
      have := keyB_len HEo.out.1
      rw [List.length_append]; omega
    · have hkn' : ¬ (k : Int) < (n : Int) := by omega
      have hke : es.take k = es := List.take_of_length_le (by rw [H.out.2.2.1]; omega)
      rw [hke] at hI
      go_wp2
      go_end0
      rw [HL.out]
      exact ⟨rfl, hI.out.1⟩
end
end Go.Proofs.Ytekonakanieeaaa
