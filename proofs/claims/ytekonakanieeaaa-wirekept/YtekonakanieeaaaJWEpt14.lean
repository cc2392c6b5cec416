/- The document's own reading of bytes: entries read back; bytes compared. -/
import Derived.Test.YtekonakanieeaaaJWEpt13
import Derived.Test.YtekonakanieeaaaJWEpt11
namespace Go.Proofs.Ytekonakanieeaaa
section
open Go.RowKit Go.Lib
variable {Bq : Nat}

theorem rc_low {w : World} {b : Value} {l : List Int} (h : RC w b l) : l = [] ∨ ∃ g off n c, b = .slice (some ⟨g, off, none⟩) n c ∧ g < w.heap.size := by
  obtain ⟨a, c, e, _, hc⟩ := h
  rcases hc with hc | ⟨g, off, e', hg, _⟩
  · exact .inl hc
  · subst e'; exact .inr ⟨g, off, _, _, e, hg⟩
theorem entF_back (e : En) (r : List Int) (h : entOk e) : entF (some (entB e ++ r)) = (e, some r) := by
  obtain ⟨d, nm, neg, id, kind, mode, tg⟩ := e
  obtain ⟨⟨h1, h2⟩, h3⟩ := h
  have e1 : entB ⟨d, nm, neg, id, kind, mode, tg⟩ ++ r = numI d ++ (textB nm ++ ((if neg then [1] else 0 :: nodeB ⟨d, nm, neg, id, kind, mode, tg⟩) ++ r)) := by
    unfold entB keyB; simp only [List.append_assoc]
  rw [e1]
  unfold entF
  simp only []
  rw [num6_i _ _ h1]
  simp only []
  rw [strF_back _ _ h2]
  simp only []
  cases neg with
  | true =>
    simp only [if_true] at h3 ⊢
    obtain ⟨a, b, c, t⟩ := h3
    simp only [] at a b c t
    subst a b c t
    simp [octP]
  | false =>
    simp only [Bool.false_eq_true, if_false] at h3 ⊢
    obtain ⟨a, b, c, t⟩ := h3
    simp only [] at a b c t
    unfold nodeB
    simp only [List.cons_append, List.append_assoc, octP]
    rw [if_neg (by decide)]
    rw [num6_i _ _ a]
    simp only []
    rw [num6_i _ _ b]
    simp only []
    rw [strF_back _ _ t]
    simp
theorem OG.setO {w Z0 Z Z' : World} {i o : Nat} {to_ : TypeId} {b : Value} {k : Bool} {s : St} {cs cs' : Array Value} (h : OG Bq w Z0 Z i o to_ b k s cs) (hY : Only (· = o) Z Z') (hown : Z'.heap[o]? = some (.cells cs' to_ (0, 0))) (hio : i ≠ o) (ho : w.heap.size ≤ o) (hn : ∀ (m : Nat) (x : Int), cs[m]? ≠ some (.int .u8 x)) : OG Bq w Z0 Z' i o to_ b k s cs' :=
  ⟨(hY.block i (Array.getElem?_eq_some_iff.1 h.box).1 hio).trans h.box, hown, below_on1 h.bel hY ho, h.ri.farO h.own hn hY, h.only.trans (hY.mono fun _ h => .inr h)⟩
theorem take_len_eq6 {l l' : List Int} {k : Nat} (h : l.take k = l'.take k) (hk : k = l.length) (hk' : k = l'.length) : l = l' := by
  rw [List.take_of_length_le (by omega), List.take_of_length_le (by omega)] at h; exact h
theorem take_snoc6 {l l' : List Int} {k : Nat} {x : Int} (h : l.take k = l'.take k) (h1 : l[k]? = some x) (h2 : l'[k]? = some x) : l.take (k + 1) = l'.take (k + 1) := by
  rw [List.take_add_one, List.take_add_one, h, h1, h2]
set_option maxHeartbeats 1000000 in
theorem same6_any (v v' : Value) (l l' : List Int) (w : World) (h : RB w v l) (h' : RB w v' l') (hl : l.length ≤ 140737488351232) (hl' : l'.length ≤ 140737488351232) :
    Calls Try.prog 23 #[v, v'] w fun e w' => e = .returned (.bool (decide (l = l'))) ∧ Below w.heap.size w w' := by
  have hL := hl
  have hL' := hl'
  obtain ⟨a, cap, rfl, h1⟩ := h
  obtain ⟨a', cap', rfl, h1'⟩ := h'
  clear hl hl'
  by_cases hn : l.length = l'.length
  · have HC : Hid (∀ k x, l[k]? = some x → ∃ g off, a = some ⟨g, off, none⟩ ∧ g < w.heap.size ∧ w.cell? ⟨g, off + k, none⟩ = some (.int .u8 x)) := fun k x hx => by
      rcases h1 with rfl | ⟨g, off, e, hg, hc⟩
      · simp at hx
      · exact ⟨g, off, e, hg, hc k x hx⟩
    have HC' : Hid (∀ k x, l'[k]? = some x → ∃ g off, a' = some ⟨g, off, none⟩ ∧ g < w.heap.size ∧ w.cell? ⟨g, off + k, none⟩ = some (.int .u8 x)) := fun k x hx => by
      rcases h1' with rfl | ⟨g, off, e, hg, hc⟩
      · simp at hx
      · exact ⟨g, off, e, hg, hc k x hx⟩
    obtain ⟨n, hn1⟩ : ∃ n, l.length = n := ⟨_, rfl⟩
    have hn2 : l'.length = n := by omega
    have HN : Hid (l.length = n ∧ l'.length = n) := ⟨hn1, hn2⟩
    rw [hn1] at hL
    rw [hn1, hn2]
    clear h1 h1' hn hn1 hn2 hL'
    go_enter Try.func23, Try.ntmps23
    go_wp2
    go_loopw [5] (fun i wr => ∃ k : Nat, k ≤ n ∧ i = .int .i64 k ∧ l.take k = l'.take k ∧ Below w.heap.size w wr) (fun i _ => n - (intOf i).toNat)
    case atStart => exact ⟨0, Nat.zero_le _, rfl, rfl, Below.refl _ _⟩
    case round =>
      obtain ⟨k, hk, rfl, ht, hb⟩ := hrel
      by_cases hlt : k < n
      · obtain ⟨x, hx⟩ : ∃ x, l[k]? = some x := ⟨_, List.getElem?_eq_getElem (by rw [HN.out.1]; exact hlt)⟩
        obtain ⟨x', hx'⟩ : ∃ x, l'[k]? = some x := ⟨_, List.getElem?_eq_getElem (by rw [HN.out.2]; exact hlt)⟩
        obtain ⟨g, off, rfl, hg, c1⟩ := HC.out k x hx
        obtain ⟨g', off', rfl, hg', c2⟩ := HC'.out k x' hx'
        have d1 := (hb.cell (p := ⟨g, off + k, none⟩) hg).trans c1
        have d2 := (hb.cell (p := ⟨g', off' + k, none⟩) hg').trans c2
        have hki : (k : Int) < (n : Int) := by omega
        by_cases hxx : x = x'
        · subst hxx
          have HT : Hid (l.take (k + 1) = l'.take (k + 1)) := take_snoc6 ht hx hx'
          clear hx hx' c1 c2 ht
          go_wp2
          go_quiet (fail)
          go_wp2
          go_roundw
          case rel => exact ⟨k + 1, by omega, by go_num, HT.out, below_drewN hb _⟩
          case measure => simp [intOf]; omega
        · have hne : (x != x') = true := by simpa using hxx
          have HE : Hid (decide (l = l') = false) := decide_eq_false (by rintro rfl; rw [hx] at hx'; exact hxx (Option.some.inj hx'))
          clear hx hx' c1 c2 ht hxx
          go_wp2
          go_quiet (fail)
          go_wp2
          go_ret
          exact ⟨by rw [HE.out]; rfl, below_drewN hb _⟩
      · have hkl : k = n := by omega
        subst hkl
        have HE : Hid (decide (l = l') = true) := decide_eq_true (take_len_eq6 ht HN.out.1.symm HN.out.2.symm)
        go_wp2
        go_ret
        exact ⟨by rw [HE.out]; rfl, hb⟩
  · have HE : Hid (decide (l = l') = false) := decide_eq_false (by rintro rfl; exact hn rfl)
    have hne : ((l.length : Int) != (l'.length : Int)) = true := by simp; omega
    clear h1 h1'
    go_enter Try.func23, Try.ntmps23
    go_wp2
    go_ret
    exact ⟨by rw [HE.out]; rfl, Below.refl _ _⟩
end
section
open Go.RowKit Go.Lib

theorem Rg.lt {w : World} {r : Nat} {v : Value} {l : List Int} {s : St} (h : Rg w r v l s) : r < w.heap.size := by obtain ⟨a, st, h⟩ := h; exact h.tt.lt
theorem Red.le {w W w' : World} {r : Nat} {v : Value} {l : List Int} {s s0 : St} (h : Red W w' r v l s) (_h0 : Rg w r v l s0) (hb : Below w.heap.size w W) : Red w w' r v l s := ⟨h.1, (Only.of hb).trans h.2⟩
/-- a box of the call's own turned -/
theorem Red.box {w w2 w3 : World} {r g : Nat} {v : Value} {l : List Int} {s s0 : St} (h : Red w w2 r v l s) (h0 : Rg w r v l s0) (hO : Only (· = g) w2 w3) (hg : w.heap.size ≤ g) : Red w w3 r v l s := by
  obtain ⟨⟨a, st, hi⟩, hO2⟩ := h
  have hr := h0.lt
  obtain ⟨a0, st0, hi0⟩ := h0
  have hlt := hi.tt.lt
  refine ⟨⟨a, st, (hO.block r hlt (by omega)).trans hi.head, hi.state, ?_, hi.off, hi.byt, hi.lim⟩, ?_⟩
  · obtain ⟨ad, cap, rfl, hcap, h⟩ := hi.rb
    obtain ⟨ad', cap', e, _, h'⟩ := hi0.rb
    cases e
    refine ⟨ad, cap, rfl, hcap, ?_⟩
    rcases h with h | ⟨g1, off, rfl, hg1, hc⟩
    · exact .inl h
    · rcases h' with h' | ⟨g2, off2, e2, hg2, _⟩
      · exact .inl h'
      · cases e2
        exact .inr ⟨g1, off, rfl, Nat.lt_of_lt_of_le hg1 hO.size, fun i x hx => (World.cell?_of_block (hO.block g1 hg1 (by omega))).trans (hc i x hx)⟩
  · exact ⟨hO.os.trans hO2.os, hO.tape.trans hO2.tape, hO.output.trans hO2.output, Nat.le_trans hO2.size hO.size, fun k hk hn => (hO.block k (Nat.lt_of_lt_of_le hk hO2.size) (by omega)).trans (hO2.block k hk hn)⟩
theorem Try.sizeKy : (Try.prog.info? 40).map (·.size) = some 2 := by kernel_rfl
theorem Try.sizeNd : (Try.prog.info? 42).map (·.size) = some 4 := by kernel_rfl
theorem Try.sizeOp : (Try.prog.info? 26).map (·.size) = some 7 := by kernel_rfl
theorem Try.sizeSn : (Try.prog.info? 46).map (·.size) = some 3 := by kernel_rfl
def seen3P (s : St) : (Int × Int × Int) × St := (((numP s).1, (numP (numP s).2).1, (numP (numP (numP s).2).2).1), (numP (numP (numP s).2).2).2)
set_option maxRecDepth 20000 in
set_option maxHeartbeats 8000000 in
theorem key_r {w : World} {r : Nat} {v : Value} {l : List Int} {s : St} (h : Rg w r v l s) : Calls Try.prog 50 #[.pointer (some ⟨r, 0, none⟩)] w fun e w' => RdR w r v l (keyP s).2 (.agg #[.int .i64 (keyP s).1.d, .string (keyP s).1.nm]) e w' := by
  have HG : Hid (Rg w r v l s) := h
  obtain ⟨W, hW⟩ : ∃ W, w.alloc (.cells #[.int .i64 0, .string ⟨#[]⟩] 40) = W := ⟨_, rfl⟩
  have hb := boxB hW
  have HB : Hid (W.heap[w.heap.size]? = some (.cells #[.int .i64 0, .string ⟨#[]⟩] 40 (0, 0)) ∧ Below w.heap.size w W) := hb
  have HC1 : Hid (Calls Try.prog 44 #[.pointer (some ⟨r, 0, none⟩)] W fun e w' => RdR W r v l (numP s).2 (.int .i64 (numP s).1) e w') := number_r (h.below hb.2)
  have HC2 : Hid (∀ W2, Rg W2 r v l (numP s).2 → Calls Try.prog 80 #[.pointer (some ⟨r, 0, none⟩)] W2 fun e w' => RdR W2 r v l (textP (numP s).2).2 (.string (textP (numP s).2).1) e w') := fun W2 h2 => text_r h2
  have HE : Hid (keyP s = (⟨(numP s).1, (textP (numP s).2).1⟩, (textP (numP s).2).2)) := rfl
  rw [HE.out]
  simp only []
  obtain ⟨X1, hX1⟩ : ∃ x, (numP s).1 = x := ⟨_, rfl⟩
  obtain ⟨S1, hS1⟩ : ∃ x, (numP s).2 = x := ⟨_, rfl⟩
  rw [hX1, hS1] at HC1
  rw [hS1] at HC2
  rw [hX1, hS1] 
  clear hX1 hS1
  obtain ⟨X2, hX2⟩ : ∃ x, (textP S1).1 = x := ⟨_, rfl⟩
  obtain ⟨S2, hS2⟩ : ∃ x, (textP S1).2 = x := ⟨_, rfl⟩
  rw [hX2, hS2] at HC2
  rw [hX2, hS2] 
  clear hX2 hS2
  clear h hb HE
  go_enter Try.func50, Try.ntmps50
  go_upto_region 1 with fail
  clear hW
  go_wp2_with (first
    | (go_at_call 80; refine (HC2.out _ R1.out.1).mono ?_; rintro e w2 ⟨rfl, h2⟩; have R2 : Hid (Red W w2 r v l S2) := R1.out.on h2.out; have hbx : w2.heap[w.heap.size]? = some (.cells #[.int .i64 0, .string ⟨#[]⟩] 40 (0, 0)) := (R2.out.2.block _ (Array.getElem?_eq_some_iff.1 HB.out.1).1 (by have := HG.out.lt; omega)).trans HB.out.1; have zf := free_of hbx; have z0 := cell_of hbx 0; have z1 := cell_of hbx 1; simp at z0 z1; have HBx : Hid (w2.heap[w.heap.size]? = some (.cells #[.int .i64 0, .string ⟨#[]⟩] 40 (0, 0))) := hbx; clear hbx)
    | (go_at_call 44; refine (HC1.out).mono ?_; rintro e w1 ⟨rfl, h1⟩; have R1 : Hid (Red W w1 r v l S1) := ⟨h1.out.1, h1.out.2⟩))
  have hfin := heap_set (heap_set (HBx.out) 0 (.int .i64 X1)) 1 (.string X2)
  simp only [List.setIfInBounds_toArray, List.set_cons_zero, List.set_cons_succ] at hfin
  refine bodyPost_ret (results_cell_row rfl _ _ w.heap.size _ _ _ _ rfl hfin Try.underlying40 rfl Try.sizeKy) rfl ?_
  exact ⟨rfl, (R2.out.le HG.out HB.out.2).box HG.out ((only1 _ w.heap.size 0 _).trans (only1 _ w.heap.size 1 _)) (Nat.le_refl _)⟩
set_option maxRecDepth 20000 in
set_option maxHeartbeats 8000000 in
theorem node_r {w : World} {r : Nat} {v : Value} {l : List Int} {s : St} (h : Rg w r v l s) : Calls Try.prog 81 #[.pointer (some ⟨r, 0, none⟩)] w fun e w' => RdR w r v l (nodeP s).2 (.agg #[.int .i64 (nodeP s).1.id, .int .i64 (nodeP s).1.kind, .int .i64 (nodeP s).1.mode, .string (nodeP s).1.tg]) e w' := by
  have HG : Hid (Rg w r v l s) := h
  obtain ⟨W, hW⟩ : ∃ W, w.alloc (.cells #[.int .i64 0, .int .i64 0, .int .i64 0, .string ⟨#[]⟩] 42) = W := ⟨_, rfl⟩
  have hb := boxB hW
  have HB : Hid (W.heap[w.heap.size]? = some (.cells #[.int .i64 0, .int .i64 0, .int .i64 0, .string ⟨#[]⟩] 42 (0, 0)) ∧ Below w.heap.size w W) := hb
  have HC1 : Hid (Calls Try.prog 44 #[.pointer (some ⟨r, 0, none⟩)] W fun e w' => RdR W r v l (numP s).2 (.int .i64 (numP s).1) e w') := number_r (h.below hb.2)
  have HC2 : Hid (∀ W2, Rg W2 r v l (numP s).2 → Calls Try.prog 43 #[.pointer (some ⟨r, 0, none⟩)] W2 fun e w' => RdR W2 r v l (octP (numP s).2).2 (.int .i64 (octP (numP s).2).1) e w') := fun W2 h2 => octet_r h2
  have HC3 : Hid (∀ W2, Rg W2 r v l (octP (numP s).2).2 → Calls Try.prog 44 #[.pointer (some ⟨r, 0, none⟩)] W2 fun e w' => RdR W2 r v l (numP (octP (numP s).2).2).2 (.int .i64 (numP (octP (numP s).2).2).1) e w') := fun W2 h2 => number_r h2
  have HC4 : Hid (∀ W2, Rg W2 r v l (numP (octP (numP s).2).2).2 → Calls Try.prog 80 #[.pointer (some ⟨r, 0, none⟩)] W2 fun e w' => RdR W2 r v l (textP (numP (octP (numP s).2).2).2).2 (.string (textP (numP (octP (numP s).2).2).2).1) e w') := fun W2 h2 => text_r h2
  have HE : Hid (nodeP s = (⟨(numP s).1, (octP (numP s).2).1, (numP (octP (numP s).2).2).1, (textP (numP (octP (numP s).2).2).2).1⟩, (textP (numP (octP (numP s).2).2).2).2)) := rfl
  rw [HE.out]
  simp only []
  obtain ⟨X1, hX1⟩ : ∃ x, (numP s).1 = x := ⟨_, rfl⟩
  obtain ⟨S1, hS1⟩ : ∃ x, (numP s).2 = x := ⟨_, rfl⟩
  rw [hX1, hS1] at HC1
  rw [hS1] at HC2
  rw [hS1] at HC3
  rw [hS1] at HC4
  rw [hX1, hS1] 
  clear hX1 hS1
  obtain ⟨X2, hX2⟩ : ∃ x, (octP S1).1 = x := ⟨_, rfl⟩
  obtain ⟨S2, hS2⟩ : ∃ x, (octP S1).2 = x := ⟨_, rfl⟩
  rw [hX2, hS2] at HC2
  rw [hS2] at HC3
  rw [hS2] at HC4
  rw [hX2, hS2] 
  clear hX2 hS2
  obtain ⟨X3, hX3⟩ : ∃ x, (numP S2).1 = x := ⟨_, rfl⟩
  obtain ⟨S3, hS3⟩ : ∃ x, (numP S2).2 = x := ⟨_, rfl⟩
  rw [hX3, hS3] at HC3
  rw [hS3] at HC4
  rw [hX3, hS3] 
  clear hX3 hS3
  obtain ⟨X4, hX4⟩ : ∃ x, (textP S3).1 = x := ⟨_, rfl⟩
  obtain ⟨S4, hS4⟩ : ∃ x, (textP S3).2 = x := ⟨_, rfl⟩
  rw [hX4, hS4] at HC4
  rw [hX4, hS4] 
  clear hX4 hS4
  clear h hb HE
  go_enter Try.func81, Try.ntmps81
  go_upto_region 1 with fail
  clear hW
  go_wp2_with (first
    | (go_at_call 80; refine (HC4.out _ R3.out.1).mono ?_; rintro e w4 ⟨rfl, h4⟩; have R4 : Hid (Red W w4 r v l S4) := R3.out.on h4.out; have hbx : w4.heap[w.heap.size]? = some (.cells #[.int .i64 0, .int .i64 0, .int .i64 0, .string ⟨#[]⟩] 42 (0, 0)) := (R4.out.2.block _ (Array.getElem?_eq_some_iff.1 HB.out.1).1 (by have := HG.out.lt; omega)).trans HB.out.1; have zf := free_of hbx; have z0 := cell_of hbx 0; have z1 := cell_of hbx 1; have z2 := cell_of hbx 2; have z3 := cell_of hbx 3; simp at z0 z1 z2 z3; have HBx : Hid (w4.heap[w.heap.size]? = some (.cells #[.int .i64 0, .int .i64 0, .int .i64 0, .string ⟨#[]⟩] 42 (0, 0))) := hbx; clear hbx)
    | (go_at_call 44; refine (HC3.out _ R2.out.1).mono ?_; rintro e w3 ⟨rfl, h3⟩; have R3 : Hid (Red W w3 r v l S3) := R2.out.on h3.out)
    | (go_at_call 43; refine (HC2.out _ R1.out.1).mono ?_; rintro e w2 ⟨rfl, h2⟩; have R2 : Hid (Red W w2 r v l S2) := R1.out.on h2.out)
    | (go_at_call 44; refine (HC1.out).mono ?_; rintro e w1 ⟨rfl, h1⟩; have R1 : Hid (Red W w1 r v l S1) := ⟨h1.out.1, h1.out.2⟩))
  have hfin := heap_set (heap_set (heap_set (heap_set (HBx.out) 0 (.int .i64 X1)) 1 (.int .i64 X2)) 2 (.int .i64 X3)) 3 (.string X4)
  simp only [List.setIfInBounds_toArray, List.set_cons_zero, List.set_cons_succ] at hfin
  refine bodyPost_ret (results_cell_row rfl _ _ w.heap.size _ _ _ _ rfl hfin Try.underlying42 rfl Try.sizeNd) rfl ?_
  exact ⟨rfl, (R4.out.le HG.out HB.out.2).box HG.out ((((only1 _ w.heap.size 0 _).trans (only1 _ w.heap.size 1 _)).trans (only1 _ w.heap.size 2 _)).trans (only1 _ w.heap.size 3 _)) (Nat.le_refl _)⟩
set_option maxRecDepth 20000 in
set_option maxHeartbeats 8000000 in
theorem op_r {w : World} {r : Nat} {v : Value} {l : List Int} {s : St} (h : Rg w r v l s) : Calls Try.prog 46 #[.pointer (some ⟨r, 0, none⟩)] w fun e w' => RdR w r v l (opP s).2 (.agg #[.int .i64 (opP s).1.kind, .int .i64 (opP s).1.dir, .string (opP s).1.nm, .int .i64 (opP s).1.dst, .string (opP s).1.new, .int .i64 (opP s).1.mode, .string (opP s).1.tg]) e w' := by
  have HG : Hid (Rg w r v l s) := h
  obtain ⟨W, hW⟩ : ∃ W, w.alloc (.cells #[.int .i64 0, .int .i64 0, .string ⟨#[]⟩, .int .i64 0, .string ⟨#[]⟩, .int .i64 0, .string ⟨#[]⟩] 26) = W := ⟨_, rfl⟩
  have hb := boxB hW
  have HB : Hid (W.heap[w.heap.size]? = some (.cells #[.int .i64 0, .int .i64 0, .string ⟨#[]⟩, .int .i64 0, .string ⟨#[]⟩, .int .i64 0, .string ⟨#[]⟩] 26 (0, 0)) ∧ Below w.heap.size w W) := hb
  have HC1 : Hid (Calls Try.prog 43 #[.pointer (some ⟨r, 0, none⟩)] W fun e w' => RdR W r v l (octP s).2 (.int .i64 (octP s).1) e w') := octet_r (h.below hb.2)
  have HC2 : Hid (∀ W2, Rg W2 r v l (octP s).2 → Calls Try.prog 44 #[.pointer (some ⟨r, 0, none⟩)] W2 fun e w' => RdR W2 r v l (numP (octP s).2).2 (.int .i64 (numP (octP s).2).1) e w') := fun W2 h2 => number_r h2
  have HC3 : Hid (∀ W2, Rg W2 r v l (numP (octP s).2).2 → Calls Try.prog 80 #[.pointer (some ⟨r, 0, none⟩)] W2 fun e w' => RdR W2 r v l (textP (numP (octP s).2).2).2 (.string (textP (numP (octP s).2).2).1) e w') := fun W2 h2 => text_r h2
  have HC4 : Hid (∀ W2, Rg W2 r v l (textP (numP (octP s).2).2).2 → Calls Try.prog 44 #[.pointer (some ⟨r, 0, none⟩)] W2 fun e w' => RdR W2 r v l (numP (textP (numP (octP s).2).2).2).2 (.int .i64 (numP (textP (numP (octP s).2).2).2).1) e w') := fun W2 h2 => number_r h2
  have HC5 : Hid (∀ W2, Rg W2 r v l (numP (textP (numP (octP s).2).2).2).2 → Calls Try.prog 80 #[.pointer (some ⟨r, 0, none⟩)] W2 fun e w' => RdR W2 r v l (textP (numP (textP (numP (octP s).2).2).2).2).2 (.string (textP (numP (textP (numP (octP s).2).2).2).2).1) e w') := fun W2 h2 => text_r h2
  have HC6 : Hid (∀ W2, Rg W2 r v l (textP (numP (textP (numP (octP s).2).2).2).2).2 → Calls Try.prog 44 #[.pointer (some ⟨r, 0, none⟩)] W2 fun e w' => RdR W2 r v l (numP (textP (numP (textP (numP (octP s).2).2).2).2).2).2 (.int .i64 (numP (textP (numP (textP (numP (octP s).2).2).2).2).2).1) e w') := fun W2 h2 => number_r h2
  have HC7 : Hid (∀ W2, Rg W2 r v l (numP (textP (numP (textP (numP (octP s).2).2).2).2).2).2 → Calls Try.prog 80 #[.pointer (some ⟨r, 0, none⟩)] W2 fun e w' => RdR W2 r v l (textP (numP (textP (numP (textP (numP (octP s).2).2).2).2).2).2).2 (.string (textP (numP (textP (numP (textP (numP (octP s).2).2).2).2).2).2).1) e w') := fun W2 h2 => text_r h2
  have HE : Hid (opP s = (⟨(octP s).1, (numP (octP s).2).1, (textP (numP (octP s).2).2).1, (numP (textP (numP (octP s).2).2).2).1, (textP (numP (textP (numP (octP s).2).2).2).2).1, (numP (textP (numP (textP (numP (octP s).2).2).2).2).2).1, (textP (numP (textP (numP (textP (numP (octP s).2).2).2).2).2).2).1⟩, (textP (numP (textP (numP (textP (numP (octP s).2).2).2).2).2).2).2)) := rfl
  rw [HE.out]
  simp only []
  obtain ⟨X1, hX1⟩ : ∃ x, (octP s).1 = x := ⟨_, rfl⟩
  obtain ⟨S1, hS1⟩ : ∃ x, (octP s).2 = x := ⟨_, rfl⟩
  rw [hX1, hS1] at HC1
  rw [hS1] at HC2
  rw [hS1] at HC3
  rw [hS1] at HC4
  rw [hS1] at HC5
  rw [hS1] at HC6
  rw [hS1] at HC7
  rw [hX1, hS1] 
  clear hX1 hS1
  obtain ⟨X2, hX2⟩ : ∃ x, (numP S1).1 = x := ⟨_, rfl⟩
  obtain ⟨S2, hS2⟩ : ∃ x, (numP S1).2 = x := ⟨_, rfl⟩
  rw [hX2, hS2] at HC2
  rw [hS2] at HC3
  rw [hS2] at HC4
  rw [hS2] at HC5
  rw [hS2] at HC6
  rw [hS2] at HC7
  rw [hX2, hS2] 
  clear hX2 hS2
  obtain ⟨X3, hX3⟩ : ∃ x, (textP S2).1 = x := ⟨_, rfl⟩
  obtain ⟨S3, hS3⟩ : ∃ x, (textP S2).2 = x := ⟨_, rfl⟩
  rw [hX3, hS3] at HC3
  rw [hS3] at HC4
  rw [hS3] at HC5
  rw [hS3] at HC6
  rw [hS3] at HC7
  rw [hX3, hS3] 
  clear hX3 hS3
  obtain ⟨X4, hX4⟩ : ∃ x, (numP S3).1 = x := ⟨_, rfl⟩
  obtain ⟨S4, hS4⟩ : ∃ x, (numP S3).2 = x := ⟨_, rfl⟩
  rw [hX4, hS4] at HC4
  rw [hS4] at HC5
  rw [hS4] at HC6
  rw [hS4] at HC7
  rw [hX4, hS4] 
  clear hX4 hS4
  obtain ⟨X5, hX5⟩ : ∃ x, (textP S4).1 = x := ⟨_, rfl⟩
  obtain ⟨S5, hS5⟩ : ∃ x, (textP S4).2 = x := ⟨_, rfl⟩
  rw [hX5, hS5] at HC5
  rw [hS5] at HC6
  rw [hS5] at HC7
  rw [hX5, hS5] 
  clear hX5 hS5
  obtain ⟨X6, hX6⟩ : ∃ x, (numP S5).1 = x := ⟨_, rfl⟩
  obtain ⟨S6, hS6⟩ : ∃ x, (numP S5).2 = x := ⟨_, rfl⟩
  rw [hX6, hS6] at HC6
  rw [hS6] at HC7
  rw [hX6, hS6] 
  clear hX6 hS6
  obtain ⟨X7, hX7⟩ : ∃ x, (textP S6).1 = x := ⟨_, rfl⟩
  obtain ⟨S7, hS7⟩ : ∃ x, (textP S6).2 = x := ⟨_, rfl⟩
  rw [hX7, hS7] at HC7
  rw [hX7, hS7] 
  clear hX7 hS7
  clear h hb HE
  go_enter Try.func46, Try.ntmps46
  go_upto_region 1 with fail
  clear hW
  go_wp2_with (first
    | (go_at_call 80; refine (HC7.out _ R6.out.1).mono ?_; rintro e w7 ⟨rfl, h7⟩; have R7 : Hid (Red W w7 r v l S7) := R6.out.on h7.out; have hbx : w7.heap[w.heap.size]? = some (.cells #[.int .i64 0, .int .i64 0, .string ⟨#[]⟩, .int .i64 0, .string ⟨#[]⟩, .int .i64 0, .string ⟨#[]⟩] 26 (0, 0)) := (R7.out.2.block _ (Array.getElem?_eq_some_iff.1 HB.out.1).1 (by have := HG.out.lt; omega)).trans HB.out.1; have zf := free_of hbx; have z0 := cell_of hbx 0; have z1 := cell_of hbx 1; have z2 := cell_of hbx 2; have z3 := cell_of hbx 3; have z4 := cell_of hbx 4; have z5 := cell_of hbx 5; have z6 := cell_of hbx 6; simp at z0 z1 z2 z3 z4 z5 z6; have HBx : Hid (w7.heap[w.heap.size]? = some (.cells #[.int .i64 0, .int .i64 0, .string ⟨#[]⟩, .int .i64 0, .string ⟨#[]⟩, .int .i64 0, .string ⟨#[]⟩] 26 (0, 0))) := hbx; clear hbx)
    | (go_at_call 44; refine (HC6.out _ R5.out.1).mono ?_; rintro e w6 ⟨rfl, h6⟩; have R6 : Hid (Red W w6 r v l S6) := R5.out.on h6.out)
    | (go_at_call 80; refine (HC5.out _ R4.out.1).mono ?_; rintro e w5 ⟨rfl, h5⟩; have R5 : Hid (Red W w5 r v l S5) := R4.out.on h5.out)
    | (go_at_call 44; refine (HC4.out _ R3.out.1).mono ?_; rintro e w4 ⟨rfl, h4⟩; have R4 : Hid (Red W w4 r v l S4) := R3.out.on h4.out)
    | (go_at_call 80; refine (HC3.out _ R2.out.1).mono ?_; rintro e w3 ⟨rfl, h3⟩; have R3 : Hid (Red W w3 r v l S3) := R2.out.on h3.out)
    | (go_at_call 44; refine (HC2.out _ R1.out.1).mono ?_; rintro e w2 ⟨rfl, h2⟩; have R2 : Hid (Red W w2 r v l S2) := R1.out.on h2.out)
    | (go_at_call 43; refine (HC1.out).mono ?_; rintro e w1 ⟨rfl, h1⟩; have R1 : Hid (Red W w1 r v l S1) := ⟨h1.out.1, h1.out.2⟩))
  have hfin := heap_set (heap_set (heap_set (heap_set (heap_set (heap_set (heap_set (HBx.out) 0 (.int .i64 X1)) 1 (.int .i64 X2)) 2 (.string X3)) 3 (.int .i64 X4)) 4 (.string X5)) 5 (.int .i64 X6)) 6 (.string X7)
  simp only [List.setIfInBounds_toArray, List.set_cons_zero, List.set_cons_succ] at hfin
  refine bodyPost_ret (results_cell_row rfl _ _ w.heap.size _ _ _ _ rfl hfin Try.underlying26 rfl Try.sizeOp) rfl ?_
  exact ⟨rfl, (R7.out.le HG.out HB.out.2).box HG.out (((((((only1 _ w.heap.size 0 _).trans (only1 _ w.heap.size 1 _)).trans (only1 _ w.heap.size 2 _)).trans (only1 _ w.heap.size 3 _)).trans (only1 _ w.heap.size 4 _)).trans (only1 _ w.heap.size 5 _)).trans (only1 _ w.heap.size 6 _)) (Nat.le_refl _)⟩
set_option maxRecDepth 20000 in
set_option maxHeartbeats 8000000 in
theorem seen_r {w : World} {r : Nat} {v : Value} {l : List Int} {s : St} (h : Rg w r v l s) : Calls Try.prog 59 #[.pointer (some ⟨r, 0, none⟩)] w fun e w' => RdR w r v l (seen3P s).2 (.agg #[.int .i64 (seen3P s).1.1, .int .i64 (seen3P s).1.2.1, .int .i64 (seen3P s).1.2.2]) e w' := by
  have HG : Hid (Rg w r v l s) := h
  obtain ⟨W, hW⟩ : ∃ W, w.alloc (.cells #[.int .i64 0, .int .i64 0, .int .i64 0] 46) = W := ⟨_, rfl⟩
  have hb := boxB hW
  have HB : Hid (W.heap[w.heap.size]? = some (.cells #[.int .i64 0, .int .i64 0, .int .i64 0] 46 (0, 0)) ∧ Below w.heap.size w W) := hb
  have HC1 : Hid (Calls Try.prog 44 #[.pointer (some ⟨r, 0, none⟩)] W fun e w' => RdR W r v l (numP s).2 (.int .i64 (numP s).1) e w') := number_r (h.below hb.2)
  have HC2 : Hid (∀ W2, Rg W2 r v l (numP s).2 → Calls Try.prog 44 #[.pointer (some ⟨r, 0, none⟩)] W2 fun e w' => RdR W2 r v l (numP (numP s).2).2 (.int .i64 (numP (numP s).2).1) e w') := fun W2 h2 => number_r h2
  have HC3 : Hid (∀ W2, Rg W2 r v l (numP (numP s).2).2 → Calls Try.prog 44 #[.pointer (some ⟨r, 0, none⟩)] W2 fun e w' => RdR W2 r v l (numP (numP (numP s).2).2).2 (.int .i64 (numP (numP (numP s).2).2).1) e w') := fun W2 h2 => number_r h2
  have HE : Hid (seen3P s = (((numP s).1, (numP (numP s).2).1, (numP (numP (numP s).2).2).1), (numP (numP (numP s).2).2).2)) := rfl
  rw [HE.out]
  simp only []
  obtain ⟨X1, hX1⟩ : ∃ x, (numP s).1 = x := ⟨_, rfl⟩
  obtain ⟨S1, hS1⟩ : ∃ x, (numP s).2 = x := ⟨_, rfl⟩
  rw [hX1, hS1] at HC1
  rw [hS1] at HC2
  rw [hS1] at HC3
  rw [hX1, hS1] 
  clear hX1 hS1
  obtain ⟨X2, hX2⟩ : ∃ x, (numP S1).1 = x := ⟨_, rfl⟩
  obtain ⟨S2, hS2⟩ : ∃ x, (numP S1).2 = x := ⟨_, rfl⟩
  rw [hX2, hS2] at HC2
  rw [hS2] at HC3
  rw [hX2, hS2] 
  clear hX2 hS2
  obtain ⟨X3, hX3⟩ : ∃ x, (numP S2).1 = x := ⟨_, rfl⟩
  obtain ⟨S3, hS3⟩ : ∃ x, (numP S2).2 = x := ⟨_, rfl⟩
  rw [hX3, hS3] at HC3
  rw [hX3, hS3] 
  clear hX3 hS3
  clear h hb HE
  go_enter Try.func59, Try.ntmps59
  go_upto_region 1 with fail
  clear hW
  go_wp2_with (first
    | (go_at_call 44; refine (HC3.out _ R2.out.1).mono ?_; rintro e w3 ⟨rfl, h3⟩; have R3 : Hid (Red W w3 r v l S3) := R2.out.on h3.out; have hbx : w3.heap[w.heap.size]? = some (.cells #[.int .i64 0, .int .i64 0, .int .i64 0] 46 (0, 0)) := (R3.out.2.block _ (Array.getElem?_eq_some_iff.1 HB.out.1).1 (by have := HG.out.lt; omega)).trans HB.out.1; have zf := free_of hbx; have z0 := cell_of hbx 0; have z1 := cell_of hbx 1; have z2 := cell_of hbx 2; simp at z0 z1 z2; have HBx : Hid (w3.heap[w.heap.size]? = some (.cells #[.int .i64 0, .int .i64 0, .int .i64 0] 46 (0, 0))) := hbx; clear hbx)
    | (go_at_call 44; refine (HC2.out _ R1.out.1).mono ?_; rintro e w2 ⟨rfl, h2⟩; have R2 : Hid (Red W w2 r v l S2) := R1.out.on h2.out)
    | (go_at_call 44; refine (HC1.out).mono ?_; rintro e w1 ⟨rfl, h1⟩; have R1 : Hid (Red W w1 r v l S1) := ⟨h1.out.1, h1.out.2⟩))
  have hfin := heap_set (heap_set (heap_set (HBx.out) 0 (.int .i64 X1)) 1 (.int .i64 X2)) 2 (.int .i64 X3)
  simp only [List.setIfInBounds_toArray, List.set_cons_zero, List.set_cons_succ] at hfin
  refine bodyPost_ret (results_cell_row rfl _ _ w.heap.size _ _ _ _ rfl hfin Try.underlying46 rfl Try.sizeSn) rfl ?_
  exact ⟨rfl, (R3.out.le HG.out HB.out.2).box HG.out (((only1 _ w.heap.size 0 _).trans (only1 _ w.heap.size 1 _)).trans (only1 _ w.heap.size 2 _)) (Nat.le_refl _)⟩
end
end Go.Proofs.Ytekonakanieeaaa
