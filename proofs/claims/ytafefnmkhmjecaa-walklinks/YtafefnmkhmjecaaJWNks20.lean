/- WalkLinks. (Written by genlinks.py.) -/
import Derived.Test.YtafefnmkhmjecaaJWNks19
namespace Go.Proofs.Ytafefnmkhmjecaa
section
open Go.RowKit
attribute [local go_sem ↓ high] loadEn storeEn storeOu
attribute [local go_sem high] eqK neqK guardK eqN neqN guardN
theorem ouNode {w : World} {g : Nat} {o : Ou} {uv : Value} (h : w.heap[g]? = some (.cells (ouVals o uv).toArray 34 (0, 0))) : w.cell? ⟨g, 5, none⟩ = some (.int .i64 o.node.kind) ∧ w.cell? ⟨g, 6, none⟩ = some (.int .i64 o.node.mode) ∧ w.cell? ⟨g, 7, none⟩ = some (.string o.node.tg) :=
  ⟨by rw [cell_of h]; rfl, by rw [cell_of h]; rfl, by rw [cell_of h]; rfl⟩
theorem okB_of {k l : Nat} (hk : k < 12) (hl : l < 9) : okB k l = true := by
  have := okB_all
  rw [List.all_eq_true] at this
  have := this k (List.mem_range.2 hk)
  rw [List.all_eq_true] at this
  exact this l (List.mem_range.2 hl)
set_option maxRecDepth 100000 in
set_option maxHeartbeats 32000000 in
theorem walk_WalkLinks (n links : Int) (_ : (Lit.int .i64 n).wf = true) (_ : (Lit.int .i64 links).wf = true) (w : World) :
    Calls Try.prog 4 #[.int .i64 n, .int .i64 links] w fun x w' => x = .returned (.bool true) ∧ Below w.heap.size w w' := by
  obtain ⟨k, hk, hk12⟩ : ∃ k : Nat, placeV n 12 = (k : Int) ∧ k < 12 := by
    have := placeV_bd n 12 (by decide)
    exact ⟨(placeV n 12).toNat, by omega, by omega⟩
  have HPl : Hid (∀ W, Calls Try.prog 13 #[.int .i64 n, .int .i64 12] W fun e w' => e = .returned (.int .i64 k) ∧ w' = W) := fun W => by
    have := place_any n 12 W (by decide) (by decide)
    rw [hk] at this
    exact this
  have HN : Hid (Calls Try.prog 12 #[] w fun x w' => ∃ p, x = .returned (.pointer (some ⟨p, 0, none⟩)) ∧ Ldc w w w' p Cs.clear 0 (fun _ => False)) := ld_new w w _ (Below.refl _ _) (fun k hk => hk.elim)
  have HA : Hid (∀ w, Calls Try.prog 10 #[] w fun x w' => x = .returned (.bool true) ∧ Below w.heap.size w w') := awake14_p
  have bx := box9
  obtain ⟨l, hl⟩ : ∃ l, linksN links = l := ⟨_, rfl⟩
  have hl8 : l ≤ 8 := by rw [← hl]; exact linksN_le links
  have hll : min (max links 0) 8 = (l : Int) := by rw [← hl]; unfold linksN; omega
  obtain ⟨oo, ho⟩ : ∃ o, walkO (knC (allS k)) ⟨#[47, 97]⟩ true links = o := ⟨_, rfl⟩
  obtain ⟨xx, hx⟩ : ∃ o, walkO (knC (allS k)) ⟨#[47, 115, 101, 108, 102]⟩ true links = o := ⟨_, rfl⟩
  obtain ⟨yy, hy⟩ : ∃ o, walkO (knC (allS k)) ⟨#[47, 115, 101, 108, 102]⟩ false links = o := ⟨_, rfl⟩
  obtain ⟨l5, hl5⟩ : ∃ l, yy.used.length = l := ⟨_, rfl⟩
  have Ho : Hid (walkO (knC (allS k)) ⟨#[47, 97]⟩ true links = oo) := ho
  have hq := okB_of hk12 (show l < 9 by omega)
  have hqq : (xx.err = 49 ∧ xx.used.length = l + 1 ∧ yy.node.id = 98 ∧ yy.err = 0) ∧ (l < k → oo.err = 49 ∧ oo.used.length = l + 1) ∧ (¬ l < k → oo.err = 0 ∧ oo.node = ⟨99, 2, 5, ⟨#[]⟩⟩ ∧ oo.used.length = k + 1) := by
    unfold okB at hq
    rw [walk_go, hl] at ho hx hy
    rw [ho, hx, hy] at hq
    simp only [Bool.and_eq_true, decide_eq_true_iff] at hq
    refine ⟨⟨hq.1.1.1.1, hq.1.1.1.2, hq.1.1.2, hq.1.2⟩, fun hc => ?_, fun hc => ?_⟩
    · have := hq.2
      rw [if_pos hc, Bool.and_eq_true, decide_eq_true_iff, decide_eq_true_iff] at this
      exact this
    · have := hq.2
      rw [if_neg hc, Bool.and_eq_true, Bool.and_eq_true, decide_eq_true_iff, decide_eq_true_iff, decide_eq_true_iff] at this
      exact ⟨this.1.1, this.1.2, this.2⟩
  have HQo : Hid ((l < k → oo.err = 49 ∧ oo.used.length = l + 1) ∧ (¬ l < k → oo.err = 0 ∧ oo.node = ⟨99, 2, 5, ⟨#[]⟩⟩ ∧ oo.used.length = k + 1)) := hqq.2
  have HQx : Hid (walkO (knC (allS k)) ⟨#[47, 115, 101, 108, 102]⟩ true links = xx ∧ xx.used.length = l + 1 ∧ xx.err = 49) := ⟨hx, hqq.1.2.1, hqq.1.1⟩
  have HY : Hid (walkO (knC (allS k)) ⟨#[47, 115, 101, 108, 102]⟩ false links = yy ∧ yy.used.length = l5 ∧ yy.node.id = 98 ∧ yy.err = 0) := ⟨hy, hl5, hqq.1.2.2.1, hqq.1.2.2.2⟩
  clear hk hq hqq ho hx hy hl5 hl
  go_enter Try.func4, Try.ntmps4
  go_wp2_with (first
    | (go_at_call 13; refine (HPl.out _).mono ?_; rintro r w2 ⟨rfl, rfl⟩)
    | (go_at_call 12; refine HN.out.mono ?_; rintro r w1 ⟨p, rfl, hl⟩; have H1 : Hid (Ld w w1 p (chS 0) 0 (fun _ => False)) := hl.ld; clear hl))
  go_loopw [8] (fun s8 wr => ∃ i : Nat, i ≤ k ∧ s8 = .int .i64 i ∧ Hid (Ld w wr p (chS i) i (fun _ => False))) (fun s8 _ => k - (intOf s8).toNat)
  case atStart => exact ⟨0, Nat.zero_le _, rfl, H1⟩
  case round =>
    clear H1
    obtain ⟨i, hi, rfl, HJ⟩ := hrel
    by_cases hlt : i < k
    · have hltz : (i : Int) < (k : Int) := by omega
      obtain ⟨j1, hj1⟩ : ∃ j, i + 1 = j := ⟨_, rfl⟩
      obtain ⟨j2, hj2⟩ : ∃ j, i + 2 = j := ⟨_, rfl⟩
      have q1 : IntKind.i64.wrap ((i : Int) + 1) = (j1 : Int) := by rw [show (i : Int) + 1 = (j1 : Int) by omega]; exact IntWalk.i64_in _ (by omega)
      have q2 : IntKind.i64.wrap ((i : Int) + 2) = (j2 : Int) := by rw [show (i : Int) + 2 = (j2 : Int) by omega]; exact IntWalk.i64_in _ (by omega)
      have q3 : IntKind.i64.wrap (2 + (i : Int)) = (j2 : Int) := by rw [show 2 + (i : Int) = (j2 : Int) by omega]; exact IntWalk.i64_in _ (by omega)
      have q4 : (0 : Int) ≤ (i : Int) := by omega
      have q5 : (i : Int) ≤ (j1 : Int) := by omega
      have q6 : (j1 : Int) ≤ 13 := by omega
      have q7 : (j1 : Int) ≤ (j2 : Int) := by omega
      have q8 : (j2 : Int) ≤ 13 := by omega
      have q9 : (0 : Int) ≤ (j1 : Int) := by omega
      have q0 : (0 : Int) ≤ (j2 : Int) := by omega
      have HJ1 : Hid (i + 1 = j1) := hj1
      have HP : Hid (∀ W, Below wr.heap.size wr W → Calls Try.prog 14 #[.pointer (some ⟨p, 0, none⟩), .agg #[.int .i64 1, .string ((⟨#[97, 98, 99, 100, 101, 102, 103, 104, 105, 106, 107, 108, 109]⟩ : ByteArray).extract i j1), .bool false, .int .i64 j2, .int .i64 3, .int .i64 0, .string ((⟨#[97, 98, 99, 100, 101, 102, 103, 104, 105, 106, 107, 108, 109]⟩ : ByteArray).extract j1 j2)]] W fun x w' => ∃ z, x = .returned (.int .i64 z) ∧ Ld w w' p (chS j1) j1 (fun _ => False)) := fun W hb => by
        have he : (chE i).agg = .agg #[.int .i64 1, .string ((⟨#[97, 98, 99, 100, 101, 102, 103, 104, 105, 106, 107, 108, 109]⟩ : ByteArray).extract i j1), .bool false, .int .i64 j2, .int .i64 3, .int .i64 0, .string ((⟨#[97, 98, 99, 100, 101, 102, 103, 104, 105, 106, 107, 108, 109]⟩ : ByteArray).extract j1 j2)] := by
          rw [← hj1, ← hj2]
          show Value.agg #[.int .i64 1, .string (abcB.extract i (i + 1)), .bool false, .int .i64 (2 + (i : Int)), .int .i64 3, .int .i64 0, .string (abcB.extract (i + 1) (i + 1 + 1))] = _
          rw [show (2 + (i : Int)) = ((i + 2 : Nat) : Int) by omega]
          rfl
        rw [← he, ← hj1]
        refine (ld_put (HJ.out.on' hb) (chE i) (by omega)).mono ?_
        rintro x w' ⟨rfl, hc⟩
        exact ⟨_, rfl, hc.ld⟩
      clear hj1 hj2
      go_upto_region 9 with fail
      have Hd : Hid (Below wr.heap.size wr wr.drew) := below_drewN (Below.refl _ _) 1
      go_region_held3 (fun _ => True)
        (exact trivial)
        (first | (go_at_call 14; refine (HP.out _ Hd.out).mono ?_; rintro r w3 ⟨z3, rfl, hl⟩; have H3 : Hid (Ld w w3 p (chS j1) j1 (fun _ => False)) := hl; clear hl))
      all_goals (
        go_wp2
        go_roundw
        case rel => exact ⟨j1, by have := HJ1.out; omega, rfl, H3⟩
        case measure => simp [intOf]; have := HJ1.out; omega)
    · obtain rfl : i = k := by omega
      have hltz : ¬ (i : Int) < (i : Int) := by omega
      obtain ⟨k, hki⟩ : ∃ k, k = i := ⟨_, rfl⟩
      subst hki
      obtain ⟨k1, hk1⟩ : ∃ j, k + 1 = j := ⟨_, rfl⟩
      have q1 : IntKind.i64.wrap ((k : Int) + 1) = (k1 : Int) := by rw [show (k : Int) + 1 = (k1 : Int) by omega]; exact IntWalk.i64_in _ (by omega)
      have q4 : (0 : Int) ≤ (k : Int) := by omega
      have q5 : (k : Int) ≤ (k1 : Int) := by omega
      have q6 : (k1 : Int) ≤ 13 := by omega
      have q9 : (0 : Int) ≤ (k1 : Int) := by omega
      have HK1 : Hid (k + 1 = k1) := hk1
      have HP1 : Hid (∀ W, Below wr.heap.size wr W → Calls Try.prog 14 #[.pointer (some ⟨p, 0, none⟩), .agg #[.int .i64 1, .string ((⟨#[97, 98, 99, 100, 101, 102, 103, 104, 105, 106, 107, 108, 109]⟩ : ByteArray).extract k k1), .bool false, .int .i64 99, .int .i64 2, .int .i64 5, .string ⟨#[]⟩]] W fun x w' => ∃ z, x = .returned (.int .i64 z) ∧ Ld w w' p (putS (chS k) (endE k)) (k + 1) (fun _ => False)) := fun W hb => by
        rw [← hk1]
        refine (ld_put (HJ.out.on' hb) (endE k) (by omega)).mono ?_
        rintro x w' ⟨rfl, hc⟩
        exact ⟨_, rfl, hc.ld⟩
      have HP2 : Hid (∀ W, Ld w W p (putS (chS k) (endE k)) (k + 1) (fun _ => False) → Calls Try.prog 14 #[.pointer (some ⟨p, 0, none⟩), .agg #[.int .i64 1, .string ⟨#[115, 101, 108, 102]⟩, .bool false, .int .i64 98, .int .i64 3, .int .i64 0, .string ⟨#[115, 101, 108, 102]⟩]] W fun x w' => ∃ z, x = .returned (.int .i64 z) ∧ Ld w w' p (allS k) (k + 2) (fun _ => False)) := fun W h => by
        refine (ld_put h selfE (by omega)).mono ?_
        rintro x w' ⟨rfl, hc⟩
        exact ⟨_, rfl, hc.ld⟩
      have HWk : Hid (∀ W pa fol o lo, walkO (knC (allS k)) pa fol links = o → o.used.length = lo → Ld w W p (allS k) (k + 2) (fun _ => False) → Calls Try.prog 8 #[.pointer (some ⟨p, 0, none⟩), .slice none 0 0, .string pa, .bool fol, .int .i64 links] W fun r w' => ∃ a c, r = .returned (ouAgg o (.slice a lo c)) ∧ Below W.heap.size W w') := fun W pa fol o lo ho hlo h => by
        refine (ld_walk h pa fol links).mono ?_
        rintro r w' ⟨uv, rfl, hr, hb⟩
        rw [ho] at hr ⊢
        obtain ⟨a, c, rfl⟩ := owns_len hr
        rw [hlo]
        exact ⟨a, c, rfl, hb⟩
      clear hk1 HJ
      by_cases hneg : links < 0
      · obtain rfl : l = 0 := by omega
        have HX : Hid (walkO (knC (allS k)) ⟨#[47, 115, 101, 108, 102]⟩ true links = xx ∧ xx.used.length = 1 ∧ xx.err = 49) := HQx.out
        clear HQx
        by_cases hkl : 0 < k
        · have hz : (0 : Int) < (k : Int) := by omega
          have HOo : Hid (walkO (knC (allS k)) ⟨#[47, 97]⟩ true links = oo ∧ oo.used.length = 1 ∧ oo.err = 49) := ⟨Ho.out, by have := (HQo.out.1 hkl).2; omega, (HQo.out.1 hkl).1⟩
          clear hkl
          go_wp2_with (first
            | (go_at_call 10; refine (HA.out _).mono ?_; rintro r w9 ⟨rfl, hb⟩; have HZ : Hid (Below w.heap.size w w9) := chainB H6.out hb; clear hb)
            | (go_at_call 8; first
              | (refine (HWk.out _ ⟨#[47, 115, 101, 108, 102]⟩ false yy l5 HY.out.1 HY.out.2.1 H5.out.1).mono ?_; rintro r w8 ⟨a5, c5, rfl, hb⟩; obtain ⟨V5, hV5⟩ : ∃ V, w8.alloc (.cells (ouVals yy (.slice a5 l5 c5)).toArray 34) = V := ⟨_, rfl⟩; have bV5 := boxO hV5; have bb := chainB hb bV5.2.1; obtain ⟨-, -, -, y3, y4, -⟩ := ouCells bV5.1; obtain ⟨-, -, -, x3, -, x8⟩ := ouCells (hkeep H5.out.2.1 bb); have ob := hkeep H5.out.2.2 bb; obtain ⟨-, -, -, o3, o4, o8⟩ := ouCells ob; have o5 := ouNode ob; obtain ⟨o5, o6, o7⟩ := o5; rw [HY.out.2.2.1] at y4; rw [HY.out.2.2.2] at y3; rw [HX.out.2.2] at x3; rw [HOo.out.2.2] at o3; have H6 : Hid (Below w.heap.size w V5) := chainB H5.out.1.below bb; clear hb bV5 bb ob)
              | (refine (HWk.out _ ⟨#[47, 115, 101, 108, 102]⟩ true xx 1 HX.out.1 HX.out.2.1 H4.out.1).mono ?_; rintro r w7 ⟨a4, c4, rfl, hb⟩; obtain ⟨V4, hV4⟩ : ∃ V, w7.alloc (.cells (ouVals xx (.slice a4 1 c4)).toArray 34) = V := ⟨_, rfl⟩; have bV4 := boxO hV4; have bb := chainB hb bV4.2.1; have H5 : Hid (Ld w V4 p (allS k) (k + 2) (fun _ => False) ∧ V4.heap[w7.heap.size]? = some (.cells (ouVals xx (.slice a4 1 c4)).toArray 34 (0, 0)) ∧ V4.heap[w6.heap.size]? = some (.cells (ouVals oo (.slice a3 1 c3)).toArray 34 (0, 0))) := ⟨H4.out.1.on' bb, bV4.1, hkeep H4.out.2 bb⟩; clear hb bV4 bb)
              | (refine (HWk.out _ ⟨#[47, 97]⟩ true oo 1 HOo.out.1 HOo.out.2.1 H3.out).mono ?_; rintro r w6 ⟨a3, c3, rfl, hb⟩; obtain ⟨V3, hV3⟩ : ∃ V, w6.alloc (.cells (ouVals oo (.slice a3 1 c3)).toArray 34) = V := ⟨_, rfl⟩; have bV3 := boxO hV3; have H4 : Hid (Ld w V3 p (allS k) (k + 2) (fun _ => False) ∧ V3.heap[w6.heap.size]? = some (.cells (ouVals oo (.slice a3 1 c3)).toArray 34 (0, 0))) := ⟨H3.out.on' (chainB hb bV3.2.1), bV3.1⟩; clear hb bV3))
            | (go_at_call 14; first
              | (refine (HP2.out _ H2.out).mono ?_; rintro r w5 ⟨z5, rfl, hl⟩; have H3 : Hid (Ld w w5 p (allS k) (k + 2) (fun _ => False)) := hl; clear hl)
              | (refine (HP1.out _ (Below.refl _ _)).mono ?_; rintro r w4 ⟨z4, rfl, hl⟩; have H2 : Hid (Ld w w4 p (putS (chS k) (endE k)) (k + 1) (fun _ => False)) := hl; clear hl)))
          go_ret
          exact ⟨rfl, HZ.out⟩
        · have hz : ¬ (0 : Int) < (k : Int) := by omega
          have HOo : Hid (walkO (knC (allS k)) ⟨#[47, 97]⟩ true links = oo ∧ oo.used.length = k1 ∧ oo.err = 0 ∧ oo.node = ⟨99, 2, 5, ⟨#[]⟩⟩) := ⟨Ho.out, by have := (HQo.out.2 hkl).2.2; have := HK1.out; omega, (HQo.out.2 hkl).1, (HQo.out.2 hkl).2.1⟩
          clear hkl
          go_wp2_with (first
            | (go_at_call 10; refine (HA.out _).mono ?_; rintro r w9 ⟨rfl, hb⟩; have HZ : Hid (Below w.heap.size w w9) := chainB H6.out hb; clear hb)
            | (go_at_call 8; first
              | (refine (HWk.out _ ⟨#[47, 115, 101, 108, 102]⟩ false yy l5 HY.out.1 HY.out.2.1 H5.out.1).mono ?_; rintro r w8 ⟨a5, c5, rfl, hb⟩; obtain ⟨V5, hV5⟩ : ∃ V, w8.alloc (.cells (ouVals yy (.slice a5 l5 c5)).toArray 34) = V := ⟨_, rfl⟩; have bV5 := boxO hV5; have bb := chainB hb bV5.2.1; obtain ⟨-, -, -, y3, y4, -⟩ := ouCells bV5.1; obtain ⟨-, -, -, x3, -, x8⟩ := ouCells (hkeep H5.out.2.1 bb); have ob := hkeep H5.out.2.2 bb; obtain ⟨-, -, -, o3, o4, o8⟩ := ouCells ob; have o5 := ouNode ob; obtain ⟨o5, o6, o7⟩ := o5; rw [HY.out.2.2.1] at y4; rw [HY.out.2.2.2] at y3; rw [HX.out.2.2] at x3; rw [HOo.out.2.2.1] at o3; rw [HOo.out.2.2.2] at o4 o5 o6 o7; simp only at o4 o5 o6 o7; have H6 : Hid (Below w.heap.size w V5) := chainB H5.out.1.below bb; clear hb bV5 bb ob)
              | (refine (HWk.out _ ⟨#[47, 115, 101, 108, 102]⟩ true xx 1 HX.out.1 HX.out.2.1 H4.out.1).mono ?_; rintro r w7 ⟨a4, c4, rfl, hb⟩; obtain ⟨V4, hV4⟩ : ∃ V, w7.alloc (.cells (ouVals xx (.slice a4 1 c4)).toArray 34) = V := ⟨_, rfl⟩; have bV4 := boxO hV4; have bb := chainB hb bV4.2.1; have H5 : Hid (Ld w V4 p (allS k) (k + 2) (fun _ => False) ∧ V4.heap[w7.heap.size]? = some (.cells (ouVals xx (.slice a4 1 c4)).toArray 34 (0, 0)) ∧ V4.heap[w6.heap.size]? = some (.cells (ouVals oo (.slice a3 k1 c3)).toArray 34 (0, 0))) := ⟨H4.out.1.on' bb, bV4.1, hkeep H4.out.2 bb⟩; clear hb bV4 bb)
              | (refine (HWk.out _ ⟨#[47, 97]⟩ true oo k1 HOo.out.1 HOo.out.2.1 H3.out).mono ?_; rintro r w6 ⟨a3, c3, rfl, hb⟩; obtain ⟨V3, hV3⟩ : ∃ V, w6.alloc (.cells (ouVals oo (.slice a3 k1 c3)).toArray 34) = V := ⟨_, rfl⟩; have bV3 := boxO hV3; have H4 : Hid (Ld w V3 p (allS k) (k + 2) (fun _ => False) ∧ V3.heap[w6.heap.size]? = some (.cells (ouVals oo (.slice a3 k1 c3)).toArray 34 (0, 0))) := ⟨H3.out.on' (chainB hb bV3.2.1), bV3.1⟩; clear hb bV3))
            | (go_at_call 14; first
              | (refine (HP2.out _ H2.out).mono ?_; rintro r w5 ⟨z5, rfl, hl⟩; have H3 : Hid (Ld w w5 p (allS k) (k + 2) (fun _ => False)) := hl; clear hl)
              | (refine (HP1.out _ (Below.refl _ _)).mono ?_; rintro r w4 ⟨z4, rfl, hl⟩; have H2 : Hid (Ld w w4 p (putS (chS k) (endE k)) (k + 1) (fun _ => False)) := hl; clear hl)))
          go_ret
          exact ⟨rfl, HZ.out⟩
      · by_cases hgt : 8 < links
        · obtain rfl : l = 8 := by omega
          have HX : Hid (walkO (knC (allS k)) ⟨#[47, 115, 101, 108, 102]⟩ true links = xx ∧ xx.used.length = 9 ∧ xx.err = 49) := HQx.out
          clear HQx
          by_cases hkl : 8 < k
          · have hz : (8 : Int) < (k : Int) := by omega
            have HOo : Hid (walkO (knC (allS k)) ⟨#[47, 97]⟩ true links = oo ∧ oo.used.length = 9 ∧ oo.err = 49) := ⟨Ho.out, by have := (HQo.out.1 hkl).2; omega, (HQo.out.1 hkl).1⟩
            clear hkl
            go_wp2_with (first
              | (go_at_call 10; refine (HA.out _).mono ?_; rintro r w9 ⟨rfl, hb⟩; have HZ : Hid (Below w.heap.size w w9) := chainB H6.out hb; clear hb)
              | (go_at_call 8; first
                | (refine (HWk.out _ ⟨#[47, 115, 101, 108, 102]⟩ false yy l5 HY.out.1 HY.out.2.1 H5.out.1).mono ?_; rintro r w8 ⟨a5, c5, rfl, hb⟩; obtain ⟨V5, hV5⟩ : ∃ V, w8.alloc (.cells (ouVals yy (.slice a5 l5 c5)).toArray 34) = V := ⟨_, rfl⟩; have bV5 := boxO hV5; have bb := chainB hb bV5.2.1; obtain ⟨-, -, -, y3, y4, -⟩ := ouCells bV5.1; obtain ⟨-, -, -, x3, -, x8⟩ := ouCells (hkeep H5.out.2.1 bb); have ob := hkeep H5.out.2.2 bb; obtain ⟨-, -, -, o3, o4, o8⟩ := ouCells ob; have o5 := ouNode ob; obtain ⟨o5, o6, o7⟩ := o5; rw [HY.out.2.2.1] at y4; rw [HY.out.2.2.2] at y3; rw [HX.out.2.2] at x3; rw [HOo.out.2.2] at o3; have H6 : Hid (Below w.heap.size w V5) := chainB H5.out.1.below bb; clear hb bV5 bb ob)
                | (refine (HWk.out _ ⟨#[47, 115, 101, 108, 102]⟩ true xx 9 HX.out.1 HX.out.2.1 H4.out.1).mono ?_; rintro r w7 ⟨a4, c4, rfl, hb⟩; obtain ⟨V4, hV4⟩ : ∃ V, w7.alloc (.cells (ouVals xx (.slice a4 9 c4)).toArray 34) = V := ⟨_, rfl⟩; have bV4 := boxO hV4; have bb := chainB hb bV4.2.1; have H5 : Hid (Ld w V4 p (allS k) (k + 2) (fun _ => False) ∧ V4.heap[w7.heap.size]? = some (.cells (ouVals xx (.slice a4 9 c4)).toArray 34 (0, 0)) ∧ V4.heap[w6.heap.size]? = some (.cells (ouVals oo (.slice a3 9 c3)).toArray 34 (0, 0))) := ⟨H4.out.1.on' bb, bV4.1, hkeep H4.out.2 bb⟩; clear hb bV4 bb)
                | (refine (HWk.out _ ⟨#[47, 97]⟩ true oo 9 HOo.out.1 HOo.out.2.1 H3.out).mono ?_; rintro r w6 ⟨a3, c3, rfl, hb⟩; obtain ⟨V3, hV3⟩ : ∃ V, w6.alloc (.cells (ouVals oo (.slice a3 9 c3)).toArray 34) = V := ⟨_, rfl⟩; have bV3 := boxO hV3; have H4 : Hid (Ld w V3 p (allS k) (k + 2) (fun _ => False) ∧ V3.heap[w6.heap.size]? = some (.cells (ouVals oo (.slice a3 9 c3)).toArray 34 (0, 0))) := ⟨H3.out.on' (chainB hb bV3.2.1), bV3.1⟩; clear hb bV3))
              | (go_at_call 14; first
                | (refine (HP2.out _ H2.out).mono ?_; rintro r w5 ⟨z5, rfl, hl⟩; have H3 : Hid (Ld w w5 p (allS k) (k + 2) (fun _ => False)) := hl; clear hl)
                | (refine (HP1.out _ (Below.refl _ _)).mono ?_; rintro r w4 ⟨z4, rfl, hl⟩; have H2 : Hid (Ld w w4 p (putS (chS k) (endE k)) (k + 1) (fun _ => False)) := hl; clear hl)))
            go_ret
            exact ⟨rfl, HZ.out⟩
          · have hz : ¬ (8 : Int) < (k : Int) := by omega
            have HOo : Hid (walkO (knC (allS k)) ⟨#[47, 97]⟩ true links = oo ∧ oo.used.length = k1 ∧ oo.err = 0 ∧ oo.node = ⟨99, 2, 5, ⟨#[]⟩⟩) := ⟨Ho.out, by have := (HQo.out.2 hkl).2.2; have := HK1.out; omega, (HQo.out.2 hkl).1, (HQo.out.2 hkl).2.1⟩
            clear hkl
            go_wp2_with (first
              | (go_at_call 10; refine (HA.out _).mono ?_; rintro r w9 ⟨rfl, hb⟩; have HZ : Hid (Below w.heap.size w w9) := chainB H6.out hb; clear hb)
              | (go_at_call 8; first
                | (refine (HWk.out _ ⟨#[47, 115, 101, 108, 102]⟩ false yy l5 HY.out.1 HY.out.2.1 H5.out.1).mono ?_; rintro r w8 ⟨a5, c5, rfl, hb⟩; obtain ⟨V5, hV5⟩ : ∃ V, w8.alloc (.cells (ouVals yy (.slice a5 l5 c5)).toArray 34) = V := ⟨_, rfl⟩; have bV5 := boxO hV5; have bb := chainB hb bV5.2.1; obtain ⟨-, -, -, y3, y4, -⟩ := ouCells bV5.1; obtain ⟨-, -, -, x3, -, x8⟩ := ouCells (hkeep H5.out.2.1 bb); have ob := hkeep H5.out.2.2 bb; obtain ⟨-, -, -, o3, o4, o8⟩ := ouCells ob; have o5 := ouNode ob; obtain ⟨o5, o6, o7⟩ := o5; rw [HY.out.2.2.1] at y4; rw [HY.out.2.2.2] at y3; rw [HX.out.2.2] at x3; rw [HOo.out.2.2.1] at o3; rw [HOo.out.2.2.2] at o4 o5 o6 o7; simp only at o4 o5 o6 o7; have H6 : Hid (Below w.heap.size w V5) := chainB H5.out.1.below bb; clear hb bV5 bb ob)
                | (refine (HWk.out _ ⟨#[47, 115, 101, 108, 102]⟩ true xx 9 HX.out.1 HX.out.2.1 H4.out.1).mono ?_; rintro r w7 ⟨a4, c4, rfl, hb⟩; obtain ⟨V4, hV4⟩ : ∃ V, w7.alloc (.cells (ouVals xx (.slice a4 9 c4)).toArray 34) = V := ⟨_, rfl⟩; have bV4 := boxO hV4; have bb := chainB hb bV4.2.1; have H5 : Hid (Ld w V4 p (allS k) (k + 2) (fun _ => False) ∧ V4.heap[w7.heap.size]? = some (.cells (ouVals xx (.slice a4 9 c4)).toArray 34 (0, 0)) ∧ V4.heap[w6.heap.size]? = some (.cells (ouVals oo (.slice a3 k1 c3)).toArray 34 (0, 0))) := ⟨H4.out.1.on' bb, bV4.1, hkeep H4.out.2 bb⟩; clear hb bV4 bb)
                | (refine (HWk.out _ ⟨#[47, 97]⟩ true oo k1 HOo.out.1 HOo.out.2.1 H3.out).mono ?_; rintro r w6 ⟨a3, c3, rfl, hb⟩; obtain ⟨V3, hV3⟩ : ∃ V, w6.alloc (.cells (ouVals oo (.slice a3 k1 c3)).toArray 34) = V := ⟨_, rfl⟩; have bV3 := boxO hV3; have H4 : Hid (Ld w V3 p (allS k) (k + 2) (fun _ => False) ∧ V3.heap[w6.heap.size]? = some (.cells (ouVals oo (.slice a3 k1 c3)).toArray 34 (0, 0))) := ⟨H3.out.on' (chainB hb bV3.2.1), bV3.1⟩; clear hb bV3))
              | (go_at_call 14; first
                | (refine (HP2.out _ H2.out).mono ?_; rintro r w5 ⟨z5, rfl, hl⟩; have H3 : Hid (Ld w w5 p (allS k) (k + 2) (fun _ => False)) := hl; clear hl)
                | (refine (HP1.out _ (Below.refl _ _)).mono ?_; rintro r w4 ⟨z4, rfl, hl⟩; have H2 : Hid (Ld w w4 p (putS (chS k) (endE k)) (k + 1) (fun _ => False)) := hl; clear hl)))
            go_ret
            exact ⟨rfl, HZ.out⟩
        · obtain rfl : links = (l : Int) := by omega
          obtain ⟨l1, hl1⟩ : ∃ j, l + 1 = j := ⟨_, rfl⟩
          have q2 : IntKind.i64.wrap ((l : Int) + 1) = (l1 : Int) := by rw [show (l : Int) + 1 = (l1 : Int) by omega]; exact IntWalk.i64_in _ (by omega)
          have HX : Hid (walkO (knC (allS k)) ⟨#[47, 115, 101, 108, 102]⟩ true (l : Int) = xx ∧ xx.used.length = l1 ∧ xx.err = 49) := ⟨HQx.out.1, by have := HQx.out.2.1; omega, HQx.out.2.2⟩
          have Hl1 : Hid (l + 1 = l1) := hl1
          clear HQx
          by_cases hkl : l < k
          · have hz : (l : Int) < (k : Int) := by omega
            have HOo : Hid (walkO (knC (allS k)) ⟨#[47, 97]⟩ true (l : Int) = oo ∧ oo.used.length = l1 ∧ oo.err = 49) := ⟨Ho.out, by have := (HQo.out.1 hkl).2; omega, (HQo.out.1 hkl).1⟩
            clear hkl hl1
            go_wp2_with (first
              | (go_at_call 10; refine (HA.out _).mono ?_; rintro r w9 ⟨rfl, hb⟩; have HZ : Hid (Below w.heap.size w w9) := chainB H6.out hb; clear hb)
              | (go_at_call 8; first
                | (refine (HWk.out _ ⟨#[47, 115, 101, 108, 102]⟩ false yy l5 HY.out.1 HY.out.2.1 H5.out.1).mono ?_; rintro r w8 ⟨a5, c5, rfl, hb⟩; obtain ⟨V5, hV5⟩ : ∃ V, w8.alloc (.cells (ouVals yy (.slice a5 l5 c5)).toArray 34) = V := ⟨_, rfl⟩; have bV5 := boxO hV5; have bb := chainB hb bV5.2.1; obtain ⟨-, -, -, y3, y4, -⟩ := ouCells bV5.1; obtain ⟨-, -, -, x3, -, x8⟩ := ouCells (hkeep H5.out.2.1 bb); have ob := hkeep H5.out.2.2 bb; obtain ⟨-, -, -, o3, o4, o8⟩ := ouCells ob; have o5 := ouNode ob; obtain ⟨o5, o6, o7⟩ := o5; rw [HY.out.2.2.1] at y4; rw [HY.out.2.2.2] at y3; rw [HX.out.2.2] at x3; rw [HOo.out.2.2] at o3; have H6 : Hid (Below w.heap.size w V5) := chainB H5.out.1.below bb; clear hb bV5 bb ob)
                | (refine (HWk.out _ ⟨#[47, 115, 101, 108, 102]⟩ true xx l1 HX.out.1 HX.out.2.1 H4.out.1).mono ?_; rintro r w7 ⟨a4, c4, rfl, hb⟩; obtain ⟨V4, hV4⟩ : ∃ V, w7.alloc (.cells (ouVals xx (.slice a4 l1 c4)).toArray 34) = V := ⟨_, rfl⟩; have bV4 := boxO hV4; have bb := chainB hb bV4.2.1; have H5 : Hid (Ld w V4 p (allS k) (k + 2) (fun _ => False) ∧ V4.heap[w7.heap.size]? = some (.cells (ouVals xx (.slice a4 l1 c4)).toArray 34 (0, 0)) ∧ V4.heap[w6.heap.size]? = some (.cells (ouVals oo (.slice a3 l1 c3)).toArray 34 (0, 0))) := ⟨H4.out.1.on' bb, bV4.1, hkeep H4.out.2 bb⟩; clear hb bV4 bb)
                | (refine (HWk.out _ ⟨#[47, 97]⟩ true oo l1 HOo.out.1 HOo.out.2.1 H3.out).mono ?_; rintro r w6 ⟨a3, c3, rfl, hb⟩; obtain ⟨V3, hV3⟩ : ∃ V, w6.alloc (.cells (ouVals oo (.slice a3 l1 c3)).toArray 34) = V := ⟨_, rfl⟩; have bV3 := boxO hV3; have H4 : Hid (Ld w V3 p (allS k) (k + 2) (fun _ => False) ∧ V3.heap[w6.heap.size]? = some (.cells (ouVals oo (.slice a3 l1 c3)).toArray 34 (0, 0))) := ⟨H3.out.on' (chainB hb bV3.2.1), bV3.1⟩; clear hb bV3))
              | (go_at_call 14; first
                | (refine (HP2.out _ H2.out).mono ?_; rintro r w5 ⟨z5, rfl, hl⟩; have H3 : Hid (Ld w w5 p (allS k) (k + 2) (fun _ => False)) := hl; clear hl)
                | (refine (HP1.out _ (Below.refl _ _)).mono ?_; rintro r w4 ⟨z4, rfl, hl⟩; have H2 : Hid (Ld w w4 p (putS (chS k) (endE k)) (k + 1) (fun _ => False)) := hl; clear hl)))
            go_ret
            exact ⟨rfl, HZ.out⟩
          · have hz : ¬ (l : Int) < (k : Int) := by omega
            have HOo : Hid (walkO (knC (allS k)) ⟨#[47, 97]⟩ true (l : Int) = oo ∧ oo.used.length = k1 ∧ oo.err = 0 ∧ oo.node = ⟨99, 2, 5, ⟨#[]⟩⟩) := ⟨Ho.out, by have := (HQo.out.2 hkl).2.2; have := HK1.out; omega, (HQo.out.2 hkl).1, (HQo.out.2 hkl).2.1⟩
            clear hkl hl1
            go_wp2_with (first
              | (go_at_call 10; refine (HA.out _).mono ?_; rintro r w9 ⟨rfl, hb⟩; have HZ : Hid (Below w.heap.size w w9) := chainB H6.out hb; clear hb)
              | (go_at_call 8; first
                | (refine (HWk.out _ ⟨#[47, 115, 101, 108, 102]⟩ false yy l5 HY.out.1 HY.out.2.1 H5.out.1).mono ?_; rintro r w8 ⟨a5, c5, rfl, hb⟩; obtain ⟨V5, hV5⟩ : ∃ V, w8.alloc (.cells (ouVals yy (.slice a5 l5 c5)).toArray 34) = V := ⟨_, rfl⟩; have bV5 := boxO hV5; have bb := chainB hb bV5.2.1; obtain ⟨-, -, -, y3, y4, -⟩ := ouCells bV5.1; obtain ⟨-, -, -, x3, -, x8⟩ := ouCells (hkeep H5.out.2.1 bb); have ob := hkeep H5.out.2.2 bb; obtain ⟨-, -, -, o3, o4, o8⟩ := ouCells ob; have o5 := ouNode ob; obtain ⟨o5, o6, o7⟩ := o5; rw [HY.out.2.2.1] at y4; rw [HY.out.2.2.2] at y3; rw [HX.out.2.2] at x3; rw [HOo.out.2.2.1] at o3; rw [HOo.out.2.2.2] at o4 o5 o6 o7; simp only at o4 o5 o6 o7; have H6 : Hid (Below w.heap.size w V5) := chainB H5.out.1.below bb; clear hb bV5 bb ob)
                | (refine (HWk.out _ ⟨#[47, 115, 101, 108, 102]⟩ true xx l1 HX.out.1 HX.out.2.1 H4.out.1).mono ?_; rintro r w7 ⟨a4, c4, rfl, hb⟩; obtain ⟨V4, hV4⟩ : ∃ V, w7.alloc (.cells (ouVals xx (.slice a4 l1 c4)).toArray 34) = V := ⟨_, rfl⟩; have bV4 := boxO hV4; have bb := chainB hb bV4.2.1; have H5 : Hid (Ld w V4 p (allS k) (k + 2) (fun _ => False) ∧ V4.heap[w7.heap.size]? = some (.cells (ouVals xx (.slice a4 l1 c4)).toArray 34 (0, 0)) ∧ V4.heap[w6.heap.size]? = some (.cells (ouVals oo (.slice a3 k1 c3)).toArray 34 (0, 0))) := ⟨H4.out.1.on' bb, bV4.1, hkeep H4.out.2 bb⟩; clear hb bV4 bb)
                | (refine (HWk.out _ ⟨#[47, 97]⟩ true oo k1 HOo.out.1 HOo.out.2.1 H3.out).mono ?_; rintro r w6 ⟨a3, c3, rfl, hb⟩; obtain ⟨V3, hV3⟩ : ∃ V, w6.alloc (.cells (ouVals oo (.slice a3 k1 c3)).toArray 34) = V := ⟨_, rfl⟩; have bV3 := boxO hV3; have H4 : Hid (Ld w V3 p (allS k) (k + 2) (fun _ => False) ∧ V3.heap[w6.heap.size]? = some (.cells (ouVals oo (.slice a3 k1 c3)).toArray 34 (0, 0))) := ⟨H3.out.on' (chainB hb bV3.2.1), bV3.1⟩; clear hb bV3))
              | (go_at_call 14; first
                | (refine (HP2.out _ H2.out).mono ?_; rintro r w5 ⟨z5, rfl, hl⟩; have H3 : Hid (Ld w w5 p (allS k) (k + 2) (fun _ => False)) := hl; clear hl)
                | (refine (HP1.out _ (Below.refl _ _)).mono ?_; rintro r w4 ⟨z4, rfl, hl⟩; have H2 : Hid (Ld w w4 p (putS (chS k) (endE k)) (k + 1) (fun _ => False)) := hl; clear hl)))
            go_ret
            exact ⟨rfl, HZ.out⟩
end
end Go.Proofs.Ytafefnmkhmjecaa
