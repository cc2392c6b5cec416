/- The document's cache: Get, Negatives, Leaf. -/
import Derived.Test.YtmndnjgbbpkidaaGreatJWLks21
namespace Go.Proofs.YtmndnjgbbpkidaaGreat
section
open Go.RowKit
attribute [local go_sem ↓ high] loadEn storeEn builden
attribute [local go_sem high] eqK neqK guardK

theorem negN_take {L : List En} {j : Nat} {e : En} (h : L[j]? = some e) : negN (L.take (j + 1)) = negN (L.take j) + if e.neg then 1 else 0 := by
  unfold negN
  rw [List.take_add_one, h, List.filter_append, List.length_append]
  cases hn : e.neg <;> simp [hn]
set_option maxHeartbeats 4000000 in
theorem rneg_d (B q : Nat) (kc : Kc) (s : Cs) (w : World) (h : IsK w B q kc s) (hl : s.L.length ≤ 1500000000000) : Calls Tryz.prog 39 #[.pointer (some ⟨q, 0, none⟩)] w fun x w' => x = .returned (.int .i64 (negN s.L)) ∧ Below w.heap.size w w' := by
  obtain ⟨vl, vw⟩ := kc
  obtain ⟨a, cap, hv⟩ := owns_len h.rowL
  simp only at hv
  subst hv
  obtain ⟨n, hn⟩ : ∃ n, s.L.length = n := ⟨_, rfl⟩
  rw [hn] at hl
  have HI : Hid (IsK w B q ⟨.slice a n cap, vw⟩ s ∧ s.L.length = n) := ⟨by rw [← hn]; exact h, hn⟩
  clear h hn
  go_enter Tryz.func39, Tryz.ntmps39
  go_wp2
  go_loopw [3, 4] (fun s2 s3 wr => ∃ i : Nat, i ≤ n ∧ s3 = .int .i64 i ∧ ∃ ng : Nat, ng ≤ i ∧ s2 = .int .i64 ng ∧ Hid (ng = negN (s.L.take i) ∧ Below w.heap.size w wr)) (fun _ s3 _ => n - (intOf s3).toNat)
  case atStart => exact ⟨0, Nat.zero_le _, rfl, 0, Nat.le_refl _, rfl, rfl, Below.refl _ _⟩
  case round =>
    obtain ⟨i, hi, rfl, ng, hng, rfl, HJ⟩ := hrel
    obtain ⟨en, hb⟩ := HJ.out
    obtain ⟨c0, -, -⟩ := (HI.out.1.below hb).cells
    simp only at c0
    by_cases hlt : i < n
    · obtain ⟨e, he⟩ : ∃ x, s.L[i]? = some x := ⟨_, List.getElem?_eq_getElem (by rw [HI.out.2]; exact hlt)⟩
      obtain ⟨g, rfl, -, -, -, hc, -⟩ := owns_entry (HI.out.1.below hb).rowL he
      have x2 := hc.c2
      have hltz : (i : Int) < (n : Int) := by omega
      have hw1 : IntKind.i64.wrap ((i : Int) + 1) = ((i + 1 : Nat) : Int) := by
        rw [show ((i + 1 : Nat) : Int) = (i : Int) + 1 by omega]; exact IntWalk.i64_in _ (by omega)
      have hw3 : IntKind.i64.wrap ((ng : Int) + 1) = ((ng + 1 : Nat) : Int) := by
        rw [show ((ng + 1 : Nat) : Int) = (ng : Int) + 1 by omega]; exact IntWalk.i64_in _ (by omega)
      have hnt := negN_take he
      cases hneg : e.neg with
      | true =>
        rw [hneg] at x2 hnt
        have HN : Hid (ng + 1 = negN (s.L.take (i + 1)) ∧ Below w.heap.size w wr) := ⟨by rw [hnt, en]; rfl, hb⟩
        clear HJ en hb hnt he hc
        go_wp2
        go_roundw
        case rel => exact ⟨i + 1, by omega, rfl, ng + 1, by omega, rfl, HN⟩
        case measure => simp [intOf]; omega
      | false =>
        rw [hneg] at x2 hnt
        have HN : Hid (ng = negN (s.L.take (i + 1)) ∧ Below w.heap.size w wr) := ⟨by rw [hnt, en]; rfl, hb⟩
        clear HJ en hb hnt he hc
        go_wp2
        go_roundw
        case rel => exact ⟨i + 1, by omega, rfl, ng, by omega, rfl, HN⟩
        case measure => simp [intOf]; omega
    · obtain rfl : i = n := by omega
      have hltz : ¬ (i : Int) < (i : Int) := by omega
      rw [List.take_of_length_le (by rw [HI.out.2]; exact Nat.le_refl _)] at en
      have HN : Hid (ng = negN s.L ∧ Below w.heap.size w wr) := ⟨en, hb⟩
      clear HJ en hb
      go_wp2
      go_ret
      exact ⟨by rw [HN.out.1]; rfl, HN.out.2⟩
set_option maxRecDepth 100000 in
set_option maxHeartbeats 4000000 in
theorem rget_d (B q : Nat) (k : Kc) (s : Cs) (ky : Ky) (w : World) (h : IsK w B q k s) (hl : s.L.length ≤ 1400000000000) : Calls Tryz.prog 41 #[.pointer (some ⟨q, 0, none⟩), .agg #[.int .i64 ky.d, .string ky.nm]] w fun x w' => x = .returned (.tuple #[((getL s.L ky).getD zeroEn).agg, .bool (getL s.L ky).isSome]) ∧ Below w.heap.size w w' := by
  obtain ⟨W1, hW1⟩ : ∃ W, w.alloc (.cells #[.int .i64 ky.d, .string ky.nm] 29) = W := ⟨_, rfl⟩
  obtain ⟨W2, hW2⟩ : ∃ W, W1.alloc (.cells #[.int .i64 0, .string ⟨#[]⟩, .bool false, .int .i64 0, .int .i64 0, .int .i64 0, .string ⟨#[]⟩] 52) = W := ⟨_, rfl⟩
  have b1 := boxO hW1
  have b2 := boxO hW2
  have y0 : W1.cell? ⟨w.heap.size, 0, none⟩ = some (.int .i64 ky.d) := by rw [cell_of b1.1]; rfl
  have y1 : W1.cell? ⟨w.heap.size, 1, none⟩ = some (.string ky.nm) := by rw [cell_of b1.1]; rfl
  have x0 := (b2.2.1.cell (cellLt y0)).trans y0
  have x1 := (b2.2.1.cell (cellLt y1)).trans y1
  have h1 := (h.below b1.2.1).below b2.2.1
  have HA : Hid (Calls Tryz.prog 54 #[.pointer (some ⟨q, 0, none⟩), .agg #[.int .i64 ky.d, .string ky.nm]] W2 fun x w' => x = .returned (.int .i64 (atV s.L ky.d ky.nm)) ∧ Below W2.heap.size W2 w') := at_d B q k s ky W2 h1 (by omega)
  have HS : Hid (∀ (e : En) W, Below W2.heap.size W2 W → ∃ W4, (enSt (.pointer (some ⟨W1.heap.size, 0, none⟩)) e.agg).run Tryz.prog W = .ok () W4 ∧ Hid (W4.heap[W1.heap.size]? = some (.cells e.vals.toArray 52 (0, 0)) ∧ Below w.heap.size w W4)) := fun e W hW => by
    have hz := (hW.block W1.heap.size (by have := b2.2.2; omega)).trans b2.1
    refine ⟨_, enSt_of hz rfl rfl, setRow_heap _ _ _ _ _ _ hz, ?_⟩
    exact (onlyR W W1.heap.size e.vals.toArray).below (chainB b1.2.1 (chainB b2.2.1 hW)) (chainB b1.2.1 (chainB b2.2.1 hW)).size fun b hb => by have := b1.2.1.size; omega
  have e1 : w.heap.size + 1 = W1.heap.size := b1.2.2.symm
  rcases at_cases s.L ky with ⟨hg, hat⟩ | ⟨i, e, hg, hat, hi, -⟩
  · rw [hat] at HA
    rw [hg]
    have HS0 : Hid (∀ W, Below W2.heap.size W2 W → ∃ W4, (enSt (.pointer (some ⟨W1.heap.size, 0, none⟩)) (.agg #[.int .i64 0, .string ⟨#[]⟩, .bool false, .int .i64 0, .int .i64 0, .int .i64 0, .string ⟨#[]⟩])).run Tryz.prog W = .ok () W4 ∧ Hid (W4.heap[W1.heap.size]? = some (.cells zeroEn.vals.toArray 52 (0, 0)) ∧ Below w.heap.size w W4)) := fun W hW => HS.out zeroEn W hW
    clear h h1 b1 b2 hg hat y0 y1 HS
    go_enter Tryz.func41, Tryz.ntmps41
    go_wp2_with (go_at_call 54; refine HA.out.mono ?_; rintro x W3 ⟨rfl, hb⟩; obtain ⟨W4, s4, H4⟩ := HS0.out W3 hb; clear hb)
    refine bodyPost_ret (ret_entry2 rfl _ _ W1.heap.size rfl H4.out.1) rfl ?_
    exact ⟨rfl, H4.out.2⟩
  · rw [hat] at HA
    rw [hg]
    have HC : Hid (∀ W, Below W2.heap.size W2 W → ∃ g n cap, W.cell? ⟨q, 0, none⟩ = some (.slice (some ⟨g, 0, none⟩) n cap) ∧ (i : Int) < (n : Int) ∧ (enLd (.pointer (some ⟨g, i * 7, none⟩))).run Tryz.prog W = .ok e.agg W) := fun W hW => by
      have hh := h1.below hW
      obtain ⟨a, cap, hv⟩ := owns_len hh.rowL
      have hr := hh.rowL
      rw [hv] at hr
      obtain ⟨g, rfl, -, -, -, hc, -⟩ := owns_entry hr hi
      refine ⟨g, _, cap, by rw [← hv]; exact hh.cells.1, ?_, enLd_at hc⟩
      have := (List.getElem?_eq_some_iff.1 hi).1
      omega
    have hi0 : ¬ (i : Int) < 0 := by omega
    clear h h1 b1 b2 hg hat y0 y1 hi
    go_enter Tryz.func41, Tryz.ntmps41
    go_wp2_with (go_at_call 54; refine HA.out.mono ?_; rintro x W3 ⟨rfl, hb⟩; obtain ⟨W4, s4, H4⟩ := HS.out e W3 hb; obtain ⟨g, n, cap, c0, hin, ld⟩ := HC.out W3 hb; clear hb)
    refine bodyPost_ret (ret_entry2 rfl _ _ W1.heap.size rfl H4.out.1) rfl ?_
    exact ⟨rfl, H4.out.2⟩
set_option maxRecDepth 100000 in
set_option maxHeartbeats 4000000 in
theorem rleaf_d (B q : Nat) (k : Kc) (s : Cs) (ky : Ky) (w : World) (h : IsK w B q k s) (hl : s.L.length ≤ 1400000000000) : Calls Tryz.prog 43 #[.pointer (some ⟨q, 0, none⟩), .agg #[.int .i64 ky.d, .string ky.nm]] w fun x w' => x = .returned (.bool (leafB s.L ky)) ∧ Below w.heap.size w w' := by
  obtain ⟨W1, hW1⟩ : ∃ W, w.alloc (.cells #[.int .i64 ky.d, .string ky.nm] 29) = W := ⟨_, rfl⟩
  have b1 := boxO hW1
  have x0 : W1.cell? ⟨w.heap.size, 0, none⟩ = some (.int .i64 ky.d) := by rw [cell_of b1.1]; rfl
  have x1 : W1.cell? ⟨w.heap.size, 1, none⟩ = some (.string ky.nm) := by rw [cell_of b1.1]; rfl
  have h1 := h.below b1.2.1
  have HA : Hid (Calls Tryz.prog 54 #[.pointer (some ⟨q, 0, none⟩), .agg #[.int .i64 ky.d, .string ky.nm]] W1 fun x w' => x = .returned (.int .i64 (atV s.L ky.d ky.nm)) ∧ Below W1.heap.size W1 w') := at_d B q k s ky W1 h1 (by omega)
  have HB : Hid (Below w.heap.size w W1) := b1.2.1
  unfold leafB
  rcases at_cases s.L ky with ⟨hg, hat⟩ | ⟨i, e, hg, hat, hi, -⟩
  · rw [hat] at HA
    rw [hg]
    clear h h1 b1 hg hat
    go_enter Tryz.func43, Tryz.ntmps43
    go_wp2_with (go_at_call 54; refine HA.out.mono ?_; rintro x W3 ⟨rfl, hb⟩; have H3 : Hid (Below w.heap.size w W3) := chainB HB.out hb; clear hb)
    go_ret
    exact ⟨rfl, H3.out⟩
  · rw [hat] at HA
    rw [hg]
    obtain ⟨vl, vw⟩ := k
    obtain ⟨a0, cap0, hv0⟩ := owns_len h.rowL
    simp only at hv0
    subst hv0
    obtain ⟨n, hn⟩ : ∃ n, s.L.length = n := ⟨_, rfl⟩
    have hin : i < n := by rw [← hn]; exact (List.getElem?_eq_some_iff.1 hi).1
    have HI : Hid (IsK W1 B q ⟨.slice a0 n cap0, vw⟩ s ∧ s.L.length = n) := ⟨by rw [← hn]; exact h1, hn⟩
    rw [hn] at hl
    obtain ⟨g, rfl, -, -, -, -, -⟩ := owns_entry h1.rowL hi
    have HC : Hid (∀ W, Below W1.heap.size W1 W → W.cell? ⟨q, 0, none⟩ = some (.slice (some ⟨g, 0, none⟩) n cap0) ∧ ∀ (j : Nat) y, s.L[j]? = some y → Cells7 W g (j * 7) y) := fun W hW => by
      have hh := HI.out.1.below hW
      refine ⟨hh.cells.1, fun j y hy => ?_⟩
      have hr := hh.rowL
      obtain ⟨g', hg', -, -, -, hc, -⟩ := owns_entry hr hy
      cases hg'; exact hc
    have HCi : Hid (∀ W, Below W1.heap.size W1 W → W.cell? ⟨g, i * 7 + 3, none⟩ = some (.int .i64 e.id) ∧ W.cell? ⟨g, i * 7 + 2, none⟩ = some (.bool e.neg)) := fun W hW => ⟨((HC.out W hW).2 i e hi).c3, ((HC.out W hW).2 i e hi).c2⟩
    have hi0 : ¬ (i : Int) < 0 := by omega
    have hinz : (i : Int) < (n : Int) := by omega
    obtain ⟨ID, hID⟩ : ∃ d, idOf e = d := ⟨_, rfl⟩
    have HL : Hid (s.L.length = n) := hn
    show Calls _ _ _ _ fun x w' => x = .returned (.bool (s.L.all fun x => decide (x.d ≠ idOf e))) ∧ Below w.heap.size w w'
    rw [hID]
    obtain ⟨R, hR⟩ : ∃ R, (s.L.all fun x => decide (x.d ≠ ID)) = R := ⟨_, rfl⟩
    rw [hR]
    have HR : Hid ((s.L.all fun x => decide (x.d ≠ ID)) = R) := hR
    clear hR
    unfold idOf at hID
    clear h h1 b1 hg hat hi hn HI
    go_enter Tryz.func43, Tryz.ntmps43
    cases hneg : e.neg with
    | true =>
      rw [hneg] at hID
      have hI0 : (0 : Int) = ID := hID
      subst hI0
      go_wp2_with (go_at_call 54; refine HA.out.mono ?_; rintro x W3 ⟨rfl, hb⟩; have H3 : Hid (Below W1.heap.size W1 W3) := hb; obtain ⟨ci, cn⟩ := HCi.out W3 hb; rw [hneg] at cn; obtain ⟨c0, -⟩ := HC.out W3 hb; clear hb)
      clear ci cn c0 HCi
      go_loopw [7] (fun s6 wr => ∃ j : Nat, j ≤ n ∧ s6 = .int .i64 j ∧ Hid ((∀ x ∈ s.L.take j, x.d ≠ 0) ∧ Below W1.heap.size W1 wr)) (fun s6 _ => n - (intOf s6).toNat)
      case atStart => exact ⟨0, Nat.zero_le _, rfl, fun x hx => by simp at hx, H3.out⟩
      case round =>
        obtain ⟨j, hj, rfl, HJ⟩ := hrel
        obtain ⟨hno, hbj⟩ := HJ.out
        obtain ⟨c0, hcs⟩ := HC.out wr hbj
        by_cases hlj : j < n
        · obtain ⟨y, hy⟩ : ∃ x, s.L[j]? = some x := ⟨_, List.getElem?_eq_getElem (by rw [HL.out]; exact hlj)⟩
          have y0 := (hcs j y hy).c0
          have hljz : (j : Int) < (n : Int) := by omega
          have hw1 : IntKind.i64.wrap ((j : Int) + 1) = ((j + 1 : Nat) : Int) := by
            rw [show ((j + 1 : Nat) : Int) = (j : Int) + 1 by omega]; exact IntWalk.i64_in _ (by omega)
          have H4 : Hid (Below w.heap.size w wr) := chainB HB.out hbj
          by_cases hd : y.d = 0
          · have hdz : (y.d == 0) = true := by simp [hd]
            have HE : Hid (R = false) := by
              show _ = _
              rw [← HR.out, List.all_eq_false]
              exact ⟨y, List.mem_of_getElem? hy, by simp [hd]⟩
            clear HJ hno hbj hcs hy hd
            go_wp2
            go_ret
            exact ⟨by rw [HE.out]; rfl, H4.out⟩
          · have hdz : (y.d == 0) = false := by simp [hd]
            have HN : Hid ((∀ x ∈ s.L.take (j + 1), x.d ≠ 0) ∧ Below W1.heap.size W1 wr) := ⟨fun x hx => by
              rw [List.take_add_one, hy, List.mem_append] at hx
              rcases hx with hx | hx
              · exact hno x hx
              · simp at hx; rw [hx]; exact hd, hbj⟩
            clear HJ hno hbj hcs hy hd
            go_wp2
            exact ⟨⟨j + 1, by omega, by simp, HN⟩, by simp [intOf]; omega⟩
        · obtain rfl : j = n := by omega
          have hljz : ¬ (j : Int) < (j : Int) := by omega
          rw [List.take_of_length_le (by rw [HL.out]; exact Nat.le_refl _)] at hno
          have HE : Hid (R = true ∧ Below w.heap.size w wr) := ⟨HR.out.symm.trans (List.all_eq_true.2 fun x hx => decide_eq_true (hno x hx)), chainB HB.out hbj⟩
          clear HJ hno hbj hcs
          go_wp2
          go_ret
          exact ⟨by rw [HE.out.1]; rfl, HE.out.2⟩
    | false =>
      rw [hneg] at hID
      have hI0 : e.id = ID := hID
      clear hID
      go_wp2_with (go_at_call 54; refine HA.out.mono ?_; rintro x W3 ⟨rfl, hb⟩; have H3 : Hid (Below W1.heap.size W1 W3) := hb; obtain ⟨ci, cn⟩ := HCi.out W3 hb; rw [hneg] at cn; rw [hI0] at ci; obtain ⟨c0, -⟩ := HC.out W3 hb; clear hb)
      clear ci cn c0 HCi
      go_loopw [7] (fun s6 wr => ∃ j : Nat, j ≤ n ∧ s6 = .int .i64 j ∧ Hid ((∀ x ∈ s.L.take j, x.d ≠ ID) ∧ Below W1.heap.size W1 wr)) (fun s6 _ => n - (intOf s6).toNat)
      case atStart => exact ⟨0, Nat.zero_le _, rfl, fun x hx => by simp at hx, H3.out⟩
      case round =>
        obtain ⟨j, hj, rfl, HJ⟩ := hrel
        obtain ⟨hno, hbj⟩ := HJ.out
        obtain ⟨c0, hcs⟩ := HC.out wr hbj
        by_cases hlj : j < n
        · obtain ⟨y, hy⟩ : ∃ x, s.L[j]? = some x := ⟨_, List.getElem?_eq_getElem (by rw [HL.out]; exact hlj)⟩
          have y0 := (hcs j y hy).c0
          have hljz : (j : Int) < (n : Int) := by omega
          have hw1 : IntKind.i64.wrap ((j : Int) + 1) = ((j + 1 : Nat) : Int) := by
            rw [show ((j + 1 : Nat) : Int) = (j : Int) + 1 by omega]; exact IntWalk.i64_in _ (by omega)
          have H4 : Hid (Below w.heap.size w wr) := chainB HB.out hbj
          by_cases hd : y.d = ID
          · have hdz : (y.d == ID) = true := by simp [hd]
            have HE : Hid (R = false) := by
              show _ = _
              rw [← HR.out, List.all_eq_false]
              exact ⟨y, List.mem_of_getElem? hy, by simp [hd]⟩
            clear HJ hno hbj hcs hy hd
            go_wp2
            go_ret
            exact ⟨by rw [HE.out]; rfl, H4.out⟩
          · have hdz : (y.d == ID) = false := by simp [hd]
            have HN : Hid ((∀ x ∈ s.L.take (j + 1), x.d ≠ ID) ∧ Below W1.heap.size W1 wr) := ⟨fun x hx => by
              rw [List.take_add_one, hy, List.mem_append] at hx
              rcases hx with hx | hx
              · exact hno x hx
              · simp at hx; rw [hx]; exact hd, hbj⟩
            clear HJ hno hbj hcs hy hd
            go_wp2
            exact ⟨⟨j + 1, by omega, by simp, HN⟩, by simp [intOf]; omega⟩
        · obtain rfl : j = n := by omega
          have hljz : ¬ (j : Int) < (j : Int) := by omega
          rw [List.take_of_length_le (by rw [HL.out]; exact Nat.le_refl _)] at hno
          have HE : Hid (R = true ∧ Below w.heap.size w wr) := ⟨HR.out.symm.trans (List.all_eq_true.2 fun x hx => decide_eq_true (hno x hx)), chainB HB.out hbj⟩
          clear HJ hno hbj hcs
          go_wp2
          go_ret
          exact ⟨by rw [HE.out.1]; rfl, HE.out.2⟩
end
end Go.Proofs.YtmndnjgbbpkidaaGreat
