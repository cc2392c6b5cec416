/- PruneVictims. (Written by genprn.py.) -/
import Derived.Test.YtepgiicbcalkdaaJPIms31
namespace Go.Proofs.Ytepgiicbcalkdaa
section
open Go.RowKit
attribute [local go_sem ↓ high] loadEn storeEn
attribute [local go_sem high] eqK neqK guardK

set_option maxRecDepth 100000 in
set_option maxHeartbeats 8000000 in
theorem victims_true (a : Option Addr) (cap : Nat) (ops : List DOp) (w : World) (row : RowD w a ops) (hlen : ops.length * 112 ≤ 140737488351232) :
    Calls Try.prog 7 #[.slice a ops.length cap, .bool true] w fun x w' => x = .returned (.bool true) ∧ Below w.heap.size w w' := by
  obtain ⟨n, hn⟩ : ∃ n, ops.length = n := ⟨_, rfl⟩
  have hnb : n < 1290000000000 := by omega
  obtain ⟨S, hS⟩ : ∃ S, runS ops = S := ⟨_, rfl⟩
  have HOf : Hid (Calls Try.prog 9 #[.slice a n cap] w fun x w2 => ∃ p q, x = .returned (.tuple #[.pointer (some ⟨p, 0, none⟩), .pointer (some ⟨q, 0, none⟩), .bool true]) ∧ Ld w w2 p S n (fun _ => False)) := by
    rw [← hn, ← hS]
    refine (of_p a cap ops w row (by omega)).mono ?_
    rintro x w2 ⟨p, q, rfl, ht⟩
    exact ⟨p, q, rfl, ht.ld⟩
  have HA : Hid (∀ w, Calls Try.prog 16 #[] w fun x w' => x = .returned (.bool true) ∧ Below w.heap.size w w') := awake13_p
  obtain ⟨m, hm⟩ : ∃ m, S.L.length = m := ⟨_, rfl⟩
  have hmn : m ≤ n := by rw [← hm, ← hn, ← hS]; exact (runS_len ops).1
  have HM : Hid (S.L.length = m) := hm
  have HEn : Hid (∀ W p, Ld w W p S n (fun _ => False) → Calls Try.prog 18 #[.pointer (some ⟨p, 0, none⟩)] W fun x w' => ∃ a c, x = .returned (.slice a m c) ∧ Row7 w' W.heap.size (.slice a m c) S.L ∧ Below W.heap.size W w') := fun W p h => by
    refine (ld_entries h (by omega)).mono ?_
    rintro x w' ⟨v, rfl, hr, hb⟩
    obtain ⟨a, c, rfl⟩ := owns_len hr
    rw [HM.out] at hr ⊢
    exact ⟨a, c, rfl, hr, hb⟩
  have HSe : Hid (∀ W a c a' c' B B', Row7 W B (.slice a m c) S.L → Row7 W B' (.slice a' m c') S.L → Calls Try.prog 23 #[.slice a m c, .slice a' m c'] W fun r w' => r = .returned (.bool true) ∧ Below W.heap.size W w') := fun W a c a' c' B B' h h' => sameE_yes _ _ S.L B B' W h h' (by rw [HM.out]; omega)
  have HVi : Hid (∀ W p, Ld w W p S n (fun _ => False) → Calls Try.prog 10 #[.pointer (some ⟨p, 0, none⟩), .bool true] W fun r w' => r = .returned (vicV (vicS S true)) ∧ Below W.heap.size W w') := fun W p h => vicT_p h (by omega)
  have HLf : Hid (∀ W p (k : Ky), Ld w W p S n (fun _ => False) → Calls Try.prog 24 #[.pointer (some ⟨p, 0, none⟩), .agg #[.int .i64 k.d, .string k.nm]] W fun x w' => x = .returned (.bool (leafB S.L k)) ∧ Below W.heap.size W w') := fun W p k h => ld_leaf h k
  rw [hn]
  clear row hlen hS hm
  rcases idxE_cases (mayB true S.L) S.L with ⟨hf, hi⟩ | ⟨k0, x0, hx0, hf, hi, hk0⟩
  · have hno : ∀ x ∈ S.L, mayB true S.L x = false := fun x hx => by
      have := List.find?_eq_none.1 hf x hx
      simpa using this
    rw [vicS_is, hf] at HVi
    have HNo : Hid (∀ x ∈ S.L, mayB true S.L x = false) := hno
    clear hf hi hno
    unfold vicV at HVi
    go_enter Try.func7, Try.ntmps7
    go_wp2_with (first
      | (go_at_call 10; refine (HVi.out _ _ (H1.out.on' H2.out.2)).mono ?_; rintro r w3 ⟨rfl, hb⟩; have H3 : Hid (Ld w w3 p S n (fun _ => False) ∧ Row7 w3 w1.heap.size (.slice a2 m c2) S.L) := ⟨H1.out.on' (chainB H2.out.2 hb), H2.out.1.below hb⟩; clear hb)
      | (go_at_call 18; refine (HEn.out _ _ H1.out).mono ?_; rintro r w2 ⟨a2, c2, rfl, hr, hb⟩; have H2 : Hid (Row7 w2 w1.heap.size (.slice a2 m c2) S.L ∧ Below w1.heap.size w1 w2) := ⟨hr, hb⟩; clear hr hb)
      | (go_at_call 9; refine HOf.out.mono ?_; rintro r w1 ⟨p, q, rfl, hl⟩; have H1 : Hid (Ld w w1 p S n (fun _ => False)) := hl; clear hl))
    obtain ⟨V, hV⟩ : ∃ V, w3.alloc (.cells #[.int .i64 0, .string ⟨#[]⟩] 28) = V := ⟨_, rfl⟩
    have bV := boxO hV
    have H4 : Hid (Ld w V p S n (fun _ => False) ∧ Row7 V w1.heap.size (.slice a2 m c2) S.L ∧ V.heap[w3.heap.size]? = some (.cells #[.int .i64 0, .string ⟨#[]⟩] 28 (0, 0))) := ⟨H3.out.1.on' bV.2.1, H3.out.2.below bV.2.1, bV.1⟩
    try rw [hV]
    clear bV hV H1 H2 H3
    go_loopw [11] (fun s11 wr => ∃ i : Nat, i ≤ m ∧ s11 = .int .i64 (i : Int) ∧ Hid (Below V.heap.size V wr)) (fun s11 _ => m - (intOf s11).toNat)
    case atStart => exact ⟨0, Nat.zero_le _, rfl, Below.refl _ _⟩
    case round =>
      obtain ⟨i, hi, rfl, HJ⟩ := hrel
      have hkb := hkeep H4.out.2.2 HJ.out
      have kb0 : wr.cell? ⟨w3.heap.size, 0, none⟩ = some (.int .i64 0) := by rw [cell_of hkb]; rfl
      have kb1 : wr.cell? ⟨w3.heap.size, 1, none⟩ = some (.string ⟨#[]⟩) := by rw [cell_of hkb]; rfl
      by_cases hlt : i < m
      · have hltz : (i : Int) < (m : Int) := by omega
        obtain ⟨x, hx⟩ : ∃ x, S.L[i]? = some x := ⟨_, List.getElem?_eq_getElem (by rw [HM.out]; exact hlt)⟩
        obtain ⟨g, rfl, -, -, -, hc, -⟩ := owns_entry (H4.out.2.1.below HJ.out) hx
        have c0 := hc.c0
        have c1 := hc.c1
        have c2' := hc.c2
        have hmx : mayB true S.L x = false := HNo.out x (List.mem_of_getElem? hx)
        have HLx : Hid (Calls Try.prog 24 #[.pointer (some ⟨p, 0, none⟩), .agg #[.int .i64 x.d, .string x.nm]] wr fun y w' => y = .returned (.bool (leafB S.L x.key)) ∧ Below wr.heap.size wr w') := HLf.out wr p x.key (H4.out.1.on' HJ.out)
        have hxn : x.neg = false := hmx
        rw [hxn] at c2'
        clear hc hkb
        go_wp2_with (go_at_call 24; refine HLx.out.mono ?_; rintro r w5 ⟨rfl, hb⟩; have H5 : Hid (Below V.heap.size V w5) := chainB HJ.out hb; clear hb)
        go_roundw
        case rel => exact ⟨i + 1, by omega, rfl, HJ.out⟩
        case measure => simp [intOf]; omega
      · obtain rfl : i = m := by omega
        have hltz : ¬ (i : Int) < (i : Int) := by omega
        clear hkb
        go_wp2_with (go_at_call 16; refine (HA.out _).mono ?_; rintro r w9 ⟨rfl, hb⟩; have HZ : Hid (Below w.heap.size w w9) := chainB H4.out.1.below (chainB HJ.out hb); clear hb)
        go_ret
        exact ⟨rfl, HZ.out⟩
  · rw [vicS_is, hf] at HVi
    have hbef : ∀ (j : Nat) (x : En), j < k0 → S.L[j]? = some x → mayB true S.L x = false := fun j x hj hx => by
      have hfi : S.L.findIdx? (mayB true S.L) = some k0 := by
        unfold idxE at hi
        cases hq : S.L.findIdx? (mayB true S.L) with
        | none => rw [hq] at hi; simp at hi
        | some i => rw [hq] at hi; simp at hi; rw [show i = k0 by omega]
      rw [List.findIdx?_eq_some_iff_getElem] at hfi
      obtain ⟨_, _, h3⟩ := hfi
      have := h3 j hj
      obtain ⟨hjl, hje⟩ := List.getElem?_eq_some_iff.1 hx
      rw [hje] at this
      simpa using this
    have hat : mayB true S.L x0 = true := List.find?_some hf
    have HNo : Hid ((∀ (j : Nat) (x : En), j < k0 → S.L[j]? = some x → mayB true S.L x = false) ∧ S.L[k0]? = some x0 ∧ mayB true S.L x0 = true ∧ k0 < m) := ⟨hbef, hx0, hat, by rw [← HM.out]; exact hk0⟩
    clear hf hi hbef hat hx0 hk0
    unfold vicV at HVi
    go_enter Try.func7, Try.ntmps7
    go_wp2_with (first
      | (go_at_call 10; refine (HVi.out _ _ (H1.out.on' H2.out.2)).mono ?_; rintro r w3 ⟨rfl, hb⟩; have H3 : Hid (Ld w w3 p S n (fun _ => False) ∧ Row7 w3 w1.heap.size (.slice a2 m c2) S.L) := ⟨H1.out.on' (chainB H2.out.2 hb), H2.out.1.below hb⟩; clear hb)
      | (go_at_call 18; refine (HEn.out _ _ H1.out).mono ?_; rintro r w2 ⟨a2, c2, rfl, hr, hb⟩; have H2 : Hid (Row7 w2 w1.heap.size (.slice a2 m c2) S.L ∧ Below w1.heap.size w1 w2) := ⟨hr, hb⟩; clear hr hb)
      | (go_at_call 9; refine HOf.out.mono ?_; rintro r w1 ⟨p, q, rfl, hl⟩; have H1 : Hid (Ld w w1 p S n (fun _ => False)) := hl; clear hl))
    obtain ⟨V, hV⟩ : ∃ V, w3.alloc (.cells #[.int .i64 x0.d, .string x0.nm] 28) = V := ⟨_, rfl⟩
    have bV := boxO hV
    have H4 : Hid (Ld w V p S n (fun _ => False) ∧ Row7 V w1.heap.size (.slice a2 m c2) S.L ∧ V.heap[w3.heap.size]? = some (.cells #[.int .i64 x0.d, .string x0.nm] 28 (0, 0))) := ⟨H3.out.1.on' bV.2.1, H3.out.2.below bV.2.1, bV.1⟩
    try rw [hV]
    clear bV hV H1 H2 H3
    go_loopw [11] (fun s11 wr => ∃ i : Nat, i ≤ k0 ∧ s11 = .int .i64 (i : Int) ∧ Hid (Below V.heap.size V wr)) (fun s11 _ => m - (intOf s11).toNat)
    case atStart => exact ⟨0, Nat.zero_le _, rfl, Below.refl _ _⟩
    case round =>
      obtain ⟨i, hi, rfl, HJ⟩ := hrel
      have hkb := hkeep H4.out.2.2 HJ.out
      have kb0 : wr.cell? ⟨w3.heap.size, 0, none⟩ = some (.int .i64 x0.d) := by rw [cell_of hkb]; rfl
      have kb1 : wr.cell? ⟨w3.heap.size, 1, none⟩ = some (.string x0.nm) := by rw [cell_of hkb]; rfl
      have him : i < m := by have := HNo.out.2.2.2; omega
      have hltz : (i : Int) < (m : Int) := by omega
      by_cases hlt : i < k0
      · obtain ⟨x, hx⟩ : ∃ x, S.L[i]? = some x := ⟨_, List.getElem?_eq_getElem (by rw [HM.out]; exact him)⟩
        obtain ⟨g, rfl, -, -, -, hc, -⟩ := owns_entry (H4.out.2.1.below HJ.out) hx
        have c0 := hc.c0
        have c1 := hc.c1
        have c2' := hc.c2
        have hmx : mayB true S.L x = false := HNo.out.1 i x hlt hx
        have HLx : Hid (Calls Try.prog 24 #[.pointer (some ⟨p, 0, none⟩), .agg #[.int .i64 x.d, .string x.nm]] wr fun y w' => y = .returned (.bool (leafB S.L x.key)) ∧ Below wr.heap.size wr w') := HLf.out wr p x.key (H4.out.1.on' HJ.out)
        have hxn : x.neg = false := hmx
        rw [hxn] at c2'
        clear hc hkb
        go_wp2_with (go_at_call 24; refine HLx.out.mono ?_; rintro r w5 ⟨rfl, hb⟩; have H5 : Hid (Below V.heap.size V w5) := chainB HJ.out hb; clear hb)
        go_roundw
        case rel => exact ⟨i + 1, by omega, rfl, HJ.out⟩
        case measure => simp [intOf]; omega
      · obtain rfl : i = k0 := by omega
        obtain ⟨g, rfl, -, -, -, hc, -⟩ := owns_entry (H4.out.2.1.below HJ.out) HNo.out.2.1
        have c0 := hc.c0
        have c1 := hc.c1
        have c2' := hc.c2
        have hmx : mayB true S.L x0 = true := HNo.out.2.2.1
        have HLx : Hid (Calls Try.prog 24 #[.pointer (some ⟨p, 0, none⟩), .agg #[.int .i64 x0.d, .string x0.nm]] wr fun y w' => y = .returned (.bool (leafB S.L x0.key)) ∧ Below wr.heap.size wr w') := HLf.out wr p x0.key (H4.out.1.on' HJ.out)
        have hxn : x0.neg = true := hmx
        rw [hxn] at c2'
        have HC : Hid (∀ W, Below V.heap.size V W → W.cell? ⟨w3.heap.size, 0, none⟩ = some (.int .i64 x0.d) ∧ W.cell? ⟨w3.heap.size, 1, none⟩ = some (.string x0.nm) ∧ W.cell? ⟨g, i * 7, none⟩ = some (.int .i64 x0.d) ∧ W.cell? ⟨g, i * 7 + 1, none⟩ = some (.string x0.nm)) := fun W hb => by
          have h1 := hkeep H4.out.2.2 hb
          obtain ⟨g', e, -, -, -, hc', -⟩ := owns_entry (H4.out.2.1.below hb) HNo.out.2.1
          injection e with e
          injection e with e
          subst e
          exact ⟨by rw [cell_of h1]; rfl, by rw [cell_of h1]; rfl, hc'.c0, hc'.c1⟩
        clear hc hkb
        go_upto_region 10 with (go_at_call 24; refine HLx.out.mono ?_; rintro r w5 ⟨rfl, hb⟩; have H5 : Hid (Below V.heap.size V w5) := chainB HJ.out hb; clear hb)
        have H5 := HJ
        have HD : Hid (Below V.heap.size V wr.drew) := chainB H5.out (below_drewN (Below.refl _ _) 1)
        have s0 := HC.out _ HD.out
        go_region_held3 (fun W => W.cell? ⟨w3.heap.size, 0, none⟩ = some (.int .i64 x0.d) ∧ W.cell? ⟨w3.heap.size, 1, none⟩ = some (.string x0.nm) ∧ W.cell? ⟨g, i * 7, none⟩ = some (.int .i64 x0.d) ∧ W.cell? ⟨g, i * 7 + 1, none⟩ = some (.string x0.nm))
          (with_reducible first | exact s0 | exact s1 | exact s2 | exact s3)
          (first
            | (go_at_call 16; refine (HA.out _).mono ?_; rintro r w8 ⟨rfl, hb⟩; have HZ : Hid (Below w.heap.size w w8) := chainB H4.out.1.below (chainB H7.out hb); have s3 := HC.out _ (chainB H7.out hb); clear hb)
            | (go_at_call 23; refine (HSe.out _ _ _ _ _ _ _ H6.out.2.1 H6.out.2.2).mono ?_; rintro r w7 ⟨rfl, hb⟩; have H7 : Hid (Below V.heap.size V w7) := chainB H6.out.1 hb; have s2 := HC.out _ H7.out; clear hb)
            | (go_at_call 18; refine (HEn.out _ _ (H4.out.1.on' HD.out)).mono ?_; rintro r w6 ⟨a6, c6, rfl, hr, hb⟩; have H6 : Hid (Below V.heap.size V w6 ∧ Row7 w6 wr.drew.heap.size (.slice a6 m c6) S.L ∧ Row7 w6 w1.heap.size (.slice (some ⟨g, 0, none⟩) m c2) S.L) := ⟨chainB HD.out hb, hr, H4.out.2.1.below (chainB HD.out hb)⟩; have s1 := HC.out _ H6.out.1; clear hr hb))
        all_goals (
          go_wp2
          go_ret
          exact ⟨rfl, HZ.out⟩)
set_option maxRecDepth 100000 in
set_option maxHeartbeats 8000000 in
theorem victims_false (a : Option Addr) (cap : Nat) (ops : List DOp) (w : World) (row : RowD w a ops) (hlen : ops.length * 112 ≤ 140737488351232) :
    Calls Try.prog 7 #[.slice a ops.length cap, .bool false] w fun x w' => x = .returned (.bool true) ∧ Below w.heap.size w w' := by
  obtain ⟨n, hn⟩ : ∃ n, ops.length = n := ⟨_, rfl⟩
  have hnb : n < 1290000000000 := by omega
  obtain ⟨S, hS⟩ : ∃ S, runS ops = S := ⟨_, rfl⟩
  have HOf : Hid (Calls Try.prog 9 #[.slice a n cap] w fun x w2 => ∃ p q, x = .returned (.tuple #[.pointer (some ⟨p, 0, none⟩), .pointer (some ⟨q, 0, none⟩), .bool true]) ∧ Ld w w2 p S n (fun _ => False)) := by
    rw [← hn, ← hS]
    refine (of_p a cap ops w row (by omega)).mono ?_
    rintro x w2 ⟨p, q, rfl, ht⟩
    exact ⟨p, q, rfl, ht.ld⟩
  have HA : Hid (∀ w, Calls Try.prog 16 #[] w fun x w' => x = .returned (.bool true) ∧ Below w.heap.size w w') := awake13_p
  obtain ⟨m, hm⟩ : ∃ m, S.L.length = m := ⟨_, rfl⟩
  have hmn : m ≤ n := by rw [← hm, ← hn, ← hS]; exact (runS_len ops).1
  have HM : Hid (S.L.length = m) := hm
  have HEn : Hid (∀ W p, Ld w W p S n (fun _ => False) → Calls Try.prog 18 #[.pointer (some ⟨p, 0, none⟩)] W fun x w' => ∃ a c, x = .returned (.slice a m c) ∧ Row7 w' W.heap.size (.slice a m c) S.L ∧ Below W.heap.size W w') := fun W p h => by
    refine (ld_entries h (by omega)).mono ?_
    rintro x w' ⟨v, rfl, hr, hb⟩
    obtain ⟨a, c, rfl⟩ := owns_len hr
    rw [HM.out] at hr ⊢
    exact ⟨a, c, rfl, hr, hb⟩
  have HSe : Hid (∀ W a c a' c' B B', Row7 W B (.slice a m c) S.L → Row7 W B' (.slice a' m c') S.L → Calls Try.prog 23 #[.slice a m c, .slice a' m c'] W fun r w' => r = .returned (.bool true) ∧ Below W.heap.size W w') := fun W a c a' c' B B' h h' => sameE_yes _ _ S.L B B' W h h' (by rw [HM.out]; omega)
  have HVi : Hid (∀ W p, Ld w W p S n (fun _ => False) → Calls Try.prog 10 #[.pointer (some ⟨p, 0, none⟩), .bool false] W fun r w' => r = .returned (vicV (vicS S false)) ∧ Below W.heap.size W w') := fun W p h => vicF_p h (by omega)
  have HLf : Hid (∀ W p (k : Ky), Ld w W p S n (fun _ => False) → Calls Try.prog 24 #[.pointer (some ⟨p, 0, none⟩), .agg #[.int .i64 k.d, .string k.nm]] W fun x w' => x = .returned (.bool (leafB S.L k)) ∧ Below W.heap.size W w') := fun W p k h => ld_leaf h k
  rw [hn]
  clear row hlen hS hm
  rcases idxE_cases (mayB false S.L) S.L with ⟨hf, hi⟩ | ⟨k0, x0, hx0, hf, hi, hk0⟩
  · have hno : ∀ x ∈ S.L, mayB false S.L x = false := fun x hx => by
      have := List.find?_eq_none.1 hf x hx
      simpa using this
    rw [vicS_is, hf] at HVi
    have HNo : Hid (∀ x ∈ S.L, mayB false S.L x = false) := hno
    clear hf hi hno
    unfold vicV at HVi
    go_enter Try.func7, Try.ntmps7
    go_wp2_with (first
      | (go_at_call 10; refine (HVi.out _ _ (H1.out.on' H2.out.2)).mono ?_; rintro r w3 ⟨rfl, hb⟩; have H3 : Hid (Ld w w3 p S n (fun _ => False) ∧ Row7 w3 w1.heap.size (.slice a2 m c2) S.L) := ⟨H1.out.on' (chainB H2.out.2 hb), H2.out.1.below hb⟩; clear hb)
      | (go_at_call 18; refine (HEn.out _ _ H1.out).mono ?_; rintro r w2 ⟨a2, c2, rfl, hr, hb⟩; have H2 : Hid (Row7 w2 w1.heap.size (.slice a2 m c2) S.L ∧ Below w1.heap.size w1 w2) := ⟨hr, hb⟩; clear hr hb)
      | (go_at_call 9; refine HOf.out.mono ?_; rintro r w1 ⟨p, q, rfl, hl⟩; have H1 : Hid (Ld w w1 p S n (fun _ => False)) := hl; clear hl))
    obtain ⟨V, hV⟩ : ∃ V, w3.alloc (.cells #[.int .i64 0, .string ⟨#[]⟩] 28) = V := ⟨_, rfl⟩
    have bV := boxO hV
    have H4 : Hid (Ld w V p S n (fun _ => False) ∧ Row7 V w1.heap.size (.slice a2 m c2) S.L ∧ V.heap[w3.heap.size]? = some (.cells #[.int .i64 0, .string ⟨#[]⟩] 28 (0, 0))) := ⟨H3.out.1.on' bV.2.1, H3.out.2.below bV.2.1, bV.1⟩
    try rw [hV]
    clear bV hV H1 H2 H3
    go_loopw [11] (fun s11 wr => ∃ i : Nat, i ≤ m ∧ s11 = .int .i64 (i : Int) ∧ Hid (Below V.heap.size V wr)) (fun s11 _ => m - (intOf s11).toNat)
    case atStart => exact ⟨0, Nat.zero_le _, rfl, Below.refl _ _⟩
    case round =>
      obtain ⟨i, hi, rfl, HJ⟩ := hrel
      have hkb := hkeep H4.out.2.2 HJ.out
      have kb0 : wr.cell? ⟨w3.heap.size, 0, none⟩ = some (.int .i64 0) := by rw [cell_of hkb]; rfl
      have kb1 : wr.cell? ⟨w3.heap.size, 1, none⟩ = some (.string ⟨#[]⟩) := by rw [cell_of hkb]; rfl
      by_cases hlt : i < m
      · have hltz : (i : Int) < (m : Int) := by omega
        obtain ⟨x, hx⟩ : ∃ x, S.L[i]? = some x := ⟨_, List.getElem?_eq_getElem (by rw [HM.out]; exact hlt)⟩
        obtain ⟨g, rfl, -, -, -, hc, -⟩ := owns_entry (H4.out.2.1.below HJ.out) hx
        have c0 := hc.c0
        have c1 := hc.c1
        have c2' := hc.c2
        have hmx : mayB false S.L x = false := HNo.out x (List.mem_of_getElem? hx)
        have HLx : Hid (Calls Try.prog 24 #[.pointer (some ⟨p, 0, none⟩), .agg #[.int .i64 x.d, .string x.nm]] wr fun y w' => y = .returned (.bool (leafB S.L x.key)) ∧ Below wr.heap.size wr w') := HLf.out wr p x.key (H4.out.1.on' HJ.out)
        have hxl : leafB S.L x.key = false := hmx
        rw [hxl] at HLx
        clear hc hkb
        go_wp2_with (go_at_call 24; refine HLx.out.mono ?_; rintro r w5 ⟨rfl, hb⟩; have H5 : Hid (Below V.heap.size V w5) := chainB HJ.out hb; clear hb)
        go_roundw
        case rel => exact ⟨i + 1, by omega, rfl, H5.out⟩
        case measure => simp [intOf]; omega
      · obtain rfl : i = m := by omega
        have hltz : ¬ (i : Int) < (i : Int) := by omega
        clear hkb
        go_wp2_with (go_at_call 16; refine (HA.out _).mono ?_; rintro r w9 ⟨rfl, hb⟩; have HZ : Hid (Below w.heap.size w w9) := chainB H4.out.1.below (chainB HJ.out hb); clear hb)
        go_ret
        exact ⟨rfl, HZ.out⟩
  · rw [vicS_is, hf] at HVi
    have hbef : ∀ (j : Nat) (x : En), j < k0 → S.L[j]? = some x → mayB false S.L x = false := fun j x hj hx => by
      have hfi : S.L.findIdx? (mayB false S.L) = some k0 := by
        unfold idxE at hi
        cases hq : S.L.findIdx? (mayB false S.L) with
        | none => rw [hq] at hi; simp at hi
        | some i => rw [hq] at hi; simp at hi; rw [show i = k0 by omega]
      rw [List.findIdx?_eq_some_iff_getElem] at hfi
      obtain ⟨_, _, h3⟩ := hfi
      have := h3 j hj
      obtain ⟨hjl, hje⟩ := List.getElem?_eq_some_iff.1 hx
      rw [hje] at this
      simpa using this
    have hat : mayB false S.L x0 = true := List.find?_some hf
    have HNo : Hid ((∀ (j : Nat) (x : En), j < k0 → S.L[j]? = some x → mayB false S.L x = false) ∧ S.L[k0]? = some x0 ∧ mayB false S.L x0 = true ∧ k0 < m) := ⟨hbef, hx0, hat, by rw [← HM.out]; exact hk0⟩
    clear hf hi hbef hat hx0 hk0
    unfold vicV at HVi
    go_enter Try.func7, Try.ntmps7
    go_wp2_with (first
      | (go_at_call 10; refine (HVi.out _ _ (H1.out.on' H2.out.2)).mono ?_; rintro r w3 ⟨rfl, hb⟩; have H3 : Hid (Ld w w3 p S n (fun _ => False) ∧ Row7 w3 w1.heap.size (.slice a2 m c2) S.L) := ⟨H1.out.on' (chainB H2.out.2 hb), H2.out.1.below hb⟩; clear hb)
      | (go_at_call 18; refine (HEn.out _ _ H1.out).mono ?_; rintro r w2 ⟨a2, c2, rfl, hr, hb⟩; have H2 : Hid (Row7 w2 w1.heap.size (.slice a2 m c2) S.L ∧ Below w1.heap.size w1 w2) := ⟨hr, hb⟩; clear hr hb)
      | (go_at_call 9; refine HOf.out.mono ?_; rintro r w1 ⟨p, q, rfl, hl⟩; have H1 : Hid (Ld w w1 p S n (fun _ => False)) := hl; clear hl))
    obtain ⟨V, hV⟩ : ∃ V, w3.alloc (.cells #[.int .i64 x0.d, .string x0.nm] 28) = V := ⟨_, rfl⟩
    have bV := boxO hV
    have H4 : Hid (Ld w V p S n (fun _ => False) ∧ Row7 V w1.heap.size (.slice a2 m c2) S.L ∧ V.heap[w3.heap.size]? = some (.cells #[.int .i64 x0.d, .string x0.nm] 28 (0, 0))) := ⟨H3.out.1.on' bV.2.1, H3.out.2.below bV.2.1, bV.1⟩
    try rw [hV]
    clear bV hV H1 H2 H3
    go_loopw [11] (fun s11 wr => ∃ i : Nat, i ≤ k0 ∧ s11 = .int .i64 (i : Int) ∧ Hid (Below V.heap.size V wr)) (fun s11 _ => m - (intOf s11).toNat)
    case atStart => exact ⟨0, Nat.zero_le _, rfl, Below.refl _ _⟩
    case round =>
      obtain ⟨i, hi, rfl, HJ⟩ := hrel
      have hkb := hkeep H4.out.2.2 HJ.out
      have kb0 : wr.cell? ⟨w3.heap.size, 0, none⟩ = some (.int .i64 x0.d) := by rw [cell_of hkb]; rfl
      have kb1 : wr.cell? ⟨w3.heap.size, 1, none⟩ = some (.string x0.nm) := by rw [cell_of hkb]; rfl
      have him : i < m := by have := HNo.out.2.2.2; omega
      have hltz : (i : Int) < (m : Int) := by omega
      by_cases hlt : i < k0
      · obtain ⟨x, hx⟩ : ∃ x, S.L[i]? = some x := ⟨_, List.getElem?_eq_getElem (by rw [HM.out]; exact him)⟩
        obtain ⟨g, rfl, -, -, -, hc, -⟩ := owns_entry (H4.out.2.1.below HJ.out) hx
        have c0 := hc.c0
        have c1 := hc.c1
        have c2' := hc.c2
        have hmx : mayB false S.L x = false := HNo.out.1 i x hlt hx
        have HLx : Hid (Calls Try.prog 24 #[.pointer (some ⟨p, 0, none⟩), .agg #[.int .i64 x.d, .string x.nm]] wr fun y w' => y = .returned (.bool (leafB S.L x.key)) ∧ Below wr.heap.size wr w') := HLf.out wr p x.key (H4.out.1.on' HJ.out)
        have hxl : leafB S.L x.key = false := hmx
        rw [hxl] at HLx
        clear hc hkb
        go_wp2_with (go_at_call 24; refine HLx.out.mono ?_; rintro r w5 ⟨rfl, hb⟩; have H5 : Hid (Below V.heap.size V w5) := chainB HJ.out hb; clear hb)
        go_roundw
        case rel => exact ⟨i + 1, by omega, rfl, H5.out⟩
        case measure => simp [intOf]; omega
      · obtain rfl : i = k0 := by omega
        obtain ⟨g, rfl, -, -, -, hc, -⟩ := owns_entry (H4.out.2.1.below HJ.out) HNo.out.2.1
        have c0 := hc.c0
        have c1 := hc.c1
        have c2' := hc.c2
        have hmx : mayB false S.L x0 = true := HNo.out.2.2.1
        have HLx : Hid (Calls Try.prog 24 #[.pointer (some ⟨p, 0, none⟩), .agg #[.int .i64 x0.d, .string x0.nm]] wr fun y w' => y = .returned (.bool (leafB S.L x0.key)) ∧ Below wr.heap.size wr w') := HLf.out wr p x0.key (H4.out.1.on' HJ.out)
        have hxl : leafB S.L x0.key = true := hmx
        rw [hxl] at HLx
        have HC : Hid (∀ W, Below V.heap.size V W → W.cell? ⟨w3.heap.size, 0, none⟩ = some (.int .i64 x0.d) ∧ W.cell? ⟨w3.heap.size, 1, none⟩ = some (.string x0.nm) ∧ W.cell? ⟨g, i * 7, none⟩ = some (.int .i64 x0.d) ∧ W.cell? ⟨g, i * 7 + 1, none⟩ = some (.string x0.nm)) := fun W hb => by
          have h1 := hkeep H4.out.2.2 hb
          obtain ⟨g', e, -, -, -, hc', -⟩ := owns_entry (H4.out.2.1.below hb) HNo.out.2.1
          injection e with e
          injection e with e
          subst e
          exact ⟨by rw [cell_of h1]; rfl, by rw [cell_of h1]; rfl, hc'.c0, hc'.c1⟩
        clear hc hkb
        go_upto_region 10 with (go_at_call 24; refine HLx.out.mono ?_; rintro r w5 ⟨rfl, hb⟩; have H5 : Hid (Below V.heap.size V w5) := chainB HJ.out hb; clear hb)
        skip
        have HD : Hid (Below V.heap.size V w5.drew) := chainB H5.out (below_drewN (Below.refl _ _) 1)
        have s0 := HC.out _ HD.out
        go_region_held3 (fun W => W.cell? ⟨w3.heap.size, 0, none⟩ = some (.int .i64 x0.d) ∧ W.cell? ⟨w3.heap.size, 1, none⟩ = some (.string x0.nm) ∧ W.cell? ⟨g, i * 7, none⟩ = some (.int .i64 x0.d) ∧ W.cell? ⟨g, i * 7 + 1, none⟩ = some (.string x0.nm))
          (with_reducible first | exact s0 | exact s1 | exact s2 | exact s3)
          (first
            | (go_at_call 16; refine (HA.out _).mono ?_; rintro r w8 ⟨rfl, hb⟩; have HZ : Hid (Below w.heap.size w w8) := chainB H4.out.1.below (chainB H7.out hb); have s3 := HC.out _ (chainB H7.out hb); clear hb)
            | (go_at_call 23; refine (HSe.out _ _ _ _ _ _ _ H6.out.2.1 H6.out.2.2).mono ?_; rintro r w7 ⟨rfl, hb⟩; have H7 : Hid (Below V.heap.size V w7) := chainB H6.out.1 hb; have s2 := HC.out _ H7.out; clear hb)
            | (go_at_call 18; refine (HEn.out _ _ (H4.out.1.on' HD.out)).mono ?_; rintro r w6 ⟨a6, c6, rfl, hr, hb⟩; have H6 : Hid (Below V.heap.size V w6 ∧ Row7 w6 w5.drew.heap.size (.slice a6 m c6) S.L ∧ Row7 w6 w1.heap.size (.slice (some ⟨g, 0, none⟩) m c2) S.L) := ⟨chainB HD.out hb, hr, H4.out.2.1.below (chainB HD.out hb)⟩; have s1 := HC.out _ H6.out.1; clear hr hb))
        all_goals (
          go_wp2
          go_ret
          exact ⟨rfl, HZ.out⟩)
theorem walk_PruneVictims (a : Option Addr) (cap : Nat) (ops : List DOp) (neg : Bool) (w : World) (row : RowD w a ops) (hlen : ops.length * 112 ≤ 140737488351232) :
    Calls Try.prog 7 #[.slice a ops.length cap, .bool neg] w fun x w' => x = .returned (.bool true) ∧ Below w.heap.size w w' := by
  cases neg with
  | true => exact victims_true a cap ops w row hlen
  | false => exact victims_false a cap ops w row hlen
end
end Go.Proofs.Ytepgiicbcalkdaa
