/- The document's walk: look, and the root. -/
import Derived.Test.YtmndnjgbbpkidaaGreatJWLks23
import Derived.Test.YtmndnjgbbpkidaaGreatJWLks32
namespace Go.Proofs.YtmndnjgbbpkidaaGreat
section
open Go.RowKit
attribute [local go_sem ↓ high] loadEn storeEn builden loadNd storeNd
attribute [local go_sem high] eqK neqK guardK

theorem find_at {es : List En} {k : Ky} {i : Nat} {e : En} (he : es[i]? = some e) (hk : hasK k e = true) (hn : ∀ (j : Nat) x, j < i → es[j]? = some x → ¬ (x.d = k.d ∧ x.nm = k.nm)) : es.find? (hasK k) = some e := by
  rw [List.find?_eq_some_iff_getElem]
  obtain ⟨hi, hv⟩ := List.getElem?_eq_some_iff.1 he
  refine ⟨hk, i, hi, hv, fun j hj => ?_⟩
  have := hn j es[j] hj (List.getElem?_eq_getElem (by omega))
  rw [← hasK_iff] at this
  simpa using this
theorem find_no14 {es : List En} {k : Ky} (hn : ∀ (j : Nat) x, j < es.length → es[j]? = some x → ¬ (x.d = k.d ∧ x.nm = k.nm)) : es.find? (hasK k) = none := by
  rw [List.find?_eq_none]
  intro x hx
  obtain ⟨j, hj, rfl⟩ := List.getElem_of_mem hx
  rw [hasK_iff]
  exact hn j _ hj (List.getElem?_eq_getElem hj)
/-- what look answers -/
def look14 (o : Option En) (k : Ky) : Value := .tuple #[(o.getD (negK k)).agg, .bool o.isSome]
set_option maxRecDepth 100000 in
set_option maxHeartbeats 4000000 in
theorem look_d (B q : Nat) (kc : Kc) (s : Cs) (es : List En) (fv : Value) (ky : Ky) (w : World) (h : IsK w B q kc s) (hf : RdE w fv es) (hl : s.L.length ≤ 1400000000000) (hlw : s.W.length ≤ 1400000000000) :
    Calls Tryz.prog 52 #[.agg #[.pointer (some ⟨q, 0, none⟩), fv, .pointer none], .agg #[.int .i64 ky.d, .string ky.nm]] w fun x w' => x = .returned (look14 (knF (firstsL es) s ky) ky) ∧ Below w.heap.size w w' := by
  have hf0 := hf
  obtain ⟨a, cap, rfl, hle, -⟩ := hf0
  obtain ⟨n, hn⟩ : ∃ n, es.length = n := ⟨_, rfl⟩
  rw [hn] at hf hle ⊢
  obtain ⟨W1, hW1⟩ : ∃ W, w.alloc (.cells #[.pointer (some ⟨q, 0, none⟩), .slice a n cap, .pointer none] 41) = W := ⟨_, rfl⟩
  obtain ⟨W2, hW2⟩ : ∃ W, W1.alloc (.cells #[.int .i64 ky.d, .string ky.nm] 29) = W := ⟨_, rfl⟩
  obtain ⟨W3, hW3⟩ : ∃ W, W2.alloc (.cells #[.int .i64 0, .string ⟨#[]⟩, .bool false, .int .i64 0, .int .i64 0, .int .i64 0, .string ⟨#[]⟩] 52) = W := ⟨_, rfl⟩
  have b1 := boxO hW1
  have b2 := boxO hW2
  have b3 := boxO hW3
  have e1 : w.heap.size + 1 = W1.heap.size := b1.2.2.symm
  have e2 : W1.heap.size + 1 = W2.heap.size := b2.2.2.symm
  have B13 : Below W1.heap.size W1 W3 := chainB b2.2.1 b3.2.1
  have B03 : Below w.heap.size w W3 := chainB b1.2.1 B13
  have z1 : W3.heap[w.heap.size]? = some (.cells #[.pointer (some ⟨q, 0, none⟩), .slice a n cap, .pointer none] 41 (0, 0)) := hkeep b1.1 B13
  have z2 : W3.heap[W1.heap.size]? = some (.cells #[.int .i64 ky.d, .string ky.nm] 29 (0, 0)) := hkeep b2.1 b3.2.1
  -- what the boxes hold, whatever comes behind
  have HX : Hid (∀ W, Below W2.heap.size W3 W → W.cell? ⟨w.heap.size, 0, none⟩ = some (.pointer (some ⟨q, 0, none⟩)) ∧ W.cell? ⟨w.heap.size, 1, none⟩ = some (.slice a n cap) ∧ W.cell? ⟨w.heap.size, 2, none⟩ = some (.pointer none) ∧ W.cell? ⟨W1.heap.size, 0, none⟩ = some (.int .i64 ky.d) ∧ W.cell? ⟨W1.heap.size, 1, none⟩ = some (.string ky.nm)) := fun W hW => by
    have y1 := (hW.block w.heap.size (by omega)).trans z1
    have y2 := (hW.block W1.heap.size (by omega)).trans z2
    exact ⟨by rw [cell_of y1]; rfl, by rw [cell_of y1]; rfl, by rw [cell_of y1]; rfl, by rw [cell_of y2]; rfl, by rw [cell_of y2]; rfl⟩
  have HB : Hid (Below w.heap.size w W3 ∧ W3.heap[W2.heap.size]? = some (.cells zeroEn.vals.toArray 52 (0, 0)) ∧ W3.heap.size = W2.heap.size + 1 ∧ w.heap.size < W2.heap.size) := ⟨B03, b3.1, b3.2.2, by omega⟩
  have HIK : Hid (∀ W, Below w.heap.size w W → IsK W B q kc s ∧ RdE W (.slice a n cap) es) := fun W hW => ⟨h.below hW, hf.below hW⟩
  have HS : Hid (∀ (e : En) W, Below W3.heap.size W3 W → (enSt (.pointer (some ⟨W2.heap.size, 0, none⟩)) e.agg).run Tryz.prog W = .ok () (W.setRow W2.heap.size e.vals.toArray) ∧ (W.setRow W2.heap.size e.vals.toArray).heap[W2.heap.size]? = some (.cells e.vals.toArray 52 (0, 0)) ∧ Below w.heap.size w (W.setRow W2.heap.size e.vals.toArray)) := fun e W hW => by
    have hz := (hW.block W2.heap.size (by have := b3.2.2; omega)).trans b3.1
    exact ⟨enSt_of hz rfl rfl, setRow_heap _ _ _ _ _ _ hz, (onlyR W W2.heap.size e.vals.toArray).below (chainB B03 hW) (chainB B03 hW).size fun b hb => by omega⟩
  obtain ⟨R, hR⟩ : ∃ R, look14 (knF (firstsL es) s ky) ky = R := ⟨_, rfl⟩
  rw [hR]
  have HR : Hid (look14 (knF (firstsL es) s ky) ky = R) := hR
  clear h hf b1 b2 b3 B13 B03 z1 z2 hR
  obtain ⟨x0, x1, x2, k0, k1⟩ := HX.out W3 (Below.refl _ _)
  go_enter Tryz.func52, Tryz.ntmps52
  go_wp2
  go_loopw [8] (fun s8 wr => ∃ i : Nat, i ≤ n ∧ s8 = .int .i64 i ∧ ∃ nq, wr = W3.drewN nq ∧ Hid (∀ (j : Nat) x, j < i → es[j]? = some x → ¬ (x.d = ky.d ∧ x.nm = ky.nm))) (fun s8 _ => n - (intOf s8).toNat)
  case atStart => exact ⟨0, Nat.zero_le _, rfl, 0, rfl, fun j x hj => by omega⟩
  case round =>
    obtain ⟨i, hi, rfl, nq, rfl, HJ⟩ := hrel
    clear hW1 hW2 hW3
    by_cases hlt : i < n
    · obtain ⟨e, he⟩ : ∃ e, es[i]? = some e := ⟨_, List.getElem?_eq_getElem (by omega)⟩
      obtain ⟨a9, c9, e9, -, hcc⟩ := (HIK.out W3 HB.out.1).2
      have e10 : a = a9 := by injection e9
      subst e10
      clear e9
      obtain ⟨g, o, rfl, hc⟩ := hcc i e he
      clear hcc
      have y0 := hc.c0
      have y1 := hc.c1
      have hltz : (i : Int) < (n : Int) := by omega
      have hw1 : IntKind.i64.wrap ((i : Int) + 1) = ((i + 1 : Nat) : Int) := by
        rw [show ((i + 1 : Nat) : Int) = (i : Int) + 1 by omega]; exact IntWalk.i64_in _ (by omega)
      obtain ⟨Y, hY⟩ : ∃ Y, decide (e.d = ky.d ∧ e.nm = ky.nm) = Y := ⟨_, rfl⟩
      cases Y with
      | true =>
        have hK : knF (firstsL es) s ky = some e := by
          rw [known_is, find_at he (hasK_iff.2 (of_decide_eq_true hY)) HJ.out]; rfl
        have ld : ∀ m, (enLd (.pointer (some ⟨g, o + i * 7, none⟩))).run Tryz.prog (W3.drewN m) = .ok e.agg (W3.drewN m) := fun m => enLd_at (hc.below (below_drewN (Below.refl _ _) m))
        have HD : Hid (∀ m, Below W3.heap.size W3 (W3.drewN m)) := fun m => below_drewN (Below.refl _ _) m
        have st : ∀ m, (enSt (.pointer (some ⟨W2.heap.size, 0, none⟩)) e.agg).run Tryz.prog (W3.drewN m) = .ok () ((W3.drewN m).setRow W2.heap.size e.vals.toArray) := fun m => (HS.out e _ (HD.out m)).1
        have HK : Hid (R = .tuple #[e.agg, .bool true]) := by
          show R = _
          rw [← HR.out, hK]; rfl
        clear hK HJ he hc
        go_upto_region 7 with fail
        go_quiet (fail)
        go_wp2
        refine bodyPost_ret (ret_entry2 rfl _ _ W2.heap.size rfl (HS.out e _ (HD.out _)).2.1) rfl ?_
        exact ⟨HK.out.symm ▸ rfl, (HS.out e _ (HD.out _)).2.2⟩
      | false =>
        have HJ2 : Hid (∀ (j : Nat) x, j < i + 1 → es[j]? = some x → ¬ (x.d = ky.d ∧ x.nm = ky.nm)) := fun j x hj hx => by
          by_cases e1 : j = i
          · subst e1
            rw [he] at hx
            cases hx
            exact of_decide_eq_false hY
          · exact HJ.out j x (by omega) hx
        clear HJ he hc
        go_upto_region 7 with fail
        go_quiet (fail)
        go_wp2
        go_roundw
        case rel => exact ⟨i + 1, by omega, by simp, _, rfl, HJ2⟩
        case measure => simp [intOf]; omega
    · obtain rfl : i = n := by omega
      have hltz : ¬ (i : Int) < (i : Int) := by omega
      have hK : knF (firstsL es) s ky = knC s ky := by
        rw [known_is, find_no14 fun j x hj hx => HJ.out j x (by omega) hx]; rfl
      have HK : Hid (look14 (knC s ky) ky = R) := by
        show _ = R
        rw [← hK]; exact HR.out
      clear hK HJ HR
      have HG : Hid (∀ W, Below w.heap.size w W → Calls Tryz.prog 41 #[.pointer (some ⟨q, 0, none⟩), .agg #[.int .i64 ky.d, .string ky.nm]] W fun x w' => x = .returned (.tuple #[((getL s.L ky).getD zeroEn).agg, .bool (getL s.L ky).isSome]) ∧ Below W.heap.size W w') := fun W hW => rget_d B q kc s ky W (HIK.out W hW).1 (by omega)
      have HWh : Hid (∀ W, Below w.heap.size w W → Calls Tryz.prog 45 #[.pointer (some ⟨q, 0, none⟩), .int .i64 ky.d] W fun x w' => x = .returned (.bool (decide (ky.d ∈ s.W))) ∧ Below W.heap.size W w') := fun W hW => rwhole_d B q kc s ky.d W (HIK.out W hW).1 (by omega)
      have bx := box7
      unfold knC at HK
      cases hg : getL s.L ky with
      | some e =>
        have HG2 : Hid (Calls Tryz.prog 41 #[.pointer (some ⟨q, 0, none⟩), .agg #[.int .i64 ky.d, .string ky.nm]] (W3.drewN nq) fun x w' => x = .returned (.tuple #[e.agg, .bool true]) ∧ Below W3.heap.size W3 w') := (HG.out _ (below_drewN HB.out.1 _)).mono fun x w' ⟨e1, e2⟩ => ⟨by rw [e1, hg]; rfl, chainB (below_drewN (Below.refl _ _) nq) e2⟩
        have HK2 : Hid (R = .tuple #[e.agg, .bool true]) := by
          show R = _
          rw [← HK.out, hg]; rfl
        clear HK HG HWh hg
        go_wp2_with (go_at_call 41; refine HG2.out.mono ?_; rintro x WG ⟨rfl, hb⟩; have ld1 := enLd_at (cells7_of (heap_new WG (.cells e.vals.toArray 52))); obtain ⟨st, hh⟩ := HS.out e _ (chainB hb (below_alloc WG (.cells e.vals.toArray 52))); have HE : Hid (_ ∧ _) := hh; clear hh hb)
        refine bodyPost_ret (ret_entry2 rfl _ _ W2.heap.size rfl HE.out.1) rfl ?_
        exact ⟨HK2.out.symm ▸ rfl, HE.out.2⟩
      | none =>
        have HG2 : Hid (Calls Tryz.prog 41 #[.pointer (some ⟨q, 0, none⟩), .agg #[.int .i64 ky.d, .string ky.nm]] (W3.drewN nq) fun x w' => x = .returned (.tuple #[zeroEn.agg, .bool false]) ∧ Below W3.heap.size W3 w') := (HG.out _ (below_drewN HB.out.1 _)).mono fun x w' ⟨e1, e2⟩ => ⟨by rw [e1, hg]; rfl, chainB (below_drewN (Below.refl _ _) nq) e2⟩
        obtain ⟨wh, hwh⟩ : ∃ b, decide (ky.d ∈ s.W) = b := ⟨_, rfl⟩
        have HK2 : Hid (R = .tuple #[(negK ky).agg, .bool wh]) := by
          show R = _
          rw [← HK.out, hg, ← hwh]
          by_cases hd : ky.d ∈ s.W <;> simp [hd, look14]
        rw [hwh] at HWh
        clear HK HG hg hwh
        have bz := bx
        go_upto_region 12 with (go_at_call 41; refine HG2.out.mono ?_; rintro x WG ⟨rfl, hb⟩; have bz := bx WG zeroEn; have HE : Hid (Below W3.heap.size W3 WG) := hb; clear hb)
        obtain ⟨V, hV⟩ : ∃ V, WG.alloc (.cells zeroEn.vals.toArray 52) = V := ⟨_, rfl⟩
        rw [hV]
        have hbV : Below W3.heap.size W3 V := by rw [← hV]; exact chainB HE.out (below_alloc _ _)
        have HX2 : Hid (∀ W, Below V.heap.size V W → W.cell? ⟨w.heap.size, 0, none⟩ = some (.pointer (some ⟨q, 0, none⟩)) ∧ W.cell? ⟨W1.heap.size, 0, none⟩ = some (.int .i64 ky.d) ∧ W.cell? ⟨W1.heap.size, 1, none⟩ = some (.string ky.nm)) := fun W hW => by
          obtain ⟨a1, -, -, a4, a5⟩ := HX.out W ((chainB hbV hW).mono (by have := HB.out.2.2.1; omega))
          exact ⟨a1, a4, a5⟩
        have HW2 : Hid (Calls Tryz.prog 45 #[.pointer (some ⟨q, 0, none⟩), .int .i64 ky.d] V.drew fun x w' => x = .returned (.bool wh) ∧ Below V.heap.size V w') := (HWh.out _ (chainB HB.out.1 (chainB hbV (below_drewN (Below.refl _ _) 1)))).mono fun x w' ⟨e1, e2⟩ => ⟨e1, chainB (below_drewN (Below.refl _ _) 1) e2⟩
        have HSV : Hid (∀ W, Below V.heap.size V W → (enSt (.pointer (some ⟨W2.heap.size, 0, none⟩)) (.agg #[.int .i64 ky.d, .string ky.nm, .bool true, .int .i64 0, .int .i64 0, .int .i64 0, .string ⟨#[]⟩])).run Tryz.prog W = .ok () (W.setRow W2.heap.size (negK ky).vals.toArray) ∧ Hid ((W.setRow W2.heap.size (negK ky).vals.toArray).heap[W2.heap.size]? = some (.cells (negK ky).vals.toArray 52 (0, 0)) ∧ Below w.heap.size w (W.setRow W2.heap.size (negK ky).vals.toArray)) ∧ (W.setRow W2.heap.size (negK ky).vals.toArray).cell? ⟨w.heap.size, 0, none⟩ = some (.pointer (some ⟨q, 0, none⟩)) ∧ (W.setRow W2.heap.size (negK ky).vals.toArray).cell? ⟨W1.heap.size, 0, none⟩ = some (.int .i64 ky.d) ∧ (W.setRow W2.heap.size (negK ky).vals.toArray).cell? ⟨W1.heap.size, 1, none⟩ = some (.string ky.nm)) := fun W hW => by
          obtain ⟨a1, a2, a3⟩ := HS.out (negK ky) W (chainB hbV hW)
          have hb2 : Below W2.heap.size W3 W := (chainB hbV hW).mono (by have := HB.out.2.2.1; omega)
          obtain ⟨b1, -, -, b4, b5⟩ := HX.out _ ((onlyR W W2.heap.size (negK ky).vals.toArray).below hb2 (by have := hb2.size; have := HB.out.2.2.1; omega) fun b hb => by omega)
          exact ⟨a1, ⟨a2, a3⟩, b1, b4, b5⟩
        have f0 := HX2.out V.drew (below_drewN (Below.refl _ _) 1)
        clear hV hbV bz bx HWh HE HG2 x0 x1 x2 k0 k1
        go_region_held3 (fun W => W.cell? ⟨w.heap.size, 0, none⟩ = some (.pointer (some ⟨q, 0, none⟩)) ∧ W.cell? ⟨W1.heap.size, 0, none⟩ = some (.int .i64 ky.d) ∧ W.cell? ⟨W1.heap.size, 1, none⟩ = some (.string ky.nm))
          (with_reducible first | exact f0 | exact f1 | exact f2)
          (first | (go_at_call 45; refine HW2.out.mono ?_; rintro x WI ⟨rfl, hb⟩; have f1 := HX2.out WI hb; obtain ⟨st, HE, f2⟩ := HSV.out WI hb; clear hb))
        go_wp2
        refine bodyPost_ret (ret_entry2 rfl _ _ W2.heap.size rfl HE.out.1) rfl ?_
        exact ⟨HK2.out.symm ▸ rfl, HE.out.2⟩
end
section
abbrev bl (s : ByteArray) : List UInt8 := s.data.toList
def mkB (l : List UInt8) : ByteArray := ⟨l.toArray⟩
theorem bl_mk (l : List UInt8) : bl (mkB l) = l := by simp [bl, mkB]
theorem mk_bl (s : ByteArray) : mkB (bl s) = s := by cases s; simp [bl, mkB]
theorem bl_inj {s t : ByteArray} (h : bl s = bl t) : s = t := by rw [← mk_bl s, ← mk_bl t, h]
theorem bl_len (s : ByteArray) : (bl s).length = s.size := by cases s; rfl
theorem bl_toList (s : ByteArray) : s.toList = bl s := ByteArray.toList_eq s
theorem bl_append (s t : ByteArray) : bl (s ++ t) = bl s ++ bl t := by simp [bl, ByteArray.data_append]
theorem bl_extract (s : ByteArray) (a b : Nat) : bl (s.extract a b) = ((bl s).drop a).take (b - a) := by
  simp [bl, ByteArray.data_extract]
theorem bt_bl (s : ByteArray) (i : Nat) (x : UInt8) (h : (bl s)[i]? = some x) : bt s i = x.toNat := by
  obtain ⟨hi, e⟩ := List.getElem?_eq_some_iff.1 h
  rw [bl_len] at hi
  rw [bt_at s i hi, ← e]
  rfl

def stp (st : List (List UInt8) × List UInt8) (b : UInt8) : List (List UInt8) × List UInt8 :=
  if b = 47 then (if st.2 = [] then (st.1, []) else (st.1 ++ [st.2], [])) else (st.1, st.2 ++ [b])
def fin (st : List (List UInt8) × List UInt8) : List (List UInt8) := if st.2 = [] then st.1 else st.1 ++ [st.2]
def comps (l : List UInt8) : List (List UInt8) := fin (l.foldl stp ([], []))

theorem stp_shift (a : List (List UInt8)) (st : List (List UInt8) × List UInt8) (b : UInt8) : stp (a ++ st.1, st.2) b = (a ++ (stp st b).1, (stp st b).2) := by
  unfold stp
  split
  · split <;> simp
  · rfl
theorem fold_shift (a : List (List UInt8)) (l : List UInt8) : ∀ st : List (List UInt8) × List UInt8, l.foldl stp (a ++ st.1, st.2) = (a ++ (l.foldl stp st).1, (l.foldl stp st).2) := by
  induction l with
  | nil => intro st; rfl
  | cons b l ih => intro st; simp only [List.foldl_cons]; rw [stp_shift]; exact ih _
theorem comps_slash (l m : List UInt8) : comps (l ++ 47 :: m) = comps l ++ comps m := by
  unfold comps
  rw [List.foldl_append, List.foldl_cons]
  generalize l.foldl stp ([], []) = st
  have h : stp st 47 = (fin st ++ ([] : List (List UInt8)), ([] : List UInt8)) := by
    unfold stp fin
    rw [if_pos rfl]
    split <;> simp
  rw [h, fold_shift (fin st) m ([], [])]
  generalize m.foldl stp ([], []) = su
  unfold fin
  simp only
  split <;> simp
theorem comps_nil : comps [] = [] := rfl
theorem fold_plain (l : List UInt8) (h : ∀ b ∈ l, b ≠ 47) : ∀ st : List (List UInt8) × List UInt8, l.foldl stp st = (st.1, st.2 ++ l) := by
  induction l with
  | nil => intro st; simp
  | cons b l ih =>
    intro st
    rw [List.foldl_cons, ih (fun c hc => h c (List.mem_cons_of_mem _ hc))]
    unfold stp
    rw [if_neg (h b List.mem_cons_self)]
    simp
theorem comps_word (l : List UInt8) (h : ∀ b ∈ l, b ≠ 47) (hl : l ≠ []) : comps l = [l] := by
  unfold comps
  rw [fold_plain l h]
  unfold fin
  simp [hl]

theorem extract_nil (s : ByteArray) (a i : Nat) (h : i ≤ s.size) : bl (s.extract a i) = [] ↔ ¬ a < i := by
  rw [← List.length_eq_zero_iff, bl_len, ByteArray.size_extract]
  omega
theorem fold_pcs (s : ByteArray) (i : Nat) (hi : i ≤ s.size) : ((bl s).take i).foldl stp ([], []) = ((pcs s i).map bl, bl (s.extract (frm s i) i)) := by
  induction i with
  | zero =>
    simp only [List.take_zero, List.foldl_nil, pcs, List.map_nil, frm]
    rw [(extract_nil s 0 0 (Nat.zero_le _)).2 (by omega)]
  | succ i ih =>
    have hlt : i < (bl s).length := by rw [bl_len]; omega
    rw [List.take_add_one, List.getElem?_eq_getElem hlt, List.foldl_append, ih (by omega)]
    have hb : bt s i = ((bl s)[i]).toNat := bt_bl s i _ (List.getElem?_eq_getElem hlt)
    show stp _ (bl s)[i] = _
    have hf := frm_le s i
    unfold stp
    by_cases h : bt s i = 47
    · have hx : (bl s)[i] = 47 := UInt8.toNat_inj.1 (by rw [← hb, h]; rfl)
      rw [if_pos hx, frm_succ_cut h]
      have hn : bl (s.extract (i + 1) (i + 1)) = [] := (extract_nil s _ _ (by omega)).2 (by omega)
      rw [hn]
      by_cases hfi : frm s i < i
      · rw [pcs_succ_cut h hfi, if_neg (by rw [extract_nil s _ _ (by omega)]; omega), List.map_append]
        rfl
      · rw [pcs_succ_not (by omega), if_pos ((extract_nil s _ _ (by omega)).2 hfi)]
    · have hx : (bl s)[i] ≠ 47 := fun e => h (by rw [hb, e]; rfl)
      rw [if_neg hx, frm_succ_not h, pcs_succ_not (fun c => h c.1)]
      simp only [Prod.mk.injEq, true_and]
      rw [bl_extract, bl_extract, Nat.succ_sub hf, List.take_add_one, List.getElem?_drop]
      have : frm s i + (i - frm s i) = i := by omega
      rw [this, List.getElem?_eq_getElem hlt]
      rfl
theorem pieces_comps (s : ByteArray) : (pieces s).map bl = comps (bl s) := by
  have h := fold_pcs s s.size (Nat.le_refl _)
  have ht : (bl s).take s.size = bl s := by rw [← bl_len]; exact List.take_length
  rw [ht] at h
  unfold comps
  rw [h]
  unfold fin pieces
  simp only
  have hb := bt_end s s.size (Nat.le_refl _)
  by_cases hfi : frm s s.size < s.size
  · rw [pcs_succ_cut hb hfi, if_neg (by rw [extract_nil s _ _ (Nat.le_refl _)]; omega), List.map_append]
    rfl
  · rw [pcs_succ_not (by omega), if_pos ((extract_nil s _ _ (Nat.le_refl _)).2 hfi)]
theorem map_bl_inj {l m : List ByteArray} (h : l.map bl = m.map bl) : l = m := by
  induction l generalizing m with
  | nil => cases m with
    | nil => rfl
    | cons a m => simp at h
  | cons a l ih => cases m with
    | nil => simp at h
    | cons b m => simp only [List.map_cons, List.cons.injEq] at h; rw [bl_inj h.1, ih h.2]
theorem pieces_eq {s : ByteArray} {l : List ByteArray} (h : comps (bl s) = l.map bl) : pieces s = l := map_bl_inj ((pieces_comps s).trans h)
theorem pieces_same {s t : ByteArray} (h : comps (bl s) = comps (bl t)) : pieces s = pieces t := map_bl_inj ((pieces_comps s).trans (h.trans (pieces_comps t).symm))

theorem hasB_iff (s : ByteArray) (c : Nat) : hasB s c = true ↔ ∃ b ∈ bl s, b.toNat = c := by
  unfold hasB
  rw [hasF_iff]
  constructor
  · rintro ⟨i, hi, e⟩
    have hlt : i < (bl s).length := by rw [bl_len]; exact hi
    exact ⟨(bl s)[i], List.getElem_mem hlt, by rw [← e]; exact (bt_bl s i _ (List.getElem?_eq_getElem hlt)).symm⟩
  · rintro ⟨b, hb, e⟩
    obtain ⟨i, hi⟩ := List.getElem?_of_mem hb
    exact ⟨i, by have := (List.getElem?_eq_some_iff.1 hi).1; rw [bl_len] at this; exact this, by rw [bt_bl s i b hi, e]⟩
theorem hasB_no {s : ByteArray} {c : Nat} (h : ∀ b ∈ bl s, b.toNat ≠ c) : hasB s c = false := by
  rw [← Bool.not_eq_true, hasB_iff]
  rintro ⟨b, hb, e⟩; exact h b hb e
theorem hasB_not {s : ByteArray} {c : Nat} (h : hasB s c = false) : ∀ b ∈ bl s, b.toNat ≠ c := by
  intro b hb e
  rw [← Bool.not_eq_true, hasB_iff] at h
  exact h ⟨b, hb, e⟩

/-- of a text's components each byte is one of the text's, and no slash -/
theorem fold_mem (l : List UInt8) : ∀ st : List (List UInt8) × List UInt8, (∀ x ∈ st.1, ∀ b ∈ x, b ≠ 47 ∧ b ∈ l) → (∀ b ∈ st.2, b ≠ 47 ∧ b ∈ l) → ∀ m : List UInt8, (∀ b ∈ m, b ∈ l) → (∀ x ∈ (m.foldl stp st).1, ∀ b ∈ x, b ≠ 47 ∧ b ∈ l) ∧ ∀ b ∈ (m.foldl stp st).2, b ≠ 47 ∧ b ∈ l := by
  intro st h1 h2 m
  induction m generalizing st with
  | nil => intro _; exact ⟨h1, h2⟩
  | cons c m ih =>
    intro hm
    rw [List.foldl_cons]
    apply ih
    · intro x hx
      unfold stp at hx
      split at hx
      · split at hx
        · exact h1 x hx
        · rcases List.mem_append.1 hx with hx | hx
          · exact h1 x hx
          · obtain rfl := List.mem_singleton.1 hx; exact h2
      · exact h1 x hx
    · intro b hb
      unfold stp at hb
      split at hb
      · split at hb <;> cases hb
      · rename_i hc
        rcases List.mem_append.1 hb with hb | hb
        · exact h2 b hb
        · obtain rfl := List.mem_singleton.1 hb; exact ⟨hc, hm _ List.mem_cons_self⟩
    · exact fun b hb => hm b (List.mem_cons_of_mem _ hb)
theorem comps_mem (l : List UInt8) : ∀ x ∈ comps l, ∀ b ∈ x, b ≠ 47 ∧ b ∈ l := by
  have h := fold_mem l ([], []) (fun x hx => by cases hx) (fun b hb => by cases hb) l (fun b hb => hb)
  intro x hx
  unfold comps fin at hx
  split at hx
  · exact h.1 x hx
  · rcases List.mem_append.1 hx with hx | hx
    · exact h.1 x hx
    · obtain rfl := List.mem_singleton.1 hx; exact h.2
theorem piece_bytes {s x : ByteArray} (h : x ∈ pieces s) : ∀ b ∈ bl x, b ≠ 47 ∧ b ∈ bl s := by
  have : bl x ∈ comps (bl s) := by rw [← pieces_comps]; exact List.mem_map_of_mem h
  exact comps_mem _ _ this
end
end Go.Proofs.YtmndnjgbbpkidaaGreat
