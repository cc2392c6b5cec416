/- Like: both caches tell alike. -/
import Derived.Test.YtmndnjgbbpkidaaGreatJWLks40
namespace Go.Proofs.YtmndnjgbbpkidaaGreat
section
open Go.RowKit
attribute [local go_sem ↓ high] loadEn storeEn builden
attribute [local go_sem high] eqK neqK guardK
theorem neqAg (w : World) (e f : En) : (binOp .neq 52 e.agg f.agg).run Tryz.prog w = .ok (.bool (!eqEn e f)) w := neqE w e.id e.kind e.mode f.id f.kind f.mode e.d f.d e.nm e.tg f.nm f.tg e.neg f.neg
theorem guardAg2 (w : World) (op : BinOp) (p q : Operand) (e f : En) : (eqGuard op 52 p q e.agg f.agg).run Tryz.prog w = .ok () w := guardE w op p q _ _
attribute [local go_sem high] neqAg guardAg2
set_option maxRecDepth 100000 in
set_option maxHeartbeats 16000000 in
theorem like_p (w0 w : World) (p q : Nat) (s : Cs) (n : Nat) (F : Nat → Prop) (h : Tw w0 w p q s s n F) (hn : n < 1300000000000) (v : Value) (ks : List Ky) (hk : RdK w v ks (fun _ => False)) (hl : ks.length ≤ 100000000000000) :
    Calls Tryz.prog 11 #[.pointer (some ⟨p, 0, none⟩), .pointer (some ⟨q, 0, none⟩), v] w fun x w' => x = .returned (.bool true) ∧ Below w.heap.size w w' := by
  obtain ⟨kc, h1, h2, h3⟩ := h.ex
  obtain ⟨vl, vw⟩ := kc
  obtain ⟨al, cl, hv⟩ := owns_len h1.rowL
  simp only at hv
  subst hv
  obtain ⟨m, hm⟩ : ∃ m, s.L.length = m := ⟨_, rfl⟩
  have hmn : m ≤ n := by rw [← hm]; exact h.lt
  have HT : Hid (∀ W, Below w.heap.size w W → IsK W w0.heap.size q ⟨.slice al m cl, vw⟩ s ∧ Ld w0 W p s n F) := fun W hW => by
    rw [← hm]
    exact ⟨h1.below hW, h.ld.on' hW⟩
  have HM : Hid (s.L.length = m ∧ KeysOk s.L ∧ s.W.length ≤ n) := ⟨hm, h.ld.keys, h.lw⟩
  obtain ⟨ak, ck, hvk, hks⟩ := hk
  subst hvk
  obtain ⟨m2, hm2⟩ : ∃ m, ks.length = m := ⟨_, rfl⟩
  have HK : Hid (ks.length = m2 ∧ ∀ (j : Nat), j < m2 → ∃ k gk ok, ks[j]? = some k ∧ ak = some ⟨gk, ok, none⟩ ∧ ∀ W, Below w.heap.size w W → W.cell? ⟨gk, ok + j * 2, none⟩ = some (.int .i64 k.d) ∧ W.cell? ⟨gk, ok + j * 2 + 1, none⟩ = some (.string k.nm)) := ⟨hm2, fun j hj => by
    obtain ⟨k, hk⟩ : ∃ k, ks[j]? = some k := ⟨_, List.getElem?_eq_getElem (by omega)⟩
    obtain ⟨g, o, ha, c0, c1, -⟩ := hks j k hk
    exact ⟨k, g, o, hk, ha, fun W hW => ⟨(hW.cell (cellLt c0)).trans c0, (hW.cell (cellLt c1)).trans c1⟩⟩⟩
  rw [hm2] at hl ⊢
  clear h h1 h2 h3 hks hm hm2
  have HCl : Hid (∀ W, Below w.heap.size w W → W.cell? ⟨q, 0, none⟩ = some (.slice al m cl)) := fun W hW => (HT.out W hW).1.cells.1
  have HEn : Hid (∀ W, Below w.heap.size w W → Calls Tryz.prog 36 #[.pointer (some ⟨p, 0, none⟩)] W fun x w' => ∃ v, x = .returned v ∧ Row7 w' W.heap.size v s.L ∧ Below w.heap.size w w') := fun W hW => (ld_entries (HT.out W hW).2 (by omega)).mono fun x w' ⟨v, e1, e2, e3⟩ => ⟨v, e1, e2, chainB hW e3⟩
  have HSm : Hid (∀ W v B, Below w.heap.size w W → Row7 W B v s.L → Calls Tryz.prog 16 #[v, .slice al m cl] W fun x w' => x = .returned (.bool true) ∧ Below w.heap.size w w') := fun W v B hW hr => (sameE_yes _ _ _ _ _ _ hr (HT.out W hW).1.rowL (by rw [HM.out.1]; omega)).mono fun x w' ⟨e1, e2⟩ => ⟨e1, chainB hW e2⟩
  have HLn : Hid (∀ W, Below w.heap.size w W → Calls Tryz.prog 37 #[.pointer (some ⟨p, 0, none⟩)] W fun x w' => x = .returned (.int .i64 m) ∧ Below w.heap.size w w') := fun W hW => (ld_len (HT.out W hW).2 (by omega)).mono fun x w' ⟨e1, e2⟩ => ⟨by rw [e1, HM.out.1], chainB hW e2⟩
  obtain ⟨NG, hNG⟩ : ∃ x, negN s.L = x := ⟨_, rfl⟩
  have HNp : Hid (∀ W, Below w.heap.size w W → Calls Tryz.prog 38 #[.pointer (some ⟨p, 0, none⟩)] W fun x w' => x = .returned (.int .i64 NG) ∧ Below w.heap.size w w') := fun W hW => (ld_neg (HT.out W hW).2 (by omega)).mono fun x w' ⟨e1, e2⟩ => ⟨by rw [e1, hNG], chainB hW e2⟩
  have HNd : Hid (∀ W, Below w.heap.size w W → Calls Tryz.prog 39 #[.pointer (some ⟨q, 0, none⟩)] W fun x w' => x = .returned (.int .i64 NG) ∧ Below w.heap.size w w') := fun W hW => (rneg_d _ _ _ _ _ (HT.out W hW).1 (by rw [HM.out.1]; omega)).mono fun x w' ⟨e1, e2⟩ => ⟨by rw [e1, hNG], chainB hW e2⟩
  clear hNG
  go_enter Tryz.func11, Tryz.ntmps11
  go_upto_region 1 with fail
  have H0 : Hid (Below w.heap.size w w.drew) := below_drewN (Below.refl _ _) 1
  have k0 := HCl.out _ H0.out
  go_region_held3 (fun W => W.cell? ⟨q, 0, none⟩ = some (.slice al m cl))
    (with_reducible first | exact k0 | exact kA | exact kB | exact kC | exact kD | exact kE)
    (first
      | (go_at_call 39; refine (HNd.out _ HD.out).mono ?_; rintro x wE ⟨rfl, hb⟩; have kE := HCl.out _ hb; have HE : Hid (Below w.heap.size w wE) := hb; clear hb)
      | (go_at_call 38; refine (HNp.out _ HC.out).mono ?_; rintro x wD ⟨rfl, hb⟩; have kD := HCl.out _ hb; have HD : Hid (Below w.heap.size w wD) := hb; clear hb)
      | (go_at_call 37; refine (HLn.out _ HB.out).mono ?_; rintro x wC ⟨rfl, hb⟩; have kC := HCl.out _ hb; have HC : Hid (Below w.heap.size w wC) := hb; clear hb)
      | (go_at_call 16; refine (HSm.out _ _ _ HA.out.2 HA.out.1).mono ?_; rintro x wB ⟨rfl, hb⟩; have kB := HCl.out _ hb; have HB : Hid (Below w.heap.size w wB) := hb; clear hb)
      | (go_at_call 36; refine (HEn.out _ H0.out).mono ?_; rintro x wA ⟨vA, rfl, hr, hb⟩; have kA := HCl.out _ hb; have HA : Hid (Row7 wA w.drew.heap.size vA s.L ∧ Below w.heap.size w wA) := ⟨hr, hb⟩; clear hb hr))
  go_wp2
  have hw0 : IntKind.i64.wrap ((m2 : Int) + (m : Int)) = ((m2 + m : Nat) : Int) := by
    rw [show ((m2 + m : Nat) : Int) = (m2 : Int) + (m : Int) by omega]; exact IntWalk.i64_in _ (by omega)
  obtain ⟨MM, hMM⟩ : ∃ x, m2 + m = x := ⟨_, rfl⟩
  rw [hMM] at hw0
  have HMM : Hid (m2 + m = MM) := hMM
  have hMb : MM < 200000000000000 := by omega
  clear hMM k0 kA kB kC kD kE
  go_loopw [7, 8, 9, 10, 11, 12] (fun s7 _ _ _ _ _ wr => ∃ i : Nat, i ≤ MM ∧ s7 = .int .i64 i ∧ Hid (Below w.heap.size w wr)) (fun s7 _ _ _ _ _ _ => MM - (intOf s7).toNat)
  case atStart => exact ⟨0, Nat.zero_le _, rfl, HE⟩
  case round =>
    obtain ⟨i, hi, rfl, HJ⟩ := hrel
    have c0 := HCl.out wr HJ.out
    by_cases hlt : i < MM
    · have hltz : (i : Int) < (MM : Int) := by omega
      have hw1 : IntKind.i64.wrap ((i : Int) + 1) = ((i + 1 : Nat) : Int) := by
        rw [show ((i + 1 : Nat) : Int) = (i : Int) + 1 by omega]; exact IntWalk.i64_in _ (by omega)
      by_cases him : i < m2
      · have himz : (i : Int) < (m2 : Int) := by omega
        obtain ⟨ky, gk, ok, hky, rfl, hkc⟩ := HK.out.2 i him
        obtain ⟨y0, y1⟩ := hkc (wr.alloc (.cells #[.int .i64 0, .string ⟨#[]⟩] 29)) (chainB HJ.out (below_alloc _ _))
        clear hky hkc
        obtain ⟨W1, hW1⟩ : ∃ W, wr.alloc (.cells #[.int .i64 ky.d, .string ky.nm] 29) = W := ⟨_, rfl⟩
        have b1 := boxO hW1
        obtain ⟨e0, he0⟩ : ∃ e0, (getL s.L ky).getD zeroEn = e0 := ⟨_, rfl⟩
        obtain ⟨okk, hokk⟩ : ∃ ok, (getL s.L ky).isSome = ok := ⟨_, rfl⟩
        obtain ⟨lf, hlf⟩ : ∃ x, leafB s.L ky = x := ⟨_, rfl⟩
        obtain ⟨wh, hwh⟩ : ∃ x, decide (ky.d ∈ s.W) = x := ⟨_, rfl⟩
        have HB1 : Hid (Below w.heap.size w W1) := chainB HJ.out b1.2.1
        have HX : Hid (∀ W, Below W1.heap.size W1 W → W.cell? ⟨wr.heap.size, 0, none⟩ = some (.int .i64 ky.d) ∧ W.cell? ⟨wr.heap.size, 1, none⟩ = some (.string ky.nm)) := fun W hW => by
          have hz := (hW.block wr.heap.size (by have := b1.2.2; omega)).trans b1.1
          exact ⟨by rw [cell_of hz]; rfl, by rw [cell_of hz]; rfl⟩
        have HGp : Hid (∀ W, Below W1.heap.size W1 W → Calls Tryz.prog 40 #[.pointer (some ⟨p, 0, none⟩), .agg #[.int .i64 ky.d, .string ky.nm]] W fun x w' => x = .returned (.tuple #[e0.agg, .bool okk]) ∧ Below W1.heap.size W1 w') := fun W hW => (ld_get (HT.out W (chainB HB1.out hW)).2 ky).mono fun x w' ⟨e1, e2⟩ => ⟨by rw [e1, he0, hokk], chainB hW e2⟩
        have HGd : Hid (∀ W, Below W1.heap.size W1 W → Calls Tryz.prog 41 #[.pointer (some ⟨q, 0, none⟩), .agg #[.int .i64 ky.d, .string ky.nm]] W fun x w' => x = .returned (.tuple #[e0.agg, .bool okk]) ∧ Below W1.heap.size W1 w' ∧ Below W.heap.size W w') := fun W hW => (rget_d _ _ _ _ ky _ (HT.out W (chainB HB1.out hW)).1 (by rw [HM.out.1]; omega)).mono fun x w' ⟨e1, e2⟩ => ⟨by rw [e1, he0, hokk], chainB hW e2, e2⟩
        have HLp : Hid (∀ W, Below W1.heap.size W1 W → Calls Tryz.prog 42 #[.pointer (some ⟨p, 0, none⟩), .agg #[.int .i64 ky.d, .string ky.nm]] W fun x w' => x = .returned (.bool lf) ∧ Below W.heap.size W w') := fun W hW => (ld_leaf (HT.out W (chainB HB1.out hW)).2 ky).mono fun x w' ⟨e1, e2⟩ => ⟨by rw [e1, hlf], e2⟩
        have HLd : Hid (∀ W, Below W1.heap.size W1 W → Calls Tryz.prog 43 #[.pointer (some ⟨q, 0, none⟩), .agg #[.int .i64 ky.d, .string ky.nm]] W fun x w' => x = .returned (.bool lf) ∧ Below W.heap.size W w') := fun W hW => (rleaf_d _ _ _ _ ky _ (HT.out W (chainB HB1.out hW)).1 (by rw [HM.out.1]; omega)).mono fun x w' ⟨e1, e2⟩ => ⟨by rw [e1, hlf], e2⟩
        have HWp : Hid (∀ W, Below W1.heap.size W1 W → Calls Tryz.prog 44 #[.pointer (some ⟨p, 0, none⟩), .int .i64 ky.d] W fun x w' => x = .returned (.bool wh) ∧ Below W.heap.size W w') := fun W hW => (ld_whole (HT.out W (chainB HB1.out hW)).2 ky.d).mono fun x w' ⟨e1, e2⟩ => ⟨by rw [e1, hwh], e2⟩
        have HWd : Hid (∀ W, Below W1.heap.size W1 W → Calls Tryz.prog 45 #[.pointer (some ⟨q, 0, none⟩), .int .i64 ky.d] W fun x w' => x = .returned (.bool wh) ∧ Below W.heap.size W w') := fun W hW => (rwhole_d _ _ _ _ ky.d _ (HT.out W (chainB HB1.out hW)).1 (by have := HM.out.2.2; omega)).mono fun x w' ⟨e1, e2⟩ => ⟨by rw [e1, hwh], e2⟩
        have HNmp : Hid (∀ W, Below W1.heap.size W1 W → Calls Tryz.prog 46 #[.pointer (some ⟨p, 0, none⟩), .int .i64 ky.d] W fun x w' => ∃ v m, x = .returned v ∧ Row7 w' W.heap.size v m ∧ NamesR s.L ky.d m ∧ Below W.heap.size W w') := fun W hW => ld_names (HT.out W (chainB HB1.out hW)).2 ky.d (by omega)
        have HNmd : Hid (∀ W, Below W1.heap.size W1 W → Calls Tryz.prog 47 #[.pointer (some ⟨q, 0, none⟩), .int .i64 ky.d] W fun x w' => ∃ v m, x = .returned v ∧ Row7 w' W.heap.size v m ∧ NamesR s.L ky.d m ∧ Below W.heap.size W w') := fun W hW => rnames_d _ _ _ _ ky.d _ (HT.out W (chainB HB1.out hW)).1 HM.out.2.1 (by rw [HM.out.1]; omega)
        have HNs : Hid (∀ W v v' B B' (l l' : List En), Row7 W B v l → Row7 W B' v' l' → NamesR s.L ky.d l → NamesR s.L ky.d l' → Calls Tryz.prog 16 #[v, v'] W fun x w' => x = .returned (.bool true) ∧ Below W.heap.size W w') := fun W v v' B B' l l' hr hr' hl hl' => by
          obtain rfl := hl.same hl'
          exact sameE_yes _ _ _ _ _ _ hr hr' (by rw [hl.1.length_eq]; have := List.length_filter_le (fun e => decide (e.d = ky.d) && !e.neg) s.L; have := HM.out.1; unfold nameL; omega)
        have hee : eqEn e0 e0 = true := (eqEn_iff _ _).2 rfl
        have bx := box7
        obtain ⟨x0, x1⟩ := HX.out W1 (Below.refl _ _)
        clear he0 hokk hlf hwh b1 HJ
        go_upto_region 12 with (first
          | (go_at_call 41; refine (HGd.out _ HG1.out.1).mono ?_; rintro x WH ⟨rfl, hb⟩; have HG2 : Hid (Below W1.heap.size W1 WH ∧ WH.heap[WG.heap.size]? = some (.cells e0.vals.toArray 52 (0, 0))) := ⟨hb.1, (hb.2.block _ (cellLt (p := ⟨WG.heap.size, 0, none⟩) (cells7_of (heap_new WG (.cells e0.vals.toArray 52))).c0)).trans (heap_new WG _)⟩; clear hb)
          | (go_at_call 40; refine (HGp.out _ (Below.refl _ _)).mono ?_; rintro x WG ⟨rfl, hb⟩; have HG1 : Hid (Below W1.heap.size W1 (WG.alloc (.cells e0.vals.toArray 52)) ∧ W1.heap.size ≤ WG.heap.size) := ⟨chainB hb (below_alloc _ _), hb.size⟩; obtain ⟨z0, z1⟩ := HX.out _ HG1.out.1; clear hb))
        obtain ⟨W2, hW2⟩ : ∃ W, WH.alloc (.cells e0.vals.toArray 52) = W := ⟨_, rfl⟩
        have b2 := boxO hW2
        have HSS : Hid (∀ W, Below W2.heap.size W2 W → (enLd (.pointer (some ⟨WG.heap.size, 0, none⟩))).run Tryz.prog W = .ok e0.agg W ∧ (enLd (.pointer (some ⟨WH.heap.size, 0, none⟩))).run Tryz.prog W = .ok e0.agg W ∧ W.cell? ⟨wr.heap.size, 0, none⟩ = some (.int .i64 ky.d) ∧ W.cell? ⟨wr.heap.size, 1, none⟩ = some (.string ky.nm)) := fun W hW => by
          have hz := HG2.out.2
          have hlt2 : WG.heap.size < WH.heap.size := cellLt (p := ⟨WG.heap.size, 0, none⟩) (cells7_of hz).c0
          exact ⟨enLd_at (((cells7_of hz).below b2.2.1).below hW), enLd_at ((cells7_of b2.1).below hW), HX.out W (chainB HG2.out.1 (chainB b2.2.1 hW))⟩
        have HV : Hid (∀ W, Below W2.heap.size W2 W → Below W1.heap.size W1 W) := fun W hW => chainB HG2.out.1 (chainB b2.2.1 hW)
        rw [hW2]
        have H0 : Hid (Below W2.heap.size W2 W2.drew) := below_drewN (Below.refl _ _) 1
        have k0 := HSS.out _ H0.out
        clear hW2 b2 HG1 HG2 bx x0 x1 z0 z1 c0 y0 y1
        clear hW1
        go_region_held3 (fun W => (enLd (.pointer (some ⟨WG.heap.size, 0, none⟩))).run Tryz.prog W = .ok e0.agg W ∧ (enLd (.pointer (some ⟨WH.heap.size, 0, none⟩))).run Tryz.prog W = .ok e0.agg W ∧ W.cell? ⟨wr.heap.size, 0, none⟩ = some (.int .i64 ky.d) ∧ W.cell? ⟨wr.heap.size, 1, none⟩ = some (.string ky.nm))
          (with_reducible first | exact k0 | exact k1 | exact k2 | exact k3 | exact k4 | exact k5 | exact k6 | exact k7)
          (first
            | (go_at_call 16; refine (HNs.out _ _ _ _ _ _ _ J6.out.2.2.2.1 J6.out.2.1 J6.out.2.2.2.2 J6.out.2.2.1).mono ?_; rintro x V7 ⟨rfl, hb⟩; have J7 : Hid (Below W2.heap.size W2 V7) := chainB J6.out.1 hb; have k7 := HSS.out _ J7.out; clear hb)
            | (go_at_call 47; refine (HNmd.out _ (HV.out _ J5.out.1)).mono ?_; rintro x V6 ⟨v6, m6, rfl, hr, hq, hb⟩; have J6 : Hid (Below W2.heap.size W2 V6 ∧ Row7 V6 V5.heap.size v6 m6 ∧ NamesR s.L ky.d m6 ∧ Row7 V6 V4.heap.size v5 m5 ∧ NamesR s.L ky.d m5) := ⟨chainB J5.out.1 hb, hr, hq, J5.out.2.1.below hb, J5.out.2.2⟩; have k6 := HSS.out _ J6.out.1; clear hb hr hq)
            | (go_at_call 46; refine (HNmp.out _ (HV.out _ J4.out)).mono ?_; rintro x V5 ⟨v5, m5, rfl, hr, hq, hb⟩; have J5 : Hid (Below W2.heap.size W2 V5 ∧ Row7 V5 V4.heap.size v5 m5 ∧ NamesR s.L ky.d m5) := ⟨chainB J4.out hb, hr, hq⟩; have k5 := HSS.out _ J5.out.1; clear hb hr hq)
            | (go_at_call 45; refine (HWd.out _ (HV.out _ J3.out)).mono ?_; rintro x V4 ⟨rfl, hb⟩; have J4 : Hid (Below W2.heap.size W2 V4) := chainB J3.out hb; have k4 := HSS.out _ J4.out; clear hb)
            | (go_at_call 44; refine (HWp.out _ (HV.out _ J2.out)).mono ?_; rintro x V3 ⟨rfl, hb⟩; have J3 : Hid (Below W2.heap.size W2 V3) := chainB J2.out hb; have k3 := HSS.out _ J3.out; clear hb)
            | (go_at_call 43; refine (HLd.out _ (HV.out _ J1.out)).mono ?_; rintro x V2 ⟨rfl, hb⟩; have J2 : Hid (Below W2.heap.size W2 V2) := chainB J1.out hb; have k2 := HSS.out _ J2.out; clear hb)
            | (go_at_call 42; refine (HLp.out _ (HV.out _ H0.out)).mono ?_; rintro x V1 ⟨rfl, hb⟩; have J1 : Hid (Below W2.heap.size W2 V1) := chainB H0.out hb; have k1 := HSS.out _ J1.out; clear hb))
        have HZ : Hid (Below w.heap.size w V7) := chainB HB1.out (HV.out _ J7.out)
        go_wp2
        go_roundw
        case rel => exact ⟨i + 1, by omega, rfl, HZ⟩
        case measure => simp [intOf]; omega
      · have himz : ¬ (i : Int) < (m2 : Int) := by omega
        obtain ⟨j, hj⟩ : ∃ j, i - m2 = j := ⟨_, rfl⟩
        have hjm : j < m := by have := HMM.out; omega
        have hjmz : (j : Int) < (m : Int) := by omega
        have hwj : IntKind.i64.wrap ((i : Int) - (m2 : Int)) = (j : Int) := by
          rw [show (i : Int) - (m2 : Int) = (j : Int) by omega]; exact IntWalk.i64_in _ (by omega)
        obtain ⟨e, he⟩ : ∃ x, s.L[j]? = some x := ⟨_, List.getElem?_eq_getElem (by rw [HM.out.1]; exact hjm)⟩
        have hh := (HT.out (wr.alloc (.cells #[.int .i64 0, .string ⟨#[]⟩] 29)) (chainB HJ.out (below_alloc _ _))).1
        have c1 := hh.cells.1
        simp only at c1
        obtain ⟨gl, rfl, -, -, -, hc, -⟩ := owns_entry hh.rowL he
        obtain ⟨ky, hky⟩ : ∃ ky, e.key = ky := ⟨_, rfl⟩
        have y0 : (wr.alloc (.cells #[.int .i64 0, .string ⟨#[]⟩] 29)).cell? ⟨gl, j * 7, none⟩ = some (.int .i64 ky.d) := by rw [← hky]; exact hc.c0
        have y1 : (wr.alloc (.cells #[.int .i64 0, .string ⟨#[]⟩] 29)).cell? ⟨gl, j * 7 + 1, none⟩ = some (.string ky.nm) := by rw [← hky]; exact hc.c1
        clear hc hh hky he hj
        obtain ⟨W1, hW1⟩ : ∃ W, wr.alloc (.cells #[.int .i64 ky.d, .string ky.nm] 29) = W := ⟨_, rfl⟩
        have b1 := boxO hW1
        obtain ⟨e0, he0⟩ : ∃ e0, (getL s.L ky).getD zeroEn = e0 := ⟨_, rfl⟩
        obtain ⟨okk, hokk⟩ : ∃ ok, (getL s.L ky).isSome = ok := ⟨_, rfl⟩
        obtain ⟨lf, hlf⟩ : ∃ x, leafB s.L ky = x := ⟨_, rfl⟩
        obtain ⟨wh, hwh⟩ : ∃ x, decide (ky.d ∈ s.W) = x := ⟨_, rfl⟩
        have HB1 : Hid (Below w.heap.size w W1) := chainB HJ.out b1.2.1
        have HX : Hid (∀ W, Below W1.heap.size W1 W → W.cell? ⟨wr.heap.size, 0, none⟩ = some (.int .i64 ky.d) ∧ W.cell? ⟨wr.heap.size, 1, none⟩ = some (.string ky.nm)) := fun W hW => by
          have hz := (hW.block wr.heap.size (by have := b1.2.2; omega)).trans b1.1
          exact ⟨by rw [cell_of hz]; rfl, by rw [cell_of hz]; rfl⟩
        have HGp : Hid (∀ W, Below W1.heap.size W1 W → Calls Tryz.prog 40 #[.pointer (some ⟨p, 0, none⟩), .agg #[.int .i64 ky.d, .string ky.nm]] W fun x w' => x = .returned (.tuple #[e0.agg, .bool okk]) ∧ Below W1.heap.size W1 w') := fun W hW => (ld_get (HT.out W (chainB HB1.out hW)).2 ky).mono fun x w' ⟨e1, e2⟩ => ⟨by rw [e1, he0, hokk], chainB hW e2⟩
        have HGd : Hid (∀ W, Below W1.heap.size W1 W → Calls Tryz.prog 41 #[.pointer (some ⟨q, 0, none⟩), .agg #[.int .i64 ky.d, .string ky.nm]] W fun x w' => x = .returned (.tuple #[e0.agg, .bool okk]) ∧ Below W1.heap.size W1 w' ∧ Below W.heap.size W w') := fun W hW => (rget_d _ _ _ _ ky _ (HT.out W (chainB HB1.out hW)).1 (by rw [HM.out.1]; omega)).mono fun x w' ⟨e1, e2⟩ => ⟨by rw [e1, he0, hokk], chainB hW e2, e2⟩
        have HLp : Hid (∀ W, Below W1.heap.size W1 W → Calls Tryz.prog 42 #[.pointer (some ⟨p, 0, none⟩), .agg #[.int .i64 ky.d, .string ky.nm]] W fun x w' => x = .returned (.bool lf) ∧ Below W.heap.size W w') := fun W hW => (ld_leaf (HT.out W (chainB HB1.out hW)).2 ky).mono fun x w' ⟨e1, e2⟩ => ⟨by rw [e1, hlf], e2⟩
        have HLd : Hid (∀ W, Below W1.heap.size W1 W → Calls Tryz.prog 43 #[.pointer (some ⟨q, 0, none⟩), .agg #[.int .i64 ky.d, .string ky.nm]] W fun x w' => x = .returned (.bool lf) ∧ Below W.heap.size W w') := fun W hW => (rleaf_d _ _ _ _ ky _ (HT.out W (chainB HB1.out hW)).1 (by rw [HM.out.1]; omega)).mono fun x w' ⟨e1, e2⟩ => ⟨by rw [e1, hlf], e2⟩
        have HWp : Hid (∀ W, Below W1.heap.size W1 W → Calls Tryz.prog 44 #[.pointer (some ⟨p, 0, none⟩), .int .i64 ky.d] W fun x w' => x = .returned (.bool wh) ∧ Below W.heap.size W w') := fun W hW => (ld_whole (HT.out W (chainB HB1.out hW)).2 ky.d).mono fun x w' ⟨e1, e2⟩ => ⟨by rw [e1, hwh], e2⟩
        have HWd : Hid (∀ W, Below W1.heap.size W1 W → Calls Tryz.prog 45 #[.pointer (some ⟨q, 0, none⟩), .int .i64 ky.d] W fun x w' => x = .returned (.bool wh) ∧ Below W.heap.size W w') := fun W hW => (rwhole_d _ _ _ _ ky.d _ (HT.out W (chainB HB1.out hW)).1 (by have := HM.out.2.2; omega)).mono fun x w' ⟨e1, e2⟩ => ⟨by rw [e1, hwh], e2⟩
        have HNmp : Hid (∀ W, Below W1.heap.size W1 W → Calls Tryz.prog 46 #[.pointer (some ⟨p, 0, none⟩), .int .i64 ky.d] W fun x w' => ∃ v m, x = .returned v ∧ Row7 w' W.heap.size v m ∧ NamesR s.L ky.d m ∧ Below W.heap.size W w') := fun W hW => ld_names (HT.out W (chainB HB1.out hW)).2 ky.d (by omega)
        have HNmd : Hid (∀ W, Below W1.heap.size W1 W → Calls Tryz.prog 47 #[.pointer (some ⟨q, 0, none⟩), .int .i64 ky.d] W fun x w' => ∃ v m, x = .returned v ∧ Row7 w' W.heap.size v m ∧ NamesR s.L ky.d m ∧ Below W.heap.size W w') := fun W hW => rnames_d _ _ _ _ ky.d _ (HT.out W (chainB HB1.out hW)).1 HM.out.2.1 (by rw [HM.out.1]; omega)
        have HNs : Hid (∀ W v v' B B' (l l' : List En), Row7 W B v l → Row7 W B' v' l' → NamesR s.L ky.d l → NamesR s.L ky.d l' → Calls Tryz.prog 16 #[v, v'] W fun x w' => x = .returned (.bool true) ∧ Below W.heap.size W w') := fun W v v' B B' l l' hr hr' hl hl' => by
          obtain rfl := hl.same hl'
          exact sameE_yes _ _ _ _ _ _ hr hr' (by rw [hl.1.length_eq]; have := List.length_filter_le (fun e => decide (e.d = ky.d) && !e.neg) s.L; have := HM.out.1; unfold nameL; omega)
        have hee : eqEn e0 e0 = true := (eqEn_iff _ _).2 rfl
        have bx := box7
        obtain ⟨x0, x1⟩ := HX.out W1 (Below.refl _ _)
        clear he0 hokk hlf hwh b1 HJ
        go_upto_region 12 with (first
          | (go_at_call 41; refine (HGd.out _ HG1.out.1).mono ?_; rintro x WH ⟨rfl, hb⟩; have HG2 : Hid (Below W1.heap.size W1 WH ∧ WH.heap[WG.heap.size]? = some (.cells e0.vals.toArray 52 (0, 0))) := ⟨hb.1, (hb.2.block _ (cellLt (p := ⟨WG.heap.size, 0, none⟩) (cells7_of (heap_new WG (.cells e0.vals.toArray 52))).c0)).trans (heap_new WG _)⟩; clear hb)
          | (go_at_call 40; refine (HGp.out _ (Below.refl _ _)).mono ?_; rintro x WG ⟨rfl, hb⟩; have HG1 : Hid (Below W1.heap.size W1 (WG.alloc (.cells e0.vals.toArray 52)) ∧ W1.heap.size ≤ WG.heap.size) := ⟨chainB hb (below_alloc _ _), hb.size⟩; obtain ⟨z0, z1⟩ := HX.out _ HG1.out.1; clear hb))
        obtain ⟨W2, hW2⟩ : ∃ W, WH.alloc (.cells e0.vals.toArray 52) = W := ⟨_, rfl⟩
        have b2 := boxO hW2
        have HSS : Hid (∀ W, Below W2.heap.size W2 W → (enLd (.pointer (some ⟨WG.heap.size, 0, none⟩))).run Tryz.prog W = .ok e0.agg W ∧ (enLd (.pointer (some ⟨WH.heap.size, 0, none⟩))).run Tryz.prog W = .ok e0.agg W ∧ W.cell? ⟨wr.heap.size, 0, none⟩ = some (.int .i64 ky.d) ∧ W.cell? ⟨wr.heap.size, 1, none⟩ = some (.string ky.nm)) := fun W hW => by
          have hz := HG2.out.2
          have hlt2 : WG.heap.size < WH.heap.size := cellLt (p := ⟨WG.heap.size, 0, none⟩) (cells7_of hz).c0
          exact ⟨enLd_at (((cells7_of hz).below b2.2.1).below hW), enLd_at ((cells7_of b2.1).below hW), HX.out W (chainB HG2.out.1 (chainB b2.2.1 hW))⟩
        have HV : Hid (∀ W, Below W2.heap.size W2 W → Below W1.heap.size W1 W) := fun W hW => chainB HG2.out.1 (chainB b2.2.1 hW)
        rw [hW2]
        have H0 : Hid (Below W2.heap.size W2 W2.drew) := below_drewN (Below.refl _ _) 1
        have k0 := HSS.out _ H0.out
        clear hW2 b2 HG1 HG2 bx x0 x1 z0 z1 c0 c1 y0 y1
        clear hW1
        go_region_held3 (fun W => (enLd (.pointer (some ⟨WG.heap.size, 0, none⟩))).run Tryz.prog W = .ok e0.agg W ∧ (enLd (.pointer (some ⟨WH.heap.size, 0, none⟩))).run Tryz.prog W = .ok e0.agg W ∧ W.cell? ⟨wr.heap.size, 0, none⟩ = some (.int .i64 ky.d) ∧ W.cell? ⟨wr.heap.size, 1, none⟩ = some (.string ky.nm))
          (with_reducible first | exact k0 | exact k1 | exact k2 | exact k3 | exact k4 | exact k5 | exact k6 | exact k7)
          (first
            | (go_at_call 16; refine (HNs.out _ _ _ _ _ _ _ J6.out.2.2.2.1 J6.out.2.1 J6.out.2.2.2.2 J6.out.2.2.1).mono ?_; rintro x V7 ⟨rfl, hb⟩; have J7 : Hid (Below W2.heap.size W2 V7) := chainB J6.out.1 hb; have k7 := HSS.out _ J7.out; clear hb)
            | (go_at_call 47; refine (HNmd.out _ (HV.out _ J5.out.1)).mono ?_; rintro x V6 ⟨v6, m6, rfl, hr, hq, hb⟩; have J6 : Hid (Below W2.heap.size W2 V6 ∧ Row7 V6 V5.heap.size v6 m6 ∧ NamesR s.L ky.d m6 ∧ Row7 V6 V4.heap.size v5 m5 ∧ NamesR s.L ky.d m5) := ⟨chainB J5.out.1 hb, hr, hq, J5.out.2.1.below hb, J5.out.2.2⟩; have k6 := HSS.out _ J6.out.1; clear hb hr hq)
            | (go_at_call 46; refine (HNmp.out _ (HV.out _ J4.out)).mono ?_; rintro x V5 ⟨v5, m5, rfl, hr, hq, hb⟩; have J5 : Hid (Below W2.heap.size W2 V5 ∧ Row7 V5 V4.heap.size v5 m5 ∧ NamesR s.L ky.d m5) := ⟨chainB J4.out hb, hr, hq⟩; have k5 := HSS.out _ J5.out.1; clear hb hr hq)
            | (go_at_call 45; refine (HWd.out _ (HV.out _ J3.out)).mono ?_; rintro x V4 ⟨rfl, hb⟩; have J4 : Hid (Below W2.heap.size W2 V4) := chainB J3.out hb; have k4 := HSS.out _ J4.out; clear hb)
            | (go_at_call 44; refine (HWp.out _ (HV.out _ J2.out)).mono ?_; rintro x V3 ⟨rfl, hb⟩; have J3 : Hid (Below W2.heap.size W2 V3) := chainB J2.out hb; have k3 := HSS.out _ J3.out; clear hb)
            | (go_at_call 43; refine (HLd.out _ (HV.out _ J1.out)).mono ?_; rintro x V2 ⟨rfl, hb⟩; have J2 : Hid (Below W2.heap.size W2 V2) := chainB J1.out hb; have k2 := HSS.out _ J2.out; clear hb)
            | (go_at_call 42; refine (HLp.out _ (HV.out _ H0.out)).mono ?_; rintro x V1 ⟨rfl, hb⟩; have J1 : Hid (Below W2.heap.size W2 V1) := chainB H0.out hb; have k1 := HSS.out _ J1.out; clear hb))
        have HZ : Hid (Below w.heap.size w V7) := chainB HB1.out (HV.out _ J7.out)
        go_wp2
        go_roundw
        case rel => exact ⟨i + 1, by omega, rfl, HZ⟩
        case measure => simp [intOf]; omega
    · obtain rfl : i = MM := by omega
      have hltz : ¬ (i : Int) < (i : Int) := by omega
      go_wp2
      go_ret
      exact ⟨rfl, HJ.out⟩
end
end Go.Proofs.YtmndnjgbbpkidaaGreat
