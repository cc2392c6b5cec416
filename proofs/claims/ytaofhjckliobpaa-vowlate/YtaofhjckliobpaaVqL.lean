/- VowLate. -/
import Derived.Test.YtaofhjckliobpaaVpK
import Derived.Test.YtaofhjckliobpaaTkA
namespace Go.Proofs.Ytaofhjckliobpaa
open Go.RowKit Go.Shelf Go.Sort
attribute [local go_sem high] eqK neqK guardK

theorem mk_max : Mk (floatOfInt .f64 1099511627776) (floatOfInt .f64 0) 1099511627776 0 := Mk.of (by omega) (by omega) (by omega) (by omega)
def D2 (w0 wr : World) (t u : Nat) (S S' : Vs) : Prop := L2 w0 wr t u S S' (fun _ => False)
theorem D2.on {w0 wr w' : World} {t u : Nat} {S S' : Vs} (h : D2 w0 wr t u S S') (hb : Below wr.heap.size wr w') : D2 w0 w' t u S S' := (L2.on h hb).mono fun _ h => h.elim
theorem d2_touch {w0 wr : World} {t u : Nat} {S S1 S' : Vs} {n1 : Nat} (h : D2 w0 wr t u S S') (v : Value) (ks : List Ky) (ver : Int) (hr : RdK wr v ks) (hl : ks.length * 24 ≤ LK) (h1 : (S.touch ks ver).1 = S1) (h2 : (S.touch ks ver).2.length = n1) :
    Calls Try.prog 19 #[.pointer (some ⟨t, 0, none⟩), v, .int .i64 ver] wr fun x w' => ∃ a c, x = .returned (.slice a n1 c) ∧ D2 w0 w' t u S1 S' := by
  refine (l2_touch h v ks ver hr hl).mono ?_
  rintro x w' ⟨v', rfl, Bq, hc⟩
  obtain ⟨a, c, rfl⟩ := hc.rt.form
  rw [h2]
  refine ⟨a, c, rfl, ?_⟩
  rw [← h1]
  exact hc.lv.mono fun _ h => h.elim
theorem d2_grant {w0 wr : World} {t u : Nat} {S S1 S' : Vs} {n1 : Nat} (h : D2 w0 wr t u S S') (k : Ky) (ver : Int) (h1 : (S.grant k ver).1 = S1) (h2 : (S.grant k ver).2.length = n1) :
    Calls Try.prog 17 #[.pointer (some ⟨t, 0, none⟩), .agg #[.int .i64 k.d, .string k.nm], .int .i64 ver] wr fun x w' => ∃ a c, x = .returned (.slice a n1 c) ∧ D2 w0 w' t u S1 S' := by
  refine (l2_grant h k ver).mono ?_
  rintro x w' ⟨v', rfl, Bq, hc⟩
  obtain ⟨a, c, rfl⟩ := hc.rt.form
  rw [h2]
  refine ⟨a, c, rfl, ?_⟩
  rw [← h1]
  exact hc.lv.mono fun _ h => h.elim
theorem keep2 {W W' : World} {x y : Addr} {u1 u2 : Value} (h : W.cell? x = some u1 ∧ W.cell? y = some u2) (hb : Below W.heap.size W W') : W'.cell? x = some u1 ∧ W'.cell? y = some u2 := ⟨(hb.cell (cellLt h.1)).trans h.1, (hb.cell (cellLt h.2)).trans h.2⟩
set_option maxHeartbeats 8000000 in
set_option maxRecDepth 20000 in
theorem walk_VowLate (ep p q : Int) (a : Option Addr) (cap : Nat) (ops : List Ov) (w : World) (_ : (Lit.int .i64 ep).wf = true) (_ : (Lit.int .i64 p).wf = true) (_ : (Lit.int .i64 q).wf = true) (h : RowG w a ops) (hl : ops.length ≤ 3000000000000) :
    Calls Try.prog 4 #[.int .i64 ep, .int .i64 p, .int .i64 q, .slice a ops.length cap] w fun e w' => e = .returned (.bool true) ∧ Below w.heap.size w w' := by
  obtain ⟨n, hn⟩ : ∃ n, ops.length = n := ⟨_, rfl⟩
  rw [hn] at hl ⊢
  have H : Hid (RowG w a ops ∧ ops.length = n) := ⟨h, hn⟩
  clear h hn
  have hpl := fun (x : Int) W => place_any x 9 W (by omega) (by omega)
  have hP := pl_lt p 9 (by omega)
  have hQ := pl_lt q 9 (by omega)
  have hnew1 := lv_new w w (Below.refl _ _) 1099511627776 (1 + pl p 9) (1 + pl q 9) (by omega) (by omega) (by omega) (by omega) (by omega) (by omega)
  rw [show ((1 + pl p 9 : Nat) : Int) = 1 + (pl p 9 : Int) by push_cast; rfl, show ((1 + pl q 9 : Nat) : Int) = 1 + (pl q 9 : Int) by push_cast; rfl] at hnew1
  change ∀ x W, Calls Try.prog 12 #[.int .i64 x, .int .i64 9] W _ at hpl
  have hmm := fun W => mark_any 1099511627776 0 W
  have hMM := mk_max
  obtain ⟨fa, hfa⟩ : ∃ x, floatOfInt .f64 1099511627776 = x := ⟨_, rfl⟩
  obtain ⟨fb, hfb⟩ : ∃ x, floatOfInt .f64 0 = x := ⟨_, rfl⟩
  rw [hfa, hfb] at hmm hMM
  change ∀ W, Calls Try.prog 22 #[.int .i64 1099511627776, .int .i64 0] W _ at hmm
  clear hfa hfb
  go_enter Try.func4, Try.ntmps4
  go_upto_region 2 with (first
    | (go_at_call 12; refine (hpl _ _).mono ?_; rintro e w' ⟨rfl, hw'⟩; rw [hw'])
    | (go_at_call 9; refine hnew1.mono ?_; rintro e w1 ⟨rfl, hL1, hb1⟩))
  obtain ⟨ma, mb, hMk, hmark⟩ := lv_mark hL1
  obtain ⟨o1, o2⟩ := mk_eq (show Mk ma mb 1099511627776 0 from hMk) hMM
  rw [cmp_eq rfl] at o2
  have HL1 : Hid (Lv w w1 w.heap.size (Vs.new 1099511627776 (1 + pl p 9) (1 + pl q 9)) (fun _ => False)) := hL1.mono fun _ h => h.elim
  clear hnew1 hL1 hb1 hMk hMM
  by_cases hep : 0 ≤ ep ∧ ep ≤ 1099511627776
  · have hnew2 := lv_new w w1 HL1.out.below ep (1 + pl p 9) (1 + pl q 9) hep.1 hep.2 (by omega) (by omega) (by omega) (by omega)
    rw [show ((1 + pl p 9 : Nat) : Int) = 1 + (pl p 9 : Int) by push_cast; rfl, show ((1 + pl q 9 : Nat) : Int) = 1 + (pl q 9 : Int) by push_cast; rfl] at hnew2
    go_upto_region 6 with (first
      | (go_at_call 26; refine hmark.mono ?_; rintro e w' ⟨rfl, hw'⟩; rw [hw'])
      | (go_at_call 22; refine (hmm _).mono ?_; rintro e w' ⟨rfl, hw'⟩; rw [hw'])
      | (go_at_call 12; refine (hpl _ _).mono ?_; rintro e w' ⟨rfl, hw'⟩; rw [hw'])
      | (go_at_call 9; refine hnew2.mono ?_; rintro e w2 ⟨rfl, hL2, hb2⟩))
    have HI : Hid (D2 w w2 w.heap.size w1.heap.size (Vs.new 1099511627776 (1 + pl p 9) (1 + pl q 9)) ((Vs.new 1099511627776 (1 + pl p 9) (1 + pl q 9)).re ep)) := L2.new HL1.out hb2 hL2
    clear hnew2 hL2 hb2 hmark hmm hpl
    go_loopw [13, 14, 15, 16, 17] (fun s13 _ _ _ _ wr => ∃ (i : Nat) (S : Vs), s13 = .int .i64 i ∧ i ≤ n ∧ Hid (D2 w wr w.heap.size w1.heap.size S (S.re ep))) (fun s13 _ _ _ _ _ => n - (intOf s13).toNat)
    case atStart => exact ⟨0, _, rfl, Nat.zero_le _, HI.out⟩
    case round =>
      clear HI HL1
      rename World => W0
      obtain ⟨i, S, rfl, hi, HI⟩ := hrel
      obtain ⟨U, hU⟩ : ∃ u, w1.heap.size = u := ⟨_, rfl⟩
      rw [hU] at HI ⊢
      by_cases hlt : i < n
      · obtain ⟨o, ho⟩ : ∃ o, ops[i]? = some o := ⟨_, List.getElem?_eq_getElem (by rw [H.out.2]; exact hlt)⟩
        obtain ⟨b, off, hga, -, -, -, -, -, -, -⟩ := H.out.1.op ho
        subst hga
        have HC : Hid (∀ W, Below w.heap.size w W → W.cell? ⟨b, off + i * 5 + 1, none⟩ = some (.int .i64 o.ver) ∧ W.cell? ⟨b, off + i * 5 + 4, none⟩ = some (.slice o.va o.vn o.vc)) := fun W hb => by
          obtain ⟨b', off', e, -, -, c1, -, -, c4, -⟩ := (H.out.1.below hb).op ho
          cases e
          exact ⟨c1, c4⟩
        have HA : Hid (∀ W, Below w.heap.size w W → ArgK W (.slice o.va o.vn o.vc) o.ks) := fun W hb => by
          obtain ⟨_, _, _, _, _, _, _, _, _, hk⟩ := (H.out.1.below hb).op ho
          exact hk
        have HKL : Hid (o.ks.length * 24 ≤ LK) := by obtain ⟨_, _, _, hl, _⟩ := HA.out W0 HI.out.below; exact hl
        have hltz : (i : Int) < (n : Int) := by omega
        obtain ⟨S1, hS1⟩ : ∃ x, (S.touch o.ks o.ver).1 = x := ⟨_, rfl⟩
        obtain ⟨n1, hn1⟩ : ∃ x, (S.touch o.ks o.ver).2.length = x := ⟨_, rfl⟩
        obtain ⟨S2, hS2⟩ : ∃ x, (S1.grant (firstK o.ks) o.ver).1 = x := ⟨_, rfl⟩
        obtain ⟨n2, hn2⟩ : ∃ x, (S1.grant (firstK o.ks) o.ver).2.length = x := ⟨_, rfl⟩
        have HTt : Hid (∀ W v2 base, D2 w W w.heap.size U S (S.re ep) → RowK W base v2 o.ks → Calls Try.prog 19 #[.pointer (some ⟨w.heap.size, 0, none⟩), v2, .int .i64 o.ver] W fun x w' => ∃ a c, x = .returned (.slice a n1 c) ∧ D2 w w' w.heap.size U S1 (S.re ep)) := fun W v2 base h hr => d2_touch h v2 o.ks o.ver hr.rd HKL.out hS1 hn1
        have HTu : Hid (∀ W v2 base, D2 w W w.heap.size U S1 (S.re ep) → RowK W base v2 o.ks → Calls Try.prog 19 #[.pointer (some ⟨U, 0, none⟩), v2, .int .i64 o.ver] W fun x w' => ∃ a c, x = .returned (.slice a n1 c) ∧ D2 w w' w.heap.size U S1 (S1.re ep)) := fun W v2 base h hr => by
          refine (d2_touch (S1 := S1.re ep) (n1 := n1) (L2.symm h) v2 o.ks o.ver hr.rd HKL.out (by rw [touch_re, hS1]) (by rw [touch_re, hn1])).mono ?_
          rintro x w' ⟨a, c, rfl, h2⟩
          exact ⟨a, c, rfl, L2.symm h2⟩
        have HGt : Hid (∀ W, D2 w W w.heap.size U S1 (S1.re ep) → Calls Try.prog 17 #[.pointer (some ⟨w.heap.size, 0, none⟩), .agg #[.int .i64 (firstK o.ks).d, .string (firstK o.ks).nm], .int .i64 o.ver] W fun x w' => ∃ a c, x = .returned (.slice a n2 c) ∧ D2 w w' w.heap.size U S2 (S1.re ep)) := fun W h => d2_grant h _ _ hS2 hn2
        have HGu : Hid (∀ W, D2 w W w.heap.size U S2 (S1.re ep) → Calls Try.prog 17 #[.pointer (some ⟨U, 0, none⟩), .agg #[.int .i64 (firstK o.ks).d, .string (firstK o.ks).nm], .int .i64 o.ver] W fun x w' => ∃ a c, x = .returned (.slice a n2 c) ∧ D2 w w' w.heap.size U S2 (S2.re ep)) := fun W h => by
          refine (d2_grant (S1 := S2.re ep) (n1 := n2) (L2.symm h) _ _ (by rw [grant_re, hS2]) (by rw [grant_re, hn2])).mono ?_
          rintro x w' ⟨a, c, rfl, h2⟩
          exact ⟨a, c, rfl, L2.symm h2⟩
        have HCp : Hid (∀ W, Below w.heap.size w W → Calls Try.prog 20 #[.slice o.va o.vn o.vc] W fun e w' => ∃ v', e = .returned v' ∧ RowK w' W.heap.size v' o.ks ∧ Below W.heap.size W w') := fun W hb => copyK_any _ o.ks _ (HA.out W hb)
        have HFi : Hid (∀ W, Below w.heap.size w W → Calls Try.prog 13 #[.slice o.va o.vn o.vc] W fun e w' => e = .returned (.agg #[.int .i64 (firstK o.ks).d, .string (firstK o.ks).nm]) ∧ Below W.heap.size W w') := fun W hb => first_p _ o.ks _ (HA.out W hb)
        clear ho hS1 hn1 hS2 hn2
        have kA := HC.out _ HI.out.below
        go_upto_region 10 with fail
        go_region_held3 (fun w' => w'.cell? ⟨b, off + i * 5 + 1, none⟩ = some (.int .i64 o.ver) ∧ w'.cell? ⟨b, off + i * 5 + 4, none⟩ = some (.slice o.va o.vn o.vc))
          (first | exact kA | exact k3 | exact k2)
          (first
            | (go_at_call 20; refine (HCp.out _ HI.out.below.drew).mono ?_; rintro e w2' ⟨v2, rfl, hr2, hb20⟩; have hb2 := undrew hb20; obtain ⟨av2, cv2, hv2⟩ := owns_len hr2; subst hv2; have k2 := keep2 kA hb2; have htc := HTt.out w2' _ _ (HI.out.on hb2) hr2)
            | (go_at_call 19; refine htc.mono ?_; rintro e w3 ⟨a3, c3, rfl, hD3⟩; have k3 := HC.out _ hD3.below))
        have HD3 : Hid (D2 w w3 w.heap.size U S1 (S.re ep)) := hD3
        have kB := HC.out _ HD3.out.below
        clear hD3 htc hb2 hb20 hr2 k2 kA HI k3 HTt
        go_upto_region 11 with fail
        go_region_held3 (fun w' => w'.cell? ⟨b, off + i * 5 + 1, none⟩ = some (.int .i64 o.ver) ∧ w'.cell? ⟨b, off + i * 5 + 4, none⟩ = some (.slice o.va o.vn o.vc))
          (first | exact kB | exact k5 | exact k4)
          (first
            | (go_at_call 20; refine (HCp.out _ HD3.out.below.drew).mono ?_; rintro e w4 ⟨v4, rfl, hr4, hb40⟩; have hb4 := undrew hb40; obtain ⟨av4, cv4, hv4⟩ := owns_len hr4; subst hv4; have k4 := keep2 kB hb4; have htc := HTu.out w4 _ _ (HD3.out.on hb4) hr4)
            | (go_at_call 19; refine htc.mono ?_; rintro e w5 ⟨a5, c5, rfl, hD5⟩; have k5 := HC.out _ hD5.below))
        have HD5 : Hid (D2 w w5 w.heap.size U S1 (S1.re ep)) := hD5
        have kC := HC.out _ HD5.out.below
        clear hD5 htc hb4 hb40 hr4 k4 kB HD3 k5 HTu HCp
        go_upto_region 12 with fail
        go_region_held3 (fun w' => w'.cell? ⟨b, off + i * 5 + 1, none⟩ = some (.int .i64 o.ver) ∧ w'.cell? ⟨b, off + i * 5 + 4, none⟩ = some (.slice o.va o.vn o.vc))
          (first | exact kC | exact k7 | exact k6)
          (first
            | (go_at_call 13; refine (HFi.out _ HD5.out.below.drew).mono ?_; rintro e w6 ⟨rfl, hb60⟩; have hb6 := undrew hb60; have k6 := keep2 kC hb6; have htc := HGt.out w6 (HD5.out.on hb6))
            | (go_at_call 17; refine htc.mono ?_; rintro e w7 ⟨a7, c7, rfl, hD7⟩; have k7 := HC.out _ hD7.below))
        have HD7 : Hid (D2 w w7 w.heap.size U S2 (S1.re ep)) := hD7
        have kD := HC.out _ HD7.out.below
        clear hD7 htc hb6 hb60 k6 kC HD5 k7 HGt
        go_upto_region 13 with fail
        go_region_held3 (fun w' => w'.cell? ⟨b, off + i * 5 + 1, none⟩ = some (.int .i64 o.ver) ∧ w'.cell? ⟨b, off + i * 5 + 4, none⟩ = some (.slice o.va o.vn o.vc))
          (first | exact kD | exact k9 | exact k8)
          (first
            | (go_at_call 13; refine (HFi.out _ HD7.out.below.drew).mono ?_; rintro e w8 ⟨rfl, hb80⟩; have hb8 := undrew hb80; have k8 := keep2 kD hb8; have htc := HGu.out w8 (HD7.out.on hb8))
            | (go_at_call 17; refine htc.mono ?_; rintro e w9 ⟨a9, c9, rfl, hD9⟩; have k9 := HC.out _ hD9.below))
        have HD9 : Hid (D2 w w9 w.heap.size U S2 (S2.re ep)) := hD9
        clear hD9 htc hb8 hb80 k8 kD HD7 k9 HGu HFi HC HA
        have hx1 : ((n1 : Int) != (n1 : Int)) = false := by simp
        have hx2 : ((n2 : Int) != (n2 : Int)) = false := by simp
        obtain ⟨nP, hnP⟩ : ∃ x, S2.ks.length = x := ⟨_, rfl⟩
        obtain ⟨N, hN⟩ : ∃ x, S2.n = x := ⟨_, rfl⟩
        have hx3 : (N != N) = false := by simp
        have HPr : Hid (∀ W, D2 w W w.heap.size U S2 (S2.re ep) → ∀ z, z = w.heap.size ∨ z = U → Calls Try.prog 28 #[.pointer (some ⟨z, 0, none⟩)] W fun e w' => ∃ a c, e = .returned (.slice a nP c) ∧ RowK w' W.heap.size (.slice a nP c) S2.ks ∧ Below W.heap.size W w') := fun W h z hz => by
          rcases hz with rfl | rfl
          · refine (lv_promises (L2.fst h)).mono ?_
            rintro e w' ⟨v', rfl, hr, hb⟩
            obtain ⟨a, c, rfl⟩ := owns_len hr
            rw [hnP] at hr ⊢
            exact ⟨a, c, rfl, hr, hb⟩
          · refine (lv_promises (L2.fst (L2.symm h))).mono ?_
            rintro e w' ⟨v', rfl, hr, hb⟩
            have hr : RowK w' W.heap.size v' S2.ks := hr
            obtain ⟨a, c, rfl⟩ := owns_len hr
            rw [hnP] at hr ⊢
            exact ⟨a, c, rfl, hr, hb⟩
        have HMk : Hid (∀ W, D2 w W w.heap.size U S2 (S2.re ep) → ∀ z, z = w.heap.size ∨ z = U → Calls Try.prog 26 #[.pointer (some ⟨z, 0, none⟩)] W fun e w' => ∃ a b, e = .returned (.complex .f64 a b) ∧ Hid (goodB a b = true ∧ part b = N) ∧ w' = W) := fun W h z hz => by
          rcases hz with rfl | rfl
          · obtain ⟨a, b, hm, hc⟩ := lv_mark (L2.fst h)
            refine hc.mono ?_
            rintro e w' ⟨rfl, rfl⟩
            exact ⟨a, b, rfl, ⟨hm.good, hm.pb.trans hN⟩, rfl⟩
          · obtain ⟨a, b, hm, hc⟩ := lv_mark (L2.fst (L2.symm h))
            refine hc.mono ?_
            rintro e w' ⟨rfl, rfl⟩
            exact ⟨a, b, rfl, ⟨hm.good, hm.pb.trans hN⟩, rfl⟩
        have HNu : Hid (∀ W a b, Hid (goodB a b = true ∧ part b = N) → Calls Try.prog 29 #[.complex .f64 a b] W fun e w' => e = .returned (.int .i64 N) ∧ w' = W) := fun W a b h => by
          have := number_any a b W
          rw [h.out.1, if_pos rfl, h.out.2] at this
          exact this
        have HSm : Hid (∀ W v v' b b', RowK W b v S2.ks → RowK W b' v' S2.ks → Calls Try.prog 27 #[v, v'] W fun e w' => e = .returned (.bool true) ∧ Below W.heap.size W w') := fun W v v' b b' h h' => by
          have hl : S2.ks.length ≤ 10000000000000 := by obtain ⟨s, -, h1, e, -⟩ := HD9.out.ex; rw [← e]; have := h1.lk; show s.ks.length ≤ _; omega
          have := sameK_any v v' S2.ks S2.ks W h.rd h'.rd hl hl
          rw [(sameKs_iff _ _).2 rfl] at this
          exact this
        clear hnP hN
        go_wp2_with (first
          | (go_at_call 28; refine (HPr.out _ (HD9.out.on hb10) _ (.inr rfl)).mono ?_; rintro e w11 ⟨a11, c11, rfl, hr11, hb11⟩)
          | (go_at_call 28; refine (HPr.out _ HD9.out _ (.inl rfl)).mono ?_; rintro e w10 ⟨a10, c10, rfl, hr10, hb10⟩)
          | (go_at_call 27; refine (HSm.out _ _ _ _ _ (hr10.below hb11) hr11).mono ?_; rintro e w12 ⟨rfl, hb12⟩; have hD12 := ((HD9.out.on hb10).on hb11).on hb12)
          | (go_at_call 26; refine (HMk.out _ hD12 _ (by first | exact .inl rfl | exact .inr rfl)).mono ?_; rintro e w' ⟨xa, xb, rfl, hxx, hw'⟩; rw [hw'])
          | (go_at_call 29; refine (HNu.out _ _ _ hxx).mono ?_; rintro e w' ⟨rfl, hw'⟩; rw [hw']))
        exact ⟨⟨i + 1, S2, by simp, by omega, hD12⟩, by simp [intOf]; omega⟩
      · obtain rfl : i = n := by omega
        have hltz : ¬ (i : Int) < (i : Int) := by omega
        go_wp2_with (go_at_call 11; refine (awake_p _).mono ?_; rintro e wf ⟨rfl, hbf⟩)
        go_ret
        exact ⟨rfl, chainB HI.out.below hbf⟩
  · have hbad : withinB ep = false := decide_eq_false hep
    have hnew2 : ∀ x y, Calls Try.prog 9 #[.int .i64 ep, .int .i64 x, .int .i64 y] w1 fun x w' => x = .returned (.tuple #[.pointer none, .int .i64 1]) ∧ w' = w1 := fun x y => new_no ep x y w1 (.inl hbad)
    have HB1 : Hid (Below w.heap.size w w1) := HL1.out.below
    clear hbad
    by_cases h0 : ep < 0
    · clear hep
      go_wp2_with (first
        | (go_at_call 26; refine hmark.mono ?_; rintro e w' ⟨rfl, hw'⟩; rw [hw'])
        | (go_at_call 22; refine (hmm _).mono ?_; rintro e w' ⟨rfl, hw'⟩; rw [hw'])
        | (go_at_call 12; refine (hpl _ _).mono ?_; rintro e w' ⟨rfl, hw'⟩; rw [hw'])
        | (go_at_call 9; refine (hnew2 _ _).mono ?_; rintro e w2 ⟨rfl, hw'⟩; rw [hw'])
        | (go_at_call 11; refine (awake_p _).mono ?_; rintro e wf ⟨rfl, hbf⟩))
      go_ret
      exact ⟨rfl, chainB HB1.out hbf⟩
    · have h1 : 1099511627776 < ep := by omega
      clear hep
      go_wp2_with (first
        | (go_at_call 26; refine hmark.mono ?_; rintro e w' ⟨rfl, hw'⟩; rw [hw'])
        | (go_at_call 22; refine (hmm _).mono ?_; rintro e w' ⟨rfl, hw'⟩; rw [hw'])
        | (go_at_call 12; refine (hpl _ _).mono ?_; rintro e w' ⟨rfl, hw'⟩; rw [hw'])
        | (go_at_call 9; refine (hnew2 _ _).mono ?_; rintro e w2 ⟨rfl, hw'⟩; rw [hw'])
        | (go_at_call 11; refine (awake_p _).mono ?_; rintro e wf ⟨rfl, hbf⟩))
      go_ret
      exact ⟨rfl, chainB HB1.out hbf⟩
end Go.Proofs.Ytaofhjckliobpaa
