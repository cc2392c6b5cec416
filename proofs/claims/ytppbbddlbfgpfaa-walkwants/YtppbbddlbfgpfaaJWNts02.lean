/- WalkWants. -/
import Derived.Test.YtppbbddlbfgpfaaJWNts01
import Derived.Test.YtppbbddlbfgpfaaJWOme37
namespace Go.Proofs.Ytppbbddlbfgpfaa
section
open Go.RowKit

/-- a tree, and a cache beside it -/
structure Wn (w wr : World) (t : Nat) (s : Tr) (kk : Int) (p : Nat) (C : Cs) (m : Nat) : Prop where
  law : Law w wr t s kk
  ld : Ld w wr p C m (TB t s)
theorem Wn.on {w wr w' : World} {t : Nat} {s : Tr} {kk : Int} {p : Nat} {C : Cs} {m : Nat} (h : Wn w wr t s kk p C m) (hb : Below wr.heap.size wr w') : Wn w w' t s kk p C m := ⟨h.law.below hb, h.ld.on' hb⟩
theorem Wn.after {w wr w' : World} {t : Nat} {s : Tr} {kk : Int} {p : Nat} {C C' : Cs} {m m' : Nat} (h : Wn w wr t s kk p C m) (hc : Ldc w wr w' p C' m' (TB t s)) : Wn w w' t s kk p C' m' := ⟨h.law.kept hc.kept hc.ld.below, hc.ld⟩
theorem ouKey {w : World} {g : Nat} {o : Ou} {uv : Value} (h : w.heap[g]? = some (.cells (ouVals o uv).toArray 34 (0, 0))) : w.cell? ⟨g, 1, none⟩ = some (.int .i64 o.key.d) ∧ w.cell? ⟨g, 2, none⟩ = some (.string o.key.nm) ∧ w.cell? ⟨g, 8, none⟩ = some uv ∧ w.cell? ⟨g, 0, none⟩ = some (.bool o.need) :=
  ⟨by rw [cell_of h]; rfl, by rw [cell_of h]; rfl, by rw [cell_of h]; rfl, by rw [cell_of h]; rfl⟩
attribute [local go_sem ↓ high] loadEn storeEn storeOu loadOu builden
attribute [local go_sem high] eqK neqK guardK

set_option maxRecDepth 100000 in
set_option maxHeartbeats 16000000 in
theorem walk_WalkWants (a : Option Addr) (cap : Nat) (ops : List Opn) (path : ByteArray) (fol : Bool) (links : Int) (w : World) (row : RowOps w a ops) (hlen : ops.length ≤ 3000000000000) (_ : (Lit.int .i64 links).wf = true) :
    Calls Try.prog 4 #[.slice a ops.length cap, .string path, .bool fol, .int .i64 links] w fun x w' => x = .returned (.bool true) ∧ Below w.heap.size w w' := by
  have HFi : Hid (∀ W, Below w.heap.size w W → Calls Try.prog 7 #[.slice a ops.length cap] W fun e w' => FilR ops W w' e) := fun W hb => filled_p a cap ops W (row.below hb) hlen
  have HA : Hid (∀ w, Calls Try.prog 10 #[] w fun x w' => x = .returned (.bool true) ∧ Below w.heap.size w w') := awake14_p
  obtain ⟨n, hn⟩ : ∃ n, ops.length = n := ⟨_, rfl⟩
  rw [hn] at HFi ⊢
  clear row hlen
  have bx := box9
  go_enter Try.func4, Try.ntmps4
  go_wp2_with (first
    | (go_at_call 12; refine (ld_new w w1 (TB t s) H1.out.1.ld.below (fun b hb => (H1.out.1.law.tb b hb).2)).mono ?_; rintro x w2 ⟨p, rfl, hc⟩; have H2 : Hid (Wn w w2 t s ops.length p Cs.clear 0 ∧ WF Mn s.es s.next ∧ Alike s (runT Mn emptyT ops)) := ⟨⟨H1.out.1.law.kept hc.kept hc.ld.below, hc.ld⟩, H1.out.2⟩; clear hc)
    | (go_at_call 7; refine (HFi.out w (Below.refl _ _)).mono ?_; rintro r w1 hF; obtain ⟨p1, t, s, rfl, ha, hfl⟩ := hF.fl; have H1 : Hid (Wn w w1 t s ops.length p1 (fillS s.es) 47 ∧ WF Mn s.es s.next ∧ Alike s (runT Mn emptyT ops)) := ⟨⟨hfl.law w1 (Below.refl _ _), hfl.ld w1 (Below.refl _ _)⟩, hfl.wf, ha⟩; clear hF hfl ha))
  have HWF : Hid (WF Mn s.es s.next ∧ Alike s (runT Mn emptyT ops)) := H2.out.2
  go_loopw [13, 14, 18, 19, 20, 21] (fun s13 _ _ _ _ _ wr => ∃ (i : Nat) (C : Cs), i ≤ 600 ∧ s13 = .int .i64 (i : Int) ∧ Hid (Wn w wr t s ops.length p C i ∧ Cw s.es C ∧ i ≤ (walkO (knC C) path fol links).used.length)) (fun s13 _ _ _ _ _ _ => 600 - (intOf s13).toNat)
  case atStart => exact ⟨0, Cs.clear, Nat.zero_le _, rfl, H2.out.1, ⟨rfl, fun e he => by cases he⟩, Nat.zero_le _⟩
  case round =>
    obtain ⟨i, C, hi, rfl, HJ⟩ := hrel
    have hi6 : i < 600 := by have := walkO_432 (knC C) path fol links; have := HJ.out.2.2; omega
    have hiz : (i : Int) < 600 := by omega
    obtain ⟨O, hO⟩ : ∃ O, walkO (knC C) path fol links = O := ⟨_, rfl⟩
    obtain ⟨lo, hlo⟩ : ∃ lo, O.used.length = lo := ⟨_, rfl⟩
    have hl4 : lo ≤ 432 := by rw [← hlo, ← hO]; exact walkO_432 _ _ _ _
    have HWk : Hid (Calls Try.prog 8 #[.pointer (some ⟨p, 0, none⟩), .slice none 0 0, .string path, .bool fol, .int .i64 links] wr fun r w' => ∃ a c, r = .returned (ouAgg O (.slice a lo c)) ∧ RowK w' wr.heap.size (.slice a lo c) O.used ∧ Below wr.heap.size wr w') := by
      refine (ld_walk HJ.out.1.ld path fol links).mono ?_
      intro r w' hr
      rw [hO] at hr
      have := hr.fx
      rw [hlo] at this
      exact this
    have HO : Hid (walkO (knC C) path fol links = O ∧ O.used.length = lo) := ⟨hO, hlo⟩
    obtain ⟨nd, hnd⟩ : ∃ b, O.need = b := ⟨_, rfl⟩
    clear hO hlo
    cases nd with
    | false =>
      have HEq : Hid (walkO (knC (fillS s.es)) path fol links = O) := by
        have := walkO_whole HWF.out.1 HJ.out.2.1.sub HJ.out.2.1.ino path fol links (by rw [HO.out.1]; exact hnd)
        rw [HO.out.1] at this
        exact this
      go_upto_region 11 with (first
        | (go_at_call 7; refine (HFi.out V3 (chainB HJ.out.1.ld.below H3.out.2.2)).mono ?_; rintro r w4 hF; obtain ⟨p2, t2, s2, rfl, ha, hfl⟩ := hF.fl; have H4 : Hid (Flw V3 w4 t2 s2 p2 ops.length ∧ s2.es = s.es) := ⟨hfl, ha.es.trans HWF.out.2.es.symm⟩; clear hF hfl ha)
        | (go_at_call 8; refine HWk.out.mono ?_; rintro r w3 ⟨a3, c3, rfl, hr, hb⟩; obtain ⟨V3, hV3⟩ : ∃ V, w3.alloc (.cells (ouVals O (.slice a3 lo c3)).toArray 34) = V := ⟨_, rfl⟩; have bV3 := boxO hV3; have H3 : Hid (V3.heap[w3.heap.size]? = some (.cells (ouVals O (.slice a3 lo c3)).toArray 34 (0, 0)) ∧ RowK V3 wr.heap.size (.slice a3 lo c3) O.used ∧ Below wr.heap.size wr V3) := ⟨bV3.1, hr.below bV3.2.1, chainB hb bV3.2.1⟩; have o0 := (ouKey bV3.1).2.2.2; rw [hnd] at o0; clear hb bV3 hr))
      have HS : Hid (∀ W, Below w4.heap.size w4 W → (ouLd (.pointer (some ⟨w3.heap.size, 0, none⟩))).run Try.prog W = .ok (ouAgg O (.slice a3 lo c3)) W) := fun W hb => ouLd_of (hkeep (hkeep H3.out.1 (H4.out.1.below w4 (Below.refl _ _))) hb)
      have HR3 : Hid (∀ W, Below w4.heap.size w4 W → RowK W wr.heap.size (.slice a3 lo c3) O.used) := fun W hb => (H3.out.2.1.below (H4.out.1.below w4 (Below.refl _ _))).below hb
      have HZb : Hid (∀ W, Below w4.heap.size w4 W → Below w.heap.size w W) := fun W hb => chainB HJ.out.1.ld.below (chainB H3.out.2.2 (chainB (H4.out.1.below w4 (Below.refl _ _)) hb))
      have HW2 : Hid (∀ W, Below w4.heap.size w4 W → Calls Try.prog 8 #[.pointer (some ⟨p2, 0, none⟩), .slice none 0 0, .string path, .bool fol, .int .i64 links] W fun r w' => ∃ a c, r = .returned (ouAgg O (.slice a lo c)) ∧ RowK w' W.heap.size (.slice a lo c) O.used ∧ Below W.heap.size W w') := fun W hb => by
        have h2 := H4.out.1.ld W hb
        rw [H4.out.2] at h2
        refine (ld_walk h2 path fol links).mono ?_
        intro r w' hr
        rw [HEq.out] at hr
        have := hr.fx
        rw [HO.out.2] at this
        exact this
      have HSo : Hid (∀ W a6 c6 B, Below w4.heap.size w4 W → RowK W B (.slice a6 lo c6) O.used → Calls Try.prog 13 #[ouAgg O (.slice a3 lo c3), ouAgg O (.slice a6 lo c6)] W fun r w' => r = .returned (.bool true) ∧ Below W.heap.size W w') := fun W a6 c6 B hb hr => sameOut_yes O _ _ _ _ W (HR3.out W hb) hr (by rw [HO.out.2]; omega)
      have hD := below_drewN (Below.refl w4.heap.size w4) 1
      have HD0 : Hid (Below w4.heap.size w4 w4.drew) := hD
      have k0 := HS.out w4.drew hD
      clear hD o0 hnd
      go_region_held3 (fun W => (ouLd (.pointer (some ⟨w3.heap.size, 0, none⟩))).run Try.prog W = .ok (ouAgg O (.slice a3 lo c3)) W)
        (with_reducible first | exact k0 | exact k6 | exact k7 | exact kB)
        (first
          | (go_at_call 10; refine (HA.out _).mono ?_; rintro r wB ⟨rfl, hb⟩; have kB := HS.out wB (chainB HD7.out hb); have HZ : Hid (Below w.heap.size w wB) := HZb.out _ (chainB HD7.out hb); clear hb)
          | (go_at_call 13; refine (HSo.out _ _ _ _ HD6.out.1 HD6.out.2).mono ?_; rintro r w7 ⟨rfl, hb⟩; have HD7 : Hid (Below w4.heap.size w4 w7) := chainB HD6.out.1 hb; have k7 := HS.out w7 HD7.out; clear hb)
          | (go_at_call 8; refine (HW2.out _ HD0.out).mono ?_; rintro r w6 ⟨a6, c6, rfl, hr, hb⟩; have HD6 : Hid (Below w4.heap.size w4 w6 ∧ RowK w6 w4.drew.heap.size (.slice a6 lo c6) O.used) := ⟨chainB HD0.out hb, hr⟩; have k6 := HS.out w6 HD6.out.1; clear hb hr))
      all_goals (
        go_wp2
        go_ret
        exact ⟨rfl, HZ.out⟩)
    | true =>
      obtain ⟨r1, r2⟩ := walkO_res HWF.out.1 HJ.out.2.1.sub path fol links
      rw [HO.out.1] at r1 r2
      obtain ⟨q1, q2, q3, q4⟩ := r2 hnd
      obtain ⟨e, F, hF, hnow, HLo⟩ := Look_q Mn nmsP t s O.key.d O.key.nm
      have hF0 : F = 0 := by rw [hF]; unfold namedE; rw [if_pos q2]; exact q4
      have hee := hnow hF0
      obtain ⟨hed, hen⟩ := nowE_kk HWF.out.1 O.key.d O.key.nm
      rw [← hee] at hed hen
      have hkey : e.key = O.key := by unfold En.key; rw [hed, hen]
      have hnn : e.nm ≠ nob := by rw [hen]; exact chk_nm q4
      obtain ⟨P, hP⟩ : ∃ P, walkO (knF (firstsL [e]) C) path fol links = P := ⟨_, rfl⟩
      obtain ⟨tl, htl⟩ := walkO_more (kn' := knF (firstsL [e]) C) (y := e) path fol links HO.out.1 hnd q1 (by rw [← hkey]; exact knF_one_self C e) (fun k hk => knF_one (by rw [hkey]; exact hk))
      rw [hP] at htl
      obtain ⟨tl2, htl2⟩ := walkO_more (kn' := knC (putS C e)) (y := e) path fol links HO.out.1 hnd q1 (by rw [← hkey]; exact knC_put_self hnn) (fun k hk => knC_put (by rw [hkey]; exact hk))
      obtain ⟨lf, hlf⟩ : ∃ lf, P.used.length = lf := ⟨_, rfl⟩
      have hlf1 : lo < lf := by rw [← hlf, htl, ← HO.out.2]; simp
      have HPn : Hid (P.used[lo]? = some O.key ∧ lf ≤ 432 ∧ P.used.length = lf) := ⟨by rw [htl, ← HO.out.2]; simp, by rw [← hlf, ← hP]; exact walkO_432 _ _ _ _, hlf⟩
      have HNx : Hid (Cw s.es (putS C e) ∧ i + 1 ≤ (walkO (knC (putS C e)) path fol links).used.length) := ⟨HJ.out.2.1.put (by rw [hed, hen]; exact hee) (by rw [hed]; exact q3), by rw [htl2]; simp only [List.length_append, List.length_cons]; have := HJ.out.2.2; rw [HO.out.1] at this; omega⟩
      have HNo : Hid (∀ k ∈ O.used, k ≠ O.key) := fun k hk hc => r1 k hk (by rw [hc]; exact q1)
      have HWf : Hid (∀ W, Wn w W t s ops.length p C i → Calls Try.prog 8 #[.pointer (some ⟨p, 0, none⟩), .slice (some ⟨W.heap.size, 0, none⟩) 1 1, .string path, .bool fol, .int .i64 links] (W.alloc (.cells e.vals.toArray 42)) fun r w' => ∃ a c, r = .returned (ouAgg P (.slice a lf c)) ∧ RowK w' W.heap.size (.slice a lf c) P.used ∧ Below W.heap.size W w') := fun W hw => by
        have bA := below_alloc W (.cells e.vals.toArray 42)
        obtain ⟨c, i1, i2, -, -⟩ := (hw.ld.on' bA).ex
        refine (walk_p p c C _ [e] path fol links _ i1 i2 ⟨_, _, rfl, by simp, fun q x hx => ?_⟩).mono ?_
        · cases q with
          | zero =>
            simp at hx
            subst hx
            exact ⟨_, _, rfl, cells7_of (heap_new _ _)⟩
          | succ q => simp at hx
        · rintro r w' ⟨uv, rfl, hr, hb'⟩
          rw [hP] at hr ⊢
          obtain ⟨a, c, rfl⟩ := owns_len hr
          rw [hlf] at hr ⊢
          exact ⟨a, c, rfl, RowK.le hr bA.size, chainB bA hb'⟩
      have HPt : Hid (∀ W, Wn w W t s ops.length p C i → Calls Try.prog 14 #[.pointer (some ⟨p, 0, none⟩), e.agg] W fun x w' => ∃ z, x = .returned (.int .i64 z) ∧ Wn w w' t s ops.length p (putS C e) (i + 1)) := fun W hw => by
        refine (ld_put hw.ld e (by omega)).mono ?_
        rintro x w' ⟨rfl, hc⟩
        exact ⟨_, rfl, hw.after hc⟩
      subst hF0
      have onee := enOne_of
      have bx7 : ∀ w : World, (enSt (.pointer (some ⟨w.heap.size, 0, none⟩)) (.agg #[.int .i64 e.d, .string e.nm, .bool e.neg, .int .i64 e.id, .int .i64 e.kind, .int .i64 e.mode, .string e.tg])).run Try.prog (w.alloc (.cells #[.int .i64 0, .string ⟨#[]⟩, .bool false, .int .i64 0, .int .i64 0, .int .i64 0, .string ⟨#[]⟩] 42)) = .ok () (w.alloc (.cells e.vals.toArray 42)) := fun w => box7 w e
      obtain ⟨Kd, hKd⟩ : ∃ z, O.key.d = z := ⟨_, rfl⟩
      obtain ⟨Kn, hKn⟩ : ∃ z, O.key.nm = z := ⟨_, rfl⟩
      have HKk : Hid (O.key = ⟨Kd, Kn⟩) := by rw [← hKd, ← hKn]; exact (rfl : O.key = O.key)
      rw [hKd, hKn] at HLo
      clear r1 r2 q1 q2 q3 q4 hF hnow hee hed hen hkey hnn hP htl htl2 hlf
      go_wp2_with (go_at_call 8; refine HWk.out.mono ?_; rintro r w3 ⟨a3, c3, rfl, hr, hb⟩; obtain ⟨V3, hV3⟩ : ∃ V, w3.alloc (.cells (ouVals O (.slice a3 lo c3)).toArray 34) = V := ⟨_, rfl⟩; have bV3 := boxO hV3; have H3 : Hid (V3.heap[w3.heap.size]? = some (.cells (ouVals O (.slice a3 lo c3)).toArray 34 (0, 0)) ∧ RowK V3 wr.heap.size (.slice a3 lo c3) O.used ∧ Below wr.heap.size wr V3) := ⟨bV3.1, hr.below bV3.2.1, chainB hb bV3.2.1⟩; have o0 := (ouKey bV3.1).2.2.2; rw [hnd] at o0; clear hb bV3 hr)
      have HB3 : Hid (∀ W, Below V3.heap.size V3 W → (W.cell? ⟨w3.heap.size, 1, none⟩ = some (.int .i64 Kd) ∧ W.cell? ⟨w3.heap.size, 2, none⟩ = some (.string Kn) ∧ W.cell? ⟨w3.heap.size, 8, none⟩ = some (.slice a3 lo c3)) ∧ RowK W wr.heap.size (.slice a3 lo c3) O.used ∧ Wn w W t s ops.length p C i) := fun W hb => by
        have q := ouKey (hkeep H3.out.1 hb)
        rw [HKk.out] at q
        exact ⟨⟨q.1, q.2.1, q.2.2.1⟩, H3.out.2.1.below hb, HJ.out.1.on (chainB H3.out.2.2 hb)⟩
      clear hKd hKn o0 hnd hV3
      go_loopw [18] (fun s18 wr' => ∃ j : Nat, j ≤ lo ∧ s18 = .int .i64 (j : Int) ∧ Hid (Below V3.heap.size V3 wr')) (fun s18 _ => lo - (intOf s18).toNat)
      case atStart => exact ⟨0, Nat.zero_le _, rfl, Below.refl _ _⟩
      case round =>
        obtain ⟨j, hj, rfl, HB⟩ := hrel
        obtain ⟨⟨x1, x2, x8⟩, hrow, hwn⟩ := HB3.out _ HB.out
        by_cases hlt : j < lo
        · have hltz : (j : Int) < (lo : Int) := by omega
          obtain ⟨k, hk⟩ : ∃ k, O.used[j]? = some k := ⟨_, List.getElem?_eq_getElem (by rw [HO.out.2]; exact hlt)⟩
          obtain ⟨g, rfl, -, -, k0, k1, -⟩ := hrow.key hk
          have hne : decide (k.d = Kd ∧ k.nm = Kn) = false := by
            rw [decide_eq_false_iff_not]
            intro hc
            refine HNo.out k (List.mem_of_getElem? hk) ?_
            rw [HKk.out]
            obtain ⟨kd, kn⟩ := k
            simp only at hc
            rw [hc.1, hc.2]
          clear hk hrow hwn
          go_upto_region 15 with fail
          go_quiet (fail)
          go_wp2
          go_roundw
          case rel => exact ⟨j + 1, by omega, rfl, below_drewN HB.out _⟩
          case measure => simp [intOf]; omega
        · obtain rfl : j = lo := by omega
          have hltz : ¬ (j : Int) < (j : Int) := by omega
          have HL6 := HLo.out _ hwn.law.own.is
          have HL7 : Hid (Calls Try.prog 11 #[.pointer (some ⟨t, 0, none⟩), .int .i64 Kd, .string Kn] _ fun x w' => x = .returned (.tuple #[.agg #[.int .i64 e.d, .string e.nm, .bool e.neg, .int .i64 e.id, .int .i64 e.kind, .int .i64 e.mode, .string e.tg], .int .i64 0]) ∧ Below _ _ w') := HL6
          have HBx : Hid (Below V3.heap.size V3 _) := HB.out
          clear hrow hwn HL6 hlt hj
          go_upto_region 21 with (first
            | (go_at_call 8; refine (HWf.out V6 (HB3.out V6 H6.out.1).2.2).mono ?_; rintro r w7 ⟨a7, c7, rfl, hr, hb⟩; obtain ⟨V7, hV7⟩ : ∃ V, w7.alloc (.cells (ouVals P (.slice a7 lf c7)).toArray 34) = V := ⟨_, rfl⟩; have bV7 := boxO hV7; have H7 : Hid (V7.heap[w7.heap.size]? = some (.cells (ouVals P (.slice a7 lf c7)).toArray 34 (0, 0)) ∧ RowK V7 V6.heap.size (.slice a7 lf c7) P.used ∧ Below V3.heap.size V3 V7 ∧ V7.heap[w6.heap.size]? = some (.cells e.vals.toArray 42 (0, 0))) := ⟨bV7.1, hr.below bV7.2.1, chainB H6.out.1 (chainB hb bV7.2.1), hkeep (hkeep H6.out.2 hb) bV7.2.1⟩; clear hb bV7 hr)
            | (go_at_call 11; refine HL7.out.mono ?_; rintro r w6 ⟨rfl, hb⟩; obtain ⟨V6, hV6⟩ : ∃ V, w6.alloc (.cells e.vals.toArray 42) = V := ⟨_, rfl⟩; have bV6 := boxO hV6; have H6 : Hid (Below V3.heap.size V3 V6 ∧ V6.heap[w6.heap.size]? = some (.cells e.vals.toArray 42 (0, 0))) := ⟨chainB HBx.out (chainB hb bV6.2.1), bV6.1⟩; have lE := enLd_at (cells7_of bV6.1); clear hb bV6))
          obtain ⟨⟨y1, y2, y8⟩, -, -⟩ := HB3.out V7 H7.out.2.2.1
          have z8 := (ouKey H7.out.1).2.2.1
          obtain ⟨g7, hg7, -, -, k0, k1, -⟩ := RowK.key (i := j) (p := O.key) H7.out.2.1 HPn.out.1
          subst hg7
          rw [HKk.out] at k0 k1
          simp only at k0 k1
          have hle : decide ((lf : Int) ≤ (j : Int)) = false := by rw [decide_eq_false_iff_not]; omega
          have hji : (j : Int) < (lf : Int) := by omega
          have H7w : Hid (∀ m, Wn w (V7.drewN m) t s ops.length p C i) := fun m => (HB3.out (V7.drewN m) (below_drewN H7.out.2.2.1 m)).2.2
          have lE7 : ∀ m, (enLd (.pointer (some ⟨w6.heap.size, 0, none⟩))).run Try.prog (V7.drewN m) = .ok e.agg (V7.drewN m) := fun m => enLd_at (cells7_of H7.out.2.2.2)
          clear lE x1 x2 x8 hV6 hV7
          go_quiet (fail)
          clear y1 y2 y8 z8 k0 k1
          go_wp2_with (go_at_call 14; refine (HPt.out _ (H7w.out _)).mono ?_; rintro r w8 ⟨z9, rfl, hw⟩; have H8 : Hid (Wn w w8 t s ops.length p (putS C e) (i + 1)) := hw; clear hw)
          go_roundw
          case rel => exact ⟨i + 1, putS C e, by omega, rfl, H8.out, HNx.out.1, HNx.out.2⟩
          case measure => simp [intOf]; omega
end
end Go.Proofs.Ytppbbddlbfgpfaa
