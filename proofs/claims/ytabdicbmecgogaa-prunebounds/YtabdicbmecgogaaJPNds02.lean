/- PruneBounds. -/
import Derived.Test.YtabdicbmecgogaaJPNds01
namespace Go.Proofs.Ytabdicbmecgogaa
section
open Go.RowKit

theorem enGuard (w : World) (op : BinOp) (p q : Operand) (x y : En) : (eqGuard op 47 p q x.agg y.agg).run Try.prog w = .ok () w := guardE w op p q _ _
theorem enEq (w : World) (x y : En) : (binOp .eql 47 x.agg y.agg).run Try.prog w = .ok (.bool (eqEn x y)) w := by
  obtain ⟨a, b, c, d, e, f, g⟩ := x
  obtain ⟨a', b', c', d', e', f', g'⟩ := y
  exact eqE w d e f d' e' f' a a' b g b' g' c c'
attribute [local go_sem high] eqK neqK eqE neqE guardK guardE
set_option maxRecDepth 100000 in
set_option maxHeartbeats 16000000 in
theorem bounds_pp (a : Option Addr) (cap : Nat) (ops : List DOp) (most neg : Int) (w : World) (row : RowD w a ops) (hlen : ops.length * 112 ≤ 140737488351232) (w1 : (Lit.int .i64 most).wf = true) (w2 : (Lit.int .i64 neg).wf = true) (hm : 0 ≤ most) (hn : 0 ≤ neg) :
    Calls Try.prog 4 #[.slice a ops.length cap, .int .i64 most, .int .i64 neg] w fun x w' => x = .returned (.bool true) ∧ Below w.heap.size w w' := by
  have hnb : ops.length < 1290000000000 := by omega
  have hb1 : most ≤ 9223372036854775807 := wf_hi w1
  have hb2 : neg ≤ 9223372036854775807 := wf_hi w2
  have HTr : Hid (Calls Try.prog 14 #[.slice a ops.length cap] w fun x w' => ∃ p m, x = .returned (.tuple #[.pointer (some ⟨p, 0, none⟩), .bool true]) ∧ Ld w w' p (runS (ops.filter upB)) m (fun _ => False) ∧ m ≤ 1290000000000) := (tree_p a cap ops w row hlen).mono fun x w' h => by
    obtain ⟨p, m, h1, h2, h3⟩ := h
    exact ⟨p, m, h1, h2, by omega⟩
  have hUp := @up_run ops
  obtain ⟨S, hS⟩ : ∃ S, runS (ops.filter upB) = S := ⟨_, rfl⟩
  rw [hS] at HTr hUp
  obtain ⟨T, hT⟩ : ∃ T, (trimS S most neg).2 = T := ⟨_, rfl⟩
  obtain ⟨G, hG⟩ : ∃ G, (trimS S most neg).1 = G := ⟨_, rfl⟩
  obtain ⟨ls, hls⟩ : ∃ l, S.L.length = l := ⟨_, rfl⟩
  obtain ⟨lt, hlt⟩ : ∃ l, T.L.length = l := ⟨_, rfl⟩
  obtain ⟨lg, hlg⟩ : ∃ l, G.length = l := ⟨_, rfl⟩
  obtain ⟨q, hq⟩ : ∃ q, negN T.L = q := ⟨_, rfl⟩
  have HU : Hid (KeysOk S.L → Lost G S T ∧ ((lt : Int) ≤ max most 0 ∧ (q : Int) ≤ max neg 0 ∧ lg + lt = ls ∧ ((ls : Int) ≤ most → 0 < lg → neg ≤ (q : Int)))) := fun hk => by
    have h1 := trim_counts (hUp hk) most neg
    rw [hT, hG, hlt, hls, hlg, hq] at h1
    have h2 := lost_trim S most neg hk
    rw [hT, hG] at h2
    exact ⟨h2, h1.1, h1.2.1, h1.2.2.1, fun h3 h4 => h1.2.2.2 h3 (fun h5 => by rw [h5] at hlg; simp at hlg; omega)⟩
  have HAg : Hid (KeysOk S.L → (trimS T most neg).1 = []) := fun hk => by rw [← hT]; exact trim_again (hUp hk) most neg
  have HA : Hid (∀ w, Calls Try.prog 13 #[] w fun x w' => x = .returned (.bool true) ∧ Below w.heap.size w w') := awake13_p
  have HEs : Hid (∀ W p m F, m ≤ 1290000000000 → Ld w W p S m F → Calls Try.prog 15 #[.pointer (some ⟨p, 0, none⟩)] W fun x w' => ∃ a c, x = .returned (.slice a ls c) ∧ Row7 w' W.heap.size (.slice a ls c) S.L ∧ Below W.heap.size W w' ∧ ls ≤ 1290000000000) := fun W p m F hm h => by
    refine (ld_entries h (by omega)).mono ?_
    rintro x w' ⟨v, rfl, hr, hb⟩
    obtain ⟨a, c, rfl⟩ := owns_len hr
    have := h.len
    rw [hls] at hr ⊢
    exact ⟨a, c, rfl, hr, hb, by omega⟩
  have HEt : Hid (∀ W p m F, m ≤ 1290000000000 → Ld w W p T m F → Calls Try.prog 15 #[.pointer (some ⟨p, 0, none⟩)] W fun x w' => ∃ a c, x = .returned (.slice a lt c) ∧ Row7 w' W.heap.size (.slice a lt c) T.L ∧ Below W.heap.size W w' ∧ lt ≤ 1290000000000) := fun W p m F hm h => by
    refine (ld_entries h (by omega)).mono ?_
    rintro x w' ⟨v, rfl, hr, hb⟩
    obtain ⟨a, c, rfl⟩ := owns_len hr
    have := h.len
    rw [hlt] at hr ⊢
    exact ⟨a, c, rfl, hr, hb, by omega⟩
  have HNg : Hid (∀ W p m F, m ≤ 1290000000000 → Ld w W p T m F → Calls Try.prog 16 #[.pointer (some ⟨p, 0, none⟩)] W fun x w' => x = .returned (.int .i64 q) ∧ Below W.heap.size W w') := fun W p m F hm h => by
    rw [← hq]; exact ld_neg h (by omega)
  have HTm : Hid (∀ W p m F, m ≤ 1290000000000 → Ld w W p S m F → Calls Try.prog 10 #[.pointer (some ⟨p, 0, none⟩), .int .i64 most, .int .i64 neg] W fun r w' => ∃ a c, r = .returned (.slice a lg c) ∧ RowK w' W.heap.size (.slice a lg c) G ∧ Ldc w W w' p T m F) := fun W p m F hm h => by
    refine (trim_p h (by omega) most neg hb1 hb2).mono ?_
    rintro r w' ⟨v, rfl, h1, h2, -⟩
    rw [hT] at h2
    rw [hG] at h1
    obtain ⟨a, c, rfl⟩ := owns_len h1
    rw [hlg] at h1 ⊢
    exact ⟨a, c, rfl, h1, h2⟩
  have HT2 : Hid (∀ W p m F, m ≤ 1290000000000 → KeysOk S.L → Ld w W p T m F → Calls Try.prog 10 #[.pointer (some ⟨p, 0, none⟩), .int .i64 most, .int .i64 neg] W fun r w' => ∃ a c s, r = .returned (.slice a 0 c) ∧ Ldc w W w' p s m F) := fun W p m F hm hk h => by
    refine (trim_p h (by omega) most neg hb1 hb2).mono ?_
    rintro r w' ⟨v, rfl, h1, h2, -⟩
    rw [HAg.out hk] at h1
    obtain ⟨a, c, rfl⟩ := owns_len h1
    exact ⟨a, c, _, rfl, h2⟩
  have HL : Hid (S.L.length = ls ∧ T.L.length = lt ∧ G.length = lg) := ⟨hls, hlt, hlg⟩
  clear hlt hls hlg hq hT hG hS hUp HAg row hlen hnb hb1 hb2
  go_enter Try.func4, Try.ntmps4
  go_upto_region 7 with (first
    | (go_at_call 10; have z := H2; refine (HTm.out w2 p m _ H1.out.2 H2.out.1.ld).mono ?_; rintro r w3 ⟨a3, c3, rfl, hg, hl⟩; have H3 : Hid (Ei w w1 w3 p T m (fun _ => False) (New (fun _ => False) w1 w2) ∧ Row7 w3 w1.heap.size (.slice a2 ls c2) S.L ∧ RowK w3 w2.heap.size (.slice a3 lg c3) G) := ⟨H2.out.1.gone hl, owns_moved H2.out.2.1 fun k hk => hl.kept k (.inr (H2.out.2.2.1 k hk)), hg⟩; clear hl hg z)
    | (go_at_call 15; first
      | (have z := H3; refine (HEt.out w3 p m _ H1.out.2 H3.out.1.ld).mono ?_; rintro r w4 ⟨a4, c4, rfl, hr, hb, hl⟩; have H4 : Hid (Ei w w1 w4 p T m (fun _ => False) (New (New (fun _ => False) w1 w2) w3 w4) ∧ Row7 w4 w1.heap.size (.slice a2 ls c2) S.L ∧ Row7 w4 w3.heap.size (.slice a4 lt c4) T.L ∧ RowK w4 w2.heap.size (.slice a3 lg c3) G) := ⟨H3.out.1.on hb, owns_below H3.out.2.1 hb, hr, owns_below H3.out.2.2 hb⟩; clear hr hb z)
      | (have z := H1; refine (HEs.out w1 p m _ H1.out.2 H1.out.1.ld).mono ?_; rintro r w2 ⟨a2, c2, rfl, hr, hb, hl⟩; have H2 : Hid (Ei w w1 w2 p S m (fun _ => False) (New (fun _ => False) w1 w2) ∧ Row7 w2 w1.heap.size (.slice a2 ls c2) S.L ∧ (∀ k, (Value.slice a2 ls c2).ownBlock = some k → New (fun _ => False) w1 w2 k) ∧ KeysOk S.L) := ⟨H1.out.1.on hb, hr, fun k hk => .inr (World.ownsRow.lt hr k hk), H1.out.1.ld.keys⟩; clear hr hb z))
    | (go_at_call 14; refine HTr.out.mono ?_; rintro r w1 ⟨p, m, rfl, hl, hm⟩; have H1 : Hid (Ei w w1 w1 p S m (fun _ => False) (fun _ => False) ∧ m ≤ 1290000000000) := ⟨Ei.start hl, hm⟩; clear hl hm))
  have HF : Hid (Lost G S T ∧ ((lt : Int) ≤ max most 0 ∧ (q : Int) ≤ max neg 0 ∧ lg + lt = ls ∧ ((ls : Int) ≤ most → 0 < lg → neg ≤ (q : Int)))) := HU.out H2.out.2.2.2
  have hlb : ls ≤ 1290000000000 := by assumption
  have hlb' : lt ≤ 1290000000000 := by assumption
  have hlb2 : lg ≤ 1290000000000 := by have := HF.out.2.2.2.1; omega
  have hws : IntKind.i64.wrap ((lg : Int) + (lt : Int)) = (ls : Int) := by
    rw [← HF.out.2.2.2.1, Int.natCast_add]; exact IntWalk.i64_in _ (by omega)
  obtain ⟨qz, hqz⟩ : ∃ z, (q : Int) = z := ⟨_, rfl⟩
  rw [hqz] at HF HNg
  have HKS : Hid (KeysOk S.L) := H2.out.2.2.2
  have HT3 : Hid (∀ W F, Ld w W p T m F → Calls Try.prog 10 #[.pointer (some ⟨p, 0, none⟩), .int .i64 most, .int .i64 neg] W fun r w' => ∃ a c, r = .returned (.slice a 0 c) ∧ Below w.heap.size w w') := fun W F h => by
    refine (HT2.out W p m F H1.out.2 HKS.out h).mono ?_
    rintro r w' ⟨a, c, s, rfl, hl⟩
    exact ⟨a, c, rfl, hl.ld.below⟩
  have HLw : Hid (∀ W, Below w4.heap.size w4 W → ∃ F, Ld w W p T m F) := fun W hb => ⟨_, H4.out.1.ld.on' hb⟩
  have HN4 : Hid (∀ W, Below w4.heap.size w4 W → Calls Try.prog 16 #[.pointer (some ⟨p, 0, none⟩)] W fun x w' => x = .returned (.int .i64 qz) ∧ Below w4.heap.size w4 w') := fun W hb => (HNg.out W p m _ H1.out.2 (H4.out.1.ld.on' hb)).mono fun x w' hh => ⟨hh.1, chainB hb hh.2⟩
  have HR4 : Hid (Row7 w4 w1.heap.size (.slice a2 ls c2) S.L ∧ Row7 w4 w3.heap.size (.slice a4 lt c4) T.L ∧ RowK w4 w2.heap.size (.slice a3 lg c3) G ∧ Below w.heap.size w w4) := ⟨H4.out.2.1, H4.out.2.2.1, H4.out.2.2.2, H4.out.1.ld.below⟩
  have HTL : Hid (T.L = S.L.filter (stayB G)) := HF.out.1.2.1
  clear HU HEs HEt HTm HTr HNg HT2 hqz H1 H2 H3 H4
  have hm1 : ¬ most < (lt : Int) := by have := HF.out.2.1; omega
  have hm2 : ¬ most < 0 := by omega
  have hn1 : ¬ neg < qz := by have := HF.out.2.2.1; omega
  have hn2 : ¬ neg < 0 := by omega
  go_upto_region 9 with (go_at_call 16; refine (HN4.out w4 (Below.refl _ _)).mono ?_; rintro r w5 ⟨rfl, hb⟩; have H5 : Hid (Below w4.heap.size w4 w5) := hb; clear hb)
  clear hm1 hm2 hn1 hn2 hm hn hws
  have HW5 : Hid (Below w4.heap.size w4 w5) := H5.out
  go_wp2
  go_loopw [12, 13, 14, 15] (fun s12 s13 _ _ wr => ∃ i : Nat, i ≤ ls ∧ s13 = .int .i64 (i : Int) ∧ ∃ at' : Nat, at' ≤ lt ∧ s12 = .int .i64 (at' : Int) ∧ Hid (at' = atN G S.L i ∧ Below w4.heap.size w4 wr)) (fun _ s13 _ _ _ => ls - (intOf s13).toNat)
  case atStart => exact ⟨0, Nat.zero_le _, rfl, 0, Nat.zero_le _, rfl, rfl, HW5.out⟩
  case round =>
    obtain ⟨i, hi, rfl, at', hat, rfl, HJ⟩ := hrel
    clear H5 HW5
    by_cases hlt : i < ls
    · have hltz : (i : Int) < (ls : Int) := by omega
      obtain ⟨x, hx⟩ : ∃ x, S.L[i]? = some x := ⟨_, List.getElem?_eq_getElem (by rw [HL.out.1]; exact hlt)⟩
      obtain ⟨g, rfl, -, -, -, hc, -⟩ := owns_entry (HR4.out.1.below HJ.out.2) hx
      obtain ⟨sb, hsb⟩ : ∃ b, stayB G x = b := ⟨_, rfl⟩
      have hnext := atN_next (G := G) hx
      have HX : Hid (S.L[i]? = some x ∧ stayB G x = sb) := ⟨hx, hsb⟩
      have c0 := hc.c0
      have c1 := hc.c1
      have c2' := hc.c2
      have c3' := hc.c3
      have c4' := hc.c4
      have c5 := hc.c5
      have c6 := hc.c6
      have hw1 : IntKind.i64.wrap ((i : Int) + 1) = ((i + 1 : Nat) : Int) := by
        rw [show ((i + 1 : Nat) : Int) = (i : Int) + 1 by omega]; exact IntWalk.i64_in _ (by omega)
      cases sb with
      | true =>
        have hatx : T.L[at']? = some x := by rw [HTL.out, HJ.out.1]; exact atN_at hx hsb
        have hatl : at' < lt := by rw [← HL.out.2.1]; exact (List.getElem?_eq_some_iff.1 hatx).1
        have hatz : (at' : Int) < (lt : Int) := by omega
        obtain ⟨g4, rfl, -, -, -, hc4, -⟩ := owns_entry (HR4.out.2.1.below HJ.out.2) hatx
        have d0 := hc4.c0
        have d1 := hc4.c1
        have d2 := hc4.c2
        have d3 := hc4.c3
        have d4 := hc4.c4
        have d5 := hc4.c5
        have d6 := hc4.c6
        have HN : Hid (at' + 1 = atN G S.L (i + 1)) := by
          rw [hsb, if_pos rfl] at hnext
          rw [hnext, ← HJ.out.1]
          rfl
        have hw2 : IntKind.i64.wrap ((at' : Int) + 1) = ((at' + 1 : Nat) : Int) := by
          rw [show ((at' + 1 : Nat) : Int) = (at' : Int) + 1 by omega]; exact IntWalk.i64_in _ (by omega)
        clear hx hsb hnext hc hc4 hatx HX
        obtain ⟨e0, e1, e2, e3, e4, e5, e6⟩ := x
        have heq : eqEn ⟨e0, e1, e2, e3, e4, e5, e6⟩ ⟨e0, e1, e2, e3, e4, e5, e6⟩ = true := (eqEn_iff _ _).2 rfl
        go_upto_region 13 with fail
        go_quiet (fail)
        go_wp2
        go_roundw
        case rel => exact ⟨i + 1, by omega, rfl, at' + 1, by omega, rfl, HN.out, below_drewN HJ.out.2 _⟩
        case measure => simp [intOf]; omega
      | false =>
        have HN : Hid (at' = atN G S.L (i + 1)) := by
          rw [hsb, if_neg (by decide)] at hnext
          rw [hnext, ← HJ.out.1]
          rfl
        have HT1 : Hid (timesN G x = 1) := times_one HF.out.1.2.2.2 hsb
        have HYn : Hid (∀ y : En, y ∈ T.L → y ≠ x) := fun y hy e => by
          rw [HTL.out] at hy
          have := (List.mem_filter.1 hy).2
          rw [e, hsb] at this
          cases this
        have hkx : ∀ k : Ky, decide (k.d = x.d ∧ k.nm = x.nm) = hasK k x := fun k => by
          rw [Bool.eq_iff_iff, decide_eq_true_iff, hasK_iff]
          exact ⟨fun h => ⟨h.1.symm, h.2.symm⟩, fun h => ⟨h.1.symm, h.2.symm⟩⟩
        have HKX : Hid (∀ k : Ky, decide (k.d = x.d ∧ k.nm = x.nm) = hasK k x) := hkx
        have HWX : Hid (Below w4.heap.size w4 wr) := HJ.out.2
        have HC01 : Hid (∀ W, Below wr.heap.size wr W → W.cell? ⟨g, i * 7, none⟩ = some (.int .i64 x.d) ∧ W.cell? ⟨g, i * 7 + 1, none⟩ = some (.string x.nm)) := fun W hb => ⟨(hb.cell (cellLt c0)).trans c0, (hb.cell (cellLt c1)).trans c1⟩
        clear hx hsb hnext hkx hc HX
        rcases (show at' < lt ∨ ¬ at' < lt by omega) with hal | hal
        case' inl =>
          have hatz : (at' : Int) < (lt : Int) := by omega
          obtain ⟨y, hy⟩ : ∃ y, T.L[at']? = some y := ⟨_, List.getElem?_eq_getElem (by rw [HL.out.2.1]; exact hal)⟩
          have hne := HYn.out y (List.mem_of_getElem? hy)
          obtain ⟨g4, rfl, -, -, -, hc4, -⟩ := owns_entry (HR4.out.2.1.below HJ.out.2) hy
          have d0 := hc4.c0
          have d1 := hc4.c1
          have d2 := hc4.c2
          have d3 := hc4.c3
          have d4 := hc4.c4
          have d5 := hc4.c5
          have d6 := hc4.c6
          obtain ⟨X, hX⟩ : ∃ X, x = X := ⟨_, rfl⟩
          have hne' : eqEn y x = false := eqEn_no hne
          obtain ⟨f0, f1, f2, f3, f4, f5, f6⟩ := y
          rw [show eqEn ⟨f0, f1, f2, f3, f4, f5, f6⟩ x = eqEn ⟨f0, f1, f2, f3, f4, f5, f6⟩ ⟨x.d, x.nm, x.neg, x.id, x.kind, x.mode, x.tg⟩ from rfl] at hne'
          clear hy hc4 hne hX X
          go_upto_region 13 with fail
          go_quiet (fail)
          clear d0 d1 d2 d3 d4 d5 d6 hne' hatz
          go_wp2
        case' inr =>
          have hatz : decide ((at' : Int) < (lt : Int)) = false := by rw [decide_eq_false_iff_not]; omega
          go_upto_region 13 with fail
          go_quiet (fail)
          clear hatz
          go_wp2
        all_goals (
          obtain ⟨wq, hwq, hbq⟩ : ∃ W, W = wr.drewN _ ∧ Hid (Below wr.heap.size wr W) := ⟨_, rfl, below_drewN (Below.refl _ _) _⟩
          rw [← hwq]
          clear hwq c0 c1 c2' c3' c4' c5 c6
          go_loopw [14, 15] (fun s14 s15 wx => ∃ k : Nat, k ≤ lg ∧ s15 = .int .i64 (k : Int) ∧ ∃ tm : Nat, tm ≤ k ∧ s14 = .int .i64 (tm : Int) ∧ Hid (tm = timesN (G.take k) x ∧ Below wr.heap.size wr wx)) (fun _ s15 _ => lg - (intOf s15).toNat)
          case atStart => exact ⟨0, Nat.zero_le _, rfl, 0, Nat.zero_le _, rfl, by rw [List.take_zero]; rfl, hbq.out⟩
          case round =>
            obtain ⟨k, hk, rfl, tm, htm, rfl, HK⟩ := hrel
            obtain ⟨c0, c1⟩ := HC01.out _ HK.out.2
            have HB : Hid (Below w4.heap.size w4 wr) := chainB HWX.out HK.out.2
            by_cases hkl : k < lg
            · have hkz : (k : Int) < (lg : Int) := by omega
              obtain ⟨y, hy⟩ : ∃ y, G[k]? = some y := ⟨_, List.getElem?_eq_getElem (by rw [HL.out.2.2]; exact hkl)⟩
              obtain ⟨g3, rfl, -, -, k0, k1, -⟩ := (HR4.out.2.2.1.below HB.out).key hy
              have hds := HKX.out y
              have htk := timesN_take (e := x) hy
              obtain ⟨bh, hbh⟩ : ∃ b, hasK y x = b := ⟨_, rfl⟩
              rw [hbh] at hds htk
              have hw3 : IntKind.i64.wrap ((tm : Int) + 1) = ((tm + 1 : Nat) : Int) := by
                rw [show ((tm + 1 : Nat) : Int) = (tm : Int) + 1 by omega]; exact IntWalk.i64_in _ (by omega)
              have hw4 : IntKind.i64.wrap ((k : Int) + 1) = ((k + 1 : Nat) : Int) := by
                rw [show ((k + 1 : Nat) : Int) = (k : Int) + 1 by omega]; exact IntWalk.i64_in _ (by omega)
              cases bh with
              | true =>
                have HTk : Hid (tm + 1 = timesN (G.take (k + 1)) x) := by rw [if_pos rfl] at htk; rw [htk, ← HK.out.1]; rfl
                clear hy hbh htk
                go_upto_region 19 with fail
                go_quiet (fail)
                go_wp2
                go_roundw
                case rel => exact ⟨k + 1, by omega, rfl, tm + 1, by omega, rfl, HTk.out, below_drewN HK.out.2 _⟩
                case measure => simp [intOf]; omega
              | false =>
                have HTk : Hid (tm = timesN (G.take (k + 1)) x) := by rw [if_neg (by decide)] at htk; rw [htk, ← HK.out.1]; rfl
                clear hy hbh htk
                go_upto_region 19 with fail
                go_quiet (fail)
                go_wp2
                go_roundw
                case rel => exact ⟨k + 1, by omega, rfl, tm, by omega, rfl, HTk.out, below_drewN HK.out.2 _⟩
                case measure => simp [intOf]; omega
            · obtain rfl : k = lg := by omega
              have hkz : ¬ (k : Int) < (k : Int) := by omega
              have htm1 : tm = 1 := by
                rw [HK.out.1, List.take_of_length_le (by rw [HL.out.2.2]; exact Nat.le_refl _)]; exact HT1.out
              subst htm1
              clear c0 c1 hkl
              go_wp2
              go_roundw
              case rel => exact ⟨i + 1, by omega, rfl, at', hat, rfl, HN.out, HB.out⟩
              case measure => simp [intOf]; omega)
    · obtain rfl : i = ls := by omega
      have hltz : ¬ (i : Int) < (i : Int) := by omega
      have hal : at' = lt := by
        rw [HJ.out.1]
        have h1 := atN_end G S.L
        rw [HL.out.1] at h1
        rw [h1, ← HTL.out, HL.out.2.1]
      subst hal
      obtain ⟨F5, hF5⟩ := HLw.out wr HJ.out.2
      have HB : Hid (Below w4.heap.size w4 wr) := HJ.out.2
      rcases (show ((i : Int) ≤ most ∧ 0 < lg) ∨ ((i : Int) ≤ most ∧ ¬ 0 < lg) ∨ ¬ (i : Int) ≤ most by omega) with ⟨ha, hb⟩ | ⟨ha, hb⟩ | ha
      · have hb' : (0 : Int) < (lg : Int) := by omega
        have hq : ¬ qz < neg := by have := HF.out.2.2.2.2 ha hb; omega
        clear hb
        go_wp2_with (first
          | (go_at_call 13; refine (HA.out _).mono ?_; rintro r w9 ⟨rfl, hb⟩; have H9 : Hid (Below w.heap.size w w9) := chainB H8.out hb; clear hb)
          | (go_at_call 10; obtain ⟨F6, hF6⟩ := HLw.out w7 H7.out; refine (HT3.out w7 F6 hF6).mono ?_; rintro r w8 ⟨a8, c8, rfl, hb⟩; have H8 : Hid (Below w.heap.size w w8) := hb; clear hb hF6)
          | (go_at_call 16; refine (HN4.out wr HB.out).mono ?_; rintro r w7 ⟨rfl, hb⟩; have H7 : Hid (Below w4.heap.size w4 w7) := hb; clear hb))
        go_ret
        exact ⟨rfl, H9.out⟩
      · obtain rfl : lg = 0 := by omega
        clear hb
        go_wp2_with (first
          | (go_at_call 13; refine (HA.out _).mono ?_; rintro r w9 ⟨rfl, hb⟩; have H9 : Hid (Below w.heap.size w w9) := chainB H8.out hb; clear hb)
          | (go_at_call 10; refine (HT3.out wr F5 hF5).mono ?_; rintro r w8 ⟨a8, c8, rfl, hb⟩; have H8 : Hid (Below w.heap.size w w8) := hb; clear hb))
        go_ret
        exact ⟨rfl, H9.out⟩
      · go_wp2_with (first
          | (go_at_call 13; refine (HA.out _).mono ?_; rintro r w9 ⟨rfl, hb⟩; have H9 : Hid (Below w.heap.size w w9) := chainB H8.out hb; clear hb)
          | (go_at_call 10; refine (HT3.out wr F5 hF5).mono ?_; rintro r w8 ⟨a8, c8, rfl, hb⟩; have H8 : Hid (Below w.heap.size w w8) := hb; clear hb))
        go_ret
        exact ⟨rfl, H9.out⟩
set_option maxRecDepth 100000 in
set_option maxHeartbeats 16000000 in
theorem bounds_pn (a : Option Addr) (cap : Nat) (ops : List DOp) (most neg : Int) (w : World) (row : RowD w a ops) (hlen : ops.length * 112 ≤ 140737488351232) (w1 : (Lit.int .i64 most).wf = true) (w2 : (Lit.int .i64 neg).wf = true) (hm : 0 ≤ most) (hn : ¬ 0 ≤ neg) :
    Calls Try.prog 4 #[.slice a ops.length cap, .int .i64 most, .int .i64 neg] w fun x w' => x = .returned (.bool true) ∧ Below w.heap.size w w' := by
  have hnb : ops.length < 1290000000000 := by omega
  have hb1 : most ≤ 9223372036854775807 := wf_hi w1
  have hb2 : neg ≤ 9223372036854775807 := wf_hi w2
  have HTr : Hid (Calls Try.prog 14 #[.slice a ops.length cap] w fun x w' => ∃ p m, x = .returned (.tuple #[.pointer (some ⟨p, 0, none⟩), .bool true]) ∧ Ld w w' p (runS (ops.filter upB)) m (fun _ => False) ∧ m ≤ 1290000000000) := (tree_p a cap ops w row hlen).mono fun x w' h => by
    obtain ⟨p, m, h1, h2, h3⟩ := h
    exact ⟨p, m, h1, h2, by omega⟩
  have hUp := @up_run ops
  obtain ⟨S, hS⟩ : ∃ S, runS (ops.filter upB) = S := ⟨_, rfl⟩
  rw [hS] at HTr hUp
  obtain ⟨T, hT⟩ : ∃ T, (trimS S most neg).2 = T := ⟨_, rfl⟩
  obtain ⟨G, hG⟩ : ∃ G, (trimS S most neg).1 = G := ⟨_, rfl⟩
  obtain ⟨ls, hls⟩ : ∃ l, S.L.length = l := ⟨_, rfl⟩
  obtain ⟨lt, hlt⟩ : ∃ l, T.L.length = l := ⟨_, rfl⟩
  obtain ⟨lg, hlg⟩ : ∃ l, G.length = l := ⟨_, rfl⟩
  obtain ⟨q, hq⟩ : ∃ q, negN T.L = q := ⟨_, rfl⟩
  have HU : Hid (KeysOk S.L → Lost G S T ∧ ((lt : Int) ≤ max most 0 ∧ (q : Int) ≤ max neg 0 ∧ lg + lt = ls ∧ ((ls : Int) ≤ most → 0 < lg → neg ≤ (q : Int)))) := fun hk => by
    have h1 := trim_counts (hUp hk) most neg
    rw [hT, hG, hlt, hls, hlg, hq] at h1
    have h2 := lost_trim S most neg hk
    rw [hT, hG] at h2
    exact ⟨h2, h1.1, h1.2.1, h1.2.2.1, fun h3 h4 => h1.2.2.2 h3 (fun h5 => by rw [h5] at hlg; simp at hlg; omega)⟩
  have HAg : Hid (KeysOk S.L → (trimS T most neg).1 = []) := fun hk => by rw [← hT]; exact trim_again (hUp hk) most neg
  have HA : Hid (∀ w, Calls Try.prog 13 #[] w fun x w' => x = .returned (.bool true) ∧ Below w.heap.size w w') := awake13_p
  have HEs : Hid (∀ W p m F, m ≤ 1290000000000 → Ld w W p S m F → Calls Try.prog 15 #[.pointer (some ⟨p, 0, none⟩)] W fun x w' => ∃ a c, x = .returned (.slice a ls c) ∧ Row7 w' W.heap.size (.slice a ls c) S.L ∧ Below W.heap.size W w' ∧ ls ≤ 1290000000000) := fun W p m F hm h => by
    refine (ld_entries h (by omega)).mono ?_
    rintro x w' ⟨v, rfl, hr, hb⟩
    obtain ⟨a, c, rfl⟩ := owns_len hr
    have := h.len
    rw [hls] at hr ⊢
    exact ⟨a, c, rfl, hr, hb, by omega⟩
  have HEt : Hid (∀ W p m F, m ≤ 1290000000000 → Ld w W p T m F → Calls Try.prog 15 #[.pointer (some ⟨p, 0, none⟩)] W fun x w' => ∃ a c, x = .returned (.slice a lt c) ∧ Row7 w' W.heap.size (.slice a lt c) T.L ∧ Below W.heap.size W w' ∧ lt ≤ 1290000000000) := fun W p m F hm h => by
    refine (ld_entries h (by omega)).mono ?_
    rintro x w' ⟨v, rfl, hr, hb⟩
    obtain ⟨a, c, rfl⟩ := owns_len hr
    have := h.len
    rw [hlt] at hr ⊢
    exact ⟨a, c, rfl, hr, hb, by omega⟩
  have HNg : Hid (∀ W p m F, m ≤ 1290000000000 → Ld w W p T m F → Calls Try.prog 16 #[.pointer (some ⟨p, 0, none⟩)] W fun x w' => x = .returned (.int .i64 q) ∧ Below W.heap.size W w') := fun W p m F hm h => by
    rw [← hq]; exact ld_neg h (by omega)
  have HTm : Hid (∀ W p m F, m ≤ 1290000000000 → Ld w W p S m F → Calls Try.prog 10 #[.pointer (some ⟨p, 0, none⟩), .int .i64 most, .int .i64 neg] W fun r w' => ∃ a c, r = .returned (.slice a lg c) ∧ RowK w' W.heap.size (.slice a lg c) G ∧ Ldc w W w' p T m F) := fun W p m F hm h => by
    refine (trim_p h (by omega) most neg hb1 hb2).mono ?_
    rintro r w' ⟨v, rfl, h1, h2, -⟩
    rw [hT] at h2
    rw [hG] at h1
    obtain ⟨a, c, rfl⟩ := owns_len h1
    rw [hlg] at h1 ⊢
    exact ⟨a, c, rfl, h1, h2⟩
  have HT2 : Hid (∀ W p m F, m ≤ 1290000000000 → KeysOk S.L → Ld w W p T m F → Calls Try.prog 10 #[.pointer (some ⟨p, 0, none⟩), .int .i64 most, .int .i64 neg] W fun r w' => ∃ a c s, r = .returned (.slice a 0 c) ∧ Ldc w W w' p s m F) := fun W p m F hm hk h => by
    refine (trim_p h (by omega) most neg hb1 hb2).mono ?_
    rintro r w' ⟨v, rfl, h1, h2, -⟩
    rw [HAg.out hk] at h1
    obtain ⟨a, c, rfl⟩ := owns_len h1
    exact ⟨a, c, _, rfl, h2⟩
  have HL : Hid (S.L.length = ls ∧ T.L.length = lt ∧ G.length = lg) := ⟨hls, hlt, hlg⟩
  clear hlt hls hlg hq hT hG hS hUp HAg row hlen hnb hb1 hb2
  go_enter Try.func4, Try.ntmps4
  go_upto_region 7 with (first
    | (go_at_call 10; have z := H2; refine (HTm.out w2 p m _ H1.out.2 H2.out.1.ld).mono ?_; rintro r w3 ⟨a3, c3, rfl, hg, hl⟩; have H3 : Hid (Ei w w1 w3 p T m (fun _ => False) (New (fun _ => False) w1 w2) ∧ Row7 w3 w1.heap.size (.slice a2 ls c2) S.L ∧ RowK w3 w2.heap.size (.slice a3 lg c3) G) := ⟨H2.out.1.gone hl, owns_moved H2.out.2.1 fun k hk => hl.kept k (.inr (H2.out.2.2.1 k hk)), hg⟩; clear hl hg z)
    | (go_at_call 15; first
      | (have z := H3; refine (HEt.out w3 p m _ H1.out.2 H3.out.1.ld).mono ?_; rintro r w4 ⟨a4, c4, rfl, hr, hb, hl⟩; have H4 : Hid (Ei w w1 w4 p T m (fun _ => False) (New (New (fun _ => False) w1 w2) w3 w4) ∧ Row7 w4 w1.heap.size (.slice a2 ls c2) S.L ∧ Row7 w4 w3.heap.size (.slice a4 lt c4) T.L ∧ RowK w4 w2.heap.size (.slice a3 lg c3) G) := ⟨H3.out.1.on hb, owns_below H3.out.2.1 hb, hr, owns_below H3.out.2.2 hb⟩; clear hr hb z)
      | (have z := H1; refine (HEs.out w1 p m _ H1.out.2 H1.out.1.ld).mono ?_; rintro r w2 ⟨a2, c2, rfl, hr, hb, hl⟩; have H2 : Hid (Ei w w1 w2 p S m (fun _ => False) (New (fun _ => False) w1 w2) ∧ Row7 w2 w1.heap.size (.slice a2 ls c2) S.L ∧ (∀ k, (Value.slice a2 ls c2).ownBlock = some k → New (fun _ => False) w1 w2 k) ∧ KeysOk S.L) := ⟨H1.out.1.on hb, hr, fun k hk => .inr (World.ownsRow.lt hr k hk), H1.out.1.ld.keys⟩; clear hr hb z))
    | (go_at_call 14; refine HTr.out.mono ?_; rintro r w1 ⟨p, m, rfl, hl, hm⟩; have H1 : Hid (Ei w w1 w1 p S m (fun _ => False) (fun _ => False) ∧ m ≤ 1290000000000) := ⟨Ei.start hl, hm⟩; clear hl hm))
  have HF : Hid (Lost G S T ∧ ((lt : Int) ≤ max most 0 ∧ (q : Int) ≤ max neg 0 ∧ lg + lt = ls ∧ ((ls : Int) ≤ most → 0 < lg → neg ≤ (q : Int)))) := HU.out H2.out.2.2.2
  have hlb : ls ≤ 1290000000000 := by assumption
  have hlb' : lt ≤ 1290000000000 := by assumption
  have hlb2 : lg ≤ 1290000000000 := by have := HF.out.2.2.2.1; omega
  have hws : IntKind.i64.wrap ((lg : Int) + (lt : Int)) = (ls : Int) := by
    rw [← HF.out.2.2.2.1, Int.natCast_add]; exact IntWalk.i64_in _ (by omega)
  obtain ⟨qz, hqz⟩ : ∃ z, (q : Int) = z := ⟨_, rfl⟩
  rw [hqz] at HF HNg
  have HKS : Hid (KeysOk S.L) := H2.out.2.2.2
  have HT3 : Hid (∀ W F, Ld w W p T m F → Calls Try.prog 10 #[.pointer (some ⟨p, 0, none⟩), .int .i64 most, .int .i64 neg] W fun r w' => ∃ a c, r = .returned (.slice a 0 c) ∧ Below w.heap.size w w') := fun W F h => by
    refine (HT2.out W p m F H1.out.2 HKS.out h).mono ?_
    rintro r w' ⟨a, c, s, rfl, hl⟩
    exact ⟨a, c, rfl, hl.ld.below⟩
  have HLw : Hid (∀ W, Below w4.heap.size w4 W → ∃ F, Ld w W p T m F) := fun W hb => ⟨_, H4.out.1.ld.on' hb⟩
  have HN4 : Hid (∀ W, Below w4.heap.size w4 W → Calls Try.prog 16 #[.pointer (some ⟨p, 0, none⟩)] W fun x w' => x = .returned (.int .i64 qz) ∧ Below w4.heap.size w4 w') := fun W hb => (HNg.out W p m _ H1.out.2 (H4.out.1.ld.on' hb)).mono fun x w' hh => ⟨hh.1, chainB hb hh.2⟩
  have HR4 : Hid (Row7 w4 w1.heap.size (.slice a2 ls c2) S.L ∧ Row7 w4 w3.heap.size (.slice a4 lt c4) T.L ∧ RowK w4 w2.heap.size (.slice a3 lg c3) G ∧ Below w.heap.size w w4) := ⟨H4.out.2.1, H4.out.2.2.1, H4.out.2.2.2, H4.out.1.ld.below⟩
  have HTL : Hid (T.L = S.L.filter (stayB G)) := HF.out.1.2.1
  clear HU HEs HEt HTm HTr HNg HT2 hqz H1 H2 H3 H4
  have hm1 : ¬ most < (lt : Int) := by have := HF.out.2.1; omega
  have hm2 : ¬ most < 0 := by omega
  have hn1 : ¬ (0 : Int) < qz := by have := HF.out.2.2.1; omega
  have hn2 : neg < 0 := by omega
  go_upto_region 9 with (go_at_call 16; refine (HN4.out w4 (Below.refl _ _)).mono ?_; rintro r w5 ⟨rfl, hb⟩; have H5 : Hid (Below w4.heap.size w4 w5) := hb; clear hb)
  clear hm1 hm2 hn1 hn2 hm hn hws
  have HW5 : Hid (Below w4.heap.size w4 w5) := H5.out
  go_wp2
  go_loopw [12, 13, 14, 15] (fun s12 s13 _ _ wr => ∃ i : Nat, i ≤ ls ∧ s13 = .int .i64 (i : Int) ∧ ∃ at' : Nat, at' ≤ lt ∧ s12 = .int .i64 (at' : Int) ∧ Hid (at' = atN G S.L i ∧ Below w4.heap.size w4 wr)) (fun _ s13 _ _ _ => ls - (intOf s13).toNat)
  case atStart => exact ⟨0, Nat.zero_le _, rfl, 0, Nat.zero_le _, rfl, rfl, HW5.out⟩
  case round =>
    obtain ⟨i, hi, rfl, at', hat, rfl, HJ⟩ := hrel
    clear H5 HW5
    by_cases hlt : i < ls
    · have hltz : (i : Int) < (ls : Int) := by omega
      obtain ⟨x, hx⟩ : ∃ x, S.L[i]? = some x := ⟨_, List.getElem?_eq_getElem (by rw [HL.out.1]; exact hlt)⟩
      obtain ⟨g, rfl, -, -, -, hc, -⟩ := owns_entry (HR4.out.1.below HJ.out.2) hx
      obtain ⟨sb, hsb⟩ : ∃ b, stayB G x = b := ⟨_, rfl⟩
      have hnext := atN_next (G := G) hx
      have HX : Hid (S.L[i]? = some x ∧ stayB G x = sb) := ⟨hx, hsb⟩
      have c0 := hc.c0
      have c1 := hc.c1
      have c2' := hc.c2
      have c3' := hc.c3
      have c4' := hc.c4
      have c5 := hc.c5
      have c6 := hc.c6
      have hw1 : IntKind.i64.wrap ((i : Int) + 1) = ((i + 1 : Nat) : Int) := by
        rw [show ((i + 1 : Nat) : Int) = (i : Int) + 1 by omega]; exact IntWalk.i64_in _ (by omega)
      cases sb with
      | true =>
        have hatx : T.L[at']? = some x := by rw [HTL.out, HJ.out.1]; exact atN_at hx hsb
        have hatl : at' < lt := by rw [← HL.out.2.1]; exact (List.getElem?_eq_some_iff.1 hatx).1
        have hatz : (at' : Int) < (lt : Int) := by omega
        obtain ⟨g4, rfl, -, -, -, hc4, -⟩ := owns_entry (HR4.out.2.1.below HJ.out.2) hatx
        have d0 := hc4.c0
        have d1 := hc4.c1
        have d2 := hc4.c2
        have d3 := hc4.c3
        have d4 := hc4.c4
        have d5 := hc4.c5
        have d6 := hc4.c6
        have HN : Hid (at' + 1 = atN G S.L (i + 1)) := by
          rw [hsb, if_pos rfl] at hnext
          rw [hnext, ← HJ.out.1]
          rfl
        have hw2 : IntKind.i64.wrap ((at' : Int) + 1) = ((at' + 1 : Nat) : Int) := by
          rw [show ((at' + 1 : Nat) : Int) = (at' : Int) + 1 by omega]; exact IntWalk.i64_in _ (by omega)
        clear hx hsb hnext hc hc4 hatx HX
        obtain ⟨e0, e1, e2, e3, e4, e5, e6⟩ := x
        have heq : eqEn ⟨e0, e1, e2, e3, e4, e5, e6⟩ ⟨e0, e1, e2, e3, e4, e5, e6⟩ = true := (eqEn_iff _ _).2 rfl
        go_upto_region 13 with fail
        go_quiet (fail)
        go_wp2
        go_roundw
        case rel => exact ⟨i + 1, by omega, rfl, at' + 1, by omega, rfl, HN.out, below_drewN HJ.out.2 _⟩
        case measure => simp [intOf]; omega
      | false =>
        have HN : Hid (at' = atN G S.L (i + 1)) := by
          rw [hsb, if_neg (by decide)] at hnext
          rw [hnext, ← HJ.out.1]
          rfl
        have HT1 : Hid (timesN G x = 1) := times_one HF.out.1.2.2.2 hsb
        have HYn : Hid (∀ y : En, y ∈ T.L → y ≠ x) := fun y hy e => by
          rw [HTL.out] at hy
          have := (List.mem_filter.1 hy).2
          rw [e, hsb] at this
          cases this
        have hkx : ∀ k : Ky, decide (k.d = x.d ∧ k.nm = x.nm) = hasK k x := fun k => by
          rw [Bool.eq_iff_iff, decide_eq_true_iff, hasK_iff]
          exact ⟨fun h => ⟨h.1.symm, h.2.symm⟩, fun h => ⟨h.1.symm, h.2.symm⟩⟩
        have HKX : Hid (∀ k : Ky, decide (k.d = x.d ∧ k.nm = x.nm) = hasK k x) := hkx
        have HWX : Hid (Below w4.heap.size w4 wr) := HJ.out.2
        have HC01 : Hid (∀ W, Below wr.heap.size wr W → W.cell? ⟨g, i * 7, none⟩ = some (.int .i64 x.d) ∧ W.cell? ⟨g, i * 7 + 1, none⟩ = some (.string x.nm)) := fun W hb => ⟨(hb.cell (cellLt c0)).trans c0, (hb.cell (cellLt c1)).trans c1⟩
        clear hx hsb hnext hkx hc HX
        rcases (show at' < lt ∨ ¬ at' < lt by omega) with hal | hal
        case' inl =>
          have hatz : (at' : Int) < (lt : Int) := by omega
          obtain ⟨y, hy⟩ : ∃ y, T.L[at']? = some y := ⟨_, List.getElem?_eq_getElem (by rw [HL.out.2.1]; exact hal)⟩
          have hne := HYn.out y (List.mem_of_getElem? hy)
          obtain ⟨g4, rfl, -, -, -, hc4, -⟩ := owns_entry (HR4.out.2.1.below HJ.out.2) hy
          have d0 := hc4.c0
          have d1 := hc4.c1
          have d2 := hc4.c2
          have d3 := hc4.c3
          have d4 := hc4.c4
          have d5 := hc4.c5
          have d6 := hc4.c6
          obtain ⟨X, hX⟩ : ∃ X, x = X := ⟨_, rfl⟩
          have hne' : eqEn y x = false := eqEn_no hne
          obtain ⟨f0, f1, f2, f3, f4, f5, f6⟩ := y
          rw [show eqEn ⟨f0, f1, f2, f3, f4, f5, f6⟩ x = eqEn ⟨f0, f1, f2, f3, f4, f5, f6⟩ ⟨x.d, x.nm, x.neg, x.id, x.kind, x.mode, x.tg⟩ from rfl] at hne'
          clear hy hc4 hne hX X
          go_upto_region 13 with fail
          go_quiet (fail)
          clear d0 d1 d2 d3 d4 d5 d6 hne' hatz
          go_wp2
        case' inr =>
          have hatz : decide ((at' : Int) < (lt : Int)) = false := by rw [decide_eq_false_iff_not]; omega
          go_upto_region 13 with fail
          go_quiet (fail)
          clear hatz
          go_wp2
        all_goals (
          obtain ⟨wq, hwq, hbq⟩ : ∃ W, W = wr.drewN _ ∧ Hid (Below wr.heap.size wr W) := ⟨_, rfl, below_drewN (Below.refl _ _) _⟩
          rw [← hwq]
          clear hwq c0 c1 c2' c3' c4' c5 c6
          go_loopw [14, 15] (fun s14 s15 wx => ∃ k : Nat, k ≤ lg ∧ s15 = .int .i64 (k : Int) ∧ ∃ tm : Nat, tm ≤ k ∧ s14 = .int .i64 (tm : Int) ∧ Hid (tm = timesN (G.take k) x ∧ Below wr.heap.size wr wx)) (fun _ s15 _ => lg - (intOf s15).toNat)
          case atStart => exact ⟨0, Nat.zero_le _, rfl, 0, Nat.zero_le _, rfl, by rw [List.take_zero]; rfl, hbq.out⟩
          case round =>
            obtain ⟨k, hk, rfl, tm, htm, rfl, HK⟩ := hrel
            obtain ⟨c0, c1⟩ := HC01.out _ HK.out.2
            have HB : Hid (Below w4.heap.size w4 wr) := chainB HWX.out HK.out.2
            by_cases hkl : k < lg
            · have hkz : (k : Int) < (lg : Int) := by omega
              obtain ⟨y, hy⟩ : ∃ y, G[k]? = some y := ⟨_, List.getElem?_eq_getElem (by rw [HL.out.2.2]; exact hkl)⟩
              obtain ⟨g3, rfl, -, -, k0, k1, -⟩ := (HR4.out.2.2.1.below HB.out).key hy
              have hds := HKX.out y
              have htk := timesN_take (e := x) hy
              obtain ⟨bh, hbh⟩ : ∃ b, hasK y x = b := ⟨_, rfl⟩
              rw [hbh] at hds htk
              have hw3 : IntKind.i64.wrap ((tm : Int) + 1) = ((tm + 1 : Nat) : Int) := by
                rw [show ((tm + 1 : Nat) : Int) = (tm : Int) + 1 by omega]; exact IntWalk.i64_in _ (by omega)
              have hw4 : IntKind.i64.wrap ((k : Int) + 1) = ((k + 1 : Nat) : Int) := by
                rw [show ((k + 1 : Nat) : Int) = (k : Int) + 1 by omega]; exact IntWalk.i64_in _ (by omega)
              cases bh with
              | true =>
                have HTk : Hid (tm + 1 = timesN (G.take (k + 1)) x) := by rw [if_pos rfl] at htk; rw [htk, ← HK.out.1]; rfl
                clear hy hbh htk
                go_upto_region 19 with fail
                go_quiet (fail)
                go_wp2
                go_roundw
                case rel => exact ⟨k + 1, by omega, rfl, tm + 1, by omega, rfl, HTk.out, below_drewN HK.out.2 _⟩
                case measure => simp [intOf]; omega
              | false =>
                have HTk : Hid (tm = timesN (G.take (k + 1)) x) := by rw [if_neg (by decide)] at htk; rw [htk, ← HK.out.1]; rfl
                clear hy hbh htk
                go_upto_region 19 with fail
                go_quiet (fail)
                go_wp2
                go_roundw
                case rel => exact ⟨k + 1, by omega, rfl, tm, by omega, rfl, HTk.out, below_drewN HK.out.2 _⟩
                case measure => simp [intOf]; omega
            · obtain rfl : k = lg := by omega
              have hkz : ¬ (k : Int) < (k : Int) := by omega
              have htm1 : tm = 1 := by
                rw [HK.out.1, List.take_of_length_le (by rw [HL.out.2.2]; exact Nat.le_refl _)]; exact HT1.out
              subst htm1
              clear c0 c1 hkl
              go_wp2
              go_roundw
              case rel => exact ⟨i + 1, by omega, rfl, at', hat, rfl, HN.out, HB.out⟩
              case measure => simp [intOf]; omega)
    · obtain rfl : i = ls := by omega
      have hltz : ¬ (i : Int) < (i : Int) := by omega
      have hal : at' = lt := by
        rw [HJ.out.1]
        have h1 := atN_end G S.L
        rw [HL.out.1] at h1
        rw [h1, ← HTL.out, HL.out.2.1]
      subst hal
      obtain ⟨F5, hF5⟩ := HLw.out wr HJ.out.2
      have HB : Hid (Below w4.heap.size w4 wr) := HJ.out.2
      rcases (show ((i : Int) ≤ most ∧ 0 < lg) ∨ ((i : Int) ≤ most ∧ ¬ 0 < lg) ∨ ¬ (i : Int) ≤ most by omega) with ⟨ha, hb⟩ | ⟨ha, hb⟩ | ha
      · have hb' : (0 : Int) < (lg : Int) := by omega
        have hq : ¬ qz < neg := by have := HF.out.2.2.2.2 ha hb; omega
        clear hb
        go_wp2_with (first
          | (go_at_call 13; refine (HA.out _).mono ?_; rintro r w9 ⟨rfl, hb⟩; have H9 : Hid (Below w.heap.size w w9) := chainB H8.out hb; clear hb)
          | (go_at_call 10; obtain ⟨F6, hF6⟩ := HLw.out w7 H7.out; refine (HT3.out w7 F6 hF6).mono ?_; rintro r w8 ⟨a8, c8, rfl, hb⟩; have H8 : Hid (Below w.heap.size w w8) := hb; clear hb hF6)
          | (go_at_call 16; refine (HN4.out wr HB.out).mono ?_; rintro r w7 ⟨rfl, hb⟩; have H7 : Hid (Below w4.heap.size w4 w7) := hb; clear hb))
        go_ret
        exact ⟨rfl, H9.out⟩
      · obtain rfl : lg = 0 := by omega
        clear hb
        go_wp2_with (first
          | (go_at_call 13; refine (HA.out _).mono ?_; rintro r w9 ⟨rfl, hb⟩; have H9 : Hid (Below w.heap.size w w9) := chainB H8.out hb; clear hb)
          | (go_at_call 10; refine (HT3.out wr F5 hF5).mono ?_; rintro r w8 ⟨a8, c8, rfl, hb⟩; have H8 : Hid (Below w.heap.size w w8) := hb; clear hb))
        go_ret
        exact ⟨rfl, H9.out⟩
      · go_wp2_with (first
          | (go_at_call 13; refine (HA.out _).mono ?_; rintro r w9 ⟨rfl, hb⟩; have H9 : Hid (Below w.heap.size w w9) := chainB H8.out hb; clear hb)
          | (go_at_call 10; refine (HT3.out wr F5 hF5).mono ?_; rintro r w8 ⟨a8, c8, rfl, hb⟩; have H8 : Hid (Below w.heap.size w w8) := hb; clear hb))
        go_ret
        exact ⟨rfl, H9.out⟩
end
end Go.Proofs.Ytabdicbmecgogaa
