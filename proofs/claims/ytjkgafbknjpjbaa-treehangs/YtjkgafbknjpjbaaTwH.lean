/- The walk of the law TreeHangs: it returns true. -/
import Derived.Test.YtjkgafbknjpjbaaTqV
import Derived.Test.YtjkgafbknjpjbaaTpX
namespace Go.Proofs.Ytjkgafbknjpjbaa
open Go.RowKit
attribute [local go_sem high] eqK' neqK' eqE neqE eqN neqN guardK guardE guardN

theorem hangs_up {M : Nms} {es : List En} {next : Int} (w : WF M es next) {n : Nat} {d : Int} (h : HangsN es n d) (hd : d ≠ 1) : ∃ e m, n = m + 1 ∧ e ∈ es ∧ e.kind = 1 ∧ e.id = d ∧ HangsN es m e.d ∧ findV es d = .tuple #[e.agg, .int .i64 0] := by
  cases n with
  | zero => exact absurd h hd
  | succ m =>
    obtain ⟨e, he, hk, hi, hm⟩ := h
    refine ⟨e, m, rfl, he, hk, hi, hm, ?_⟩
    unfold findV
    rw [if_neg hd, ← hi, w.node he]
theorem find_here {M : Nms} {es : List En} {next : Int} (w : WF M es next) {e : En} (he : e ∈ es) : findV es e.id = .tuple #[e.agg, .int .i64 0] := by
  unfold findV
  rw [if_neg (w.ne1 he), w.node he]
theorem list_here {es : List En} {e : En} (he : e ∈ es) : ∃ j : Nat, (listL es e.d)[j]? = some e := List.mem_iff_getElem?.1 (listL_mem.2 ⟨he, rfl⟩)
theorem list_next {es : List En} (h : Rises es) {d : Int} {k : Nat} {x y : En} (hx : (listL es d)[k]? = some x) (hy : (listL es d)[k + 1]? = some y) : Op.bytesLess x.nm.toList y.nm.toList = true := by
  have hr : Rises (listL es d) := h.filter _
  have hkl := (List.getElem?_eq_some_iff.1 hy).1
  have hxy := List.pairwise_iff_getElem.1 hr k (k + 1) (by omega) hkl (by omega)
  have e1 : (listL es d)[k]'(by omega) = x := (List.getElem?_eq_some_iff.1 hx).2
  have e2 : (listL es d)[k + 1]'hkl = y := (List.getElem?_eq_some_iff.1 hy).2
  rw [e1, e2] at hxy
  have d1 := (listL_mem.1 (List.mem_of_getElem? hx)).2
  have d2 := (listL_mem.1 (List.mem_of_getElem? hy)).2
  have := (lessE_iff x y).1 hxy
  rw [bytesLess_lt]
  rcases this with h | h
  · omega
  · exact decide_eq_true h.2
theorem hg_keep {W0 W W' : World} {g i : Nat} {nm : ByteArray} {d : Int} (h : W.cell? ⟨g, i + 1, none⟩ = some (.string nm) ∧ W.cell? ⟨g, i + 2, none⟩ = some (.bool false) ∧ W.cell? ⟨g, i + 3, none⟩ = some (.int .i64 d) ∧ Below W0.heap.size W0 W) (hb : Below W.heap.size W W') :
    W'.cell? ⟨g, i + 1, none⟩ = some (.string nm) ∧ W'.cell? ⟨g, i + 2, none⟩ = some (.bool false) ∧ W'.cell? ⟨g, i + 3, none⟩ = some (.int .i64 d) ∧ Below W0.heap.size W0 W' :=
  ⟨(hb.cell (cellLt h.1)).trans h.1, (hb.cell (cellLt h.2.1)).trans h.2.1, (hb.cell (cellLt h.2.2.1)).trans h.2.2.1, chainB h.2.2.2 hb⟩
set_option maxRecDepth 20000 in
set_option maxHeartbeats 16000000 in
theorem walk_TreeHangs (a : Option Addr) (cap : Nat) (ops : List Opn) (w : World) (row : RowOps w a ops) (hlen : ops.length ≤ 3000000000000) :
    Calls Try.prog 8 #[.slice a ops.length cap] w fun e w' => e = .returned (.bool true) ∧ Below w.heap.size w w' := by
  have HBe : Hid (Calls Try.prog 25 #[.slice a ops.length cap] w fun e w' => ∃ t s, e = .returned (.tuple #[.pointer (some ⟨t, 0, none⟩), .bool true]) ∧ Law w w' t s ops.length) := (behind_p a cap ops w row hlen).mono fun _ _ h => Law.of h
  have HAw : Hid (∀ w, Calls Try.prog 11 #[] w fun e w' => e = .returned (.bool true) ∧ Below w.heap.size w w') := awake_p
  clear row
  go_enter Try.func8, Try.ntmps8
  go_upto_region 5 with (first
    | (go_at_call 25; refine HBe.out.mono ?_; rintro x w1 ⟨t, s, rfl, hL⟩; have H1 : Hid (Law w w1 t s ops.length) := hL; clear hL)
    | (go_at_call 26; refine (dump_p t s _ H1.out.own.is).mono ?_; rintro x w2 ⟨v2, rfl, hr2, hb2⟩; have H2 : Hid (Law w w2 t s ops.length ∧ Lst w.heap.size w2 s v2 s.es) := ⟨H1.out.below hb2, Lst.of H1.out.own.is hr2 H1.out.bel.size⟩; clear hr2 hb2))
  obtain ⟨n, hn⟩ : ∃ n, s.es.length = n := ⟨_, rfl⟩
  obtain ⟨a2, c2, hv2⟩ := owns_len H2.out.2.row
  rw [hn] at hv2
  subst hv2
  have hn47 : n ≤ 47 := by rw [← hn]; exact H2.out.1.good.wf.len
  have HC : Hid (∀ W, IsP W t s → Calls Try.prog 29 #[.pointer (some ⟨t, 0, none⟩)] W fun e w' => e = .returned (.int .i64 ((n : Int) + 1)) ∧ W = w') := fun W h => by rw [← hn]; exact (count_p t s W h).mono fun _ _ h => ⟨h.1, h.2.symm⟩
  have HR : Hid (Law w w2 t s ops.length ∧ Row7 w2 w.heap.size (.slice a2 n c2) s.es ∧ s.es.length = n) := ⟨H2.out.1, H2.out.2.row, hn⟩
  clear hn
  go_upto_region 7 with (go_at_call 29; refine (HC.out _ HR.out.1.own.is).mono ?_; rintro x w3 ⟨rfl, rfl⟩)
  clear HC HBe H1 H2
  go_wp2
  go_loopw [6] (fun i wr => ∃ k : Nat, k ≤ n ∧ i = .int .i64 k ∧ Below w2.heap.size w2 wr) (fun i _ => n - (intOf i).toNat)
  case atStart => exact ⟨0, Nat.zero_le _, rfl, Below.refl _ _⟩
  case round =>
    obtain ⟨k, hk, rfl, hb⟩ := hrel
    have HB : Hid (Below w2.heap.size w2 wr) := hb
    clear hb
    by_cases hkn : k < n
    · obtain ⟨e, he⟩ : ∃ x, s.es[k]? = some x := ⟨_, List.getElem?_eq_getElem (by rw [HR.out.2.2]; exact hkn)⟩
      obtain ⟨g, rfl, -, -, hg, hc, -⟩ := owns_entry HR.out.2.1 he
      have hem := List.mem_of_getElem? he
      have hwf := HR.out.1.good.wf
      have hid := hwf.ids e hem
      have hng := hwf.neg e hem
      obtain ⟨j, hj⟩ : ∃ j : Nat, e.id = (j : Int) + 2 := ⟨(e.id - 2).toNat, by omega⟩
      have hfi := find_here hwf hem
      have hck := hwf.chk e hem
      have hha := hwf.hang e hem
      have hdi := hha.dir hwf
      obtain ⟨mh, hmh⟩ := hha
      have hml := hmh.le hwf
      rw [HR.out.2.2] at hml
      obtain ⟨j0, hj0⟩ := list_here hem
      obtain ⟨e0, e1, e2, e3, e4, e5, e6⟩ := e
      simp only [En.agg] at hid hng hj hfi hck hdi hmh hj0
      subst hng hj
      have HU : Hid ((⟨e0, e1, false, (j : Int) + 2, e4, e5, e6⟩ : En) ∈ s.es ∧ Cells7 w2 g (k * 7) ⟨e0, e1, false, (j : Int) + 2, e4, e5, e6⟩ ∧ (listL s.es e0)[j0]? = some ⟨e0, e1, false, (j : Int) + 2, e4, e5, e6⟩ ∧ HangsN s.es mh e0) := ⟨hem, hc, hj0, hmh⟩
      have HCk : Hid (∀ w, Calls Try.prog 32 #[.string e1] w fun x w' => x = .returned (.int .i64 0) ∧ Below w.heap.size w w') := fun w => by have := check_any e1 w; rw [show chkE e1 = 0 from hck] at this; exact this
      have HNx : Hid (∀ W, IsP W t s → Calls Try.prog 28 #[.pointer (some ⟨t, 0, none⟩)] W fun e w' => e = .returned (.int .i64 s.next) ∧ W = w') := fun W h => (next_p t s W h).mono fun _ _ h => ⟨h.1, h.2.symm⟩
      have HFi : Hid (∀ W, IsP W t s → Calls Try.prog 16 #[.pointer (some ⟨t, 0, none⟩), .int .i64 ((j : Int) + 2)] W fun x w' => x = .returned (.tuple #[.agg #[.int .i64 e0, .string e1, .bool false, .int .i64 ((j : Int) + 2), .int .i64 e4, .int .i64 e5, .string e6], .int .i64 0]) ∧ Below W.heap.size W w') := fun W h => by have := find_p t s ((j : Int) + 2) W h; rw [hfi] at this; exact this
      have HLi : Hid (∀ W, IsP W t s → Calls Try.prog 14 #[.pointer (some ⟨t, 0, none⟩), .int .i64 e0] W fun x w' => ∃ v', x = .returned (.tuple #[v', .int .i64 0]) ∧ Row7 w' W.heap.size v' (listL s.es e0) ∧ Below W.heap.size W w') := fun W h => by have := list_p t s e0 W h; rw [show listR s.es e0 = listL s.es e0 by unfold listR; rw [if_pos hdi], hdi] at this; exact this
      have hki : (k : Int) < (n : Int) := by omega
      have hcr := hc.below HB.out
      have x1 := hcr.c1
      have x2 := hcr.c2
      have x3 := hcr.c3
      have hi2 : ¬ s.next ≤ (j : Int) + 2 := by omega
      have hbd' : Below w2.heap.size w2 wr.drew := HB.out.drew
      clear hc hcr he hem hwf hid hfi hck hdi hmh hj0
      go_upto_region 10 with fail
      have k0 : wr.drew.cell? ⟨g, k * 7 + 1, none⟩ = some (.string e1) ∧ wr.drew.cell? ⟨g, k * 7 + 2, none⟩ = some (.bool false) ∧ wr.drew.cell? ⟨g, k * 7 + 3, none⟩ = some (.int .i64 ((j : Int) + 2)) ∧ Below w2.heap.size w2 wr.drew := ⟨x1, x2, x3, hbd'⟩
      go_region_held3 (fun w' => w'.cell? ⟨g, k * 7 + 1, none⟩ = some (.string e1) ∧ w'.cell? ⟨g, k * 7 + 2, none⟩ = some (.bool false) ∧ w'.cell? ⟨g, k * 7 + 3, none⟩ = some (.int .i64 ((j : Int) + 2)) ∧ Below w2.heap.size w2 w')
        (with_reducible first | exact k0 | exact hK3)
        (first
          | (go_at_call 32; refine (HCk.out _).mono ?_; rintro x w3 ⟨rfl, hb3⟩; have hK3 := hg_keep k0 hb3)
          | (go_at_call 28; refine (HNx.out _ (HR.out.1.own.is.below hK3.2.2.2)).mono ?_; rintro x w4 ⟨rfl, rfl⟩))
      have H3 : Hid (Below w2.heap.size w2 w3) := hK3.2.2.2
      have y3 := hK3.2.2.1
      clear k0 hK3 hb3 x1 x2 x3 hbd' HCk HNx
      go_upto_region 13 with (go_at_call 16; refine (HFi.out _ (HR.out.1.own.is.below H3.out)).mono ?_; rintro x w5 ⟨rfl, hb5⟩)
      obtain ⟨w6, hw6⟩ : ∃ x, w5.alloc (.cells #[.int .i64 e0, .string e1, .bool false, .int .i64 ((j : Int) + 2), .int .i64 e4, .int .i64 e5, .string e6] 35) = x := ⟨_, rfl⟩
      have hb6 : Below w2.heap.size w2 w6 := by rw [← hw6]; exact chainB (chainB H3.out hb5) (below_alloc _ _)
      have hx6 : w6.heap[w5.heap.size]? = some (.cells #[.int .i64 e0, .string e1, .bool false, .int .i64 ((j : Int) + 2), .int .i64 e4, .int .i64 e5, .string e6] 35 (0, 0)) := by rw [← hw6]; exact heap_new _ _
      rw [hw6]
      have H6 : Hid (Below w2.heap.size w2 w6) := hb6
      have hc6 := HU.out.2.1.below hb6
      have d0 := cell_of hx6 0
      have d1 := cell_of hx6 1
      have d2 := cell_of hx6 2
      have d3 := cell_of hx6 3
      have d4 := cell_of hx6 4
      have d5 := cell_of hx6 5
      have d6 := cell_of hx6 6
      simp at d0 d1 d2 d3 d4 d5 d6
      have y0 := hc6.c0
      have y1 := hc6.c1
      have y2 := hc6.c2
      have y3 := hc6.c3
      have y4 := hc6.c4
      have y5 := hc6.c5
      have y6 := hc6.c6
      have heq : eqEn ⟨e0, e1, false, (j : Int) + 2, e4, e5, e6⟩ ⟨e0, e1, false, (j : Int) + 2, e4, e5, e6⟩ = true := (eqEn_iff _ _).2 rfl
      clear hw6 hb6 hx6 hc6 hb5 H3 HFi
      go_quiet (fail)
      obtain ⟨w7, hw7⟩ : ∃ x, w6.drewN nq = x := ⟨_, rfl⟩
      have hb7 : Below w2.heap.size w2 w7 := by rw [← hw7]; exact below_drewN H6.out _
      rw [hw7]
      have H7 : Hid (Below w2.heap.size w2 w7) := hb7
      have z0 := (HU.out.2.1.below hb7).c0
      clear hw7 hb7 d0 d1 d2 d3 d4 d5 d6 y0 y1 y2 y3 y4 y5 y6 heq
      go_wp2
      go_loopw [9, 10] (fun d i wr => ∃ (q : Nat) (D : Int) (m : Nat), d = .int .i64 D ∧ i = .int .i64 q ∧ HangsN s.es m D ∧ q + m ≤ n ∧ Below w2.heap.size w2 wr) (fun _ i _ => n - (intOf i).toNat)
      case atStart => exact ⟨0, e0, mh, rfl, rfl, HU.out.2.2.2, by omega, H7.out⟩
      case round =>
        obtain ⟨q, D, m, rfl, rfl, hD, hqm, hb⟩ := hrel
        have HB8 : Hid (Below w2.heap.size w2 wr) := hb
        clear hb
        by_cases hD1 : D = 1
        · subst hD1
          have z0 := (HU.out.2.1.below HB8.out).c0
          go_upto_region 24 with (go_at_call 14; refine (HLi.out _ (HR.out.1.own.is.below HB8.out)).mono ?_; rintro x w9 ⟨v9, rfl, hr9, hb9⟩)
          obtain ⟨N, hN⟩ : ∃ N, (listL s.es e0).length = N := ⟨_, rfl⟩
          obtain ⟨a9, c9, hv9⟩ := owns_len hr9
          rw [hN] at hv9
          subst hv9
          have hN47 : N ≤ 47 := by rw [← hN]; have := listL_le s.es e0; rw [HR.out.2.2] at this; omega
          have hj0 : j0 < N := by rw [← hN]; exact (List.getElem?_eq_some_iff.1 HU.out.2.2.1).1
          have H9 : Hid (Row7 w9 wr.heap.size (.slice a9 N c9) (listL s.es e0) ∧ (listL s.es e0).length = N ∧ Below w2.heap.size w2 w9) := ⟨hr9, hN, chainB HB8.out hb9⟩
          clear hr9 hN hb9 z0 hD
          go_wp2
          go_loopw [15, 16] (fun f i wr => ∃ (q : Nat) (b : Bool), q ≤ N ∧ f = .bool b ∧ i = .int .i64 q ∧ (b = false → q ≤ j0) ∧ Below w9.heap.size w9 wr) (fun _ i _ => N - (intOf i).toNat)
          case atStart => exact ⟨0, false, Nat.zero_le _, rfl, rfl, fun _ => Nat.zero_le _, Below.refl _ _⟩
          case round =>
            obtain ⟨q, b, hq, rfl, rfl, hbq, hb⟩ := hrel
            have HB9 : Hid (Below w9.heap.size w9 wr) := hb
            have HQ : Hid (b = false → q ≤ j0) := hbq
            clear hb hbq
            by_cases hqN : q < N
            · obtain ⟨x, hx⟩ : ∃ x, (listL s.es e0)[q]? = some x := ⟨_, List.getElem?_eq_getElem (by rw [H9.out.2.1]; exact hqN)⟩
              obtain ⟨g9, rfl, -, -, -, hc9, -⟩ := owns_entry H9.out.1 hx
              have hxd := (listL_mem.1 (List.mem_of_getElem? hx)).2
              have hce := HU.out.2.1.below (chainB H9.out.2.2 HB9.out)
              have hcx := hc9.below HB9.out
              obtain ⟨x0, x1, x2, x3, x4, x5, x6⟩ := x
              simp only at hxd
              subst hxd
              have HX : Hid (Cells7 w9 g9 (q * 7) ⟨x0, x1, x2, x3, x4, x5, x6⟩ ∧ (listL s.es x0)[q]? = some ⟨x0, x1, x2, x3, x4, x5, x6⟩) := ⟨hc9, hx⟩
              have hqi : (q : Int) < (N : Int) := by omega
              clear hx hc9
              cases hbb : b with
              | true =>
                subst hbb
                have HQ' : Hid (true = false → q + 1 ≤ j0) := fun h => by cases h
                clear hce hcx
                go_upto_region 28 with fail
                go_quiet (fail)
                obtain ⟨wA, hwA⟩ : ∃ x, wr.drewN nq = x := ⟨_, rfl⟩
                have hbA : Below w9.heap.size w9 wA := by rw [← hwA]; exact below_drewN HB9.out _
                rw [hwA]
                have HA : Hid (Below w9.heap.size w9 wA) := hbA
                have v0 := (HX.out.1.below hbA).c0
                have v1 := (HX.out.1.below hbA).c1
                have r0 := (HU.out.2.1.below (chainB H9.out.2.2 hbA)).c0
                clear hwA hbA
                go_upto_region 29 with fail
                cases q with
                | zero =>
                  go_quiet (fail)
                  go_wp2
                  exact ⟨⟨0 + 1, true, by omega, rfl, by simp, fun h => HQ'.out h, below_drewN HA.out _⟩, by simp [intOf]; omega⟩
                | succ p =>
                  obtain ⟨y, hy⟩ : ∃ y, (listL s.es x0)[p]? = some y := ⟨_, List.getElem?_eq_getElem (by rw [H9.out.2.1]; omega)⟩
                  have hless := list_next HR.out.1.good.wf.rises hy HX.out.2
                  obtain ⟨gy, hgy, -, -, -, hcy, -⟩ := owns_entry H9.out.1 hy
                  cases hgy
                  have p1 := (hcy.below HA.out).c1
                  have hcp : (((p + 1 : Nat)) : Int) = (p : Int) + 1 := by omega
                  have hp0 : (0 : Int) < (p : Int) + 1 := by omega
                  rw [hcp]
                  clear hy hcy hcp
                  go_quiet (fail)
                  go_wp2
                  exact ⟨⟨p + 1 + 1, true, by omega, rfl, by simp, fun h => HQ'.out h, below_drewN HA.out _⟩, by simp [intOf]; omega⟩
              | false =>
                subst hbb
                have c0 := hcx.c0
                have c1 := hcx.c1
                have c2' := hcx.c2
                have c3 := hcx.c3
                have c4 := hcx.c4
                have c5 := hcx.c5
                have c6 := hcx.c6
                have f0 := hce.c0
                have f1 := hce.c1
                have f2 := hce.c2
                have f3 := hce.c3
                have f4 := hce.c4
                have f5 := hce.c5
                have f6 := hce.c6
                obtain ⟨B, hB⟩ : ∃ B, eqEn ⟨x0, x1, x2, x3, x4, x5, x6⟩ ⟨x0, e1, false, (j : Int) + 2, e4, e5, e6⟩ = B := ⟨_, rfl⟩
                have HQ' : Hid (B = false → q + 1 ≤ j0) := fun h => by
                  have h1 := HQ.out rfl
                  have h2 : q ≠ j0 := fun hh => by
                    subst hh
                    have := HX.out.2.symm.trans HU.out.2.2.1
                    rw [Option.some.inj this, (eqEn_iff _ _).2 rfl] at hB
                    rw [h] at hB; cases hB
                  omega
                clear hce hcx
                go_upto_region 28 with fail
                go_quiet (fail)
                clear c0 c1 c2' c3 c4 c5 c6 f0 f1 f2 f3 f4 f5 f6 hB
                obtain ⟨wA, hwA⟩ : ∃ x, wr.drewN nq = x := ⟨_, rfl⟩
                have hbA : Below w9.heap.size w9 wA := by rw [← hwA]; exact below_drewN HB9.out _
                rw [hwA]
                have HA : Hid (Below w9.heap.size w9 wA) := hbA
                have v0 := (HX.out.1.below hbA).c0
                have v1 := (HX.out.1.below hbA).c1
                have r0 := (HU.out.2.1.below (chainB H9.out.2.2 hbA)).c0
                clear hwA hbA
                go_upto_region 29 with fail
                cases q with
                | zero =>
                  go_quiet (fail)
                  go_wp2
                  exact ⟨⟨0 + 1, B, by omega, rfl, by simp, fun h => HQ'.out h, below_drewN HA.out _⟩, by simp [intOf]; omega⟩
                | succ p =>
                  obtain ⟨y, hy⟩ : ∃ y, (listL s.es x0)[p]? = some y := ⟨_, List.getElem?_eq_getElem (by rw [H9.out.2.1]; omega)⟩
                  have hless := list_next HR.out.1.good.wf.rises hy HX.out.2
                  obtain ⟨gy, hgy, -, -, -, hcy, -⟩ := owns_entry H9.out.1 hy
                  cases hgy
                  have p1 := (hcy.below HA.out).c1
                  have hcp : (((p + 1 : Nat)) : Int) = (p : Int) + 1 := by omega
                  have hp0 : (0 : Int) < (p : Int) + 1 := by omega
                  rw [hcp]
                  clear hy hcy hcp
                  go_quiet (fail)
                  go_wp2
                  exact ⟨⟨p + 1 + 1, B, by omega, rfl, by simp, fun h => HQ'.out h, below_drewN HA.out _⟩, by simp [intOf]; omega⟩
            · have hqN' : q = N := by omega
              subst hqN'
              have hbt : b = true := by
                cases hbb : b with
                | true => rfl
                | false => exact absurd (HQ.out hbb) (by omega)
              subst hbt
              go_wp2
              exact ⟨⟨k + 1, by omega, by simp, chainB H9.out.2.2 HB9.out⟩, by simp [intOf]; omega⟩
        · obtain ⟨e', m', rfl, hem', hk', hi', hm', hf'⟩ := hangs_up HR.out.1.good.wf hD hD1
          have HF' : Hid (∀ W, IsP W t s → Calls Try.prog 16 #[.pointer (some ⟨t, 0, none⟩), .int .i64 D] W fun x w' => x = .returned (.tuple #[.agg #[.int .i64 e'.d, .string e'.nm, .bool e'.neg, .int .i64 e'.id, .int .i64 1, .int .i64 e'.mode, .string e'.tg], .int .i64 0]) ∧ Below W.heap.size W w') := fun W h => by have := find_p t s D W h; rw [hf'] at this; unfold En.agg at this; rw [hk'] at this; exact this
          have hD1b : (D != 1) = true := by simpa using hD1
          have HM : Hid (HangsN s.es m' e'.d) := hm'
          have hqn1 : ¬ (n : Int) < (q : Int) := by omega
          clear hem' hk' hi' hf' hD hD1 hm'
          go_upto_region 20 with (go_at_call 16; refine (HF'.out _ (HR.out.1.own.is.below HB8.out)).mono ?_; rintro x w9 ⟨rfl, hb9⟩)
          obtain ⟨w10, hw10⟩ : ∃ x, w9.alloc (.cells #[.int .i64 e'.d, .string e'.nm, .bool e'.neg, .int .i64 e'.id, .int .i64 1, .int .i64 e'.mode, .string e'.tg] 35) = x := ⟨_, rfl⟩
          have hb10 : Below w2.heap.size w2 w10 := by rw [← hw10]; exact chainB (chainB HB8.out hb9) (below_alloc _ _)
          have hx10 : w10.heap[w9.heap.size]? = some (.cells #[.int .i64 e'.d, .string e'.nm, .bool e'.neg, .int .i64 e'.id, .int .i64 1, .int .i64 e'.mode, .string e'.tg] 35 (0, 0)) := by rw [← hw10]; exact heap_new _ _
          rw [hw10]
          have d0 := cell_of hx10 0
          have d4 := cell_of hx10 4
          simp at d0 d4
          have H10 : Hid (Below w2.heap.size w2 w10) := hb10
          clear hw10 hb10 hx10 hb9
          go_wp2
          exact ⟨⟨q + 1, e'.d, m', rfl, by simp, HM.out, by omega, H10.out⟩, by simp [intOf]; omega⟩
    · have hkn' : k = n := by omega
      subst hkn'
      go_wp2_with (go_at_call 11; refine (HAw.out _).mono ?_; rintro x w12 ⟨rfl, hb12⟩)
      go_ret
      exact ⟨rfl, chainB (chainB HR.out.1.bel HB.out) hb12⟩
end Go.Proofs.Ytjkgafbknjpjbaa
