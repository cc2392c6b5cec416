/- The walk of the law TreeKeys: it returns true. -/
import Derived.Test.YtjkgafbknjpjbaaTqV
import Derived.Test.YtjkgafbknjpjbaaTqK
import Derived.Test.YtjkgafbknjpjbaaTpX
namespace Go.Proofs.Ytjkgafbknjpjbaa
open Go.RowKit
attribute [local go_sem high] eqK' neqK' eqE neqE eqN neqN guardK guardE guardN

set_option maxRecDepth 20000 in
set_option maxHeartbeats 16000000 in
theorem walk_TreeKeys (a : Option Addr) (cap : Nat) (ops : List Opn) (w : World) (row : RowOps w a ops) (hlen : ops.length ≤ 3000000000000) :
    Calls Try.prog 7 #[.slice a ops.length cap] w fun e w' => e = .returned (.bool true) ∧ Below w.heap.size w w' := by
  have HAw : Hid (∀ w, Calls Try.prog 11 #[] w fun e w' => e = .returned (.bool true) ∧ Below w.heap.size w w') := awake_p
  obtain ⟨n, hn⟩ : ∃ n, ops.length = n := ⟨_, rfl⟩
  rw [hn] at hlen ⊢
  have H : Hid (RowOps w a ops ∧ ops.length = n) := ⟨row, hn⟩
  clear row hn
  go_enter Try.func7, Try.ntmps7
  go_wp2_with (go_at_call 30; refine (new_p _).mono ?_; rintro x w1 ⟨rfl, hi1, hb1⟩)
  have H1 : Hid (Law w w1 w.heap.size emptyT 0) := ⟨⟨hi1, Nat.le_refl _, fun q hq => by cases hq⟩, hb1, Good.new Mn⟩
  clear hi1 hb1
  go_loopw [4, 5] (fun u i wr => ∃ (k : Nat) (s : Tr), k ≤ n ∧ u = .int .i64 s.vers ∧ i = .int .i64 k ∧ Hid (Law w wr w.heap.size s k)) (fun _ i _ => n - (intOf i).toNat)
  case atStart => exact ⟨0, emptyT, Nat.zero_le _, rfl, rfl, H1.out⟩
  case round =>
    obtain ⟨k, s, hk, rfl, rfl, hI⟩ := hrel
    by_cases hkn : k < n
    · obtain ⟨o, ho⟩ : ∃ o, ops[k]? = some o := ⟨_, List.getElem?_eq_getElem (by rw [H.out.2]; exact hkn)⟩
      rcases H.out.1 with h0 | ⟨b, off, rfl, hbl, hcs⟩
      · rw [h0] at ho; simp at ho
      · have HOc : Hid (CellsO w b (off + k * 7) o ∧ b < w.heap.size) := ⟨hcs k o ho, hbl⟩
        have hki : (k : Int) < (n : Int) := by omega
        obtain ⟨E, hE⟩ : ∃ x, doesE Mn s o = x := ⟨_, rfl⟩
        have HO : Hid (doesE Mn s o = E) := hE
        have hv0 := hI.out.good.v0
        have hv1 := hI.out.good.v1
        clear ho hcs hE
        go_upto_region 10 with (first
          | (go_at_call 26; refine (dump_p _ s _ hI.out.own.is).mono ?_; rintro x w2 ⟨v2, rfl, hr2, hb2⟩; have H2 : Hid (Law w w2 w.heap.size s k ∧ Lst w.heap.size w2 s v2 s.es) := ⟨hI.out.below hb2, Lst.of hI.out.own.is hr2 hI.out.bel.size⟩; clear hr2 hb2)
          | (go_at_call 28; refine (next_p _ s _ H2.out.1.own.is).mono ?_; rintro x w3 ⟨rfl, rfl⟩))
        have hc := HOc.out.1.below HOc.out.2 H2.out.1.bel
        have x0 := hc.c0
        have x1 := hc.c1
        have x2 := hc.c2
        have x3 := hc.c3
        have x4 := hc.c4
        have x5 := hc.c5
        have x6 := hc.c6
        have HAp : Hid (Calls Try.prog 22 #[.pointer (some ⟨w.heap.size, 0, none⟩), .agg #[.int .i64 o.kind, .int .i64 o.dir, .string o.nm, .int .i64 o.dst, .string o.new, .int .i64 o.mode, .string o.tg]] w3 fun e w' => ∃ v kv s', e = .returned (.tuple #[v, kv, .int .i64 E]) ∧ Hid (Did w w' w.heap.size s s' k o v kv ∧ Row7 w' w.heap.size v2 s.es)) := (H2.out.1.apply o (by omega)).mono fun e w' hh => by
          obtain ⟨v, kv, s', he, hd, hps⟩ := H2.out.1.did hh
          exact ⟨v, kv, s', by rw [← HO.out]; exact he, hd, (H2.out.2.step H2.out.1.own.is hps).row⟩
        go_upto_region 11 with (go_at_call 22; refine HAp.out.mono ?_; rintro x w7 ⟨v7, k7, s7, rfl, h7⟩)
        clear x0 x1 x2 x3 x4 x5 x6 HAp hc
        by_cases hz : E = 0
        · subst hz
          have hst := h7.out.1.step.yes HO.out
          have hd := deed hI.out.good.wf HO.out
          have hrow := h7.out.1.told.row
          unfold toldE at hrow
          rw [HO.out, if_pos rfl] at hrow
          have hkey := h7.out.1.keys
          unfold toldK at hkey
          rw [HO.out, if_pos rfl] at hkey
          obtain ⟨a7, c7, hv7⟩ := owns_len hrow
          obtain ⟨a8, c8, hk8⟩ := owns_len hkey
          subst hv7 hk8
          obtain ⟨m, hm⟩ : ∃ m, (keysL o).length = m := ⟨_, rfl⟩
          have hm2 : (tellL s o).length = m := (keys_len hd).symm.trans hm
          have hm1 : m ≠ 0 := fun h => tell_some hd (List.length_eq_zero_iff.1 (hm2.trans h))
          have hmx : m ≤ 2 := by rw [← hm]; exact keys_few o
          rw [hm, hm2]
          have HD : Hid (Law w w7 w.heap.size s7 ((k : Int) + 1) ∧ Row7 w7 w.heap.size (.slice a7 m c7) (tellL s o) ∧ RowK w7 w.heap.size (.slice a8 m c8) (keysL o) ∧ Row7 w7 w.heap.size v2 s.es ∧ s7.es = srt (doesL s o) ∧ withoutL s7.es (keysL o) = withoutL s.es (keysL o) ∧ s.es.length ≤ 47 ∧ (withoutL s.es (keysL o)).length ≤ 47 ∧ s7.vers = s.vers + 1 ∧ s7.es.length ≤ 47) := ⟨h7.out.1.law, by rw [← hm2]; exact hrow, by rw [← hm]; exact hkey, h7.out.2, hst.1, by rw [hst.1]; exact without_same hI.out.good.wf hd, hI.out.good.wf.len, Nat.le_trans (withoutL_le _ _) hI.out.good.wf.len, hst.2.1, h7.out.1.law.good.wf.len⟩
          have HM : Hid ((keysL o).length = m ∧ (tellL s o).length = m ∧ Deed Mn s o) := ⟨hm, hm2, hd⟩
          have HVe : Hid (Calls Try.prog 27 #[.pointer (some ⟨w.heap.size, 0, none⟩)] w7 fun e w' => e = .returned (.int .i64 (s.vers + 1)) ∧ w7 = w') := by have := version_p w.heap.size s7 w7 HD.out.1.own.is; rw [HD.out.2.2.2.2.2.2.2.2.1] at this; exact this.mono fun _ _ h => ⟨h.1, h.2.symm⟩
          have hmb : ((m : Int) == 0) = false := by simp; omega
          clear hst hd hrow hkey hm hm2
          go_upto_region 17 with (first
            | (go_at_call 27; refine HVe.out.mono ?_; rintro x w8 ⟨rfl, rfl⟩)
            | (go_at_call 26; refine (dump_p _ s7 _ HD.out.1.own.is).mono ?_; rintro x w9 ⟨v9, rfl, hr9, hb9⟩)
            | (go_at_call 31; refine (without_p v2 (.slice a8 m c8) s.es (keysL o) _ _ _ (HD.out.2.2.2.1.below (chainB hb9 hb10)) (HD.out.2.2.1.below (chainB hb9 hb10)) (by have := HD.out.2.2.2.2.2.2.1; omega) (by rw [HM.out.1]; omega)).mono ?_; rintro x w11 ⟨v11, rfl, hr11, hb11⟩)
            | (go_at_call 31; refine (without_p v9 (.slice a8 m c8) s7.es (keysL o) _ _ _ hr9 (HD.out.2.2.1.below hb9) (by have := HD.out.2.2.2.2.2.2.2.2.2; omega) (by rw [HM.out.1]; omega)).mono ?_; rintro x w10 ⟨v10, rfl, hr10, hb10⟩; rw [HD.out.2.2.2.2.2.1] at hr10)
            | (go_at_call 18; refine (same_yes (hr10.below hb11) hr11 (by have := HD.out.2.2.2.2.2.2.2.1; omega)).mono ?_; rintro x w12 ⟨rfl, hb12⟩))
          have H12 : Hid (Below w7.heap.size w7 w12) := chainB (chainB (chainB hb9 hb10) hb11) hb12
          clear hr9 hb9 hr10 hb10 hr11 hb11 hb12 HVe
          go_wp2
          go_loopw [11] (fun i wr => ∃ j : Nat, j ≤ m ∧ i = .int .i64 j ∧ Below w7.heap.size w7 wr) (fun i _ => m - (intOf i).toNat)
          case atStart => exact ⟨0, Nat.zero_le _, rfl, H12.out⟩
          case round =>
            obtain ⟨j, hj, rfl, hb⟩ := hrel
            have HB : Hid (Below w7.heap.size w7 wr) := hb
            clear hb
            by_cases hlt : j < m
            · obtain ⟨p, hp⟩ : ∃ x, (keysL o)[j]? = some x := ⟨_, List.getElem?_eq_getElem (by rw [HM.out.1]; exact hlt)⟩
              obtain ⟨e, hx, hxm, hpd, hpn⟩ := keys_at HM.out.2.2 hp
              obtain ⟨g, rfl, -, -, u0, u1, -⟩ := HD.out.2.2.1.key hp
              obtain ⟨g7, rfl, -, -, -, hc7, -⟩ := owns_entry HD.out.2.1 hx
              rw [hpd] at u0
              rw [hpn] at u1
              have htl := told_look hI.out.good.wf HM.out.2.2 hxm
              rw [← HD.out.2.2.2.2.1] at htl
              obtain ⟨f, F, hF, hf, HLv⟩ := Look_q Mn nmsP w.heap.size s7 e.d e.nm
              rw [htl.1] at hF
              subst hF
              have hfe : f = e := by rw [hf rfl]; exact htl.2
              subst hfe
              have hji : (j : Int) < (m : Int) := by omega
              have u0' := (HB.out.cell (cellLt u0)).trans u0
              have u1' := (HB.out.cell (cellLt u1)).trans u1
              have HU : Hid (Cells7 w7 g7 (j * 7) f ∧ (w7.cell? ⟨g, j * 2, none⟩ = some (.int .i64 f.d) ∧ w7.cell? ⟨g, j * 2 + 1, none⟩ = some (.string f.nm))) := ⟨hc7, u0, u1⟩
              clear hp hx hxm hpd hpn htl hf u0 u1 hc7
              go_upto_region 20 with fail
              have HGd : Hid (g ≠ wr.heap.size) := (Nat.ne_of_lt (cellLt u0') : g ≠ wr.heap.size)
              have HWd : Hid (w7.heap.size ≤ wr.heap.size) := HB.out.size
              have hbd' : Below w7.heap.size w7 wr.drew := HB.out.drew
              have hbA : ∀ o, Below w7.heap.size w7 (wr.alloc o).drew := fun o => (chainB HB.out (below_alloc _ _)).drew
              have k0 : wr.drew.cell? ⟨g, j * 2, none⟩ = some (.int .i64 f.d) ∧ wr.drew.cell? ⟨g, j * 2 + 1, none⟩ = some (.string f.nm) ∧ Below w7.heap.size w7 wr.drew := ⟨u0', u1', hbd'⟩
              have kA : ∀ o, (wr.alloc o).drew.cell? ⟨g, j * 2, none⟩ = some (.int .i64 f.d) ∧ (wr.alloc o).drew.cell? ⟨g, j * 2 + 1, none⟩ = some (.string f.nm) ∧ Below w7.heap.size w7 (wr.alloc o).drew := fun o => mv_keep (W := wr) ⟨u0', u1', HB.out⟩ (below_alloc wr o).drew
              go_region_held3 (fun w' => w'.cell? ⟨g, j * 2, none⟩ = some (.int .i64 f.d) ∧ w'.cell? ⟨g, j * 2 + 1, none⟩ = some (.string f.nm) ∧ Below w7.heap.size w7 w')
                (with_reducible first | exact k0 | exact kA _ | exact hK12 | exact hP2 | exact mv_keep hK12 (below_alloc _ _))
                (first
                  | (go_at_call 12; refine (HLv.out _ (HD.out.1.own.is.below hbd')).mono ?_; rintro x w12 ⟨rfl, hb12⟩; have hK12 := mv_keep k0 hb12)
                  | (go_at_call 12; refine (HLv.out _ (HD.out.1.own.is.below (hbA _))).mono ?_; rintro x w12 ⟨rfl, hb12⟩; have hK12 := mv_keep (kA _) hb12; have hbx2 := (hb12.block wr.heap.size (by simp)).trans (heap_new wr _); have zf := free_of hbx2; have z0 := cell_of hbx2 0; have z1 := cell_of hbx2 1; have z2 := cell_of hbx2 2; have z3 := cell_of hbx2 3; have z4 := cell_of hbx2 4; have z5 := cell_of hbx2 5; have z6 := cell_of hbx2 6; simp at z0 z1 z2 z3 z4 z5 z6; have hP2 := mv_put (b := wr.heap.size) (e := f) hK12 HGd.out HWd.out; unfold put7 at hP2))
              · obtain ⟨w13, hw13⟩ : ∃ x, w12.alloc (.cells #[.int .i64 f.d, .string f.nm, .bool f.neg, .int .i64 f.id, .int .i64 f.kind, .int .i64 f.mode, .string f.tg] 35) = x := ⟨_, rfl⟩
                have hb13 : Below w7.heap.size w7 w13 := by rw [← hw13]; exact (mv_keep hK12 (below_alloc _ _)).2.2
                have hv13 : w13.heap[w12.heap.size]? = some (.cells #[.int .i64 f.d, .string f.nm, .bool f.neg, .int .i64 f.id, .int .i64 f.kind, .int .i64 f.mode, .string f.tg] 35 (0, 0)) := by rw [← hw13]; exact heap_new _ _
                rw [hw13]
                clear hw13
                have hc13 := HU.out.1.below hb13
                have r0 := (hb13.cell (cellLt HU.out.2.1)).trans HU.out.2.1
                have r1 := (hb13.cell (cellLt HU.out.2.2)).trans HU.out.2.2
                have HB13 : Hid (Below w7.heap.size w7 w13) := hb13
                clear k0 kA hbA hbd' u0' u1' HGd HWd HLv hK12 hb12
                obtain ⟨e0, e1, e2, e3, e4, e5, e6⟩ := f
                have d0 := cell_of hv13 0
                have d1 := cell_of hv13 1
                have d2 := cell_of hv13 2
                have d3 := cell_of hv13 3
                have d4 := cell_of hv13 4
                have d5 := cell_of hv13 5
                have d6 := cell_of hv13 6
                simp at d0 d1 d2 d3 d4 d5 d6
                have y0 := hc13.c0
                have y1 := hc13.c1
                have y2 := hc13.c2
                have y3 := hc13.c3
                have y4 := hc13.c4
                have y5 := hc13.c5
                have y6 := hc13.c6
                have heq : eqEn ⟨e0, e1, e2, e3, e4, e5, e6⟩ ⟨e0, e1, e2, e3, e4, e5, e6⟩ = true := (eqEn_iff _ _).2 rfl
                have hky : eqKy e0 e1 e0 e1 = true := by simp [eqKy]
                clear hc13 hv13 hb13
                go_upto_region 21 with fail
                go_quiet (fail)
                go_wp2
                exact ⟨⟨j + 1, by omega, by simp, below_drewN HB13.out _⟩, by simp [intOf]; omega⟩
              · obtain ⟨w13, hw13⟩ : ∃ x, put7 w12 wr.heap.size f = x := ⟨_, rfl⟩
                have hb13 : Below w7.heap.size w7 w13 := by rw [← hw13]; exact (mv_put hK12 HGd.out HWd.out).2.2
                have hv13 : w13.heap[wr.heap.size]? = some (.cells #[.int .i64 f.d, .string f.nm, .bool f.neg, .int .i64 f.id, .int .i64 f.kind, .int .i64 f.mode, .string f.tg] 35 (0, 0)) := by rw [← hw13]; exact put7_heap (f := zeroEn) f hbx2
                unfold put7 at hw13
                rw [hw13]
                clear hw13 hP2 zf z0 z1 z2 z3 z4 z5 z6 hbx2
                have hc13 := HU.out.1.below hb13
                have r0 := (hb13.cell (cellLt HU.out.2.1)).trans HU.out.2.1
                have r1 := (hb13.cell (cellLt HU.out.2.2)).trans HU.out.2.2
                have HB13 : Hid (Below w7.heap.size w7 w13) := hb13
                clear k0 kA hbA hbd' u0' u1' HGd HWd HLv hK12 hb12
                obtain ⟨e0, e1, e2, e3, e4, e5, e6⟩ := f
                have d0 := cell_of hv13 0
                have d1 := cell_of hv13 1
                have d2 := cell_of hv13 2
                have d3 := cell_of hv13 3
                have d4 := cell_of hv13 4
                have d5 := cell_of hv13 5
                have d6 := cell_of hv13 6
                simp at d0 d1 d2 d3 d4 d5 d6
                have y0 := hc13.c0
                have y1 := hc13.c1
                have y2 := hc13.c2
                have y3 := hc13.c3
                have y4 := hc13.c4
                have y5 := hc13.c5
                have y6 := hc13.c6
                have heq : eqEn ⟨e0, e1, e2, e3, e4, e5, e6⟩ ⟨e0, e1, e2, e3, e4, e5, e6⟩ = true := (eqEn_iff _ _).2 rfl
                have hky : eqKy e0 e1 e0 e1 = true := by simp [eqKy]
                clear hc13 hv13 hb13
                go_upto_region 21 with fail
                go_quiet (fail)
                go_wp2
                exact ⟨⟨j + 1, by omega, by simp, below_drewN HB13.out _⟩, by simp [intOf]; omega⟩
            · have hjm : j = m := by omega
              subst hjm
              go_wp2
              exact ⟨⟨k + 1, s7, by omega, by rw [HD.out.2.2.2.2.2.2.2.2.1], by simp, by rw [show ((k + 1 : Nat) : Int) = (k : Int) + 1 by omega]; exact HD.out.1.below HB.out⟩, by simp [intOf]; omega⟩
        · have hzb : (E != 0) = true := by simpa using hz
          have hno := h7.out.1.step.no (by rw [HO.out]; exact hz)
          have HZ : Hid (s7.es = s.es ∧ s7.vers = s.vers ∧ s7.next = s.next) := hno
          have hT := h7.out.1.told.row
          unfold toldE at hT
          rw [HO.out, if_neg hz] at hT
          have hK := h7.out.1.keys
          unfold toldK at hK
          rw [HO.out, if_neg hz] at hK
          obtain ⟨a7, c7, rfl⟩ := owns_len hT
          obtain ⟨a8, c8, rfl⟩ := owns_len hK
          simp only [List.length_nil]
          have HVe : Hid (∀ W, IsP W w.heap.size s7 → Calls Try.prog 27 #[.pointer (some ⟨w.heap.size, 0, none⟩)] W fun e w' => e = .returned (.int .i64 s.vers) ∧ w' = W) := fun W h => by rw [← HZ.out.2.1]; exact version_p _ s7 W h
          have HNx : Hid (∀ W, IsP W w.heap.size s7 → Calls Try.prog 28 #[.pointer (some ⟨w.heap.size, 0, none⟩)] W fun e w' => e = .returned (.int .i64 s.next) ∧ w' = W) := fun W h => by rw [← HZ.out.2.2]; exact next_p _ s7 W h
          clear hz hT hK hno
          go_wp2_with (first
            | (go_at_call 26; refine (dump_p _ s7 _ h7.out.1.law.own.is).mono ?_; rintro x w8 ⟨v8, rfl, hr8, hb8⟩; rw [HZ.out.1] at hr8)
            | (go_at_call 18; refine (same_yes hr8 (h7.out.2.below hb8) hI.out.len).mono ?_; rintro x w9 ⟨rfl, hb9⟩)
            | (go_at_call 28; refine (HNx.out _ (h7.out.1.law.own.is.below (chainB hb8 hb9))).mono ?_; rintro x w10 ⟨rfl, rfl⟩)
            | (go_at_call 27; refine (HVe.out _ (h7.out.1.law.own.is.below (chainB hb8 hb9))).mono ?_; rintro x w11 ⟨rfl, rfl⟩))
          exact ⟨⟨k + 1, s7, by omega, by rw [HZ.out.2.1], by simp, by rw [show ((k + 1 : Nat) : Int) = (k : Int) + 1 by omega]; exact h7.out.1.law.below (chainB hb8 hb9)⟩, by simp [intOf]; omega⟩
    · have hkn' : ¬ (k : Int) < (n : Int) := by omega
      go_wp2_with (go_at_call 11; refine (HAw.out _).mono ?_; rintro x w12 ⟨rfl, hb12⟩)
      go_ret
      exact ⟨rfl, chainB hI.out.bel hb12⟩
end Go.Proofs.Ytjkgafbknjpjbaa
