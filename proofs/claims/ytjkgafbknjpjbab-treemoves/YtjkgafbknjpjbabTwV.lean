/- The walk of the law TreeMoves: it returns true. -/
import Derived.Test.YtjkgafbknjpjbabTqV
import Derived.Test.YtjkgafbknjpjbabPuV
namespace Go.Proofs.Ytjkgafbknjpjbab
open Go.RowKit
attribute [local go_sem high] eqK' neqK' eqE neqE eqN neqN guardK guardE guardN

set_option maxRecDepth 20000 in
set_option maxHeartbeats 16000000 in
theorem walk_TreeMoves (a : Option Addr) (cap : Nat) (ops : List Opn) (op : Opn) (w : World) (row : RowOps w a ops) (hlen : ops.length ≤ 3000000000000) :
    Calls Try.prog 5 #[.slice a ops.length cap, .agg op.arr] w fun e w' => e = .returned (.bool true) ∧ Below w.heap.size w w' := by
  obtain ⟨ok, od, onm, odst, onew, omode, otg⟩ := op
  have HBe : Hid (∀ w1, Below w.heap.size w w1 → Calls Try.prog 14 #[.slice a ops.length cap] w1 fun e w' => ∃ t s, e = .returned (.tuple #[.pointer (some ⟨t, 0, none⟩), .bool true]) ∧ Law w1 w' t s ops.length) := fun w1 hb => (behind_p a cap ops w1 (row.below hb) hlen).mono fun _ _ h => Law.of h
  have HAw : Hid (∀ w, Calls Try.prog 13 #[] w fun e w' => e = .returned (.bool true) ∧ Below w.heap.size w w') := awake_p
  clear row
  simp only [Opn.arr]
  go_enter Try.func5, Try.ntmps5
  go_upto_region 1 with fail
  obtain ⟨W, hW⟩ : ∃ W, w.alloc (.cells #[.int .i64 ok, .int .i64 od, .string onm, .int .i64 odst, .string onew, .int .i64 omode, .string otg] 33) = W := ⟨_, rfl⟩
  have hbW : Below w.heap.size w W := by rw [← hW]; exact below_alloc _ _
  have m0 : W.heap[w.heap.size]? = some (.cells #[.int .i64 ok, .int .i64 od, .string onm, .int .i64 odst, .string onew, .int .i64 omode, .string otg] 33 (0, 0)) := by rw [← hW]; exact heap_new _ _
  rw [hW]
  have HW : Hid (Below w.heap.size w W ∧ W.heap[w.heap.size]? = some (.cells #[.int .i64 ok, .int .i64 od, .string onm, .int .i64 odst, .string onew, .int .i64 omode, .string otg] 33 (0, 0)) ∧ W.heap.size = w.heap.size + 1) := ⟨hbW, m0, by rw [← hW]; simp⟩
  clear hW hbW m0
  go_upto_region 4 with (go_at_call 14; refine (HBe.out _ HW.out.1).mono ?_; rintro x w1 ⟨t, s, rfl, hL⟩; have H1 : Hid (Law W w1 t s ops.length) := hL; clear hL)
  have hop4 := (H1.out.bel.block w.heap.size (by have := HW.out.2.2; omega)).trans HW.out.2.1
  have hf4 := free_of hop4
  have o0 := cell_of hop4 0
  simp at o0
  clear hop4
  go_upto_region 5 with fail
  obtain ⟨W1, hW1⟩ : ∃ W1, W.setCell ⟨w.heap.size, 0, none⟩ (.int .i64 10) = W1 := ⟨_, rfl⟩
  obtain ⟨w2, hw2⟩ : ∃ w2, w1.setCell ⟨w.heap.size, 0, none⟩ (.int .i64 10) = w2 := ⟨_, rfl⟩
  have hL2 : Law W1 w2 t s ops.length := by rw [← hW1, ← hw2]; exact H1.out.turn HW.out.2.1
  have hz1 : W1.heap.size = W.heap.size := by rw [← hW1]; simp [World.setCell]
  have hm1 : W1.heap[w.heap.size]? = some (.cells #[.int .i64 10, .int .i64 od, .string onm, .int .i64 odst, .string onew, .int .i64 omode, .string otg] 33 (0, 0)) := by rw [← hW1]; exact (heap_set HW.out.2.1 0 _).trans rfl
  have hbW1 : Below w.heap.size w W1 := by rw [← hW1]; exact (only1 W w.heap.size 0 _).below HW.out.1 HW.out.1.size (fun k hk => by omega)
  rw [hw2]
  have hbz : w.heap.size < W1.heap.size := by rw [hz1]; have := HW.out.2.2; omega
  have H2 : Hid (Law W1 w2 t s ops.length ∧ W1.heap[w.heap.size]? = some (.cells #[.int .i64 10, .int .i64 od, .string onm, .int .i64 odst, .string onew, .int .i64 omode, .string otg] 33 (0, 0)) ∧ Below w.heap.size w W1 ∧ w.heap.size < W1.heap.size) := ⟨hL2, hm1, hbW1, hbz⟩
  clear hW1 hw2 hL2 hz1 hm1 hbW1 hbz hf4 o0 HW H1 HBe
  obtain ⟨o, hoq⟩ : ∃ o : Opn, (⟨10, od, onm, odst, onew, omode, otg⟩ : Opn) = o := ⟨_, rfl⟩
  have ho1 : o.kind = 10 ∧ o.dir = od ∧ o.nm = onm ∧ o.dst = odst ∧ o.new = onew := by rw [← hoq]; exact ⟨rfl, rfl, rfl, rfl, rfl⟩
  obtain ⟨E, hE⟩ : ∃ x, doesE Mn s o = x := ⟨_, rfl⟩
  obtain ⟨f, F, hF, hf, HLo⟩ := Look_q Mn nmsP t s od onm
  have HO : Hid (doesE Mn s o = E ∧ (o.kind = 10 ∧ o.dir = od ∧ o.nm = onm ∧ o.dst = odst ∧ o.new = onew) ∧ F = namedE Mn s.es od onm ∧ (F = 0 → f = nowE s.es od onm)) := ⟨hE, ho1, hF, hf⟩
  have HAp : Hid (∀ w1, Law W1 w1 t s ops.length → Calls Try.prog 11 #[.pointer (some ⟨t, 0, none⟩), .agg #[.int .i64 10, .int .i64 od, .string onm, .int .i64 odst, .string onew, .int .i64 omode, .string otg]] w1 fun e w' => ∃ v kv s', e = .returned (.tuple #[v, kv, .int .i64 E]) ∧ Hid (Did W1 w' t s s' ops.length o v kv ∧ PS w1 w' t s s')) := fun w1 h => by
    have := h.apply o (by omega)
    rw [← hoq] at this
    refine this.mono fun e w' hh => ?_
    obtain ⟨v, kv, s', he, hd, hps⟩ := h.did hh
    rw [hoq] at he hd
    exact ⟨v, kv, s', by rw [← hE]; exact he, hd, hps⟩
  clear hoq ho1 hE hF hf
  have q0 := cell_of ((H2.out.1.bel.block w.heap.size H2.out.2.2.2).trans H2.out.2.1) 0
  simp at q0
  go_upto_region 6 with (go_at_call 12; refine (dump_p t s _ H2.out.1.own.is).mono ?_; rintro x w3 ⟨v3, rfl, hr3, hb3⟩; have H3 : Hid (Law W1 w3 t s ops.length ∧ Lst W1.heap.size w3 s v3 s.es) := ⟨H2.out.1.below hb3, Lst.of H2.out.1.own.is hr3 H2.out.1.bel.size⟩; clear hr3 hb3)
  clear q0
  have hop3 := (H3.out.1.bel.block w.heap.size H2.out.2.2.2).trans H2.out.2.1
  have q1 := cell_of hop3 1
  have q2 := cell_of hop3 2
  simp at q1 q2
  clear hop3
  go_upto_region 7 with (go_at_call 19; refine (HLo.out _ H3.out.1.own.is).mono ?_; rintro x w5 ⟨rfl, hb5⟩; have H5 : Hid ((∀ o, Law W1 (w5.alloc o) t s ops.length ∧ Lst W1.heap.size (w5.alloc o) s v3 s.es) ∧ IsP w5 t s ∧ Row7 w5 W1.heap.size v3 s.es ∧ W1.heap.size ≤ w5.heap.size ∧ Below W1.heap.size W1 w5) := ⟨fun o => ⟨(H3.out.1.below hb5).alloc o, (H3.out.2.below hb5).below (below_alloc _ _)⟩, (H3.out.1.below hb5).own.is, (H3.out.2.below hb5).row, (H3.out.1.below hb5).bel.size, (H3.out.1.below hb5).bel⟩; clear hb5)
  clear q1 q2
  have hop5 := (H5.out.2.2.2.2.block w.heap.size H2.out.2.2.2).trans H2.out.2.1
  have q0 := cell_of hop5 0
  have q1 := cell_of hop5 1
  have q2 := cell_of hop5 2
  have q3 := cell_of hop5 3
  have q4 := cell_of hop5 4
  have q5 := cell_of hop5 5
  have q6 := cell_of hop5 6
  simp at q0 q1 q2 q3 q4 q5 q6
  have hlt5 : w.heap.size < w5.heap.size := cellLt q0
  clear hop5
  go_upto_region 8 with (go_at_call 11; refine (HAp.out _ (H5.out.1 _).1).mono ?_; rintro x w7 ⟨v7, k7, s7, rfl, h7⟩; have hbx := (h7.out.2.keep (k := w5.heap.size) (by simp) (by have := H5.out.2.1.tt.lt; omega) (fun e => by have := (H5.out.2.1.tv e).lt; omega)).trans (heap_new _ _); have H7 : Hid (Did W1 w7 t s s7 ops.length o v7 k7 ∧ Row7 w7 W1.heap.size v3 s.es) := ⟨h7.out.1, ((H5.out.1 _).2.step (H5.out.1 _).1.own.is h7.out.2).row⟩; clear h7)
  have HBx : Hid (w7.heap[w5.heap.size]? = some (.cells #[.int .i64 f.d, .string f.nm, .bool f.neg, .int .i64 f.id, .int .i64 f.kind, .int .i64 f.mode, .string f.tg] 39 (0, 0))) := hbx
  clear hbx q0 q1 q2 q3 q4 q5 q6 HLo HAp
  by_cases hz : E = 0
  · subst hz
    obtain ⟨x, y, z, ⟨nx, ex, gx⟩, ⟨ny, ey, gy, iy, ky, my, ty⟩, ⟨nz, ez, gz⟩, hst⟩ := moves H2.out.1.good.wf HO.out.2.1.1 HO.out.1
    have h7e := (H7.out.1.step.yes HO.out.1).1
    rw [← h7e] at ny ey nz ez hst
    rw [HO.out.2.1.2.1, HO.out.2.1.2.2.1] at nx ex nz ez gz
    rw [HO.out.2.1.2.2.2.1, HO.out.2.1.2.2.2.2] at ny ey gz
    have hF0 : F = 0 := by rw [HO.out.2.2.1]; exact nx
    subst hF0
    have hfx : f = x := by rw [HO.out.2.2.2 rfl]; exact ex
    subst hfx
    obtain ⟨fy, Fy, hFy, hfy, HLy⟩ := Look_q Mn nmsP t s7 odst onew
    rw [ny] at hFy
    subst hFy
    have hyy : fy = y := by rw [hfy rfl]; exact ey
    subst hyy
    obtain ⟨fz, Fz, hFz, hfz, HLz⟩ := Look_q Mn nmsP t s7 od onm
    rw [nz] at hFz
    subst hFz
    have hzz : fz = z := by rw [hfz rfl]; exact ez
    subst hzz
    have HM : Hid (s7.es = srt (doesL s o) ∧ ∀ u ∈ s.es, u.d = f.id → namedE Mn s7.es u.d u.nm = 0 ∧ nowE s7.es u.d u.nm = u) := ⟨h7e, hst⟩
    rw [iy, ky, my, ty, gy] at HLy
    obtain ⟨Z, hZ⟩ : ∃ Z : Bool, (!decide (od = odst ∧ onm = onew)) = Z := ⟨_, rfl⟩
    rw [hZ] at gz
    have HZ : Hid ((!decide (od = odst ∧ onm = onew)) = Z) := hZ
    rw [gz] at HLz
    clear hZ
    rw [gx] at HBx
    clear hfy hfz nx ex ny ey nz ez hst h7e iy ky my ty gy gz
    obtain ⟨a3, c3, hv3⟩ := owns_len H7.out.2
    subst hv3
    obtain ⟨n, hn⟩ : ∃ n, s.es.length = n := ⟨_, rfl⟩
    have HR : Hid (Row7 w7 W1.heap.size (.slice a3 n c3) s.es ∧ s.es.length = n) := ⟨by rw [← hn]; exact H7.out.2, hn⟩
    have hn47 : n ≤ 47 := by rw [← hn]; exact H2.out.1.good.wf.len
    rw [hn]
    clear hn
    have hop7 := (H7.out.1.law.bel.block w.heap.size H2.out.2.2.2).trans H2.out.2.1
    have q3 := cell_of hop7 3
    have q4 := cell_of hop7 4
    simp at q3 q4
    clear hop7
    go_upto_region 11 with (go_at_call 19; refine (HLy.out _ H7.out.1.law.own.is).mono ?_; rintro x w8 ⟨rfl, hb8⟩; have H8 : Hid (∀ o, Below w7.heap.size w7 (w8.alloc o)) := fun o => chainB hb8 (below_alloc _ _); have hz8 : w7.heap.size ≤ w8.heap.size := hb8.size)
    clear q3 q4
    obtain ⟨w9, hw9⟩ : ∃ x, w8.alloc (.cells #[.int .i64 fy.d, .string fy.nm, .bool false, .int .i64 f.id, .int .i64 f.kind, .int .i64 f.mode, .string f.tg] 39) = x := ⟨_, rfl⟩
    have hb9 : Below w7.heap.size w7 w9 := by rw [← hw9]; exact H8.out _
    have hy9 : w9.heap[w8.heap.size]? = some (.cells #[.int .i64 fy.d, .string fy.nm, .bool false, .int .i64 f.id, .int .i64 f.kind, .int .i64 f.mode, .string f.tg] 39 (0, 0)) := by rw [← hw9]; exact heap_new _ _
    rw [hw9]
    have hlt7 := cellLt (cell_of HBx.out 0)
    have hx9 := (hb9.block w5.heap.size hlt7).trans HBx.out
    have x2 := cell_of hx9 2
    have x3 := cell_of hx9 3
    have x4 := cell_of hx9 4
    have x5 := cell_of hx9 5
    have x6 := cell_of hx9 6
    have y2 := cell_of hy9 2
    have y3 := cell_of hy9 3
    have y4 := cell_of hy9 4
    have y5 := cell_of hy9 5
    have y6 := cell_of hy9 6
    simp at x2 x3 x4 x5 x6 y2 y3 y4 y5 y6
    have H9 : Hid (Below w7.heap.size w7 w9) := hb9
    clear hw9 hb9 hy9 hx9 H8 hz8 hb8
    go_upto_region 13 with fail
    clear x2 x3 x4 x5 x6 y2 y3 y4 y5 y6
    have hop9 := (H9.out.block w.heap.size (by have := H7.out.1.law.bel.size; have := H2.out.2.2.2; omega)).trans ((H7.out.1.law.bel.block w.heap.size H2.out.2.2.2).trans H2.out.2.1)
    have q1 := cell_of hop9 1
    have q2 := cell_of hop9 2
    simp at q1 q2
    clear hop9
    go_upto_region 14 with (go_at_call 19; refine (HLz.out _ (H7.out.1.law.own.is.below H9.out)).mono ?_; rintro x w10 ⟨rfl, hb10⟩; have H10 : Hid (∀ o, Below w7.heap.size w7 (w10.alloc o)) := fun o => chainB (chainB H9.out hb10) (below_alloc _ _); have hz10 : w9.heap.size ≤ w10.heap.size := hb10.size)
    clear q1 q2 hz10
    obtain ⟨w11, hw11⟩ : ∃ x, w10.alloc (.cells #[.int .i64 fz.d, .string fz.nm, .bool Z, .int .i64 fz.id, .int .i64 fz.kind, .int .i64 fz.mode, .string fz.tg] 39) = x := ⟨_, rfl⟩
    have hb11 : Below w7.heap.size w7 w11 := by rw [← hw11]; exact H10.out _
    have hz11 : w11.heap[w10.heap.size]? = some (.cells #[.int .i64 fz.d, .string fz.nm, .bool Z, .int .i64 fz.id, .int .i64 fz.kind, .int .i64 fz.mode, .string fz.tg] 39 (0, 0)) := by rw [← hw11]; exact heap_new _ _
    rw [hw11]
    have hop11 := (hb11.block w.heap.size (by have := H7.out.1.law.bel.size; have := H2.out.2.2.2; omega)).trans ((H7.out.1.law.bel.block w.heap.size H2.out.2.2.2).trans H2.out.2.1)
    have q1 := cell_of hop11 1
    have q2 := cell_of hop11 2
    have q3 := cell_of hop11 3
    have q4 := cell_of hop11 4
    have z2 := cell_of hz11 2
    simp at q1 q2 q3 q4 z2
    have H11 : Hid (Below w7.heap.size w7 w11) := hb11
    clear hw11 hb11 hz11 hop11 H10 hb10 H9 HLy HLz
    have h3 : (od = odst ∧ onm = onew ∧ Z = false) ∨ (od ≠ odst ∧ Z = true) ∨ (od = odst ∧ onm ≠ onew ∧ Z = true) := by
      have := HZ.out
      by_cases h1 : od = odst <;> by_cases h2 : onm = onew <;> simp_all
    rcases h3 with ⟨h1, h2, h3⟩ | ⟨h1, h3⟩ | ⟨h1, h2, h3⟩
    · clear HZ
      subst h1 h2 h3
      go_upto_region 16 with fail
      clear q1 q2 q3 q4 z2
      go_wp2
      go_loopw [17] (fun i wr => ∃ k : Nat, k ≤ n ∧ i = .int .i64 k ∧ Below w7.heap.size w7 wr) (fun i _ => n - (intOf i).toNat)
      case atStart => exact ⟨0, Nat.zero_le _, rfl, H11.out⟩
      case round =>
        obtain ⟨k, hk, rfl, hb⟩ := hrel
        have HB : Hid (Below w7.heap.size w7 wr) := hb
        clear hb
        by_cases hlt : k < n
        · obtain ⟨u, hu⟩ : ∃ x, s.es[k]? = some x := ⟨_, List.getElem?_eq_getElem (by rw [HR.out.2]; exact hlt)⟩
          obtain ⟨g, rfl, -, -, hgz, hc, -⟩ := owns_entry HR.out.1 hu
          have hcr := hc.below HB.out
          have hxr := (HB.out.block w5.heap.size hlt7).trans HBx.out
          have u0 := hcr.c0
          have u1 := hcr.c1
          have x3 := cell_of hxr 3
          simp at x3
          have hki : (k : Int) < (n : Int) := by omega
          have hum := List.mem_of_getElem? hu
          have HU : Hid (u ∈ s.es ∧ Cells7 w7 g (k * 7) u) := ⟨hum, hc⟩
          clear hc hcr hxr hum hu
          by_cases hud : u.d = f.id
          · obtain ⟨e, F, hF, he, HLv⟩ := Look_q Mn nmsP t s7 u.d u.nm
            have hmm := HM.out.2 u HU.out.1 hud
            rw [hmm.1] at hF
            subst hF
            have heu : e = u := by rw [he rfl]; exact hmm.2
            subst heu
            have hub : (e.d == f.id) = true := by simpa using hud
            clear he hmm hud
            go_upto_region 19 with fail
            go_quiet (fail)
            obtain ⟨wd, hwd⟩ : ∃ x, wr.drewN nq = x := ⟨_, rfl⟩
            have hbd : Below w7.heap.size w7 wd := by rw [← hwd]; exact below_drewN HB.out _
            rw [hwd]
            have HD : Hid (Below w7.heap.size w7 wd) := hbd
            have hcr := HU.out.2.below hbd
            have u0' := hcr.c0
            have u1' := hcr.c1
            have hbd' := hbd.drew
            clear hwd hcr u0 u1 x3 hbd
            go_upto_region 20 with fail
            have HGd : Hid (g ≠ wd.heap.size) := (Nat.ne_of_lt (cellLt u0') : g ≠ wd.heap.size)
            have HWd : Hid (w7.heap.size ≤ wd.heap.size) := HD.out.size
            have hbA : ∀ o, Below w7.heap.size w7 (wd.alloc o).drew := fun o => (chainB HD.out (below_alloc _ _)).drew
            have k0 : wd.drew.cell? ⟨g, k * 7, none⟩ = some (.int .i64 e.d) ∧ wd.drew.cell? ⟨g, k * 7 + 1, none⟩ = some (.string e.nm) ∧ Below w7.heap.size w7 wd.drew := ⟨u0', u1', hbd'⟩
            have kA : ∀ o, (wd.alloc o).drew.cell? ⟨g, k * 7, none⟩ = some (.int .i64 e.d) ∧ (wd.alloc o).drew.cell? ⟨g, k * 7 + 1, none⟩ = some (.string e.nm) ∧ Below w7.heap.size w7 (wd.alloc o).drew := fun o => mv_keep (W := wd) ⟨u0', u1', HD.out⟩ (below_alloc wd o).drew
            go_region_held3 (fun w' => w'.cell? ⟨g, k * 7, none⟩ = some (.int .i64 e.d) ∧ w'.cell? ⟨g, k * 7 + 1, none⟩ = some (.string e.nm) ∧ Below w7.heap.size w7 w')
              (with_reducible first | exact k0 | exact kA _ | exact hK12 | exact hP2 | exact mv_keep hK12 (below_alloc _ _))
              (first
                | (go_at_call 19; refine (HLv.out _ (H7.out.1.law.own.is.below hbd')).mono ?_; rintro x w12 ⟨rfl, hb12⟩; have hK12 := mv_keep k0 hb12)
                | (go_at_call 19; refine (HLv.out _ (H7.out.1.law.own.is.below (hbA _))).mono ?_; rintro x w12 ⟨rfl, hb12⟩; have hK12 := mv_keep (kA _) hb12; have hbx2 := (hb12.block wd.heap.size (by simp)).trans (heap_new wd _); have zf := free_of hbx2; have z0 := cell_of hbx2 0; have z1 := cell_of hbx2 1; have z2 := cell_of hbx2 2; have z3 := cell_of hbx2 3; have z4 := cell_of hbx2 4; have z5 := cell_of hbx2 5; have z6 := cell_of hbx2 6; simp at z0 z1 z2 z3 z4 z5 z6; have hP2 := mv_put (b := wd.heap.size) (e := e) hK12 HGd.out HWd.out; unfold put7 at hP2))
            · obtain ⟨w13, hw13⟩ : ∃ x, w12.alloc (.cells #[.int .i64 e.d, .string e.nm, .bool e.neg, .int .i64 e.id, .int .i64 e.kind, .int .i64 e.mode, .string e.tg] 39) = x := ⟨_, rfl⟩
              have hb13 : Below w7.heap.size w7 w13 := by rw [← hw13]; exact (mv_keep hK12 (below_alloc _ _)).2.2
              have hv13 : w13.heap[w12.heap.size]? = some (.cells #[.int .i64 e.d, .string e.nm, .bool e.neg, .int .i64 e.id, .int .i64 e.kind, .int .i64 e.mode, .string e.tg] 39 (0, 0)) := by rw [← hw13]; exact heap_new _ _
              rw [hw13]
              clear hw13
              have hc13 := HU.out.2.below hb13
              have HB13 : Hid (Below w7.heap.size w7 w13) := hb13
              clear k0 kA hbA hbd' u0' u1' HGd HWd HLv hK12 hb12
              obtain ⟨e0, e1, e2, e3, e4, e5, e6⟩ := e
              have d0 := cell_of hv13 0
              have d1 := cell_of hv13 1
              have d2 := cell_of hv13 2
              have d3 := cell_of hv13 3
              have d4 := cell_of hv13 4
              have d5 := cell_of hv13 5
              have d6 := cell_of hv13 6
              simp at d0 d1 d2 d3 d4 d5 d6
              have y0 := hc13.c0
              have y1 := hc13.c1
              have y2 := hc13.c2
              have y3 := hc13.c3
              have y4 := hc13.c4
              have y5 := hc13.c5
              have y6 := hc13.c6
              have heq : eqEn ⟨e0, e1, e2, e3, e4, e5, e6⟩ ⟨e0, e1, e2, e3, e4, e5, e6⟩ = true := (eqEn_iff _ _).2 rfl
              clear hc13 hv13 hb13
              go_upto_region 21 with fail
              go_quiet (fail)
              go_wp2
              exact ⟨⟨k + 1, by omega, by simp, below_drewN HB13.out _⟩, by simp [intOf]; omega⟩
            · obtain ⟨w13, hw13⟩ : ∃ x, put7 w12 wd.heap.size e = x := ⟨_, rfl⟩
              have hb13 : Below w7.heap.size w7 w13 := by rw [← hw13]; exact (mv_put hK12 HGd.out HWd.out).2.2
              have hv13 : w13.heap[wd.heap.size]? = some (.cells #[.int .i64 e.d, .string e.nm, .bool e.neg, .int .i64 e.id, .int .i64 e.kind, .int .i64 e.mode, .string e.tg] 39 (0, 0)) := by rw [← hw13]; exact put7_heap (f := zeroEn) e hbx2
              unfold put7 at hw13
              rw [hw13]
              clear hw13 hP2 zf z0 z1 z2 z3 z4 z5 z6 hbx2
              have hc13 := HU.out.2.below hb13
              have HB13 : Hid (Below w7.heap.size w7 w13) := hb13
              clear k0 kA hbA hbd' u0' u1' HGd HWd HLv hK12 hb12
              obtain ⟨e0, e1, e2, e3, e4, e5, e6⟩ := e
              have d0 := cell_of hv13 0
              have d1 := cell_of hv13 1
              have d2 := cell_of hv13 2
              have d3 := cell_of hv13 3
              have d4 := cell_of hv13 4
              have d5 := cell_of hv13 5
              have d6 := cell_of hv13 6
              simp at d0 d1 d2 d3 d4 d5 d6
              have y0 := hc13.c0
              have y1 := hc13.c1
              have y2 := hc13.c2
              have y3 := hc13.c3
              have y4 := hc13.c4
              have y5 := hc13.c5
              have y6 := hc13.c6
              have heq : eqEn ⟨e0, e1, e2, e3, e4, e5, e6⟩ ⟨e0, e1, e2, e3, e4, e5, e6⟩ = true := (eqEn_iff _ _).2 rfl
              clear hc13 hv13 hb13
              go_upto_region 21 with fail
              go_quiet (fail)
              go_wp2
              exact ⟨⟨k + 1, by omega, by simp, below_drewN HB13.out _⟩, by simp [intOf]; omega⟩
          · have hub : (u.d == f.id) = false := by simpa using hud
            clear hud
            go_upto_region 19 with fail
            go_quiet (fail)
            go_wp2
            exact ⟨⟨k + 1, by omega, by simp, below_drewN HB.out _⟩, by simp [intOf]; omega⟩
        · have hkl : k = n := by omega
          subst hkl
          go_wp2_with (go_at_call 13; refine (HAw.out _).mono ?_; rintro x w12 ⟨rfl, hb12⟩)
          go_ret
          exact ⟨rfl, chainB (chainB (chainB H2.out.2.2.1 H7.out.1.law.bel) HB.out) hb12⟩
    · clear HZ
      subst h3
      have h1b : (od != odst) = true := by simpa using h1
      go_upto_region 16 with fail
      clear q1 q2 q3 q4 z2
      go_wp2
      go_loopw [17] (fun i wr => ∃ k : Nat, k ≤ n ∧ i = .int .i64 k ∧ Below w7.heap.size w7 wr) (fun i _ => n - (intOf i).toNat)
      case atStart => exact ⟨0, Nat.zero_le _, rfl, H11.out⟩
      case round =>
        obtain ⟨k, hk, rfl, hb⟩ := hrel
        have HB : Hid (Below w7.heap.size w7 wr) := hb
        clear hb
        by_cases hlt : k < n
        · obtain ⟨u, hu⟩ : ∃ x, s.es[k]? = some x := ⟨_, List.getElem?_eq_getElem (by rw [HR.out.2]; exact hlt)⟩
          obtain ⟨g, rfl, -, -, hgz, hc, -⟩ := owns_entry HR.out.1 hu
          have hcr := hc.below HB.out
          have hxr := (HB.out.block w5.heap.size hlt7).trans HBx.out
          have u0 := hcr.c0
          have u1 := hcr.c1
          have x3 := cell_of hxr 3
          simp at x3
          have hki : (k : Int) < (n : Int) := by omega
          have hum := List.mem_of_getElem? hu
          have HU : Hid (u ∈ s.es ∧ Cells7 w7 g (k * 7) u) := ⟨hum, hc⟩
          clear hc hcr hxr hum hu
          by_cases hud : u.d = f.id
          · obtain ⟨e, F, hF, he, HLv⟩ := Look_q Mn nmsP t s7 u.d u.nm
            have hmm := HM.out.2 u HU.out.1 hud
            rw [hmm.1] at hF
            subst hF
            have heu : e = u := by rw [he rfl]; exact hmm.2
            subst heu
            have hub : (e.d == f.id) = true := by simpa using hud
            clear he hmm hud
            go_upto_region 19 with fail
            go_quiet (fail)
            obtain ⟨wd, hwd⟩ : ∃ x, wr.drewN nq = x := ⟨_, rfl⟩
            have hbd : Below w7.heap.size w7 wd := by rw [← hwd]; exact below_drewN HB.out _
            rw [hwd]
            have HD : Hid (Below w7.heap.size w7 wd) := hbd
            have hcr := HU.out.2.below hbd
            have u0' := hcr.c0
            have u1' := hcr.c1
            have hbd' := hbd.drew
            clear hwd hcr u0 u1 x3 hbd
            go_upto_region 20 with fail
            have HGd : Hid (g ≠ wd.heap.size) := (Nat.ne_of_lt (cellLt u0') : g ≠ wd.heap.size)
            have HWd : Hid (w7.heap.size ≤ wd.heap.size) := HD.out.size
            have hbA : ∀ o, Below w7.heap.size w7 (wd.alloc o).drew := fun o => (chainB HD.out (below_alloc _ _)).drew
            have k0 : wd.drew.cell? ⟨g, k * 7, none⟩ = some (.int .i64 e.d) ∧ wd.drew.cell? ⟨g, k * 7 + 1, none⟩ = some (.string e.nm) ∧ Below w7.heap.size w7 wd.drew := ⟨u0', u1', hbd'⟩
            have kA : ∀ o, (wd.alloc o).drew.cell? ⟨g, k * 7, none⟩ = some (.int .i64 e.d) ∧ (wd.alloc o).drew.cell? ⟨g, k * 7 + 1, none⟩ = some (.string e.nm) ∧ Below w7.heap.size w7 (wd.alloc o).drew := fun o => mv_keep (W := wd) ⟨u0', u1', HD.out⟩ (below_alloc wd o).drew
            go_region_held3 (fun w' => w'.cell? ⟨g, k * 7, none⟩ = some (.int .i64 e.d) ∧ w'.cell? ⟨g, k * 7 + 1, none⟩ = some (.string e.nm) ∧ Below w7.heap.size w7 w')
              (with_reducible first | exact k0 | exact kA _ | exact hK12 | exact hP2 | exact mv_keep hK12 (below_alloc _ _))
              (first
                | (go_at_call 19; refine (HLv.out _ (H7.out.1.law.own.is.below hbd')).mono ?_; rintro x w12 ⟨rfl, hb12⟩; have hK12 := mv_keep k0 hb12)
                | (go_at_call 19; refine (HLv.out _ (H7.out.1.law.own.is.below (hbA _))).mono ?_; rintro x w12 ⟨rfl, hb12⟩; have hK12 := mv_keep (kA _) hb12; have hbx2 := (hb12.block wd.heap.size (by simp)).trans (heap_new wd _); have zf := free_of hbx2; have z0 := cell_of hbx2 0; have z1 := cell_of hbx2 1; have z2 := cell_of hbx2 2; have z3 := cell_of hbx2 3; have z4 := cell_of hbx2 4; have z5 := cell_of hbx2 5; have z6 := cell_of hbx2 6; simp at z0 z1 z2 z3 z4 z5 z6; have hP2 := mv_put (b := wd.heap.size) (e := e) hK12 HGd.out HWd.out; unfold put7 at hP2))
            · obtain ⟨w13, hw13⟩ : ∃ x, w12.alloc (.cells #[.int .i64 e.d, .string e.nm, .bool e.neg, .int .i64 e.id, .int .i64 e.kind, .int .i64 e.mode, .string e.tg] 39) = x := ⟨_, rfl⟩
              have hb13 : Below w7.heap.size w7 w13 := by rw [← hw13]; exact (mv_keep hK12 (below_alloc _ _)).2.2
              have hv13 : w13.heap[w12.heap.size]? = some (.cells #[.int .i64 e.d, .string e.nm, .bool e.neg, .int .i64 e.id, .int .i64 e.kind, .int .i64 e.mode, .string e.tg] 39 (0, 0)) := by rw [← hw13]; exact heap_new _ _
              rw [hw13]
              clear hw13
              have hc13 := HU.out.2.below hb13
              have HB13 : Hid (Below w7.heap.size w7 w13) := hb13
              clear k0 kA hbA hbd' u0' u1' HGd HWd HLv hK12 hb12
              obtain ⟨e0, e1, e2, e3, e4, e5, e6⟩ := e
              have d0 := cell_of hv13 0
              have d1 := cell_of hv13 1
              have d2 := cell_of hv13 2
              have d3 := cell_of hv13 3
              have d4 := cell_of hv13 4
              have d5 := cell_of hv13 5
              have d6 := cell_of hv13 6
              simp at d0 d1 d2 d3 d4 d5 d6
              have y0 := hc13.c0
              have y1 := hc13.c1
              have y2 := hc13.c2
              have y3 := hc13.c3
              have y4 := hc13.c4
              have y5 := hc13.c5
              have y6 := hc13.c6
              have heq : eqEn ⟨e0, e1, e2, e3, e4, e5, e6⟩ ⟨e0, e1, e2, e3, e4, e5, e6⟩ = true := (eqEn_iff _ _).2 rfl
              clear hc13 hv13 hb13
              go_upto_region 21 with fail
              go_quiet (fail)
              go_wp2
              exact ⟨⟨k + 1, by omega, by simp, below_drewN HB13.out _⟩, by simp [intOf]; omega⟩
            · obtain ⟨w13, hw13⟩ : ∃ x, put7 w12 wd.heap.size e = x := ⟨_, rfl⟩
              have hb13 : Below w7.heap.size w7 w13 := by rw [← hw13]; exact (mv_put hK12 HGd.out HWd.out).2.2
              have hv13 : w13.heap[wd.heap.size]? = some (.cells #[.int .i64 e.d, .string e.nm, .bool e.neg, .int .i64 e.id, .int .i64 e.kind, .int .i64 e.mode, .string e.tg] 39 (0, 0)) := by rw [← hw13]; exact put7_heap (f := zeroEn) e hbx2
              unfold put7 at hw13
              rw [hw13]
              clear hw13 hP2 zf z0 z1 z2 z3 z4 z5 z6 hbx2
              have hc13 := HU.out.2.below hb13
              have HB13 : Hid (Below w7.heap.size w7 w13) := hb13
              clear k0 kA hbA hbd' u0' u1' HGd HWd HLv hK12 hb12
              obtain ⟨e0, e1, e2, e3, e4, e5, e6⟩ := e
              have d0 := cell_of hv13 0
              have d1 := cell_of hv13 1
              have d2 := cell_of hv13 2
              have d3 := cell_of hv13 3
              have d4 := cell_of hv13 4
              have d5 := cell_of hv13 5
              have d6 := cell_of hv13 6
              simp at d0 d1 d2 d3 d4 d5 d6
              have y0 := hc13.c0
              have y1 := hc13.c1
              have y2 := hc13.c2
              have y3 := hc13.c3
              have y4 := hc13.c4
              have y5 := hc13.c5
              have y6 := hc13.c6
              have heq : eqEn ⟨e0, e1, e2, e3, e4, e5, e6⟩ ⟨e0, e1, e2, e3, e4, e5, e6⟩ = true := (eqEn_iff _ _).2 rfl
              clear hc13 hv13 hb13
              go_upto_region 21 with fail
              go_quiet (fail)
              go_wp2
              exact ⟨⟨k + 1, by omega, by simp, below_drewN HB13.out _⟩, by simp [intOf]; omega⟩
          · have hub : (u.d == f.id) = false := by simpa using hud
            clear hud
            go_upto_region 19 with fail
            go_quiet (fail)
            go_wp2
            exact ⟨⟨k + 1, by omega, by simp, below_drewN HB.out _⟩, by simp [intOf]; omega⟩
        · have hkl : k = n := by omega
          subst hkl
          go_wp2_with (go_at_call 13; refine (HAw.out _).mono ?_; rintro x w12 ⟨rfl, hb12⟩)
          go_ret
          exact ⟨rfl, chainB (chainB (chainB H2.out.2.2.1 H7.out.1.law.bel) HB.out) hb12⟩
    · clear HZ
      subst h1 h3
      have h1b : (onm.toList == onew.toList) = false := by simpa [bytes_eq] using h2
      go_upto_region 16 with fail
      clear q1 q2 q3 q4 z2
      go_wp2
      go_loopw [17] (fun i wr => ∃ k : Nat, k ≤ n ∧ i = .int .i64 k ∧ Below w7.heap.size w7 wr) (fun i _ => n - (intOf i).toNat)
      case atStart => exact ⟨0, Nat.zero_le _, rfl, H11.out⟩
      case round =>
        obtain ⟨k, hk, rfl, hb⟩ := hrel
        have HB : Hid (Below w7.heap.size w7 wr) := hb
        clear hb
        by_cases hlt : k < n
        · obtain ⟨u, hu⟩ : ∃ x, s.es[k]? = some x := ⟨_, List.getElem?_eq_getElem (by rw [HR.out.2]; exact hlt)⟩
          obtain ⟨g, rfl, -, -, hgz, hc, -⟩ := owns_entry HR.out.1 hu
          have hcr := hc.below HB.out
          have hxr := (HB.out.block w5.heap.size hlt7).trans HBx.out
          have u0 := hcr.c0
          have u1 := hcr.c1
          have x3 := cell_of hxr 3
          simp at x3
          have hki : (k : Int) < (n : Int) := by omega
          have hum := List.mem_of_getElem? hu
          have HU : Hid (u ∈ s.es ∧ Cells7 w7 g (k * 7) u) := ⟨hum, hc⟩
          clear hc hcr hxr hum hu
          by_cases hud : u.d = f.id
          · obtain ⟨e, F, hF, he, HLv⟩ := Look_q Mn nmsP t s7 u.d u.nm
            have hmm := HM.out.2 u HU.out.1 hud
            rw [hmm.1] at hF
            subst hF
            have heu : e = u := by rw [he rfl]; exact hmm.2
            subst heu
            have hub : (e.d == f.id) = true := by simpa using hud
            clear he hmm hud
            go_upto_region 19 with fail
            go_quiet (fail)
            obtain ⟨wd, hwd⟩ : ∃ x, wr.drewN nq = x := ⟨_, rfl⟩
            have hbd : Below w7.heap.size w7 wd := by rw [← hwd]; exact below_drewN HB.out _
            rw [hwd]
            have HD : Hid (Below w7.heap.size w7 wd) := hbd
            have hcr := HU.out.2.below hbd
            have u0' := hcr.c0
            have u1' := hcr.c1
            have hbd' := hbd.drew
            clear hwd hcr u0 u1 x3 hbd
            go_upto_region 20 with fail
            have HGd : Hid (g ≠ wd.heap.size) := (Nat.ne_of_lt (cellLt u0') : g ≠ wd.heap.size)
            have HWd : Hid (w7.heap.size ≤ wd.heap.size) := HD.out.size
            have hbA : ∀ o, Below w7.heap.size w7 (wd.alloc o).drew := fun o => (chainB HD.out (below_alloc _ _)).drew
            have k0 : wd.drew.cell? ⟨g, k * 7, none⟩ = some (.int .i64 e.d) ∧ wd.drew.cell? ⟨g, k * 7 + 1, none⟩ = some (.string e.nm) ∧ Below w7.heap.size w7 wd.drew := ⟨u0', u1', hbd'⟩
            have kA : ∀ o, (wd.alloc o).drew.cell? ⟨g, k * 7, none⟩ = some (.int .i64 e.d) ∧ (wd.alloc o).drew.cell? ⟨g, k * 7 + 1, none⟩ = some (.string e.nm) ∧ Below w7.heap.size w7 (wd.alloc o).drew := fun o => mv_keep (W := wd) ⟨u0', u1', HD.out⟩ (below_alloc wd o).drew
            go_region_held3 (fun w' => w'.cell? ⟨g, k * 7, none⟩ = some (.int .i64 e.d) ∧ w'.cell? ⟨g, k * 7 + 1, none⟩ = some (.string e.nm) ∧ Below w7.heap.size w7 w')
              (with_reducible first | exact k0 | exact kA _ | exact hK12 | exact hP2 | exact mv_keep hK12 (below_alloc _ _))
              (first
                | (go_at_call 19; refine (HLv.out _ (H7.out.1.law.own.is.below hbd')).mono ?_; rintro x w12 ⟨rfl, hb12⟩; have hK12 := mv_keep k0 hb12)
                | (go_at_call 19; refine (HLv.out _ (H7.out.1.law.own.is.below (hbA _))).mono ?_; rintro x w12 ⟨rfl, hb12⟩; have hK12 := mv_keep (kA _) hb12; have hbx2 := (hb12.block wd.heap.size (by simp)).trans (heap_new wd _); have zf := free_of hbx2; have z0 := cell_of hbx2 0; have z1 := cell_of hbx2 1; have z2 := cell_of hbx2 2; have z3 := cell_of hbx2 3; have z4 := cell_of hbx2 4; have z5 := cell_of hbx2 5; have z6 := cell_of hbx2 6; simp at z0 z1 z2 z3 z4 z5 z6; have hP2 := mv_put (b := wd.heap.size) (e := e) hK12 HGd.out HWd.out; unfold put7 at hP2))
            · obtain ⟨w13, hw13⟩ : ∃ x, w12.alloc (.cells #[.int .i64 e.d, .string e.nm, .bool e.neg, .int .i64 e.id, .int .i64 e.kind, .int .i64 e.mode, .string e.tg] 39) = x := ⟨_, rfl⟩
              have hb13 : Below w7.heap.size w7 w13 := by rw [← hw13]; exact (mv_keep hK12 (below_alloc _ _)).2.2
              have hv13 : w13.heap[w12.heap.size]? = some (.cells #[.int .i64 e.d, .string e.nm, .bool e.neg, .int .i64 e.id, .int .i64 e.kind, .int .i64 e.mode, .string e.tg] 39 (0, 0)) := by rw [← hw13]; exact heap_new _ _
              rw [hw13]
              clear hw13
              have hc13 := HU.out.2.below hb13
              have HB13 : Hid (Below w7.heap.size w7 w13) := hb13
              clear k0 kA hbA hbd' u0' u1' HGd HWd HLv hK12 hb12
              obtain ⟨e0, e1, e2, e3, e4, e5, e6⟩ := e
              have d0 := cell_of hv13 0
              have d1 := cell_of hv13 1
              have d2 := cell_of hv13 2
              have d3 := cell_of hv13 3
              have d4 := cell_of hv13 4
              have d5 := cell_of hv13 5
              have d6 := cell_of hv13 6
              simp at d0 d1 d2 d3 d4 d5 d6
              have y0 := hc13.c0
              have y1 := hc13.c1
              have y2 := hc13.c2
              have y3 := hc13.c3
              have y4 := hc13.c4
              have y5 := hc13.c5
              have y6 := hc13.c6
              have heq : eqEn ⟨e0, e1, e2, e3, e4, e5, e6⟩ ⟨e0, e1, e2, e3, e4, e5, e6⟩ = true := (eqEn_iff _ _).2 rfl
              clear hc13 hv13 hb13
              go_upto_region 21 with fail
              go_quiet (fail)
              go_wp2
              exact ⟨⟨k + 1, by omega, by simp, below_drewN HB13.out _⟩, by simp [intOf]; omega⟩
            · obtain ⟨w13, hw13⟩ : ∃ x, put7 w12 wd.heap.size e = x := ⟨_, rfl⟩
              have hb13 : Below w7.heap.size w7 w13 := by rw [← hw13]; exact (mv_put hK12 HGd.out HWd.out).2.2
              have hv13 : w13.heap[wd.heap.size]? = some (.cells #[.int .i64 e.d, .string e.nm, .bool e.neg, .int .i64 e.id, .int .i64 e.kind, .int .i64 e.mode, .string e.tg] 39 (0, 0)) := by rw [← hw13]; exact put7_heap (f := zeroEn) e hbx2
              unfold put7 at hw13
              rw [hw13]
              clear hw13 hP2 zf z0 z1 z2 z3 z4 z5 z6 hbx2
              have hc13 := HU.out.2.below hb13
              have HB13 : Hid (Below w7.heap.size w7 w13) := hb13
              clear k0 kA hbA hbd' u0' u1' HGd HWd HLv hK12 hb12
              obtain ⟨e0, e1, e2, e3, e4, e5, e6⟩ := e
              have d0 := cell_of hv13 0
              have d1 := cell_of hv13 1
              have d2 := cell_of hv13 2
              have d3 := cell_of hv13 3
              have d4 := cell_of hv13 4
              have d5 := cell_of hv13 5
              have d6 := cell_of hv13 6
              simp at d0 d1 d2 d3 d4 d5 d6
              have y0 := hc13.c0
              have y1 := hc13.c1
              have y2 := hc13.c2
              have y3 := hc13.c3
              have y4 := hc13.c4
              have y5 := hc13.c5
              have y6 := hc13.c6
              have heq : eqEn ⟨e0, e1, e2, e3, e4, e5, e6⟩ ⟨e0, e1, e2, e3, e4, e5, e6⟩ = true := (eqEn_iff _ _).2 rfl
              clear hc13 hv13 hb13
              go_upto_region 21 with fail
              go_quiet (fail)
              go_wp2
              exact ⟨⟨k + 1, by omega, by simp, below_drewN HB13.out _⟩, by simp [intOf]; omega⟩
          · have hub : (u.d == f.id) = false := by simpa using hud
            clear hud
            go_upto_region 19 with fail
            go_quiet (fail)
            go_wp2
            exact ⟨⟨k + 1, by omega, by simp, below_drewN HB.out _⟩, by simp [intOf]; omega⟩
        · have hkl : k = n := by omega
          subst hkl
          go_wp2_with (go_at_call 13; refine (HAw.out _).mono ?_; rintro x w12 ⟨rfl, hb12⟩)
          go_ret
          exact ⟨rfl, chainB (chainB (chainB H2.out.2.2.1 H7.out.1.law.bel) HB.out) hb12⟩
  · have hzb : (E != 0) = true := by simpa using hz
    have HZ : Hid (s7.es = s.es) := (H7.out.1.step.no (by rw [HO.out.1]; exact hz)).1
    have hT := H7.out.1.told.row
    unfold toldE at hT
    rw [HO.out.1, if_neg hz] at hT
    have hK := H7.out.1.keys
    unfold toldK at hK
    rw [HO.out.1, if_neg hz] at hK
    obtain ⟨a7, c7, rfl⟩ := owns_len hT
    obtain ⟨a8, c8, rfl⟩ := owns_len hK
    simp only [List.length_nil]
    clear hz hT hK
    go_wp2_with (first
      | (go_at_call 12; refine (dump_p t s7 _ H7.out.1.law.own.is).mono ?_; rintro x w8 ⟨v8, rfl, hr8, hb8⟩; rw [HZ.out] at hr8)
      | (go_at_call 16; refine (same_yes hr8 (H7.out.2.below hb8) H2.out.1.len).mono ?_; rintro x w9 ⟨rfl, hb9⟩)
      | (go_at_call 13; refine (HAw.out _).mono ?_; rintro x w12 ⟨rfl, hb12⟩))
    go_ret
    exact ⟨rfl, chainB (chainB (chainB (chainB H2.out.2.2.1 H7.out.1.law.bel) hb8) hb9) hb12⟩
end Go.Proofs.Ytjkgafbknjpjbab
