/- The document's tree: renamed. -/
import Derived.Test.YtjelggpkeogebaaTrW
namespace Go.Proofs.Ytjelggpkeogebaa
open Go.RowKit
attribute [local go_sem high] eqK neqK eqE neqE eqN neqN guardK guardE guardN

/-- the variables of renamed -/
structure RV (wr : World) (f g h : Nat) (d : Int) (nm : ByteArray) (d2 : Int) (nm2 : ByteArray) (e : En) : Prop where
  a : wr.heap[f]? = some (.cells #[.int .i64 d, .string nm] 52 (0, 0))
  b : wr.heap[g]? = some (.cells #[.int .i64 d2, .string nm2] 52 (0, 0))
  c : wr.heap[h]? = some (.cells #[.int .i64 e.id, .int .i64 e.kind, .int .i64 e.mode, .string e.tg] 54 (0, 0))
theorem RV.below {wr w' : World} {f g h : Nat} {d : Int} {nm : ByteArray} {d2 : Int} {nm2 : ByteArray} {e : En} (r : RV wr f g h d nm d2 nm2 e) (hb : Below wr.heap.size wr w') : RV w' f g h d nm d2 nm2 e := ⟨hkeep r.a hb, hkeep r.b hb, hkeep r.c hb⟩
theorem TS.var {w w' : World} {t k : Nat} {s s' : Tr} {cs : Array Value} {ty : TypeId} (h : TS w w' t s s') (h0 : IsT w t s) (ht : ty ≠ 60 ∧ ty ≠ 56) (hk : w.heap[k]? = some (.cells cs ty (0, 0))) : w'.heap[k]? = some (.cells cs ty (0, 0)) := by
  have hg : Tag w k ty := ⟨_, _, hk⟩
  exact (h.only.block k hg.lt (fun e => e.elim (fun e => hg.ne h0.tt ht.1 e) (fun e => hg.ne (h0.tv e) ht.2 rfl))).trans hk
theorem RV.ts {wr w' : World} {t f g h : Nat} {s s' : Tr} {d : Int} {nm : ByteArray} {d2 : Int} {nm2 : ByteArray} {e : En} (r : RV wr f g h d nm d2 nm2 e) (hs : TS wr w' t s s') (h0 : IsT wr t s) : RV w' f g h d nm d2 nm2 e := ⟨hs.var h0 (by decide) r.a, hs.var h0 (by decide) r.b, hs.var h0 (by decide) r.c⟩
theorem RV.cells {wr : World} {f g h : Nat} {d : Int} {nm : ByteArray} {d2 : Int} {nm2 : ByteArray} {e : En} (r : RV wr f g h d nm d2 nm2 e) : (wr.cell? ⟨f, 0, none⟩ = some (.int .i64 d) ∧ wr.cell? ⟨f, 1, none⟩ = some (.string nm)) ∧ (wr.cell? ⟨g, 0, none⟩ = some (.int .i64 d2) ∧ wr.cell? ⟨g, 1, none⟩ = some (.string nm2)) ∧ wr.cell? ⟨h, 0, none⟩ = some (.int .i64 e.id) ∧ wr.cell? ⟨h, 1, none⟩ = some (.int .i64 e.kind) ∧ wr.cell? ⟨h, 2, none⟩ = some (.int .i64 e.mode) ∧ wr.cell? ⟨h, 3, none⟩ = some (.string e.tg) :=
  ⟨⟨by rw [cell_of r.a]; rfl, by rw [cell_of r.a]; rfl⟩, ⟨by rw [cell_of r.b]; rfl, by rw [cell_of r.b]; rfl⟩, by rw [cell_of r.c]; rfl, by rw [cell_of r.c]; rfl, by rw [cell_of r.c]; rfl, by rw [cell_of r.c]; rfl⟩

theorem TS.as {w W : World} {t : Nat} {s s8 : Tr} {V : Value} {x : En} {RL : List En} (h : TS w W t s { s8 with v := V, es := s8.es ++ [x] }) (he : s8.es ++ [x] = RL) (hn : s8.next = s.next) (hv : s8.vers = s.vers) : ∃ v', TS w W t s { s with v := v', es := RL, next := s.next } := by
  subst he
  have e : ({ s8 with v := V, es := s8.es ++ [x] } : Tr) = { s with v := V, es := s8.es ++ [x], next := s.next } := by rw [← hn, ← hv]
  exact ⟨V, e ▸ h⟩

set_option maxRecDepth 20000 in
set_option maxHeartbeats 16000000 in
theorem renamed_any (t : Nat) (s : Tr) (d : Int) (nm : ByteArray) (d2 : Int) (nm2 : ByteArray) (w : World) (h : IsT w t s) (hroom : ∀ i e, atI s.es d nm = some i → s.es[i]? = some e → (goneL (if (otherE s.es i d2 nm2).isSome then goneL s.es d2 nm2 else s.es) d nm).length + 1 ≤ 47) :
    Calls Try.prog 62 #[.pointer (some ⟨t, 0, none⟩), .agg #[.int .i64 d, .string nm], .agg #[.int .i64 d2, .string nm2]] w fun e w' => e = .returned (.int .i64 (renamedE s.es d nm d2 nm2)) ∧ Left w w' t s (renamedE s.es d nm d2 nm2) (renamedL s.es d nm d2 nm2) s.next := by
  have H : Hid (IsT w t s) := h
  have hlt := h.tt.lt
  cases hq : atI s.es d nm with
  | none =>
    have HA : Hid _ := atN t s d nm hq
    have hE : renamedE s.es d nm d2 nm2 = 40 := by unfold renamedE; rw [hq]
    rw [hE]
    clear hq h hE hroom
    go_enter Try.func62, Try.ntmps62
    go_wp2_with (go_at_call 63; refine (HA.out _ ((H.out.below (below_alloc _ _)).below (below_alloc _ _))).mono ?_; rintro e w1 ⟨rfl, hb1⟩)
    go_ret
    exact ⟨rfl, Left.no (by decide) (chainB (chainB (below_alloc _ _) (below_alloc _ _)) hb1)⟩
  | some i =>
    have HA : Hid _ := atS t s d nm i hq
    obtain ⟨e, he, -, -⟩ := atI_lt hq
    have hE : renamedE s.es d nm d2 nm2 = if e.kind = 1 ∧ withinF s.es (s.es.length + 1) d2 e.id = true then 45 else renErr s.es e (otherE s.es i d2 nm2) := by
      unfold renamedE; rw [hq]; simp only [he]
    have hL : renamedL s.es d nm d2 nm2 = goneL (if (otherE s.es i d2 nm2).isSome then goneL s.es d2 nm2 else s.es) d nm ++ [{ e with d := d2, nm := nm2, neg := false }] := by
      unfold renamedL; rw [hq]; simp only [he]
    have hr47 := hroom i e hq he
    rw [hE, hL]
    obtain ⟨g, n, cap, _, -, hin, hn47, hg, ct, hc, -⟩ := h.entry he
    have HC : Hid (Cells7 w g (i * 7) e) := hc
    have hii : (i : Int) < (n : Int) := by omega
    have HAt : Hid (∀ w1, Below w.heap.size w w1 → w1.cell? ⟨t, 0, none⟩ = some (.slice (some ⟨g, 0, none⟩) n cap) ∧ Cells7 w1 g (i * 7) e) := fun w1 hb => ⟨(hb.cell (p := ⟨t, 0, none⟩) hlt).trans ct, HC.out.below hb⟩
    clear hE hL hc ct h hroom
    obtain ⟨WI, hWI⟩ : ∃ x, withinF s.es (s.es.length + 1) d2 e.id = x := ⟨_, rfl⟩
    have HWI : Hid (∀ w, IsT w t s → Calls Try.prog 28 #[.pointer (some ⟨t, 0, none⟩), .int .i64 d2, .int .i64 e.id] w fun e w' => e = .returned (.bool WI) ∧ Below w.heap.size w w') := by
      intro w hw; rw [← hWI]; exact within_any t s d2 e.id w hw
    rw [hWI]
    obtain ⟨O, hO⟩ : ∃ x, otherE s.es i d2 nm2 = x := ⟨_, rfl⟩
    have HO : Hid (otherE s.es i d2 nm2 = O) := hO
    rw [hO] at hr47 ⊢
    obtain ⟨E, hE'⟩ : ∃ x, (if e.kind = 1 ∧ WI = true then 45 else renErr s.es e O) = x := ⟨_, rfl⟩
    have HE : Hid ((if e.kind = 1 ∧ WI = true then 45 else renErr s.es e O) = E) := hE'
    obtain ⟨RL, hRL'⟩ : ∃ x, goneL (if O.isSome then goneL s.es d2 nm2 else s.es) d nm ++ [{ e with d := d2, nm := nm2, neg := false }] = x := ⟨_, rfl⟩
    have HRL : Hid (goneL (if O.isSome then goneL s.es d2 nm2 else s.es) d nm ++ [{ e with d := d2, nm := nm2, neg := false }] = RL ∧ (goneL (if O.isSome then goneL s.es d2 nm2 else s.es) d nm).length + 1 ≤ 47) := ⟨hRL', hr47⟩
    rw [hE', hRL']
    clear hE' hRL' hr47
    have hbx := boxes2 (w := w) (c1 := #[.int .i64 d, .string nm]) (c2 := #[.int .i64 d2, .string nm2]) (t1 := 52) (t2 := 52) rfl
    go_enter Try.func62, Try.ntmps62
    go_upto_region 4 with (go_at_call 63; refine (HA.out _ (H.out.below hbx.2.2.1)).mono ?_; rintro x w1 ⟨rfl, hb1⟩; have hw := chainB hbx.2.2.1 hb1; obtain ⟨f0, fc⟩ := HAt.out w1 hw; have y3 := fc.c3; have y4 := fc.c4; have y5 := fc.c5; have y6 := fc.c6; have v0 := hkeep hbx.1 hb1; have v1 := hkeep hbx.2.1 hb1; clear fc)
    go_upto_region 5 with fail
    obtain ⟨W, hW⟩ : ∃ W, w1.alloc (.cells #[.int .i64 e.id, .int .i64 e.kind, .int .i64 e.mode, .string e.tg] 54) = W := ⟨_, rfl⟩
    rw [hW]
    have HW : Hid (RV W w.heap.size (w.heap.size + 1) w1.heap.size d nm d2 nm2 e ∧ IsT W t s ∧ Below w.heap.size w W) := by
      rw [← hW]
      exact ⟨⟨hkeep v0 (below_alloc _ _), hkeep v1 (below_alloc _ _), heap_new _ _⟩, (H.out.below hw).below (below_alloc _ _), chainB hw (below_alloc _ _)⟩
    obtain ⟨kh, hkh⟩ : ∃ x, w1.heap.size = x := ⟨_, rfl⟩
    rw [hkh] at HW ⊢
    obtain ⟨⟨p0, p1⟩, ⟨p2, p3⟩, p4, p5, p6, p7⟩ := HW.out.1.cells
    clear hW hb1 hw f0 y3 y4 y5 y6 v0 v1 hbx hkh HA hq he
    by_cases h45 : e.kind = 1 ∧ WI = true
    · obtain ⟨hk, rfl⟩ := h45
      have H45 : Hid (E = 45) := by show _ = _; rw [← HE.out, if_pos ⟨hk, rfl⟩]
      have hkb : (e.kind == 1) = true := by simpa using hk
      clear hk
      go_wp2_with (go_at_call 28; refine (HWI.out _ HW.out.2.1).mono ?_; rintro x w4 ⟨rfl, hb4⟩)
      go_ret
      exact ⟨by rw [H45.out]; rfl, Left.no (by rw [H45.out]; decide) (chainB HW.out.2.2 hb4)⟩
    · have HER : Hid (renErr s.es e O = E) := by show _ = _; rw [← HE.out, if_neg h45]
      have HK : Hid (¬ (e.kind = 1 ∧ WI = true)) := h45
      clear h45
      go_cut [34] from 24 to 33 (fun x wx => x = .bool false ∧ RV wx w.heap.size (w.heap.size + 1) kh d nm d2 nm2 e ∧ IsT wx t s ∧ Below w.heap.size w wx)
      case first =>
        by_cases hk : e.kind = 1
        · have hkb : (e.kind == 1) = true := by simpa using hk
          obtain rfl : WI = false := by cases WI with | false => rfl | true => exact absurd ⟨hk, rfl⟩ HK.out
          clear hk
          go_wp2_with (go_at_call 28; refine (HWI.out _ HW.out.2.1).mono ?_; rintro x w4 ⟨rfl, hb4⟩)
          go_meet
          exact ⟨rfl, HW.out.1.below hb4, HW.out.2.1.below hb4, chainB HW.out.2.2 hb4⟩
        · have hkb : (e.kind == 1) = false := by simpa using hk
          clear hk
          go_wp2_with fail
          go_meet
          exact ⟨rfl, HW.out.1, HW.out.2.1, HW.out.2.2⟩
      case rest =>
        obtain ⟨rfl, hrv, hIs, hbw⟩ := hcut
        have HW : Hid (RV wc w.heap.size (w.heap.size + 1) kh d nm d2 nm2 e ∧ IsT wc t s ∧ Below w.heap.size w wc) := ⟨hrv, hIs, hbw⟩
        obtain ⟨⟨p0, p1⟩, ⟨p2, p3⟩, p4, p5, p6, p7⟩ := HW.out.1.cells
        clear hrv hIs hbw HK HWI
        obtain ⟨J, hJ⟩ : ∃ x, atV s.es d2 nm2 = x := ⟨_, rfl⟩
        have HAJ : Hid (∀ w, IsT w t s → Calls Try.prog 63 #[.pointer (some ⟨t, 0, none⟩), .agg #[.int .i64 d2, .string nm2]] w fun e w' => e = .returned (.int .i64 J) ∧ Below w.heap.size w w') := by
          intro w hw; rw [← hJ]; exact at_any t s d2 nm2 w hw
        have HOJ : Hid ((∃ (j : Nat) (f : En), J = (j : Int) ∧ j ≠ i ∧ s.es[j]? = some f ∧ O = some f) ∨ (O = none ∧ (J = -1 ∨ J = (i : Int)))) := by
          have ho := HO.out
          unfold otherE at ho
          unfold atV at hJ
          cases hq2 : atI s.es d2 nm2 with
          | none =>
            rw [hq2] at ho hJ
            exact .inr ⟨ho.symm, .inl hJ.symm⟩
          | some j =>
            rw [hq2] at ho hJ
            obtain ⟨f, hf, -, -⟩ := atI_lt hq2
            by_cases hji : j = i
            · simp only [hji, if_true] at ho
              exact .inr ⟨ho.symm, .inr (by rw [← hJ, hji])⟩
            · simp only [hji, if_false] at ho
              exact .inl ⟨j, f, hJ.symm, hji, hf, by rw [← ho, hf]⟩
        clear hJ
        go_upto_region 8 with (go_at_call 63; refine (HAJ.out _ HW.out.2.1).mono ?_; rintro x w5 ⟨rfl, hb5⟩; have H5 : Hid (RV w5 w.heap.size (w.heap.size + 1) kh d nm d2 nm2 e ∧ IsT w5 t s ∧ Below w.heap.size w w5) := ⟨HW.out.1.below hb5, HW.out.2.1.below hb5, chainB HW.out.2.2 hb5⟩)
        clear hb5 p0 p1 p2 p3 p4 p5 p6 p7 HW HAJ
        go_cut [44] from 38 to 43 (fun x wx => x = .bool O.isSome ∧ w5 = wx)
        case first =>
          rcases HOJ.out with ⟨j, f, rfl, hji, hf, hO'⟩ | ⟨hO', rfl | rfl⟩
          · have HO' : Hid (O = some f) := hO'
            have hne : ((j : Int) != (i : Int)) = true := by simp; omega
            clear hO' hf
            go_wp2_with fail
            go_meet
            exact ⟨by rw [HO'.out]; rfl, rfl⟩
          · have HO' : Hid (O = none) := hO'
            clear hO'
            go_wp2_with fail
            go_meet
            exact ⟨by rw [HO'.out]; rfl, rfl⟩
          · have HO' : Hid (O = none) := hO'
            clear hO'
            go_wp2_with fail
            go_meet
            exact ⟨by rw [HO'.out]; rfl, rfl⟩
        case rest =>
          obtain ⟨rfl, rfl⟩ := hcut
          go_upto_if 44 with fail
          go_cut [10] from 45 to 81 (fun _ wx => E = 0 ∧ ∃ s1, TS w wx t s s1 ∧ s1.es = (if O.isSome then goneL s.es d2 nm2 else s.es) ∧ s1.next = s.next ∧ s1.vers = s.vers ∧ RV wx w.heap.size (w.heap.size + 1) kh d nm d2 nm2 e)
          case first =>
            rcases HOJ.out with ⟨j, f, rfl, hji, hf, rfl⟩ | ⟨rfl, -⟩
            · obtain ⟨gj, nj, capj, -, -, hjn, hj47, hgj, ctj, hcj, -⟩ := H5.out.2.1.entry hf
              obtain ⟨⟨p0, p1⟩, ⟨p2, p3⟩, p4, p5, p6, p7⟩ := H5.out.1.cells
              have x3 := hcj.c3
              have x4 := hcj.c4
              have x5 := hcj.c5
              have x6 := hcj.c6
              have hji' : (j : Int) < (nj : Int) := by omega
              have hkl : kh < w5.heap.size := cellLt p4
              have hwl1 : w.heap.size + 1 < w5.heap.size := cellLt p2
              have hwl0 : w.heap.size < w5.heap.size := cellLt p0
              have htl : t < w5.heap.size := H5.out.2.1.tt.lt
              have hER := HER.out
              unfold renErr at hER
              obtain ⟨nn, hnn⟩ : ∃ x, namesN s.es f.id = x := ⟨_, rfl⟩
              have HNn : Hid (∀ w, IsT w t s → Calls Try.prog 80 #[.pointer (some ⟨t, 0, none⟩), .int .i64 f.id] w fun e w' => e = .returned (.int .i64 (nn : Int)) ∧ w' = w) := by
                intro w hw; rw [← hnn]; exact names_any t s f.id w hw
              simp only [hnn] at hER
              have HG : Hid (∀ W, Below w5.heap.size w5 W → IsT W t s ∧ RV W w.heap.size (w.heap.size + 1) kh d nm d2 nm2 e ∧ Below w.heap.size w W) := fun W hb => ⟨H5.out.2.1.below hb, H5.out.1.below hb, chainB H5.out.2.2 hb⟩
              clear hnn hcj hf HER HE HOJ
              by_cases hk : e.kind = 1 <;> by_cases hkf : f.kind = 1
              · have hkb : (e.kind == 1) = true := by simpa using hk
                have hkn : (e.kind != 1) = false := by simpa using hk
                have hfb : (f.kind == 1) = true := by simpa using hkf
                have hfn : (f.kind != 1) = false := by simpa using hkf
                by_cases hz : 0 < nn
                · have HEE : Hid (E = 44) := by
                    show _ = _
                    rw [← hER]; simp [hk, hkf, hz]
                  have hzi : (0 : Int) < (nn : Int) := by omega
                  clear hER hk hkf
                  go_wp2_with (go_at_call 80; refine (HNn.out _ (HG.out _ (below_alloc _ _)).1).mono ?_; rintro x w6 ⟨rfl, rfl⟩)
                  go_ret
                  exact ⟨by rw [HEE.out]; rfl, Left.no (by rw [HEE.out]; decide) (HG.out _ (below_alloc _ _)).2.2⟩
                · have HEE : Hid (E = 0) := by
                    show _ = _
                    rw [← hER]; simp [hk, hkf, hz]
                  have hzi : ¬ (0 : Int) < (nn : Int) := by omega
                  clear hER hk hkf
                  go_wp2_with (first
                    | (go_at_call 80; refine (HNn.out _ (HG.out _ (below_alloc _ _)).1).mono ?_; rintro x w6 ⟨rfl, rfl⟩)
                    | (go_at_call 81; refine (gone_any t s d2 nm2 _ (HG.out _ (below_alloc _ _)).1).mono ?_; rintro x w7 ⟨rfl, v7, hS7⟩))
                  go_meet
                  exact ⟨HEE.out, _, hS7.le (HG.out _ (below_alloc _ _)).2.2, rfl, rfl, rfl, (HG.out _ (below_alloc _ _)).2.1.ts hS7 (HG.out _ (below_alloc _ _)).1⟩
              · have hkb : (e.kind == 1) = true := by simpa using hk
                have hfn : (f.kind != 1) = true := by simpa using hkf
                have HEE : Hid (E = 42) := by
                  show _ = _
                  rw [← hER]; simp [hk, hkf]
                clear hER hk hkf
                go_wp2_with fail
                go_ret
                exact ⟨by rw [HEE.out]; rfl, Left.no (by rw [HEE.out]; decide) (HG.out _ (below_alloc _ _)).2.2⟩
              · have hkb : (e.kind == 1) = false := by simpa using hk
                have hkn : (e.kind != 1) = true := by simpa using hk
                have hfb : (f.kind == 1) = true := by simpa using hkf
                have HEE : Hid (E = 43) := by
                  show _ = _
                  rw [← hER]; simp [hk, hkf]
                clear hER hk hkf
                go_wp2_with fail
                go_ret
                exact ⟨by rw [HEE.out]; rfl, Left.no (by rw [HEE.out]; decide) (HG.out _ (below_alloc _ _)).2.2⟩
              · have hkb : (e.kind == 1) = false := by simpa using hk
                have hkn : (e.kind != 1) = true := by simpa using hk
                have hfb : (f.kind == 1) = false := by simpa using hkf
                have HEE : Hid (E = 0) := by
                  show _ = _
                  rw [← hER]; simp [hk, hkf]
                clear hER hk hkf
                go_wp2_with (go_at_call 81; refine (gone_any t s d2 nm2 _ (HG.out _ (below_alloc _ _)).1).mono ?_; rintro x w7 ⟨rfl, v7, hS7⟩)
                go_meet
                exact ⟨HEE.out, _, hS7.le (HG.out _ (below_alloc _ _)).2.2, rfl, rfl, rfl, (HG.out _ (below_alloc _ _)).2.1.ts hS7 (HG.out _ (below_alloc _ _)).1⟩
            · have HE0 : Hid (E = 0) := HER.out.symm
              have HT : Hid _ := TS.stay H.out H5.out.2.2
              go_wp2_with fail
              go_meet
              exact ⟨HE0.out, s, HT.out, rfl, rfl, rfl, H5.out.1⟩
          case rest =>
            obtain ⟨hE0, s1, hTS, hes, hnx, hvs, hrv⟩ := hcut
            obtain ⟨i1, hi1, hw0, hw1, hw2⟩ := info_parts Try.infoE
            have HT : Hid (TS w wc t s s1 ∧ s1.es = (if O.isSome then goneL s.es d2 nm2 else s.es) ∧ s1.next = s.next ∧ s1.vers = s.vers ∧ RV wc w.heap.size (w.heap.size + 1) kh d nm d2 nm2 e ∧ E = 0) := ⟨hTS, hes, hnx, hvs, hrv, hE0⟩
            obtain ⟨⟨p0, p1⟩, -, -⟩ := hrv.cells
            clear hE0 hTS hes hnx hvs hrv H5 HOJ HER HE
            go_upto_region 18 with (go_at_call 81; refine (gone_any t s1 d nm _ HT.out.1.is).mono ?_; rintro x w8 ⟨rfl, v8, hS8⟩; have H8 : Hid (TS w w8 t s { s1 with v := v8, es := goneL s1.es d nm } ∧ RV w8 w.heap.size (w.heap.size + 1) kh d nm d2 nm2 e) := ⟨HT.out.1.trans hS8, HT.out.2.2.2.2.1.ts hS8 HT.out.1.is⟩; clear hS8 p0 p1)
            obtain ⟨s8, hs8⟩ : ∃ x, ({ s1 with v := v8, es := goneL s1.es d nm } : Tr) = x := ⟨_, rfl⟩
            have HS8 : Hid (s8.es = goneL (if O.isSome then goneL s.es d2 nm2 else s.es) d nm ∧ s8.next = s.next ∧ s8.vers = s.vers) := by
              rw [← hs8]; exact ⟨by show goneL s1.es d nm = _; rw [HT.out.2.1], HT.out.2.2.1, HT.out.2.2.2.1⟩
            rw [hs8] at H8
            clear hs8
            obtain ⟨-, ⟨p2, p3⟩, p4, p5, p6, p7⟩ := H8.out.2.cells
            obtain ⟨ct, -, -, cf⟩ := H8.out.1.is.cells
            obtain ⟨a, cap8, ev⟩ := owns_len H8.out.1.is.row
            rw [ev] at ct
            obtain ⟨n8, hn8⟩ : ∃ x, s8.es.length = x := ⟨_, rfl⟩
            rw [hn8] at ct ev
            have hown8 := H8.out.1.is.row
            rw [ev, hn8] at hown8
            have HV : Hid (s8.v = .slice a n8 cap8 ∧ s8.es.length = n8) := ⟨ev, hn8⟩
            have HOw : Hid (w8.drew.ownsRow 0 56 7 (.slice a n8 cap8) n8 (ec s8.es)) := hown8
            have hn47' : n8 + 1 ≤ 47 := by
              have := HRL.out.2
              rw [← HS8.out.1, hn8] at this
              exact this
            have htl : t < w8.heap.size := H8.out.1.is.tt.lt
            have hkl : kh < w8.heap.size := cellLt p4
            have hwl1 : w.heap.size + 1 < w8.heap.size := cellLt p2
            have cf0 := cf 0
            clear hown8 ev hn8 cf
            go_region_law (refine step_append_own_at rfl (.tmp 89) (.tmp 93) 22 rfl 0 56 i1 _ 7 72 Try.underlying22 hi1 hw0 hw1 hw2 rfl (by decide) (.slice a n8 cap8) n8 (ec s8.es) (by simp [Act.eval]) (World.ownsRow.alloc (by exact HOw.out) _) ⟨w8.heap.size, 0, none⟩ 1 1 (En.vals ⟨d2, nm2, false, e.id, e.kind, e.mode, e.tg⟩) (by simp [Act.eval]) rfl (vals_at _ ⟨d2, nm2, false, e.id, e.kind, e.mode, e.tg⟩ _) (vals_one _) (by unfold maxLen; omega) (by omega) (Nat.zero_le _) ?_; intro v3 w3 hown3 hgrow3 hat3; rw [← HV.out.2] at hown3; obtain ⟨d1, d2', -, HF⟩ := push_end (W := w8.drew) (e := ⟨d2, nm2, false, e.id, e.kind, e.mode, e.tg⟩) (H8.out.1.is.below (Below.refl _ _).drew) HV.out.1 (by rw [HV.out.2]; omega) hown3 hgrow3 hat3; obtain ⟨av, cv, rfl⟩ := owns_len hown3; clear hown3 hgrow3 hat3)
            all_goals
              have HZ : Hid (TS w _ t s _) := H8.out.1.trans HF.out.drew
              clear HF
              go_wp2
              go_ret
              exact ⟨by rw [HT.out.2.2.2.2.2]; rfl, Left.yes HT.out.2.2.2.2.2 (HZ.out.as (by rw [HS8.out.1]; exact HRL.out.1) HS8.out.2.1 HS8.out.2.2)⟩
end Go.Proofs.Ytjelggpkeogebaa
