/- The program's tree: rename. -/
import Derived.Test.YtppbbddlbfgpfaaJWUps17
namespace Go.Proofs.Ytppbbddlbfgpfaa
section
open Go.RowKit
attribute [local go_sem high] eqK' neqK' eqE neqE eqN neqN guardK guardE guardN

/-- the boxes of rename: the entry that moves, the entry that is there -/
structure RBox (W : World) (k6 k8 : Nat) (e f : En) : Prop where
  a : W.heap[k6]? = some (.cells e.vals.toArray 42 (0, 0))
  b : W.heap[k8]? = some (.cells f.vals.toArray 42 (0, 0))
theorem RBox.below {W W' : World} {k6 k8 : Nat} {e f : En} (h : RBox W k6 k8 e f) (hb : Below W.heap.size W W') : RBox W' k6 k8 e f := ⟨hkeep h.a hb, hkeep h.b hb⟩
theorem rs_keep {W0 W W' : World} {k6 k8 : Nat} {e f : En} (h : W.cell? ⟨k6, 0, none⟩ = some (.int .i64 e.d) ∧ W.cell? ⟨k6, 1, none⟩ = some (.string e.nm) ∧ W.cell? ⟨k6, 3, none⟩ = some (.int .i64 e.id) ∧ W.cell? ⟨k6, 4, none⟩ = some (.int .i64 e.kind) ∧ W.cell? ⟨k6, 5, none⟩ = some (.int .i64 e.mode) ∧ W.cell? ⟨k6, 6, none⟩ = some (.string e.tg) ∧ W.cell? ⟨k8, 0, none⟩ = some (.int .i64 f.d) ∧ W.cell? ⟨k8, 1, none⟩ = some (.string f.nm) ∧ Below W0.heap.size W0 W) (hb : Below W.heap.size W W') :
    W'.cell? ⟨k6, 0, none⟩ = some (.int .i64 e.d) ∧ W'.cell? ⟨k6, 1, none⟩ = some (.string e.nm) ∧ W'.cell? ⟨k6, 3, none⟩ = some (.int .i64 e.id) ∧ W'.cell? ⟨k6, 4, none⟩ = some (.int .i64 e.kind) ∧ W'.cell? ⟨k6, 5, none⟩ = some (.int .i64 e.mode) ∧ W'.cell? ⟨k6, 6, none⟩ = some (.string e.tg) ∧ W'.cell? ⟨k8, 0, none⟩ = some (.int .i64 f.d) ∧ W'.cell? ⟨k8, 1, none⟩ = some (.string f.nm) ∧ Below W0.heap.size W0 W' := by
  obtain ⟨h0, h1, h2, h3, h4, h5, h6, h7, h8⟩ := h
  exact ⟨(hb.cell (cellLt h0)).trans h0, (hb.cell (cellLt h1)).trans h1, (hb.cell (cellLt h2)).trans h2, (hb.cell (cellLt h3)).trans h3, (hb.cell (cellLt h4)).trans h4, (hb.cell (cellLt h5)).trans h5, (hb.cell (cellLt h6)).trans h6, (hb.cell (cellLt h7)).trans h7, chainB h8 hb⟩
theorem row_two (W : World) (x y : En) (base : Nat) (h : base ≤ W.heap.size) : Row7 (W.alloc (.cells (x.vals ++ y.vals).toArray 42)) base (.slice (some ⟨W.heap.size, 0, none⟩) 2 2) [x, y] := by
  have : ec [x, y] = x.vals ++ y.vals := by unfold ec; simp
  unfold Row7
  rw [this]
  exact owns_whole h (heap_new _ _) rfl (by decide)
theorem RBox.cells {W : World} {k6 k8 : Nat} {e f : En} (h : RBox W k6 k8 e f) : (W.cell? ⟨k6, 0, none⟩ = some (.int .i64 e.d) ∧ W.cell? ⟨k6, 1, none⟩ = some (.string e.nm) ∧ W.cell? ⟨k6, 2, none⟩ = some (.bool e.neg) ∧ W.cell? ⟨k6, 3, none⟩ = some (.int .i64 e.id) ∧ W.cell? ⟨k6, 4, none⟩ = some (.int .i64 e.kind) ∧ W.cell? ⟨k6, 5, none⟩ = some (.int .i64 e.mode) ∧ W.cell? ⟨k6, 6, none⟩ = some (.string e.tg)) ∧ (W.cell? ⟨k8, 0, none⟩ = some (.int .i64 f.d) ∧ W.cell? ⟨k8, 1, none⟩ = some (.string f.nm) ∧ W.cell? ⟨k8, 2, none⟩ = some (.bool f.neg) ∧ W.cell? ⟨k8, 3, none⟩ = some (.int .i64 f.id) ∧ W.cell? ⟨k8, 4, none⟩ = some (.int .i64 f.kind) ∧ W.cell? ⟨k8, 5, none⟩ = some (.int .i64 f.mode) ∧ W.cell? ⟨k8, 6, none⟩ = some (.string f.tg)) := by
  have h1 := cells7_of h.a
  have h2 := cells7_of h.b
  have a1 := h1.c1
  have a2 := h1.c2
  have a3 := h1.c3
  have a4 := h1.c4
  have a5 := h1.c5
  have a6 := h1.c6
  have b1 := h2.c1
  have b2 := h2.c2
  have b3 := h2.c3
  have b4 := h2.c4
  have b5 := h2.c5
  have b6 := h2.c6
  simp only [Nat.zero_add] at a1 a2 a3 a4 a5 a6 b1 b2 b3 b4 b5 b6
  exact ⟨⟨h1.c0, a1, a2, a3, a4, a5, a6⟩, h2.c0, b1, b2, b3, b4, b5, b6⟩
/-- two entries, sorted -/
theorem two_sorted {l : List En} {x y : En} (hp : l.Perm [x, y]) (hr : Rises l) (hne : ¬ (x.d = y.d ∧ x.nm = y.nm)) : l = if lessK x.d x.nm y.d y.nm then [x, y] else [y, x] := by
  refine hr.same ?_ fun z => ?_
  · cases h : lessK x.d x.nm y.d y.nm with
    | true => exact List.pairwise_cons.2 ⟨fun z hz => by rw [List.mem_singleton.1 hz]; exact h, List.pairwise_singleton _ _⟩
    | false => exact List.pairwise_cons.2 ⟨fun z hz => by rw [List.mem_singleton.1 hz]; exact lessK_flip h fun k => hne ⟨k.1.symm, k.2.symm⟩, List.pairwise_singleton _ _⟩
  · rw [hp.mem_iff]
    split
    · rfl
    · simp [or_comm]

set_option maxHeartbeats 16000000 in
theorem rename_p (M : Nms) (hM : NmsP M) (t : Nat) (s : Tr) (o : Opn) (w : World) (h : IsP w t s) (wf : WF M s.es s.next) (hk : o.kind = 10) :
    Calls Try.prog 62 #[.pointer (some ⟨t, 0, none⟩), .agg o.arr] w fun e w' => MutR w w' e (doesE M s o) (tellL s o) := by
  obtain ⟨h1, h2⟩ := ren_does wf hk
  obtain ⟨e, E, hE, hnow, HL⟩ := Look_q M hM t s o.dir o.nm
  obtain ⟨f, F, hF, hnow2, HL2⟩ := Look_q M hM t s o.dst o.new
  obtain ⟨A, hA⟩ : ∃ x, doesE M s o = x := ⟨_, rfl⟩
  obtain ⟨TL, hTL⟩ : ∃ x, tellL s o = x := ⟨_, rfl⟩
  obtain ⟨IN, hIN⟩ : ∃ x, insideF s.es (s.es.length + 1) o.dst e.id = x := ⟨_, rfl⟩
  obtain ⟨Y, hY⟩ : ∃ x, yieldsE s.es f (e.kind == 1) = x := ⟨_, rfl⟩
  obtain ⟨Q, hQ⟩ : ∃ x, eqKy o.dir o.nm o.dst o.new = x := ⟨_, rfl⟩
  have HA : Hid (A = if E ≠ 0 then E else if F ≠ 0 then F else if e.neg then 40 else if IN then 45 else if Q then 0 else Y) := by
    show _ = _
    rw [← hA, h1, ← hE, ← hF]
    by_cases hz : E = 0
    · by_cases hz2 : F = 0
      · simp only [hz, hz2, ne_eq, not_true_eq_false, if_false]
        rw [← hIN, ← hY, ← hQ, hnow hz, hnow2 hz2]
      · simp [hz, hz2]
    · simp [hz]
  have HTL : Hid (E = 0 → e.neg = false → TL = if Q then [e] else if lessK o.dir o.nm o.dst o.new then [goneEn o.dir o.nm, movedEn e o.dst o.new] else [movedEn e o.dst o.new, goneEn o.dir o.nm]) := fun hz hn => by rw [← hTL, ← hQ]; rw [hnow hz] at hn ⊢; exact h2 hn
  have HIn : Hid (∀ w, IsP w t s → Calls Try.prog 80 #[.pointer (some ⟨t, 0, none⟩), .int .i64 o.dst, .int .i64 e.id] w fun x w' => x = .returned (.bool IN) ∧ Below w.heap.size w w') := fun w hw => by rw [← hIN]; exact inside_p t s o.dst e.id w hw
  have HY : Hid (∀ w, IsP w t s → Calls Try.prog 81 #[.pointer (some ⟨t, 0, none⟩), .agg #[.int .i64 f.d, .string f.nm, .bool f.neg, .int .i64 f.id, .int .i64 f.kind, .int .i64 f.mode, .string f.tg], .bool (e.kind == 1)] w fun x w' => x = .returned (.int .i64 Y) ∧ Below w.heap.size w w') := fun w hw => by rw [← hY]; exact yields_p t s f (e.kind == 1) w hw
  have HK : Hid ((E = 0 → e.d = o.dir ∧ e.nm = o.nm) ∧ (F = 0 → f.d = o.dst ∧ f.nm = o.new)) := ⟨fun hz => by rw [hnow hz]; exact nowE_key _ _ _, fun hz => by rw [hnow2 hz]; exact nowE_key _ _ _⟩
  have HQ : Hid (eqKy o.dir o.nm o.dst o.new = Q) := hQ
  have H : Hid (IsP w t s) := h
  rw [hA, hTL]
  clear h1 h2 h hM hE hF hA hTL hIN hY hQ hnow hnow2 wf hk
  obtain ⟨KB, hKB⟩ : ∃ x, (e.kind == 1) = x := ⟨_, rfl⟩
  rw [hKB] at HY
  obtain ⟨ok, od, onm, odst, onew, omode, otg⟩ := o
  simp only [Opn.arr] at *
  go_enter Try.func62, Try.ntmps62
  by_cases hz : E = 0
  · subst hz
    go_upto_region 4 with (go_at_call 11; refine (HL.out _ (H.out.below (below_alloc _ _))).mono ?_; rintro x w1 ⟨rfl, hb1⟩)
    have hop := hkeep (heap_new w (.cells #[.int .i64 ok, .int .i64 od, .string onm, .int .i64 odst, .string onew, .int .i64 omode, .string otg] 65)) hb1
    have hbw1 := chainB (below_alloc w (.cells #[.int .i64 ok, .int .i64 od, .string onm, .int .i64 odst, .string onew, .int .i64 omode, .string otg] 65)) hb1
    obtain ⟨W1, hW1⟩ : ∃ W1, w1.alloc (.cells #[.int .i64 e.d, .string e.nm, .bool e.neg, .int .i64 e.id, .int .i64 e.kind, .int .i64 e.mode, .string e.tg] 42) = W1 := ⟨_, rfl⟩
    have hbx1 : W1.heap[w1.heap.size]? = some (.cells e.vals.toArray 42 (0, 0)) := by rw [← hW1]; exact heap_new _ _
    have hop1 : W1.heap[w.heap.size]? = some (.cells #[.int .i64 ok, .int .i64 od, .string onm, .int .i64 odst, .string onew, .int .i64 omode, .string otg] 65 (0, 0)) := by rw [← hW1]; exact hkeep hop (below_alloc _ _)
    have hbW1 : Below w.heap.size w W1 := by rw [← hW1]; exact chainB hbw1 (below_alloc _ _)
    rw [hW1]
    have o3 := cell_of hop1 3
    have o4 := cell_of hop1 4
    simp at o3 o4
    have H1 : Hid (W1.heap[w1.heap.size]? = some (.cells e.vals.toArray 42 (0, 0)) ∧ W1.heap[w.heap.size]? = some (.cells #[.int .i64 ok, .int .i64 od, .string onm, .int .i64 odst, .string onew, .int .i64 omode, .string otg] 65 (0, 0)) ∧ Below w.heap.size w W1) := ⟨hbx1, hop1, hbW1⟩
    clear hW1 hop hbw1 hbx1 hop1 hbW1 hb1
    by_cases hz2 : F = 0
    · subst hz2
      go_upto_region 7 with (go_at_call 11; refine (HL2.out _ (H.out.below H1.out.2.2)).mono ?_; rintro x w2 ⟨rfl, hb2⟩)
      obtain ⟨W2, hW2⟩ : ∃ W2, w2.alloc (.cells #[.int .i64 f.d, .string f.nm, .bool f.neg, .int .i64 f.id, .int .i64 f.kind, .int .i64 f.mode, .string f.tg] 42) = W2 := ⟨_, rfl⟩
      have hbx : RBox W2 w1.heap.size w2.heap.size e f := by rw [← hW2]; exact ⟨hkeep (hkeep H1.out.1 hb2) (below_alloc _ _), heap_new _ _⟩
      have hop2 : W2.heap[w.heap.size]? = some (.cells #[.int .i64 ok, .int .i64 od, .string onm, .int .i64 odst, .string onew, .int .i64 omode, .string otg] 65 (0, 0)) := by rw [← hW2]; exact hkeep (hkeep H1.out.2.1 hb2) (below_alloc _ _)
      have hbW2 : Below w.heap.size w W2 := by rw [← hW2]; exact chainB (chainB H1.out.2.2 hb2) (below_alloc _ _)
      rw [hW2]
      have p3 := cell_of hop2 3
      simp at p3
      obtain ⟨⟨x0, x1, x2, x3, x4, x5, x6⟩, y0, y1, y2, y3, y4, y5, y6⟩ := hbx.cells
      have H2 : Hid (RBox W2 w1.heap.size w2.heap.size e f ∧ Below w.heap.size w W2) := ⟨hbx, hbW2⟩
      clear hW2 hbx hop2 hbW2 hb2 o3 o4
      cases hn : e.neg with
      | true =>
        have HA2 : Hid (A = 40) := by show _ = _; rw [HA.out]; simp [hn]
        rw [hn] at x2
        go_wp2
        go_ret2
        exact MutR.no (by rw [HA2.out]; decide) (by rw [HA2.out]; rfl) H2.out.2
      | false =>
        rw [hn] at x2
        cases IN with
        | true =>
          have HA2 : Hid (A = 45) := by show _ = _; rw [HA.out]; simp [hn]
          go_wp2_with (go_at_call 80; refine (HIn.out _ (H.out.below H2.out.2)).mono ?_; rintro x w3 ⟨rfl, hb3⟩)
          go_ret2
          exact MutR.no (by rw [HA2.out]; decide) (by rw [HA2.out]; rfl) (chainB H2.out.2 hb3)
        | false =>
          obtain ⟨k1, k2⟩ := HK.out.1 (by simp)
          obtain ⟨k3, k4⟩ := HK.out.2 (by simp)
          have hQ2 : eqKy e.d e.nm f.d f.nm = Q := by rw [k1, k2, k3, k4]; exact HQ.out
          have HKK : Hid (e.d = od ∧ e.nm = onm ∧ f.d = odst ∧ f.nm = onew) := ⟨k1, k2, k3, k4⟩
          clear k1 k2 k3 k4
          cases Q with
          | true =>
            have HA2 : Hid (A = 0 ∧ TL = [e]) := ⟨by rw [HA.out]; simp [hn], by rw [HTL.out (by simp) hn]; simp⟩
            go_wp2_with (go_at_call 80; refine (HIn.out _ (H.out.below H2.out.2)).mono ?_; rintro x w3 ⟨rfl, hb3⟩; obtain ⟨⟨x0, x1, x2, x3, x4, x5, x6⟩, y0, y1, y2, y3, y4, y5, y6⟩ := (H2.out.1.below hb3).cells; rw [hn] at x2)
            go_ret2
            rw [HA2.out.1, HA2.out.2]
            have hv : e.vals = [.int .i64 e.d, .string e.nm, .bool false, .int .i64 e.id, .int .i64 e.kind, .int .i64 e.mode, .string e.tg] := by unfold En.vals; rw [hn]
            have := MutR.one (x := e) (w := w) (W := w3) rfl (chainB H2.out.2 hb3)
            rw [hv] at this
            exact this
          | false =>
            by_cases hY0 : Y = 0
            · subst hY0
              go_upto_region 16 with (first
                | (go_at_call 80; refine (HIn.out _ (H.out.below H2.out.2)).mono ?_; rintro x w3 ⟨rfl, hb3⟩; have H3 : Hid (RBox w3 w1.heap.size w2.heap.size e f ∧ Below w.heap.size w w3) := ⟨H2.out.1.below hb3, chainB H2.out.2 hb3⟩; obtain ⟨⟨x0, x1, x2, x3, x4, x5, x6⟩, y0, y1, y2, y3, y4, y5, y6⟩ := H3.out.1.cells; rw [hn] at x2; clear hb3)
                | (go_at_call 81; refine (HY.out _ (H.out.below H3.out.2)).mono ?_; rintro x w4 ⟨rfl, hb4⟩; have H4 : Hid (RBox w4 w1.heap.size w2.heap.size e f ∧ Below w.heap.size w w4) := ⟨H3.out.1.below hb4, chainB H3.out.2 hb4⟩; obtain ⟨⟨x0, x1, x2, x3, x4, x5, x6⟩, y0, y1, y2, y3, y4, y5, y6⟩ := H4.out.1.cells; rw [hn] at x2; clear hb4))
              have HG : Hid (∀ w, Calls Try.prog 44 #[.agg #[.int .i64 e.d, .string e.nm]] w fun x w' => x = .returned (.agg #[.int .i64 e.d, .string e.nm, .bool true, .int .i64 0, .int .i64 0, .int .i64 0, .string ⟨#[]⟩]) ∧ Below w.heap.size w w') := fun w => gone_p e.d e.nm w
              have hw4 := H4.out.2
              go_region_held3 (fun w' => w'.cell? ⟨w1.heap.size, 0, none⟩ = some (.int .i64 e.d) ∧ w'.cell? ⟨w1.heap.size, 1, none⟩ = some (.string e.nm) ∧ w'.cell? ⟨w1.heap.size, 3, none⟩ = some (.int .i64 e.id) ∧ w'.cell? ⟨w1.heap.size, 4, none⟩ = some (.int .i64 e.kind) ∧ w'.cell? ⟨w1.heap.size, 5, none⟩ = some (.int .i64 e.mode) ∧ w'.cell? ⟨w1.heap.size, 6, none⟩ = some (.string e.tg) ∧ w'.cell? ⟨w2.heap.size, 0, none⟩ = some (.int .i64 f.d) ∧ w'.cell? ⟨w2.heap.size, 1, none⟩ = some (.string f.nm) ∧ Below w.heap.size w w')
                (first | exact ⟨x0, x1, x3, x4, x5, x6, y0, y1, hw4.drew⟩ | assumption | exact rs_keep (by assumption) (by assumption) | exact rs_keep (by assumption) (below_alloc _ _))
                (first | (go_at_call 44; refine (HG.out _).mono ?_; rintro x w5 ⟨rfl, hb5⟩))
              have hbw5 : Below w.heap.size w w5 := chainB hw4.drew hb5
              have hr6 := row_two w5 (goneEn e.d e.nm) (movedEn e f.d f.nm) w.heap.size hbw5.size
              obtain ⟨W6, hW6⟩ : ∃ W6, w5.alloc (.cells #[.int .i64 e.d, .string e.nm, .bool true, .int .i64 0, .int .i64 0, .int .i64 0, .string ⟨#[]⟩, .int .i64 f.d, .string f.nm, .bool false, .int .i64 e.id, .int .i64 e.kind, .int .i64 e.mode, .string e.tg] 42) = W6 := ⟨_, rfl⟩
              have hr6' : Row7 W6 w.heap.size (.slice (some ⟨w5.heap.size, 0, none⟩) 2 2) [goneEn e.d e.nm, movedEn e f.d f.nm] := by rw [← hW6]; exact hr6
              have hbw6 : Below w.heap.size w W6 := by rw [← hW6]; exact chainB hbw5 (below_alloc _ _)
              rw [hW6]
              have hs := sort_p w5.heap.size 2 2 w.heap.size [goneEn e.d e.nm, movedEn e f.d f.nm] W6 hr6' rfl (by decide)
              have HS : Hid (Calls Try.prog 32 #[.slice (some ⟨w5.heap.size, 0, none⟩) 2 2, .func (.func 66) #[] #[]] W6 fun x w' => x = .returned (.tuple #[]) ∧ ∃ es' : List En, es'.Perm [goneEn e.d e.nm, movedEn e f.d f.nm] ∧ (Apart [goneEn e.d e.nm, movedEn e f.d f.nm] → Rises es') ∧ w'.ownsRow w.heap.size 42 7 (.slice (some ⟨w5.heap.size, 0, none⟩) 2 2) 2 (ec es') ∧ Only (· = w5.heap.size) W6 w') := hs
              have HB6 : Hid (Below w.heap.size w W6 ∧ w.heap.size ≤ w5.heap.size) := ⟨hbw6, hbw5.size⟩
              have hne : ¬ (e.d = f.d ∧ e.nm = f.nm) := fun k => by
                have : eqKy e.d e.nm f.d f.nm = true := decide_eq_true k
                rw [hQ2] at this; cases this
              have HA2 : Hid (A = 0 ∧ TL = if lessK e.d e.nm f.d f.nm then [goneEn e.d e.nm, movedEn e f.d f.nm] else [movedEn e f.d f.nm, goneEn e.d e.nm]) := ⟨by rw [HA.out]; simp [hn], by rw [HTL.out (by simp) hn, HKK.out.1, HKK.out.2.1, HKK.out.2.2.1, HKK.out.2.2.2]; simp⟩
              have HNe : Hid (¬ (e.d = f.d ∧ e.nm = f.nm)) := hne
              clear hW6 hr6 hr6' hbw6 hs hne hbw5 hb5 hQ2
              go_wp2_with (go_at_call 32; refine HS.out.mono ?_; rintro x w7 ⟨rfl, es7, hp7, hr7, hown7, hO7⟩)
              go_ret2
              have hap : Apart [goneEn e.d e.nm, movedEn e f.d f.nm] := List.pairwise_cons.2 ⟨fun z hz => by rw [List.mem_singleton.1 hz]; exact HNe.out, List.pairwise_singleton _ _⟩
              have hes := two_sorted hp7 (hr7 hap) HNe.out
              have hl7 : es7.length = 2 := hp7.length_eq
              refine ⟨.slice (some ⟨w5.heap.size, 0, none⟩) 2 2, by rw [HA2.out.1]; rfl, ?_, hO7.below HB6.out.1 HB6.out.1.size (fun k hk => by rw [hk]; exact HB6.out.2)⟩
              rw [HA2.out.1, if_pos rfl, HA2.out.2]
              have : (if lessK e.d e.nm f.d f.nm = true then [goneEn e.d e.nm, movedEn e f.d f.nm] else [movedEn e f.d f.nm, goneEn e.d e.nm]) = es7 := hes.symm
              rw [this]
              unfold Row7
              rw [hl7]; exact hown7
            · have hYb : (Y != 0) = true := by simpa using hY0
              have HA2 : Hid (A = Y ∧ Y ≠ 0) := ⟨by rw [HA.out]; simp [hn], hY0⟩
              clear hY0
              go_wp2_with (first
                | (go_at_call 80; refine (HIn.out _ (H.out.below H2.out.2)).mono ?_; rintro x w3 ⟨rfl, hb3⟩; have H3 : Hid (RBox w3 w1.heap.size w2.heap.size e f ∧ Below w.heap.size w w3) := ⟨H2.out.1.below hb3, chainB H2.out.2 hb3⟩; obtain ⟨⟨x0, x1, x2, x3, x4, x5, x6⟩, y0, y1, y2, y3, y4, y5, y6⟩ := H3.out.1.cells; rw [hn] at x2; clear hb3)
                | (go_at_call 81; refine (HY.out _ (H.out.below H3.out.2)).mono ?_; rintro x w4 ⟨rfl, hb4⟩))
              go_ret2
              exact MutR.no (by rw [HA2.out.1]; exact HA2.out.2) (by rw [HA2.out.1]; rfl) (chainB H3.out.2 hb4)
    · have hzb : (F != 0) = true := by simpa using hz2
      have HA2 : Hid (A = F ∧ F ≠ 0) := ⟨by rw [HA.out]; simp [hz2], hz2⟩
      clear hz2
      go_wp2_with (go_at_call 11; refine (HL2.out _ (H.out.below H1.out.2.2)).mono ?_; rintro x w2 ⟨rfl, hb2⟩)
      go_ret2
      exact MutR.no (by rw [HA2.out.1]; exact HA2.out.2) (by rw [HA2.out.1]; rfl) (chainB (chainB H1.out.2.2 hb2) (below_alloc _ _))
  · have hzb : (E != 0) = true := by simpa using hz
    have HA2 : Hid (A = E ∧ E ≠ 0) := ⟨by rw [HA.out]; simp [hz], hz⟩
    clear hz
    go_wp2_with (go_at_call 11; refine (HL.out _ (H.out.below (below_alloc _ _))).mono ?_; rintro x w1 ⟨rfl, hb1⟩)
    go_ret2
    exact MutR.no (by rw [HA2.out.1]; exact HA2.out.2) (by rw [HA2.out.1]; rfl) (chainB (chainB (below_alloc _ _) hb1) (below_alloc _ _))
end
section
open Go.RowKit
attribute [local go_sem high] eqK' neqK' eqE neqE eqN neqN guardK guardE guardN

/-- a method value of the tree -/
def mutF (t f : Nat) : Value := .func (.func f) #[.pointer (some ⟨t, 0, none⟩)] #[]
def mutMap (t : Nat) : Array MapEntry := #[⟨.int .i64 5, mutF t 57, 0⟩, ⟨.int .i64 6, mutF t 58, 1⟩, ⟨.int .i64 7, mutF t 59, 2⟩, ⟨.int .i64 8, mutF t 60, 3⟩, ⟨.int .i64 9, mutF t 61, 4⟩, ⟨.int .i64 10, mutF t 62, 5⟩, ⟨.int .i64 11, mutF t 63, 6⟩]
theorem run_make (w : World) : (Instr.makeMap 95 none).run Try.prog w = .ok (.map (some w.heap.size)) (w.alloc (.map #[] 0)) := rfl
theorem push_again (a : Array Obj) (o o' : Obj) : (a.push o).setIfInBounds a.size o' = a.push o' := by
  apply Array.ext_getElem?
  intro i
  rw [Array.getElem?_setIfInBounds]
  by_cases h : a.size = i
  · subst h; simp
  · rw [if_neg h]
    simp only [Array.getElem?_push]
    rw [if_neg (Ne.symm h), if_neg (Ne.symm h)]
theorem getO {P : Program} {w : World} {r c : Nat} {es : Array MapEntry} (hb : w.heap[r]? = some (.map es c)) : (getObj r).run P w = .ok (.map es c) w := by simp [getObj, Sem.run, hb]
theorem setO (P : Program) (w : World) (es : Array MapEntry) (c : Nat) (o' : Obj) : (setObj w.heap.size o').run P (w.alloc (.map es c)) = .ok () (w.alloc o') := by
  obtain ⟨o, ho⟩ : ∃ o, Obj.map es c = o := ⟨_, rfl⟩
  have hb : (w.alloc (.map es c)).heap[w.heap.size]? = some (.map es c) := heap_new _ _
  rw [ho] at hb ⊢
  have h1 : ({ w.alloc o with heap := (w.alloc o).heap.setIfInBounds w.heap.size o' } : World) = w.alloc o' := by
    show World.mk ((w.heap.push o).setIfInBounds w.heap.size o') w.tape w.drawn w.os w.output = World.mk (w.heap.push o') w.tape w.drawn w.os w.output
    rw [push_again]
  rw [← h1]
  simp only [setObj, Sem.run, hb]
  rw [← ho]
theorem check_int (b : Bool) (k : Int) (w : World) : (Instr.checkKey b 10000 3 (.int .i64 k)).run Try.prog w = .ok () w := by
  rw [show (10000 : Nat) = 9999 + 1 from rfl, Instr.checkKey]
  simp [run_underlying Try.underlying3]
theorem run_ins (w : World) (es : Array MapEntry) (c : Nat) (k : Int) (v : Value) (h : Instr.findNow (.int .i64) (.int .i64 k) es.toList 0 = some none) :
    (Instr.mapUpdate 95 (.map (some w.heap.size)) (.int .i64 k) v).run Try.prog (w.alloc (.map es c)) = .ok () (w.alloc (.map (es.push ⟨.int .i64 k, v, c⟩) (c + 1))) := by
  have hb : (w.alloc (.map es c)).heap[w.heap.size]? = some (.map es c) := heap_new _ _
  unfold Instr.mapUpdate
  simp [run_underlying Try.underlying95, getO hb, check_int, Instr.findKey, run_underlying Try.underlying3, h, setO]
theorem run_look (w : World) (b t : Nat) (k : Int) (i : Nat) (v : Value) (hb : w.heap[b]? = some (.map (mutMap t) 7)) (h : Instr.findNow (.int .i64) (.int .i64 k) (mutMap t).toList 0 = some (some (i, v))) :
    (Instr.lookup 95 (.map (some b)) (.int .i64 k) true).run Try.prog w = .ok (.tuple #[v, .bool true]) w := by
  unfold Instr.lookup
  simp [run_underlying Try.underlying95, getO hb, check_int, Instr.findKey, run_underlying Try.underlying3, h]
theorem run_look_no (w : World) (b t : Nat) (k : Int) (hb : w.heap[b]? = some (.map (mutMap t) 7)) (h : k < 5 ∨ 11 < k) :
    (Instr.lookup 95 (.map (some b)) (.int .i64 k) true).run Try.prog w = .ok (.tuple #[.nilFunc, .bool false]) w := by
  have hf : Instr.findNow (.int .i64) (.int .i64 k) (mutMap t).toList 0 = some none := by
    have h5 : (k == 5) = false := by simp; omega
    have h6 : (k == 6) = false := by simp; omega
    have h7 : (k == 7) = false := by simp; omega
    have h8 : (k == 8) = false := by simp; omega
    have h9 : (k == 9) = false := by simp; omega
    have h10 : (k == 10) = false := by simp; omega
    have h11 : (k == 11) = false := by simp; omega
    simp [mutMap, Instr.findNow, Instr.sameNow, h5, h6, h7, h8, h9, h10, h11]
  unfold Instr.lookup
  simp [run_underlying Try.underlying95, getO hb, check_int, Instr.findKey, run_underlying Try.underlying3, hf, Try.zeroValue93]

set_option maxHeartbeats 4000000 in
theorem mutations_p (t : Nat) (w : World) : Calls Try.prog 36 #[.pointer (some ⟨t, 0, none⟩)] w fun e w' => e = .returned (.map (some w.heap.size)) ∧ w' = w.alloc (.map (mutMap t) 7) := by
  have i0 := run_make w
  have i1 := run_ins w #[] 0 5 (mutF t 57) rfl
  have i2 := run_ins w #[⟨.int .i64 5, mutF t 57, 0⟩] 1 6 (mutF t 58) rfl
  have i3 := run_ins w #[⟨.int .i64 5, mutF t 57, 0⟩, ⟨.int .i64 6, mutF t 58, 1⟩] 2 7 (mutF t 59) rfl
  have i4 := run_ins w #[⟨.int .i64 5, mutF t 57, 0⟩, ⟨.int .i64 6, mutF t 58, 1⟩, ⟨.int .i64 7, mutF t 59, 2⟩] 3 8 (mutF t 60) rfl
  have i5 := run_ins w #[⟨.int .i64 5, mutF t 57, 0⟩, ⟨.int .i64 6, mutF t 58, 1⟩, ⟨.int .i64 7, mutF t 59, 2⟩, ⟨.int .i64 8, mutF t 60, 3⟩] 4 9 (mutF t 61) rfl
  have i6 := run_ins w #[⟨.int .i64 5, mutF t 57, 0⟩, ⟨.int .i64 6, mutF t 58, 1⟩, ⟨.int .i64 7, mutF t 59, 2⟩, ⟨.int .i64 8, mutF t 60, 3⟩, ⟨.int .i64 9, mutF t 61, 4⟩] 5 10 (mutF t 62) rfl
  have i7 := run_ins w #[⟨.int .i64 5, mutF t 57, 0⟩, ⟨.int .i64 6, mutF t 58, 1⟩, ⟨.int .i64 7, mutF t 59, 2⟩, ⟨.int .i64 8, mutF t 60, 3⟩, ⟨.int .i64 9, mutF t 61, 4⟩, ⟨.int .i64 10, mutF t 62, 5⟩] 6 11 (mutF t 63) rfl
  simp only [List.push_toArray, List.cons_append, List.nil_append, Nat.reduceAdd, mutF] at i1 i2 i3 i4 i5 i6 i7
  unfold mutMap mutF
  go_enter Try.func36, Try.ntmps36
  go_wp2
  go_ret
  exact ⟨rfl, rfl⟩
end
end Go.Proofs.Ytppbbddlbfgpfaa
