/- The walk of the law TreeModes: it returns true. -/
import Derived.Test.YtjkgafbknjpjbacTqF
import Derived.Test.YtjkgafbknjpjbacPuM
namespace Go.Proofs.Ytjkgafbknjpjbac
open Go.RowKit
attribute [local go_sem high] eqK' neqK' eqE neqE eqN neqN guardK guardE guardN

theorem ps_off {w w' : World} {t : Nat} {s s' : Tr} {o : Obj} (h : PS (w.alloc o) w' t s s') (hi : IsP w t s) : ∀ q, s'.v.ownBlock = some q → q ≠ w.heap.size := fun q hq => by
  rcases h.v with e | e
  · rw [e] at hq; have := (hi.tv hq).lt; omega
  · have := e q hq; simp at this; omega
set_option maxRecDepth 20000 in
set_option maxHeartbeats 16000000 in
theorem walk_TreeModes (a : Option Addr) (cap : Nat) (ops : List Opn) (dir : Int) (nm : ByteArray) (mode : Int) (w : World) (row : RowOps w a ops) (hlen : ops.length ≤ 3000000000000) (_ : (Lit.int .i64 dir).wf = true) (_ : (Lit.int .i64 mode).wf = true) :
    Calls Try.prog 3 #[.slice a ops.length cap, .int .i64 dir, .string nm, .int .i64 mode] w fun e w' => e = .returned (.bool true) ∧ Below w.heap.size w w' := by
  have HBe : Hid (Calls Try.prog 6 #[.slice a ops.length cap] w fun e w' => ∃ t s, e = .returned (.tuple #[.pointer (some ⟨t, 0, none⟩), .bool true]) ∧ Law w w' t s ops.length) := (behind_p a cap ops w row hlen).mono fun _ _ h => Law.of h
  have HAw : Hid (∀ w, Calls Try.prog 11 #[] w fun e w' => e = .returned (.bool true) ∧ Below w.heap.size w w') := awake_p
  clear row
  go_enter Try.func3, Try.ntmps3
  go_upto_region 4 with (go_at_call 6; refine HBe.out.mono ?_; rintro x w1 ⟨t, s, rfl, hL⟩; have H1 : Hid (Law w w1 t s ops.length) := hL; clear hL)
  obtain ⟨f, F, hF, hf, HLo⟩ := Look_q Mn nmsP t s dir nm
  obtain ⟨o, ho⟩ : ∃ o : Opn, (⟨11, dir, nm, 0, ⟨#[]⟩, mode, ⟨#[]⟩⟩ : Opn) = o := ⟨_, rfl⟩
  obtain ⟨A, hA⟩ : ∃ x, doesE Mn s o = x := ⟨_, rfl⟩
  have hok : o.kind = 11 ∧ o.dir = dir ∧ o.nm = nm ∧ o.mode = mode := by rw [← ho]; exact ⟨rfl, rfl, rfl, rfl⟩
  have HA : Hid (doesE Mn s o = A ∧ o.kind = 11 ∧ o.dir = dir ∧ o.nm = nm ∧ o.mode = mode) := ⟨hA, hok⟩
  have hse := set_err (M := Mn) (s := s) hok.1
  rw [hA, hok.2.1, hok.2.2.1, hok.2.2.2] at hse
  rw [← hF] at hse
  have HS : Hid (A = (if F ≠ 0 then F else if badM mode then 1 else if (nowE s.es dir nm).neg = true ∧ atE s.es dir nm = none then 40 else 0) ∧ (F = 0 → f = nowE s.es dir nm) ∧ F = namedE Mn s.es dir nm) := ⟨hse, hf, hF⟩
  have HAp : Hid (∀ w1, Law w w1 t s ops.length → Calls Try.prog 9 #[.pointer (some ⟨t, 0, none⟩), .agg #[.int .i64 11, .int .i64 dir, .string nm, .int .i64 0, .string ⟨#[]⟩, .int .i64 mode, .string ⟨#[]⟩]] w1 fun e w' => ∃ v kv s', e = .returned (.tuple #[v, kv, .int .i64 A]) ∧ Hid (Did w w' t s s' ops.length o v kv ∧ PS w1 w' t s s' ∧ ∀ q, v.ownBlock = some q → w1.heap.size ≤ q)) := fun w1 h => by
    have := h.apply o (by omega)
    rw [← ho] at this
    refine this.mono fun e w' hh => ?_
    obtain ⟨v, kv, s', he, hd, hps⟩ := h.did hh
    rw [ho] at he hd
    obtain ⟨v', kv', s'', he', -, -, hr, -⟩ := hh
    rw [ho] at he'
    rw [he] at he'
    cases he'
    exact ⟨v, kv, s', by rw [← hA]; exact he, hd, hps, fun q hq => (World.ownsRow.lt hr q hq).1⟩
  clear ho hA hok hse hF hf
  go_upto_region 7 with (first
    | (go_at_call 7; refine (dump_p t s _ H1.out.own.is).mono ?_; rintro x w2 ⟨v2, rfl, hr2, hb2⟩; have H2 : Hid (Law w w2 t s ops.length ∧ Lst w.heap.size w2 s v2 s.es) := ⟨H1.out.below hb2, Lst.of H1.out.own.is hr2 H1.out.bel.size⟩; clear hr2 hb2)
    | (go_at_call 8; refine (HLo.out _ H2.out.1.own.is).mono ?_; rintro x w5 ⟨rfl, hb5⟩; have H5 : Hid ((∀ o, Law w (w5.alloc o) t s ops.length ∧ Lst w.heap.size (w5.alloc o) s v2 s.es) ∧ IsP w5 t s ∧ Row7 w5 w.heap.size v2 s.es ∧ w.heap.size ≤ w5.heap.size) := ⟨fun o => ⟨(H2.out.1.below hb5).alloc o, (H2.out.2.below hb5).below (below_alloc _ _)⟩, (H2.out.1.below hb5).own.is, (H2.out.2.below hb5).row, (H2.out.1.below hb5).bel.size⟩; clear hb5)
    | (go_at_call 9; refine (HAp.out _ (H5.out.1 _).1).mono ?_; rintro x w7 ⟨v7, k7, s7, rfl, h7⟩; have hbx := (h7.out.2.1.keep (k := w5.heap.size) (by simp) (by have := H5.out.2.1.tt.lt; omega) (fun e => by have := (H5.out.2.1.tv e).lt; omega)).trans (heap_new _ _); have H7 : Hid (Law w w7 t s7 (ops.length + 1) ∧ Step Mn s s7 o ∧ Lst w.heap.size w7 s7 v7 (toldE Mn s o) ∧ Row7 w7 w.heap.size v2 s.es ∧ (∀ q, s7.v.ownBlock = some q → q ≠ w5.heap.size) ∧ (∀ q, v7.ownBlock = some q → q ≠ w5.heap.size) ∧ (∀ q, v2.ownBlock = some q → q ≠ w5.heap.size)) := ⟨h7.out.1.law, h7.out.1.step, h7.out.1.told, ((H5.out.1 _).2.step (H5.out.1 _).1.own.is h7.out.2.1).row, ps_off h7.out.2.1 H5.out.2.1, fun q hq => by have := h7.out.2.2 q hq; simp at this; omega, fun q hq => by have := (World.ownsRow.lt H5.out.2.2.1 q hq).2; omega⟩; clear h7))
  have hfb := free_of hbx
  have b2 := cell_of hbx 2
  simp at b2
  have HBx : Hid (w7.heap[w5.heap.size]? = some (.cells #[.int .i64 f.d, .string f.nm, .bool f.neg, .int .i64 f.id, .int .i64 f.kind, .int .i64 f.mode, .string f.tg] 33 (0, 0))) := hbx
  clear hbx HLo HAp HBe
  by_cases hF0 : F = 0
  · have HN : Hid (f = nowE s.es dir nm ∧ A = (if badM mode then 1 else if f.neg = true then 40 else 0)) := by
      have e1 := HS.out.2.1 hF0
      have e2 := HS.out.1
      rw [if_neg (by simpa using hF0)] at e2
      refine ⟨e1, ?_⟩
      rw [e2, e1]
      simp only [now_neg H1.out.good.wf, and_self]
    subst hF0
    by_cases hm : badM mode = true
    · have hA1 : A = 1 := by rw [HN.out.2, if_pos hm]
      subst hA1
      have HZ : Hid (s7.es = s.es) := (H7.out.2.1.no (by rw [HA.out.1]; decide)).1
      have hmm : mode < 0 ∨ 511 < mode := by unfold badM at hm; simpa using hm
      clear hm b2
      by_cases hm0 : mode < 0
      · have hmb : decide (mode < 0) = true := decide_eq_true hm0
        go_wp2_with (first
          | (go_at_call 7; refine (dump_p t s7 _ H7.out.1.own.is).mono ?_; rintro x w8 ⟨v8, rfl, hr8, hb8⟩; rw [HZ.out] at hr8)
          | (go_at_call 10; refine (same_yes hr8 (H7.out.2.2.2.1.below hb8) H1.out.len).mono ?_; rintro x w9 ⟨rfl, hb9⟩)
          | (go_at_call 11; refine (HAw.out _).mono ?_; rintro x w12 ⟨rfl, hb12⟩))
        go_ret
        exact ⟨rfl, chainB (chainB (chainB H7.out.1.bel hb8) hb9) hb12⟩
      · have hm5 : 511 < mode := by omega
        have hmb : decide (mode < 0) = false := decide_eq_false hm0
        have hmc : decide (mode > 511) = true := decide_eq_true hm5
        go_wp2_with (first
          | (go_at_call 7; refine (dump_p t s7 _ H7.out.1.own.is).mono ?_; rintro x w8 ⟨v8, rfl, hr8, hb8⟩; rw [HZ.out] at hr8)
          | (go_at_call 10; refine (same_yes hr8 (H7.out.2.2.2.1.below hb8) H1.out.len).mono ?_; rintro x w9 ⟨rfl, hb9⟩)
          | (go_at_call 11; refine (HAw.out _).mono ?_; rintro x w12 ⟨rfl, hb12⟩))
        go_ret
        exact ⟨rfl, chainB (chainB (chainB H7.out.1.bel hb8) hb9) hb12⟩
    · have hm0 : ¬ mode < 0 ∧ ¬ 511 < mode := by unfold badM at hm; simp at hm; omega
      have hma : ¬ mode < 0 := hm0.1
      have hmb : ¬ mode > 511 := hm0.2
      by_cases hneg : f.neg = true
      · have hA1 : A = 40 := by rw [HN.out.2, if_neg hm, if_pos hneg]
        subst hA1
        have HZ : Hid (s7.es = s.es) := (H7.out.2.1.no (by rw [HA.out.1]; decide)).1
        rw [hneg] at b2
        clear hm hm0
        go_wp2_with (first
          | (go_at_call 7; refine (dump_p t s7 _ H7.out.1.own.is).mono ?_; rintro x w8 ⟨v8, rfl, hr8, hb8⟩; rw [HZ.out] at hr8)
          | (go_at_call 10; refine (same_yes hr8 (H7.out.2.2.2.1.below hb8) H1.out.len).mono ?_; rintro x w9 ⟨rfl, hb9⟩)
          | (go_at_call 11; refine (HAw.out _).mono ?_; rintro x w12 ⟨rfl, hb12⟩))
        go_ret
        exact ⟨rfl, chainB (chainB (chainB H7.out.1.bel hb8) hb9) hb12⟩
      · have hA1 : A = 0 := by rw [HN.out.2, if_neg hm, if_neg hneg]
        subst hA1
        have hnf : f.neg = false := by simpa using hneg
        rw [hnf] at b2
        clear hm hm0 hneg
        obtain ⟨x, hx, hxn, hT, l, hl, hll, hli⟩ := set_es H1.out.good.wf HA.out.2.1 HA.out.1
        rw [HA.out.2.2.1, HA.out.2.2.2.1, ← HN.out.1] at hx
        subst hx
        rw [HA.out.2.2.2.2] at hT hli
        have h7e := (H7.out.2.1.yes HA.out.1).1
        rw [hl] at h7e
        have ht7 := H7.out.2.2.1.row
        unfold toldE at ht7
        rw [HA.out.1, if_pos rfl, hT] at ht7
        obtain ⟨a7, c7, rfl⟩ := owns_len ht7
        obtain ⟨w8, hw8⟩ : ∃ w8, w7.setCell ⟨w5.heap.size, 5, none⟩ (.int .i64 mode) = w8 := ⟨_, rfl⟩
        have hm8 : w8.heap[w5.heap.size]? = some (.cells #[.int .i64 f.d, .string f.nm, .bool f.neg, .int .i64 f.id, .int .i64 f.kind, .int .i64 mode, .string f.tg] 33 (0, 0)) := by rw [← hw8]; exact (heap_set HBx.out 5 _).trans rfl
        have hne8 : ∀ k, k ≠ w5.heap.size → w8.heap[k]? = w7.heap[k]? := fun k hk => by rw [← hw8]; exact heap_set_ne hk
        have hi8 : IsP w8 t s7 := H7.out.1.own.is.moved (hne8 _ (by have := H5.out.2.1.tt.lt; omega)) (fun q hq => hne8 _ (H7.out.2.2.2.2.1 q hq))
        have hr8 : Row7 w8 w.heap.size v2 s.es := owns_moved H7.out.2.2.2.1 fun q hq => hne8 _ (H7.out.2.2.2.2.2.2 q hq)
        have hl8 : Row7 w8 w.heap.size (.slice a7 1 c7) [{ f with mode := mode }] := owns_moved ht7 fun q hq => hne8 _ (H7.out.2.2.2.2.2.1 q hq)
        have hb8 : Below w.heap.size w w8 := by rw [← hw8]; exact (only1 w7 w5.heap.size 5 _).below H7.out.1.bel H7.out.1.bel.size (fun k hk => by have := H5.out.2.2.2; omega)
        have H8 : Hid (IsP w8 t s7 ∧ Row7 w8 w.heap.size v2 s.es ∧ Row7 w8 w.heap.size (.slice a7 1 c7) [{ f with mode := mode }] ∧ Below w.heap.size w w8 ∧ w8.heap[w5.heap.size]? = some (.cells #[.int .i64 f.d, .string f.nm, .bool f.neg, .int .i64 f.id, .int .i64 f.kind, .int .i64 mode, .string f.tg] 33 (0, 0)) ∧ s7.es = l) := ⟨hi8, hr8, hl8, hb8, hm8, h7e⟩
        have HL : Hid (l.length = s.es.length ∧ (∀ (i : Nat) (a b : En), s.es[i]? = some a → l[i]? = some b → b = a ∨ b = { f with mode := mode }) ∧ f.neg = false) := ⟨hll, hli, hnf⟩
        have b5 := cell_of HBx.out 5
        simp at b5
        clear hne8 hi8 hr8 hl8 hb8 hm8 h7e hll hli ht7 hl hT hxn
        go_upto_region 14 with fail
        clear hw8 b2 b5 hfb hnf
        go_upto_region 15 with (go_at_call 7; refine (dump_p t s7 _ H8.out.1).mono ?_; rintro x w9 ⟨v9, rfl, hr9, hb9⟩; rw [H8.out.2.2.2.2.2] at hr9)
        obtain ⟨a2, c2, rfl⟩ := owns_len H8.out.2.1
        obtain ⟨a9, c9, rfl⟩ := owns_len hr9
        obtain ⟨n, hn⟩ : ∃ n, s.es.length = n := ⟨_, rfl⟩
        have hnl : l.length = n := by rw [HL.out.1, hn]
        have hn47 : n ≤ 47 := by rw [← hn]; exact H1.out.good.wf.len
        have hbx9 := (hb9.block w5.heap.size (by have := cellLt (cell_of H8.out.2.2.2.2.1 0); omega)).trans H8.out.2.2.2.2.1
        have H9 : Hid (Row7 w9 w.heap.size (.slice a2 n c2) s.es ∧ Row7 w9 w8.heap.size (.slice a9 n c9) l ∧ Below w.heap.size w w9 ∧ w9.heap[w5.heap.size]? = some (.cells #[.int .i64 f.d, .string f.nm, .bool f.neg, .int .i64 f.id, .int .i64 f.kind, .int .i64 mode, .string f.tg] 33 (0, 0)) ∧ s.es.length = n ∧ l.length = n) := ⟨by rw [← hn]; exact H8.out.2.1.below hb9, by rw [← hnl]; exact hr9, chainB H8.out.2.2.2.1 hb9, hbx9, hn, hnl⟩
        obtain ⟨g7, hg7, -, -, -, hc, -⟩ := owns_entry (H8.out.2.2.1.below hb9) (i := 0) (e := { f with mode := mode }) rfl
        subst hg7
        rw [hn, hnl]
        clear hr9 hn hnl
        have z0 := cell_of H9.out.2.2.2.1 0
        have z1 := cell_of H9.out.2.2.2.1 1
        have z2 := cell_of H9.out.2.2.2.1 2
        have z3 := cell_of H9.out.2.2.2.1 3
        have z4 := cell_of H9.out.2.2.2.1 4
        have z5 := cell_of H9.out.2.2.2.1 5
        have z6 := cell_of H9.out.2.2.2.1 6
        simp at z0 z1 z2 z3 z4 z5 z6
        have y0 := hc.c0
        have y1 := hc.c1
        have y2 := hc.c2
        have y3 := hc.c3
        have y4 := hc.c4
        have y5 := hc.c5
        have y6 := hc.c6
        simp only [Nat.zero_mul, Nat.zero_add] at y0 y1 y2 y3 y4 y5 y6
        have hxx : eqEn ⟨f.d, f.nm, f.neg, f.id, f.kind, mode, f.tg⟩ ⟨f.d, f.nm, f.neg, f.id, f.kind, mode, f.tg⟩ = true := (eqEn_iff _ _).2 rfl
        clear hc hbx9
        go_quiet (fail)
        obtain ⟨w10, hw10⟩ : ∃ x, w9.drewN nq = x := ⟨_, rfl⟩
        have hb10 : Below w9.heap.size w9 w10 := by rw [← hw10]; exact below_drewN (Below.refl _ _) _
        rw [hw10]
        have H10 : Hid (Below w9.heap.size w9 w10) := hb10
        clear hw10 hb10 y0 y1 y2 y3 y4 y5 y6 z0 z1 z2 z3 z4 z5 z6 hb9
        go_wp2
        go_loopw [18] (fun i wr => ∃ k : Nat, k ≤ n ∧ i = .int .i64 k ∧ Below w9.heap.size w9 wr) (fun i _ => n - (intOf i).toNat)
        case atStart => exact ⟨0, Nat.zero_le _, rfl, H10.out⟩
        case round =>
          obtain ⟨k, hk, rfl, hb⟩ := hrel
          have HB : Hid (Below w9.heap.size w9 wr) := hb
          clear hb
          by_cases hlt : k < n
          · obtain ⟨p, hp⟩ : ∃ x, s.es[k]? = some x := ⟨_, List.getElem?_eq_getElem (by rw [H9.out.2.2.2.2.1]; exact hlt)⟩
            obtain ⟨q, hq⟩ : ∃ x, l[k]? = some x := ⟨_, List.getElem?_eq_getElem (by rw [H9.out.2.2.2.2.2]; exact hlt)⟩
            have hpq := HL.out.2.1 k p q hp hq
            obtain ⟨g, rfl, -, -, -, hc, -⟩ := owns_entry (H9.out.1.below HB.out) hp
            obtain ⟨g', rfl, -, -, -, hc', -⟩ := owns_entry (H9.out.2.1.below HB.out) hq
            have hbr := (HB.out.block w5.heap.size (cellLt (cell_of H9.out.2.2.2.1 0))).trans H9.out.2.2.2.1
            have x0 := hc.c0
            have x1 := hc.c1
            have x2 := hc.c2
            have x3 := hc.c3
            have x4 := hc.c4
            have x5 := hc.c5
            have x6 := hc.c6
            have y0 := hc'.c0
            have y1 := hc'.c1
            have y2 := hc'.c2
            have y3 := hc'.c3
            have y4 := hc'.c4
            have y5 := hc'.c5
            have y6 := hc'.c6
            have hki : (k : Int) < (n : Int) := by omega
            by_cases hqp : q = p
            · subst hqp
              obtain ⟨e0, e1, e2, e3, e4, e5, e6⟩ := q
              have heq : eqEn ⟨e0, e1, e2, e3, e4, e5, e6⟩ ⟨e0, e1, e2, e3, e4, e5, e6⟩ = true := (eqEn_iff _ _).2 rfl
              clear hp hq hc hc' hpq hbr hxx
              go_upto_region 20 with fail
              go_quiet (fail)
              go_wp2
              exact ⟨⟨k + 1, by omega, by simp, below_drewN HB.out _⟩, by simp [intOf]; omega⟩
            · have hqf : q = { f with mode := mode } := hpq.resolve_left hqp
              have z0 := cell_of hbr 0
              have z1 := cell_of hbr 1
              have z2 := cell_of hbr 2
              have z3 := cell_of hbr 3
              have z4 := cell_of hbr 4
              have z5 := cell_of hbr 5
              have z6 := cell_of hbr 6
              simp at z0 z1 z2 z3 z4 z5 z6
              obtain ⟨e0, e1, e2, e3, e4, e5, e6⟩ := q
              obtain ⟨f0, f1, f2, f3, f4, f5, f6⟩ := p
              have hne : eqEn ⟨e0, e1, e2, e3, e4, e5, e6⟩ ⟨f0, f1, f2, f3, f4, f5, f6⟩ = false := eqEn_no hqp
              have heq : eqEn ⟨e0, e1, e2, e3, e4, e5, e6⟩ ⟨f.d, f.nm, f.neg, f.id, f.kind, mode, f.tg⟩ = true := (eqEn_iff _ _).2 hqf
              clear hp hq hc hc' hpq hbr hxx hqp hqf
              go_upto_region 20 with fail
              go_quiet (fail)
              go_wp2
              exact ⟨⟨k + 1, by omega, by simp, below_drewN HB.out _⟩, by simp [intOf]; omega⟩
          · have hkl : k = n := by omega
            subst hkl
            go_wp2_with (go_at_call 11; refine (HAw.out _).mono ?_; rintro x w12 ⟨rfl, hb12⟩)
            go_ret
            exact ⟨rfl, chainB (chainB H9.out.2.2.1 HB.out) hb12⟩
  · have hA1 : A = F := by rw [HS.out.1, if_pos hF0]
    subst hA1
    have hCb : (A != 0) = true := by simpa using hF0
    have HZ : Hid (s7.es = s.es) := (H7.out.2.1.no (by rw [HA.out.1]; exact hF0)).1
    clear hF0 b2
    go_wp2_with (first
      | (go_at_call 7; refine (dump_p t s7 _ H7.out.1.own.is).mono ?_; rintro x w8 ⟨v8, rfl, hr8, hb8⟩; rw [HZ.out] at hr8)
      | (go_at_call 10; refine (same_yes hr8 (H7.out.2.2.2.1.below hb8) H1.out.len).mono ?_; rintro x w9 ⟨rfl, hb9⟩)
      | (go_at_call 11; refine (HAw.out _).mono ?_; rintro x w12 ⟨rfl, hb12⟩))
    go_ret
    exact ⟨rfl, chainB (chainB (chainB H7.out.1.bel hb8) hb9) hb12⟩
end Go.Proofs.Ytjkgafbknjpjbac
