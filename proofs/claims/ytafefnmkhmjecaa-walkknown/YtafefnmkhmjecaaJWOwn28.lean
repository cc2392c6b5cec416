/- WalkKnown. -/
import Derived.Test.YtafefnmkhmjecaaJWOwn20
import Derived.Test.YtafefnmkhmjecaaJWOwn27
namespace Go.Proofs.Ytafefnmkhmjecaa
section
open Go.RowKit

def ouLd (v : Value) : Sem Value := Instr.loadAt 34 v
theorem loadOu (v : Value) : Instr.loadAt 34 v = ouLd v := rfl
theorem ouLd_of {w : World} {g : Nat} {o : Ou} {uv : Value} (h : w.heap[g]? = some (.cells (ouVals o uv).toArray 34 (0, 0))) : (ouLd (.pointer (some ⟨g, 0, none⟩))).run Try.prog w = .ok (ouAgg o uv) w := by
  have := run_loadAt_mid (P := Try.prog) w g 0 34 (ouVals o uv) _ (fun j v hv => by
    rw [Nat.zero_add, cell_of h]
    simpa using hv) Try.underlying34 rfl Try.sizeOu
  exact this
attribute [irreducible] ouLd
attribute [local go_sem ↓ high] loadEn storeEn storeOu loadOu builden
attribute [local go_sem high] eqK neqK guardK
/-- is a key among the first j of a list, or was it met before? -/
def tchB (t0 : Bool) (l : List Ky) (k : Ky) (j : Nat) : Bool := t0 || (l.take j).any fun x => decide (x.d = k.d ∧ x.nm = k.nm)
theorem tchB_step {t0 : Bool} {l : List Ky} {k x : Ky} {j : Nat} (h : l[j]? = some x) : tchB t0 l k (j + 1) = (tchB t0 l k j || decide (x.d = k.d ∧ x.nm = k.nm)) := by
  unfold tchB
  rw [List.take_add_one, h, List.any_append, ← Bool.or_assoc]
  simp
theorem tch_alk {S : Cs} {o : Ou} {e : En} {kn' : Ky → Option En} {j : Nat} (hj : o.used.length ≤ j) (h : tchB (o.need && decide (o.key.d = e.d ∧ o.key.nm = e.nm)) o.used e.key j = false) (hk : ∀ k, k ≠ e.key → kn' k = knC S k) : Alk (knC S) kn' o := by
  unfold tchB at h
  rw [Bool.or_eq_false_iff, List.take_of_length_le hj, List.any_eq_false] at h
  refine ⟨fun k hm => hk k fun he => ?_, fun hn => hk _ fun he => ?_⟩
  · have := h.2 k hm
    rw [he] at this
    exact this (decide_eq_true ⟨rfl, rfl⟩)
  · have := h.1
    rw [hn, he, Bool.true_and] at this
    exact absurd (of_decide_eq_false this) (by simp [En.key])
set_option maxRecDepth 100000 in
set_option maxHeartbeats 16000000 in
theorem walk_WalkKnown (a : Option Addr) (cap : Nat) (ops : List DOp) (path : ByteArray) (fol : Bool) (links : Int) (e : En) (w : World) (row : RowD w a ops) (hlen : ops.length * 112 ≤ 140737488351232) (_ : (Lit.int .i64 links).wf = true) :
    Calls Try.prog 6 #[.slice a ops.length cap, .string path, .bool fol, .int .i64 links, e.agg] w fun x w' => x = .returned (.bool true) ∧ Below w.heap.size w w' := by
  obtain ⟨n, hn⟩ : ∃ n, ops.length = n := ⟨_, rfl⟩
  have hnb : n < 1290000000000 := by omega
  obtain ⟨S, hS⟩ : ∃ S, runS ops = S := ⟨_, rfl⟩
  obtain ⟨W0, hW0⟩ : ∃ W, w.alloc (.cells e.vals.toArray 42) = W := ⟨_, rfl⟩
  have b0 := boxO hW0
  have HB0 : Hid (Below w.heap.size w W0 ∧ W0.heap[w.heap.size]? = some (.cells e.vals.toArray 42 (0, 0))) := ⟨b0.2.1, b0.1⟩
  have HOf : Hid (∀ W, Below W0.heap.size W0 W → Calls Try.prog 16 #[.slice a n cap] W fun x w2 => ∃ p q, x = .returned (.tuple #[.pointer (some ⟨p, 0, none⟩), .pointer (some ⟨q, 0, none⟩), .bool true]) ∧ Ld W w2 p S n (fun _ => False)) := fun W hb => by
    rw [← hn, ← hS]
    refine (of_p a cap ops W ((row.below b0.2.1).below hb) (by omega)).mono ?_
    rintro x w2 ⟨p, q, rfl, ht⟩
    exact ⟨p, q, rfl, ht.ld⟩
  have HA : Hid (∀ w, Calls Try.prog 10 #[] w fun x w' => x = .returned (.bool true) ∧ Below w.heap.size w w') := awake14_p
  obtain ⟨O, hO⟩ : ∃ O, walkO (knC S) path fol links = O := ⟨_, rfl⟩
  obtain ⟨lo, hlo⟩ : ∃ l, O.used.length = l := ⟨_, rfl⟩
  have hl1000 : lo ≤ 1000 := by rw [← hlo, ← hO]; exact walkO_len _ _ _ _
  have HO : Hid (walkO (knC S) path fol links = O ∧ O.used.length = lo) := ⟨hO, hlo⟩
  have HWk : Hid (∀ W0 W p s m F O', walkO (knC s) path fol links = O' → O' = O → Ld W0 W p s m F → Calls Try.prog 8 #[.pointer (some ⟨p, 0, none⟩), .slice none 0 0, .string path, .bool fol, .int .i64 links] W fun r w' => ∃ a c, r = .returned (ouAgg O (.slice a lo c)) ∧ RowK w' W.heap.size (.slice a lo c) O.used ∧ Below W.heap.size W w') := fun W0 W p s m F O' ho he h => by
    refine (ld_walk h path fol links).mono ?_
    rintro r w' ⟨uv, rfl, hr, hb⟩
    rw [ho, he] at hr ⊢
    obtain ⟨a, c, rfl⟩ := owns_len hr
    rw [hlo] at hr ⊢
    exact ⟨a, c, rfl, hr, hb⟩
  have bx := box9
  rw [hn, show e.agg = .agg e.vals.toArray from rfl]
  clear row hlen hS b0 hn hO hlo
  go_enter Try.func6, Try.ntmps6
  go_upto_region 6 with (first
    | (go_at_call 8; refine (HWk.out _ _ _ _ _ _ _ HO.out.1 rfl (H1.out.on' H2.out.below)).mono ?_; rintro r w3 ⟨a3, c3, rfl, hr, hb⟩; obtain ⟨V3, hV3⟩ : ∃ V, w3.alloc (.cells (ouVals O (.slice a3 lo c3)).toArray 34) = V := ⟨_, rfl⟩; have bV3 := boxO hV3; have H3 : Hid (RowK V3 w2.heap.size (.slice a3 lo c3) O.used ∧ Below w2.heap.size w2 V3 ∧ V3.heap[w3.heap.size]? = some (.cells (ouVals O (.slice a3 lo c3)).toArray 34 (0, 0)) ∧ w2.heap.size ≤ w3.heap.size ∧ w3.heap.size < V3.heap.size) := ⟨hr.below bV3.2.1, chainB hb bV3.2.1, bV3.1, hb.size, by have := bV3.2.2; omega⟩; obtain ⟨z0, z1, z2, -, -, z8⟩ := ouCells bV3.1; have hbw := cells7_of (hkeep HB0.out.2 (chainB H1.out.below (chainB H2.out.below (chainB hb bV3.2.1)))); have t0 := hbw.c0; have t1 := hbw.c1; simp only [Nat.zero_add] at t0 t1; clear hr hb bV3 hbw)
    | (go_at_call 16; first
      | (refine (HOf.out _ H1.out.below).mono ?_; rintro r w2 ⟨p2, q2, rfl, hl⟩; have H2 : Hid (Ld w1 w2 p2 S n (fun _ => False)) := hl; clear hl)
      | (refine (HOf.out _ (Below.refl _ _)).mono ?_; rintro r w1 ⟨p1, q1, rfl, hl⟩; have H1 : Hid (Ld W0 w1 p1 S n (fun _ => False)) := hl; clear hl)))
  obtain ⟨nd, hnd⟩ : ∃ b, O.need = b := ⟨_, rfl⟩
  obtain ⟨tt, ht⟩ : ∃ b, (O.need && decide (O.key.d = e.d ∧ O.key.nm = e.nm)) = b := ⟨_, rfl⟩
  have HT0 : Hid ((O.need && decide (O.key.d = e.d ∧ O.key.nm = e.nm)) = tt) := ht
  rw [hnd] at z0 ht
  clear hnd
  cases nd with
  | false =>
    obtain rfl : tt = false := by rw [Bool.false_and] at ht; exact ht.symm
    clear ht
    go_wp2
    go_loopw [18, 19] (fun s18 s19 wr => ∃ j : Nat, j ≤ lo ∧ s19 = .int .i64 j ∧ ∃ b, s18 = .bool b ∧ Hid (b = tchB false O.used e.key j ∧ Below V3.heap.size V3 wr)) (fun _ s19 _ => lo - (intOf s19).toNat)
    case atStart => exact ⟨0, Nat.zero_le _, rfl, _, rfl, by unfold tchB; simp, Below.refl _ _⟩
    case round =>
      clear z0 z1 z2 z8 t0 t1
      obtain ⟨j, hj, rfl, b, rfl, HJ⟩ := hrel
      have hbx := hkeep H3.out.2.2.1 HJ.out.2
      obtain ⟨-, -, -, -, -, z8⟩ := ouCells hbx
      have hbw := cells7_of (hkeep HB0.out.2 (chainB H1.out.below (chainB H2.out.below (chainB H3.out.2.1 HJ.out.2))))
      have t0 := hbw.c0
      have t1 := hbw.c1
      simp only [Nat.zero_add] at t0 t1
      have lE := enLd_at hbw
      by_cases hlt : j < lo
      · have hltz : (j : Int) < (lo : Int) := by omega
        have hw4 : IntKind.i64.wrap ((j : Int) + 1) = ((j + 1 : Nat) : Int) := by
          rw [show ((j + 1 : Nat) : Int) = (j : Int) + 1 by omega]; exact IntWalk.i64_in _ (by omega)
        obtain ⟨ky, hky⟩ : ∃ x, O.used[j]? = some x := ⟨_, List.getElem?_eq_getElem (by rw [HO.out.2]; exact hlt)⟩
        obtain ⟨g, rfl, -, -, k0, k1, -⟩ := (H3.out.1.below HJ.out.2).key hky
        have hst := tchB_step (t0 := false) (k := e.key) hky
        rw [← HJ.out.1] at hst
        obtain ⟨P, hP⟩ : ∃ P, decide (ky.d = e.d ∧ ky.nm = e.nm) = P := ⟨_, rfl⟩
        have hst' : tchB false O.used e.key (j + 1) = (b || P) := by rw [hst, ← hP]; rfl
        have Hst : Hid ((b || P) = tchB false O.used e.key (j + 1)) := hst'.symm
        clear hst hst' hky hbx hbw lE
        cases b with
        | true =>
          clear hP
          go_upto_region 10 with fail
          go_quiet (fail)
          go_wp2
          go_roundw
          case rel => exact ⟨j + 1, by omega, rfl, true, rfl, by rw [← Hst.out]; rfl, below_drewN HJ.out.2 _⟩
          case measure => simp [intOf]; omega
        | false =>
          go_upto_region 10 with fail
          go_quiet (fail)
          go_wp2
          go_roundw
          case rel => exact ⟨j + 1, by omega, rfl, P, rfl, by rw [← Hst.out]; rfl, below_drewN HJ.out.2 _⟩
          case measure => simp [intOf]; omega
      · obtain rfl : j = lo := by omega
        have hltz : ¬ (j : Int) < (j : Int) := by omega
        cases b with
        | true =>
          have HY : Hid (Below w.heap.size w wr) := chainB HB0.out.1 (chainB H1.out.below (chainB H2.out.below (chainB H3.out.2.1 HJ.out.2)))
          clear hbx hbw lE
          go_wp2_with (go_at_call 10; refine (HA.out _).mono ?_; rintro r w9 ⟨rfl, hb⟩; have HZ : Hid (Below w.heap.size w w9) := chainB HY.out hb; clear hb)
          go_ret
          exact ⟨rfl, HZ.out⟩
        | false =>
          have hal : ∀ kn', (∀ k, k ≠ e.key → kn' k = knC S k) → walkO kn' path fol links = O := fun kn' hk => by
            have := walkO_same (kn := knC S) (kn' := kn') (path := path) (fol := fol) (links := links) (by rw [HO.out.1]; exact tch_alk (by rw [HO.out.2]; exact Nat.le_refl _) (by rw [HT0.out]; exact HJ.out.1.symm) hk)
            rw [this]; exact HO.out.1
          have HAl : Hid (walkO (knC (putS S e)) path fol links = O ∧ walkO (knF (firstsL [e]) S) path fol links = O) := ⟨hal _ fun k hk => knC_put hk, hal _ fun k hk => knF_one hk⟩
          have HPt : Hid (Calls Try.prog 14 #[.pointer (some ⟨p2, 0, none⟩), e.agg] wr fun x w' => ∃ z, x = .returned (.int .i64 z) ∧ Ldc w1 wr w' p2 (putS S e) (n + 1) (fun b => False ∨ w2.heap.size ≤ b ∧ b < wr.heap.size)) := by
            refine (ld_put (H2.out.on (chainB H3.out.2.1 HJ.out.2)) e (by omega)).mono ?_
            rintro x w' ⟨rfl, hc⟩
            exact ⟨_, rfl, hc⟩
          have Hbx : Hid (wr.heap[w3.heap.size]? = some (.cells (ouVals O (.slice a3 j c3)).toArray 34 (0, 0)) ∧ V3.heap.size ≤ wr.heap.size) := ⟨hbx, HJ.out.2.size⟩
          have onee := enOne_of
          clear hal hbx hbw
          go_upto_region 14 with (go_at_call 14; refine HPt.out.mono ?_; rintro r w5 ⟨z5, rfl, hc⟩; have H5 : Hid (Ldc w1 wr w5 p2 (putS S e) (n + 1) (fun b => False ∨ w2.heap.size ≤ b ∧ b < wr.heap.size)) := hc; clear hc lE)
          have HRo : Hid (∀ W, Below w5.heap.size w5 W → RowK W w2.heap.size (.slice a3 j c3) O.used) := fun W hb => RowK.below (owns_moved H3.out.1 fun b hb' => by
            have hl := World.ownsRow.lt H3.out.1 b hb'
            exact (H5.out.kept b (.inr ⟨hl.1, by have := Hbx.out.2; omega⟩)).trans (HJ.out.2.block b hl.2)) hb
          have HS : Hid (∀ W, Below w5.heap.size w5 W → (ouLd (.pointer (some ⟨w3.heap.size, 0, none⟩))).run Try.prog W = .ok (ouAgg O (.slice a3 j c3)) W ∧ (enLd (.pointer (some ⟨w.heap.size, 0, none⟩))).run Try.prog W = .ok e.agg W) := fun W hb => by
            have q := H3.out.2.2.2
            have q2 := Hbx.out.2
            exact ⟨ouLd_of (hkeep ((H5.out.kept _ (.inr ⟨q.1, by omega⟩)).trans Hbx.out.1) hb), enLd_at (cells7_of (hkeep (hkeep HB0.out.2 (chainB H1.out.below H5.out.ld.below)) hb))⟩
          have HC : Hid (∀ W, Below w5.heap.size w5 W → Ld W0 W p1 S n (fun _ => False)) := fun W hb => H1.out.on' (chainB H5.out.ld.below hb)
          have HBw : Hid (∀ W, Below w5.heap.size w5 W → Below w.heap.size w W) := fun W hb => chainB HB0.out.1 (chainB H1.out.below (chainB H5.out.ld.below hb))
          have HSo : Hid (∀ W a6 c6 B, Below w5.heap.size w5 W → RowK W B (.slice a6 j c6) O.used → Calls Try.prog 15 #[ouAgg O (.slice a6 j c6), ouAgg O (.slice a3 j c3)] W fun r w' => r = .returned (.bool true) ∧ Below W.heap.size W w') := fun W a6 c6 B hb hr => sameOut_yes O _ _ _ _ W hr (HRo.out W hb) (by rw [HO.out.2]; omega)
          have HWc : Hid (∀ W7, Below w5.heap.size w5 W7 → Calls Try.prog 8 #[.pointer (some ⟨p1, 0, none⟩), .slice (some ⟨W7.heap.size, 0, none⟩) 1 1, .string path, .bool fol, .int .i64 links] (W7.alloc (.cells e.vals.toArray 42)) fun r w' => ∃ a c, r = .returned (ouAgg O (.slice a j c)) ∧ RowK w' (W7.alloc (.cells e.vals.toArray 42)).heap.size (.slice a j c) O.used ∧ Below W7.heap.size W7 w') := fun W7 hb => by
            have bA := below_alloc W7 (.cells e.vals.toArray 42)
            obtain ⟨c, i1, i2, -, -⟩ := (HC.out _ (chainB hb bA)).ex
            refine (walk_p p1 c S _ [e] path fol links _ i1 i2 ⟨_, _, rfl, by simp, fun q x hx => ?_⟩).mono ?_
            · cases q with
              | zero =>
                simp at hx
                subst hx
                exact ⟨_, _, rfl, cells7_of (heap_new _ _)⟩
              | succ q => simp at hx
            · rintro r w' ⟨uv, rfl, hr, hb'⟩
              rw [HAl.out.2] at hr ⊢
              obtain ⟨a, c, rfl⟩ := owns_len hr
              rw [HO.out.2] at hr ⊢
              exact ⟨a, c, rfl, hr, chainB bA hb'⟩
          have hD := below_drewN (Below.refl w5.heap.size w5) 1
          have HD0 : Hid (Below w5.heap.size w5 w5.drew) := hD
          have k0 := HS.out w5.drew hD
          clear hD z8 t0 t1
          go_region_held3 (fun W => (ouLd (.pointer (some ⟨w3.heap.size, 0, none⟩))).run Try.prog W = .ok (ouAgg O (.slice a3 j c3)) W ∧ (enLd (.pointer (some ⟨w.heap.size, 0, none⟩))).run Try.prog W = .ok e.agg W)
            (with_reducible first | exact k0 | exact k6 | exact k7 | exact k8 | exact k9 | exact kA | exact kB)
            (first
              | (go_at_call 10; refine (HA.out _).mono ?_; rintro r wB ⟨rfl, hb⟩; have kB := HS.out wB (chainB HDA.out hb); have HZ : Hid (Below w.heap.size w wB) := HBw.out _ (chainB HDA.out hb); clear hb)
              | (go_at_call 15; first
                | (refine (HSo.out _ _ _ _ HD9.out.1 HD9.out.2).mono ?_; rintro r wA ⟨rfl, hb⟩; have HDA : Hid (Below w5.heap.size w5 wA) := chainB HD9.out.1 hb; have kA := HS.out wA HDA.out; clear hb)
                | (refine (HSo.out _ _ _ _ HD6.out.1 HD6.out.2).mono ?_; rintro r w7 ⟨rfl, hb⟩; have HD7 : Hid (Below w5.heap.size w5 w7) := chainB HD6.out.1 hb; have k7 := HS.out w7 HD7.out; have k8 := HS.out (w7.alloc (.cells e.vals.toArray 42)) (chainB HD7.out (below_alloc _ _)); clear hb))
              | (go_at_call 8; first
                | (refine (HWc.out w7 HD7.out).mono ?_; rintro r w9 ⟨a9, c9, rfl, hr, hb⟩; have HD9 : Hid (Below w5.heap.size w5 w9 ∧ RowK w9 (w7.alloc (.cells e.vals.toArray 42)).heap.size (.slice a9 j c9) O.used) := ⟨chainB HD7.out hb, hr⟩; have k9 := HS.out w9 HD9.out.1; clear hb hr)
                | (refine (HWk.out _ _ _ _ _ _ _ HAl.out.1 rfl (H5.out.ld.on' HD0.out)).mono ?_; rintro r w6 ⟨a6, c6, rfl, hr, hb⟩; have HD6 : Hid (Below w5.heap.size w5 w6 ∧ RowK w6 w5.drew.heap.size (.slice a6 j c6) O.used) := ⟨chainB HD0.out hb, hr⟩; have k6 := HS.out w6 HD6.out.1; clear hb hr)))
          all_goals (
            go_wp2
            go_ret
            exact ⟨rfl, HZ.out⟩)
  | true =>
    rw [Bool.true_and] at ht
    go_wp2
    go_loopw [18, 19] (fun s18 s19 wr => ∃ j : Nat, j ≤ lo ∧ s19 = .int .i64 j ∧ ∃ b, s18 = .bool b ∧ Hid (b = tchB tt O.used e.key j ∧ Below V3.heap.size V3 wr)) (fun _ s19 _ => lo - (intOf s19).toNat)
    case atStart => exact ⟨0, Nat.zero_le _, rfl, _, rfl, by unfold tchB; simp, Below.refl _ _⟩
    case round =>
      clear z0 z1 z2 z8 t0 t1 ht
      obtain ⟨j, hj, rfl, b, rfl, HJ⟩ := hrel
      have hbx := hkeep H3.out.2.2.1 HJ.out.2
      obtain ⟨-, -, -, -, -, z8⟩ := ouCells hbx
      have hbw := cells7_of (hkeep HB0.out.2 (chainB H1.out.below (chainB H2.out.below (chainB H3.out.2.1 HJ.out.2))))
      have t0 := hbw.c0
      have t1 := hbw.c1
      simp only [Nat.zero_add] at t0 t1
      have lE := enLd_at hbw
      by_cases hlt : j < lo
      · have hltz : (j : Int) < (lo : Int) := by omega
        have hw4 : IntKind.i64.wrap ((j : Int) + 1) = ((j + 1 : Nat) : Int) := by
          rw [show ((j + 1 : Nat) : Int) = (j : Int) + 1 by omega]; exact IntWalk.i64_in _ (by omega)
        obtain ⟨ky, hky⟩ : ∃ x, O.used[j]? = some x := ⟨_, List.getElem?_eq_getElem (by rw [HO.out.2]; exact hlt)⟩
        obtain ⟨g, rfl, -, -, k0, k1, -⟩ := (H3.out.1.below HJ.out.2).key hky
        have hst := tchB_step (t0 := tt) (k := e.key) hky
        rw [← HJ.out.1] at hst
        obtain ⟨P, hP⟩ : ∃ P, decide (ky.d = e.d ∧ ky.nm = e.nm) = P := ⟨_, rfl⟩
        have hst' : tchB tt O.used e.key (j + 1) = (b || P) := by rw [hst, ← hP]; rfl
        have Hst : Hid ((b || P) = tchB tt O.used e.key (j + 1)) := hst'.symm
        clear hst hst' hky hbx hbw lE
        cases b with
        | true =>
          clear hP
          go_upto_region 10 with fail
          go_quiet (fail)
          go_wp2
          go_roundw
          case rel => exact ⟨j + 1, by omega, rfl, true, rfl, by rw [← Hst.out]; rfl, below_drewN HJ.out.2 _⟩
          case measure => simp [intOf]; omega
        | false =>
          go_upto_region 10 with fail
          go_quiet (fail)
          go_wp2
          go_roundw
          case rel => exact ⟨j + 1, by omega, rfl, P, rfl, by rw [← Hst.out]; rfl, below_drewN HJ.out.2 _⟩
          case measure => simp [intOf]; omega
      · obtain rfl : j = lo := by omega
        have hltz : ¬ (j : Int) < (j : Int) := by omega
        cases b with
        | true =>
          have HY : Hid (Below w.heap.size w wr) := chainB HB0.out.1 (chainB H1.out.below (chainB H2.out.below (chainB H3.out.2.1 HJ.out.2)))
          clear hbx hbw lE
          go_wp2_with (go_at_call 10; refine (HA.out _).mono ?_; rintro r w9 ⟨rfl, hb⟩; have HZ : Hid (Below w.heap.size w w9) := chainB HY.out hb; clear hb)
          go_ret
          exact ⟨rfl, HZ.out⟩
        | false =>
          have hal : ∀ kn', (∀ k, k ≠ e.key → kn' k = knC S k) → walkO kn' path fol links = O := fun kn' hk => by
            have := walkO_same (kn := knC S) (kn' := kn') (path := path) (fol := fol) (links := links) (by rw [HO.out.1]; exact tch_alk (by rw [HO.out.2]; exact Nat.le_refl _) (by rw [HT0.out]; exact HJ.out.1.symm) hk)
            rw [this]; exact HO.out.1
          have HAl : Hid (walkO (knC (putS S e)) path fol links = O ∧ walkO (knF (firstsL [e]) S) path fol links = O) := ⟨hal _ fun k hk => knC_put hk, hal _ fun k hk => knF_one hk⟩
          have HPt : Hid (Calls Try.prog 14 #[.pointer (some ⟨p2, 0, none⟩), e.agg] wr fun x w' => ∃ z, x = .returned (.int .i64 z) ∧ Ldc w1 wr w' p2 (putS S e) (n + 1) (fun b => False ∨ w2.heap.size ≤ b ∧ b < wr.heap.size)) := by
            refine (ld_put (H2.out.on (chainB H3.out.2.1 HJ.out.2)) e (by omega)).mono ?_
            rintro x w' ⟨rfl, hc⟩
            exact ⟨_, rfl, hc⟩
          have Hbx : Hid (wr.heap[w3.heap.size]? = some (.cells (ouVals O (.slice a3 j c3)).toArray 34 (0, 0)) ∧ V3.heap.size ≤ wr.heap.size) := ⟨hbx, HJ.out.2.size⟩
          have onee := enOne_of
          clear hal hbx hbw
          go_upto_region 14 with (go_at_call 14; refine HPt.out.mono ?_; rintro r w5 ⟨z5, rfl, hc⟩; have H5 : Hid (Ldc w1 wr w5 p2 (putS S e) (n + 1) (fun b => False ∨ w2.heap.size ≤ b ∧ b < wr.heap.size)) := hc; clear hc lE)
          have HRo : Hid (∀ W, Below w5.heap.size w5 W → RowK W w2.heap.size (.slice a3 j c3) O.used) := fun W hb => RowK.below (owns_moved H3.out.1 fun b hb' => by
            have hl := World.ownsRow.lt H3.out.1 b hb'
            exact (H5.out.kept b (.inr ⟨hl.1, by have := Hbx.out.2; omega⟩)).trans (HJ.out.2.block b hl.2)) hb
          have HS : Hid (∀ W, Below w5.heap.size w5 W → (ouLd (.pointer (some ⟨w3.heap.size, 0, none⟩))).run Try.prog W = .ok (ouAgg O (.slice a3 j c3)) W ∧ (enLd (.pointer (some ⟨w.heap.size, 0, none⟩))).run Try.prog W = .ok e.agg W) := fun W hb => by
            have q := H3.out.2.2.2
            have q2 := Hbx.out.2
            exact ⟨ouLd_of (hkeep ((H5.out.kept _ (.inr ⟨q.1, by omega⟩)).trans Hbx.out.1) hb), enLd_at (cells7_of (hkeep (hkeep HB0.out.2 (chainB H1.out.below H5.out.ld.below)) hb))⟩
          have HC : Hid (∀ W, Below w5.heap.size w5 W → Ld W0 W p1 S n (fun _ => False)) := fun W hb => H1.out.on' (chainB H5.out.ld.below hb)
          have HBw : Hid (∀ W, Below w5.heap.size w5 W → Below w.heap.size w W) := fun W hb => chainB HB0.out.1 (chainB H1.out.below (chainB H5.out.ld.below hb))
          have HSo : Hid (∀ W a6 c6 B, Below w5.heap.size w5 W → RowK W B (.slice a6 j c6) O.used → Calls Try.prog 15 #[ouAgg O (.slice a6 j c6), ouAgg O (.slice a3 j c3)] W fun r w' => r = .returned (.bool true) ∧ Below W.heap.size W w') := fun W a6 c6 B hb hr => sameOut_yes O _ _ _ _ W hr (HRo.out W hb) (by rw [HO.out.2]; omega)
          have HWc : Hid (∀ W7, Below w5.heap.size w5 W7 → Calls Try.prog 8 #[.pointer (some ⟨p1, 0, none⟩), .slice (some ⟨W7.heap.size, 0, none⟩) 1 1, .string path, .bool fol, .int .i64 links] (W7.alloc (.cells e.vals.toArray 42)) fun r w' => ∃ a c, r = .returned (ouAgg O (.slice a j c)) ∧ RowK w' (W7.alloc (.cells e.vals.toArray 42)).heap.size (.slice a j c) O.used ∧ Below W7.heap.size W7 w') := fun W7 hb => by
            have bA := below_alloc W7 (.cells e.vals.toArray 42)
            obtain ⟨c, i1, i2, -, -⟩ := (HC.out _ (chainB hb bA)).ex
            refine (walk_p p1 c S _ [e] path fol links _ i1 i2 ⟨_, _, rfl, by simp, fun q x hx => ?_⟩).mono ?_
            · cases q with
              | zero =>
                simp at hx
                subst hx
                exact ⟨_, _, rfl, cells7_of (heap_new _ _)⟩
              | succ q => simp at hx
            · rintro r w' ⟨uv, rfl, hr, hb'⟩
              rw [HAl.out.2] at hr ⊢
              obtain ⟨a, c, rfl⟩ := owns_len hr
              rw [HO.out.2] at hr ⊢
              exact ⟨a, c, rfl, hr, chainB bA hb'⟩
          have hD := below_drewN (Below.refl w5.heap.size w5) 1
          have HD0 : Hid (Below w5.heap.size w5 w5.drew) := hD
          have k0 := HS.out w5.drew hD
          clear hD z8 t0 t1
          go_region_held3 (fun W => (ouLd (.pointer (some ⟨w3.heap.size, 0, none⟩))).run Try.prog W = .ok (ouAgg O (.slice a3 j c3)) W ∧ (enLd (.pointer (some ⟨w.heap.size, 0, none⟩))).run Try.prog W = .ok e.agg W)
            (with_reducible first | exact k0 | exact k6 | exact k7 | exact k8 | exact k9 | exact kA | exact kB)
            (first
              | (go_at_call 10; refine (HA.out _).mono ?_; rintro r wB ⟨rfl, hb⟩; have kB := HS.out wB (chainB HDA.out hb); have HZ : Hid (Below w.heap.size w wB) := HBw.out _ (chainB HDA.out hb); clear hb)
              | (go_at_call 15; first
                | (refine (HSo.out _ _ _ _ HD9.out.1 HD9.out.2).mono ?_; rintro r wA ⟨rfl, hb⟩; have HDA : Hid (Below w5.heap.size w5 wA) := chainB HD9.out.1 hb; have kA := HS.out wA HDA.out; clear hb)
                | (refine (HSo.out _ _ _ _ HD6.out.1 HD6.out.2).mono ?_; rintro r w7 ⟨rfl, hb⟩; have HD7 : Hid (Below w5.heap.size w5 w7) := chainB HD6.out.1 hb; have k7 := HS.out w7 HD7.out; have k8 := HS.out (w7.alloc (.cells e.vals.toArray 42)) (chainB HD7.out (below_alloc _ _)); clear hb))
              | (go_at_call 8; first
                | (refine (HWc.out w7 HD7.out).mono ?_; rintro r w9 ⟨a9, c9, rfl, hr, hb⟩; have HD9 : Hid (Below w5.heap.size w5 w9 ∧ RowK w9 (w7.alloc (.cells e.vals.toArray 42)).heap.size (.slice a9 j c9) O.used) := ⟨chainB HD7.out hb, hr⟩; have k9 := HS.out w9 HD9.out.1; clear hb hr)
                | (refine (HWk.out _ _ _ _ _ _ _ HAl.out.1 rfl (H5.out.ld.on' HD0.out)).mono ?_; rintro r w6 ⟨a6, c6, rfl, hr, hb⟩; have HD6 : Hid (Below w5.heap.size w5 w6 ∧ RowK w6 w5.drew.heap.size (.slice a6 j c6) O.used) := ⟨chainB HD0.out hb, hr⟩; have k6 := HS.out w6 HD6.out.1; clear hb hr)))
          all_goals (
            go_wp2
            go_ret
            exact ⟨rfl, HZ.out⟩)
end
end Go.Proofs.Ytafefnmkhmjecaa
