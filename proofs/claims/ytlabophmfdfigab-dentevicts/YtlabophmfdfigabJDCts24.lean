/- DentEvicts. -/
import Derived.Test.YtlabophmfdfigabJDCts23
namespace Go.Proofs.Ytlabophmfdfigab
section
open Go.RowKit
attribute [local go_sem ↓ high] loadEn storeEn builden
attribute [local go_sem high] eqK neqK guardK

theorem filt_take {L : List En} {j : Nat} {e : En} (f : En → Bool) (h : L[j]? = some e) : (L.take (j + 1)).filter f = (L.take j).filter f ++ if f e then [e] else [] := by
  rw [List.take_add_one, h, List.filter_append]
  congr 1
  cases hf : f e <;> simp [hf]
theorem Row7.moved {w w' : World} {B : Nat} {v : Value} {l : List En} (h : Row7 w B v l) (hm : ∀ b, v.ownBlock = some b → w'.heap[b]? = w.heap[b]?) : Row7 w' B v l := owns_moved h hm
/-- a row of entries that the law owns, beside the cache -/
theorem Ldc.row {w0 wr w' : World} {p : Nat} {s : Cs} {n : Nat} {F : Nat → Prop} (h : Ldc w0 wr w' p s n F) {B : Nat} {v : Value} {l : List En} (hr : Row7 wr B v l) (hF : ∀ b, v.ownBlock = some b → F b) : Row7 w' B v l := hr.moved fun b hb => h.kept b (hF b hb)
theorem evict_L (s : Cs) (k : Ky) : (s.evict k).L = outL s.L k := by
  unfold Cs.evict
  cases hg : getL s.L k with
  | none => exact (outL_none hg).symm
  | some e => rfl
theorem get_out (L : List En) (k : Ky) : getL (outL L k) k = none := by
  rw [getL_none]
  intro e he hc
  unfold outL at he
  have := (List.mem_filter.1 he).2
  rw [hasK_iff.2 hc] at this
  cases this
theorem hasK_dec (k : Ky) (e : En) : hasK k e = decide (e.d = k.d ∧ e.nm = k.nm) := by
  rw [Bool.eq_iff_iff, hasK_iff, decide_eq_true_iff]
set_option maxRecDepth 100000 in
set_option maxHeartbeats 16000000 in
theorem walk_DentEvicts (a : Option Addr) (cap : Nat) (ops : List DOp) (k : Ky) (w : World) (row : RowD w a ops) (hlen : ops.length * 112 ≤ 140737488351232) :
    Calls Try.prog 5 #[.slice a ops.length cap, .agg #[.int .i64 k.d, .string k.nm]] w fun x w' => x = .returned (.bool true) ∧ Below w.heap.size w w' := by
  obtain ⟨n, hn⟩ : ∃ n, ops.length = n := ⟨_, rfl⟩
  have hnb : n < 1300000000000 := by omega
  obtain ⟨W1, hW1⟩ : ∃ W, w.alloc (.cells #[.int .i64 k.d, .string k.nm] 31) = W := ⟨_, rfl⟩
  have b1 := boxO hW1
  have box : ∀ W : World, W.heap[w.heap.size]? = W1.heap[w.heap.size]? → W.cell? ⟨w.heap.size, 0, none⟩ = some (.int .i64 k.d) ∧ W.cell? ⟨w.heap.size, 1, none⟩ = some (.string k.nm) := fun W hW => ⟨by rw [cell_of (hW.trans b1.1)]; rfl, by rw [cell_of (hW.trans b1.1)]; rfl⟩
  have HX : Hid (∀ W : World, W.heap[w.heap.size]? = W1.heap[w.heap.size]? → W.cell? ⟨w.heap.size, 0, none⟩ = some (.int .i64 k.d) ∧ W.cell? ⟨w.heap.size, 1, none⟩ = some (.string k.nm)) := box
  obtain ⟨S, hS⟩ : ∃ S, (runS ops).setW k.d = S := ⟨_, rfl⟩
  obtain ⟨e0, he0⟩ : ∃ e0, (getL S.L k).getD zeroEn = e0 := ⟨_, rfl⟩
  obtain ⟨ok, hok⟩ : ∃ ok, (getL S.L k).isSome = ok := ⟨_, rfl⟩
  -- Of and SetWhole, the law's F: its key's box
  have HO : Hid (Calls Try.prog 9 #[.slice a n cap] W1 fun x w2 => ∃ p q, x = .returned (.tuple #[.pointer (some ⟨p, 0, none⟩), .pointer (some ⟨q, 0, none⟩), .bool true]) ∧ Ld w w2 p (runS ops) n (fun b => b = w.heap.size) ∧ w2.heap[w.heap.size]? = W1.heap[w.heap.size]?) := by
    rw [← hn]
    refine (of_p a cap ops W1 (row.below b1.2.1) (by omega)).mono ?_
    rintro x w2 ⟨p, q, rfl, ht⟩
    exact ⟨p, q, rfl, (ht.ld.up b1.2.1).mono (fun b hb => .inr (by omega)) (Nat.le_refl _), ht.below.block _ (by omega)⟩
  have HA : Hid (∀ w, Calls Try.prog 16 #[] w fun x w' => x = .returned (.bool true) ∧ Below w.heap.size w w') := awake_p
  have hSl : S.L.length ≤ n := by
    rw [← hS, ← hn]; exact (runS_len ops).1
  have HSm : Hid (∀ (W : World) (v v' : Value) (B B' : Nat), Row7 W B v (S.evict k).L → Row7 W B' v' (outL S.L k) → Calls Try.prog 14 #[v, v'] W fun e w' => e = .returned (.bool true) ∧ Below W.heap.size W w') := fun W v v' B B' h h' => by
    rw [evict_L] at h
    exact sameE_yes v v' _ B B' W h h' (by have := List.length_filter_le (fun e => !hasK k e) S.L; unfold outL; omega)
  have HG2 : Hid (getL (S.evict k).L k = none) := by show _ = _; rw [evict_L]; exact get_out _ _
  have hkin : k.d ∈ S.W := by rw [← hS, mem_setW]; exact .inr rfl
  have HWh : Hid (decide (k.d ∈ (S.evict k).W) = (!ok || e0.neg)) := by
    show _ = _
    rw [Bool.eq_iff_iff, decide_eq_true_iff, evict_W, ← hok, ← he0]
    cases hg : getL S.L k with
    | none => simp [hkin]
    | some e => cases hn : e.neg <;> simp [hkin, hn]
  have bx := box7
  have onee := enOne_of
  have x0 := (box W1 rfl).1
  have x1 := (box W1 rfl).2
  have HGt : Hid (∀ W m F, Ld w W m S n F → Calls Try.prog 20 #[.pointer (some ⟨m, 0, none⟩), .agg #[.int .i64 k.d, .string k.nm]] W fun x w' => x = .returned (.tuple #[e0.agg, .bool ok]) ∧ Below W.heap.size W w') := fun W m F hl => by
    have := ld_get hl k
    rw [he0, hok] at this; exact this
  have HEv : Hid (∀ W m F, Ld w W m S n F → Calls Try.prog 21 #[.pointer (some ⟨m, 0, none⟩), .agg #[.int .i64 k.d, .string k.nm]] W fun x w' => x = .returned (.bool ok) ∧ Ldc w W w' m (S.evict k) n F) := fun W m F hl => by
    have := ld_evict hl k
    rw [hok] at this; exact this
  have HSw : Hid (∀ W m F, Ld w W m (runS ops) n F → Calls Try.prog 19 #[.pointer (some ⟨m, 0, none⟩), .int .i64 k.d] W fun x w' => x = .returned (.tuple #[]) ∧ Ldc w W w' m S n F) := fun W m F hl => by
    have := ld_setW hl k.d
    rw [hS] at this; exact this
  rw [hn]
  clear row hlen box hS he0 hok b1 hkin
  go_enter Try.func5, Try.ntmps5
  go_wp2_with (first
    | (go_at_call 21; refine (HEv.out _ _ _ H6.out.1).mono ?_; rintro x w7 ⟨rfl, hl⟩; have H7 : Hid (Ldc w (w5.alloc (.cells e0.vals.toArray 35)) w7 p (S.evict k) n (fun b => b = w.heap.size ∨ (w3.heap.size ≤ b ∧ b < w4.heap.size) ∨ b = w5.heap.size)) := hl; clear hl)
    | (go_at_call 20; refine (HGt.out _ _ _ H4.out.1).mono ?_; rintro x w5 ⟨rfl, hb⟩; have H6 : Hid (Ld w (w5.alloc (.cells e0.vals.toArray 35)) p S n (fun b => b = w.heap.size ∨ (w3.heap.size ≤ b ∧ b < w4.heap.size) ∨ b = w5.heap.size) ∧ Row7 (w5.alloc (.cells e0.vals.toArray 35)) w3.heap.size v4 S.L ∧ (w5.alloc (.cells e0.vals.toArray 35)).heap[w.heap.size]? = W1.heap[w.heap.size]? ∧ w.heap.size < w5.heap.size) := ⟨((H4.out.1.on' hb).box _).mono (fun b hb => hb.elim (fun h => .inl (.inl h)) (fun h => h.elim (fun h => .inl (.inr h)) (fun h => .inr h))) (Nat.le_refl _), (H4.out.2.1.below hb).below (below_alloc _ _), ((below_alloc w5 _).block _ (by have := hb.size; have := H4.out.2.2.2; omega)).trans ((hb.block _ H4.out.2.2.2).trans H4.out.2.2.1), by have := hb.size; have := H4.out.2.2.2; omega⟩; obtain ⟨s0, s1⟩ := HX.out _ H6.out.2.2.1; clear hb)
    | (go_at_call 10; refine (ld_entries H3.out.1 (by omega)).mono ?_; rintro x w4 ⟨v4, rfl, hr4, hb⟩; have H4 : Hid (Ld w w4 p S n (fun b => b = w.heap.size ∨ w3.heap.size ≤ b ∧ b < w4.heap.size) ∧ Row7 w4 w3.heap.size v4 S.L ∧ w4.heap[w.heap.size]? = W1.heap[w.heap.size]? ∧ w.heap.size < w4.heap.size) := ⟨H3.out.1.on hb, hr4, (hb.block _ H3.out.2.2).trans H3.out.2.1, Nat.lt_of_lt_of_le H3.out.2.2 hb.size⟩; obtain ⟨r0, r1⟩ := HX.out _ H4.out.2.2.1; clear hr4 hb)
    | (go_at_call 19; refine (HSw.out _ _ _ H2.out.1).mono ?_; rintro x w3 ⟨rfl, hl⟩; have H3 : Hid (Ld w w3 p S n (fun b => b = w.heap.size) ∧ w3.heap[w.heap.size]? = W1.heap[w.heap.size]? ∧ w.heap.size < w3.heap.size) := ⟨hl.ld, (hl.kept _ rfl).trans H2.out.2, hl.ld.fl _ rfl⟩; clear hl)
    | (go_at_call 9; refine HO.out.mono ?_; rintro x w2 ⟨p, q, rfl, hl, hx⟩; have H2 : Hid (Ld w w2 p (runS ops) n (fun b => b = w.heap.size) ∧ w2.heap[w.heap.size]? = W1.heap[w.heap.size]?) := ⟨hl, hx⟩; obtain ⟨q0, q1⟩ := HX.out _ hx; clear hl hx))
  have HW7 : Hid (Row7 w7 w3.heap.size v4 S.L ∧ w7.heap[w.heap.size]? = W1.heap[w.heap.size]? ∧ Cells7 w7 w5.heap.size 0 e0 ∧ Ld w w7 p (S.evict k) n (fun _ => False)) := ⟨H6.out.2.1.moved fun b hb => H7.out.kept b (.inr (.inl ⟨(World.ownsRow.lt H6.out.2.1 b hb).1, by
      have := (World.ownsRow.lt H4.out.2.1 b hb).2; exact this⟩)), (H7.out.kept _ (.inl rfl)).trans H6.out.2.2.1, (cells7_of (heap_new w5 (.cells e0.vals.toArray 35))).moved (H7.out.kept _ (.inr (.inr rfl))), H7.out.ld.mono (fun _ h => h.elim) (Nat.le_refl _)⟩
  obtain ⟨a4, c4, hv4⟩ := owns_len HW7.out.1
  subst hv4
  obtain ⟨m, hm⟩ : ∃ m, S.L.length = m := ⟨_, rfl⟩
  have HM : Hid (S.L.length = m) := hm
  rw [hm] at hSl HW7 ⊢
  have HX7 : Hid (∀ W : World, Below w7.heap.size w7 W → W.cell? ⟨w.heap.size, 0, none⟩ = some (.int .i64 k.d) ∧ W.cell? ⟨w.heap.size, 1, none⟩ = some (.string k.nm)) := fun W hW => HX.out W ((hW.block _ (by have := H7.out.size; have := H6.out.2.2.2; have := (below_alloc w5 (.cells e0.vals.toArray 35)).size; omega)).trans HW7.out.2.1)
  have HX8 : Hid (∀ W : World, Below w7.heap.size w7 W → W.cell? ⟨w5.heap.size, 2, none⟩ = some (.bool e0.neg)) := fun W hW => (HW7.out.2.2.1.below hW).c2
  clear H2 H3 H4 H6 H7 q0 q1 r0 r1 s0 s1 x0 x1 HX HGt HEv HSw HO hm hW1
  go_loopw [11, 12] (fun s11 s12 wj => ∃ j : Nat, j ≤ m ∧ s12 = .int .i64 j ∧ ∃ a2 n2 c2, s11 = .slice a2 n2 c2 ∧ Hid (Row7 wj w7.heap.size (.slice a2 n2 c2) ((S.L.take j).filter fun e => !hasK k e) ∧ Below w7.heap.size w7 wj)) (fun _ s12 _ => m - (intOf s12).toNat)
  case atStart => exact ⟨0, Nat.zero_le _, rfl, _, _, _, rfl, World.ownsRow_nil _ _ _ _, Below.refl _ _⟩
  case round =>
    obtain ⟨j, hj, rfl, a2, n2, c2, rfl, HJ⟩ := hrel
    by_cases hlj : j < m
    · obtain ⟨hrow, hbj⟩ := HJ.out
      obtain ⟨e, he⟩ : ∃ e, S.L[j]? = some e := ⟨_, List.getElem?_eq_getElem (by rw [HM.out]; exact hlj)⟩
      obtain ⟨gl, rfl, -, -, hgl2, hc, -⟩ := owns_entry (HW7.out.1.below hbj) he
      have e0 := hc.c0
      have e1 := hc.c1
      obtain ⟨t0, t1⟩ := HX7.out wr hbj
      have hljz : (j : Int) < (m : Int) := by omega
      have hcl : ((S.L.take j).filter fun e => !hasK k e).length ≤ j := Nat.le_trans (List.length_filter_le _ _) (by rw [List.length_take]; omega)
      have hct := filt_take (fun e => !hasK k e) he
      have hw2 : IntKind.i64.wrap ((j : Int) + 1) = ((j + 1 : Nat) : Int) := by
        rw [show ((j + 1 : Nat) : Int) = (j : Int) + 1 by omega]; exact IntWalk.i64_in _ (by omega)
      have HKp : Hid (∀ nq, hasK k e = false → ∃ a6 N6 c6 Z, (∀ ty, (Builtin.append_ #[28, 28] ty #[.slice a2 n2 c2, .slice (some ⟨(wr.drewN nq).heap.size, 0, none⟩) 1 1]).run Try.prog ((wr.drewN nq).alloc (.cells e.vals.toArray 35)) = .ok (.slice a6 N6 c6) Z) ∧ Hid (Row7 Z w7.heap.size (.slice a6 N6 c6) ((S.L.take (j + 1)).filter fun e => !hasK k e) ∧ Below w7.heap.size w7 Z) ∧ (enLd (.pointer (some ⟨gl, j * 7, none⟩))).run Try.prog (wr.drewN nq) = .ok e.agg (wr.drewN nq)) := fun nq hk => by
        have bb : Below wr.heap.size wr (wr.drewN nq) := below_drewN (Below.refl _ _) nq
        obtain ⟨a6, N6, c6, Z, r6, row6, o6⟩ := keep_more (X := wr.drewN nq) e (owns_below hrow bb) (chainB hbj bb).size (by omega)
        refine ⟨a6, N6, c6, Z, r6, ⟨by rw [hct, if_pos (by rw [hk]; rfl)]; exact row6, ?_⟩, enLd_at (hc.below bb)⟩
        exact o6.below (chainB hbj bb) (chainB hbj bb).size fun b hb' => (World.ownsRow.lt hrow b hb').1
      have HDr : Hid (∀ nq, hasK k e = true → Row7 (wr.drewN nq) w7.heap.size (.slice a2 n2 c2) ((S.L.take (j + 1)).filter fun e => !hasK k e) ∧ Below w7.heap.size w7 (wr.drewN nq)) := fun nq hk => by
        have bb : Below wr.heap.size wr (wr.drewN nq) := below_drewN (Below.refl _ _) nq
        exact ⟨by rw [hct, if_neg (by rw [hk]; decide), List.append_nil]; exact owns_below hrow bb, chainB hbj bb⟩
      have hdec := hasK_dec k e
      clear HJ hrow hc hcl hct he hbj
      cases hk : hasK k e with
      | false =>
        have hd : decide (e.d = k.d ∧ e.nm = k.nm) = false := by rw [← hdec, hk]
        clear hdec
        go_upto_region 13 with fail
        go_quiet (fail)
        obtain ⟨a6, N6, c6, Z, r6, H6, ld6⟩ := HKp.out nq hk
        clear HKp HDr
        go_wp2_with (at_builtin; refine wpList_apR rfl (.tmp 51) (.tmp 56) 28 rfl _ _ (.slice a6 N6 c6) Z (by simp [Act.eval]) (by simp [Act.eval]) r6 ?_)
        go_roundw
        case rel => exact ⟨j + 1, by omega, rfl, _, _, _, rfl, H6⟩
        case measure => simp [intOf]; omega
      | true =>
        have hd : decide (e.d = k.d ∧ e.nm = k.nm) = true := by rw [← hdec, hk]
        clear hdec
        go_upto_region 13 with fail
        go_quiet (fail)
        have H6 : Hid _ := HDr.out nq hk
        clear HKp HDr
        go_wp2
        go_roundw
        case rel => exact ⟨j + 1, by omega, rfl, _, _, _, rfl, H6⟩
        case measure => simp [intOf]; omega
    · obtain rfl : j = m := by omega
      have hljz : ¬ (j : Int) < (j : Int) := by omega
      have HBj : Hid (Row7 wr w7.heap.size (.slice a2 n2 c2) (outL S.L k) ∧ Below w7.heap.size w7 wr) := by
        have := HJ.out
        rw [List.take_of_length_le (by rw [HM.out]; exact Nat.le_refl _)] at this
        exact this
      have HL7 : Hid (Ld w w7 p (S.evict k) n (fun _ => False)) := HW7.out.2.2.2
      obtain ⟨x0, x1⟩ := HX7.out wr HBj.out.2
      clear HJ HW7
      have hwh := HWh.out
      clear HWh
      cases ok with
      | false =>
        simp only [Bool.not_false, Bool.true_or] at hwh
        cases hneg : e0.neg with
        | false =>
          go_wp2_with (first
            | (go_at_call 16; refine (HA.out _).mono ?_; rintro x wD ⟨rfl, hb⟩; have HD : Hid (Below w.heap.size w wD) := chainB HC.out hb; clear hb)
            | (go_at_call 21; refine (ld_evict (HL7.out.on' HB2.out) k).mono ?_; rw [HG2.out]; rintro x wC ⟨rfl, hl⟩; have HC : Hid (Below w.heap.size w wC) := hl.ld.below; clear hl)
            | (go_at_call 14; refine (HSm.out _ _ _ _ _ HB1.out.1 HB1.out.2.1).mono ?_; rintro x wB ⟨rfl, hb⟩; have HB2 : Hid (Below w7.heap.size w7 wB) := chainB HB1.out.2.2 hb; obtain ⟨t0, t1⟩ := HX7.out _ HB2.out; clear hb)
            | (go_at_call 10; refine (ld_entries (HL7.out.on' HB0.out.2) (by omega)).mono ?_; rintro x wA ⟨v9, rfl, hr9, hb⟩; have HB1 : Hid (Row7 wA w9.heap.size v9 (S.evict k).L ∧ Row7 wA w7.heap.size (.slice a2 n2 c2) (outL S.L k) ∧ Below w7.heap.size w7 wA) := ⟨hr9, HB0.out.1.below hb, chainB HB0.out.2 hb⟩; clear hr9 hb)
            | (go_at_call 13; refine (ld_whole (HL7.out.on' HBj.out.2) k.d).mono ?_; rw [hwh]; rintro x w9 ⟨rfl, hb⟩; have HB0 : Hid (Row7 w9 w7.heap.size (.slice a2 n2 c2) (outL S.L k) ∧ Below w7.heap.size w7 w9) := ⟨HBj.out.1.below hb, chainB HBj.out.2 hb⟩; have t2 := HX8.out _ HB0.out.2; rw [hneg] at t2; clear hb))
          go_ret
          exact ⟨rfl, HD.out⟩
        | true =>
          go_wp2_with (first
            | (go_at_call 16; refine (HA.out _).mono ?_; rintro x wD ⟨rfl, hb⟩; have HD : Hid (Below w.heap.size w wD) := chainB HC.out hb; clear hb)
            | (go_at_call 21; refine (ld_evict (HL7.out.on' HB2.out) k).mono ?_; rw [HG2.out]; rintro x wC ⟨rfl, hl⟩; have HC : Hid (Below w.heap.size w wC) := hl.ld.below; clear hl)
            | (go_at_call 14; refine (HSm.out _ _ _ _ _ HB1.out.1 HB1.out.2.1).mono ?_; rintro x wB ⟨rfl, hb⟩; have HB2 : Hid (Below w7.heap.size w7 wB) := chainB HB1.out.2.2 hb; obtain ⟨t0, t1⟩ := HX7.out _ HB2.out; clear hb)
            | (go_at_call 10; refine (ld_entries (HL7.out.on' HB0.out.2) (by omega)).mono ?_; rintro x wA ⟨v9, rfl, hr9, hb⟩; have HB1 : Hid (Row7 wA w9.heap.size v9 (S.evict k).L ∧ Row7 wA w7.heap.size (.slice a2 n2 c2) (outL S.L k) ∧ Below w7.heap.size w7 wA) := ⟨hr9, HB0.out.1.below hb, chainB HB0.out.2 hb⟩; clear hr9 hb)
            | (go_at_call 13; refine (ld_whole (HL7.out.on' HBj.out.2) k.d).mono ?_; rw [hwh]; rintro x w9 ⟨rfl, hb⟩; have HB0 : Hid (Row7 w9 w7.heap.size (.slice a2 n2 c2) (outL S.L k) ∧ Below w7.heap.size w7 w9) := ⟨HBj.out.1.below hb, chainB HBj.out.2 hb⟩; have t2 := HX8.out _ HB0.out.2; rw [hneg] at t2; clear hb))
          go_ret
          exact ⟨rfl, HD.out⟩
      | true =>
        simp only [Bool.not_true, Bool.false_or] at hwh
        cases hneg : e0.neg with
        | false =>
          rw [hneg] at hwh
          go_wp2_with (first
            | (go_at_call 16; refine (HA.out _).mono ?_; rintro x wD ⟨rfl, hb⟩; have HD : Hid (Below w.heap.size w wD) := chainB HC.out hb; clear hb)
            | (go_at_call 21; refine (ld_evict (HL7.out.on' HB2.out) k).mono ?_; rw [HG2.out]; rintro x wC ⟨rfl, hl⟩; have HC : Hid (Below w.heap.size w wC) := hl.ld.below; clear hl)
            | (go_at_call 14; refine (HSm.out _ _ _ _ _ HB1.out.1 HB1.out.2.1).mono ?_; rintro x wB ⟨rfl, hb⟩; have HB2 : Hid (Below w7.heap.size w7 wB) := chainB HB1.out.2.2 hb; obtain ⟨t0, t1⟩ := HX7.out _ HB2.out; clear hb)
            | (go_at_call 10; refine (ld_entries (HL7.out.on' HB0.out.2) (by omega)).mono ?_; rintro x wA ⟨v9, rfl, hr9, hb⟩; have HB1 : Hid (Row7 wA w9.heap.size v9 (S.evict k).L ∧ Row7 wA w7.heap.size (.slice a2 n2 c2) (outL S.L k) ∧ Below w7.heap.size w7 wA) := ⟨hr9, HB0.out.1.below hb, chainB HB0.out.2 hb⟩; clear hr9 hb)
            | (go_at_call 13; refine (ld_whole (HL7.out.on' HBj.out.2) k.d).mono ?_; rw [hwh]; rintro x w9 ⟨rfl, hb⟩; have HB0 : Hid (Row7 w9 w7.heap.size (.slice a2 n2 c2) (outL S.L k) ∧ Below w7.heap.size w7 w9) := ⟨HBj.out.1.below hb, chainB HBj.out.2 hb⟩; have t2 := HX8.out _ HB0.out.2; rw [hneg] at t2; clear hb))
          go_ret
          exact ⟨rfl, HD.out⟩
        | true =>
          rw [hneg] at hwh
          go_wp2_with (first
            | (go_at_call 16; refine (HA.out _).mono ?_; rintro x wD ⟨rfl, hb⟩; have HD : Hid (Below w.heap.size w wD) := chainB HC.out hb; clear hb)
            | (go_at_call 21; refine (ld_evict (HL7.out.on' HB2.out) k).mono ?_; rw [HG2.out]; rintro x wC ⟨rfl, hl⟩; have HC : Hid (Below w.heap.size w wC) := hl.ld.below; clear hl)
            | (go_at_call 14; refine (HSm.out _ _ _ _ _ HB1.out.1 HB1.out.2.1).mono ?_; rintro x wB ⟨rfl, hb⟩; have HB2 : Hid (Below w7.heap.size w7 wB) := chainB HB1.out.2.2 hb; obtain ⟨t0, t1⟩ := HX7.out _ HB2.out; clear hb)
            | (go_at_call 10; refine (ld_entries (HL7.out.on' HB0.out.2) (by omega)).mono ?_; rintro x wA ⟨v9, rfl, hr9, hb⟩; have HB1 : Hid (Row7 wA w9.heap.size v9 (S.evict k).L ∧ Row7 wA w7.heap.size (.slice a2 n2 c2) (outL S.L k) ∧ Below w7.heap.size w7 wA) := ⟨hr9, HB0.out.1.below hb, chainB HB0.out.2 hb⟩; clear hr9 hb)
            | (go_at_call 13; refine (ld_whole (HL7.out.on' HBj.out.2) k.d).mono ?_; rw [hwh]; rintro x w9 ⟨rfl, hb⟩; have HB0 : Hid (Row7 w9 w7.heap.size (.slice a2 n2 c2) (outL S.L k) ∧ Below w7.heap.size w7 w9) := ⟨HBj.out.1.below hb, chainB HBj.out.2 hb⟩; have t2 := HX8.out _ HB0.out.2; rw [hneg] at t2; clear hb))
          go_ret
          exact ⟨rfl, HD.out⟩
end
end Go.Proofs.Ytlabophmfdfigab
