/- DentUses. -/
import Derived.Test.YtlabophmfdfigaaJDSes23
namespace Go.Proofs.Ytlabophmfdfigaa
section
open Go.RowKit
attribute [local go_sem ↓ high] loadEn storeEn builden
attribute [local go_sem high] eqK neqK guardK
theorem filt_take {L : List En} {j : Nat} {e : En} (f : En → Bool) (h : L[j]? = some e) : (L.take (j + 1)).filter f = (L.take j).filter f ++ if f e then [e] else [] := by
  rw [List.take_add_one, h, List.filter_append]
  congr 1
  cases hf : f e <;> simp [hf]
theorem hasK_dec (k : Ky) (e : En) : hasK k e = decide (e.d = k.d ∧ e.nm = k.nm) := by
  rw [Bool.eq_iff_iff, hasK_iff, decide_eq_true_iff]
theorem eqAg (w : World) (e f : En) : (binOp .eql 37 e.agg f.agg).run Try.prog w = .ok (.bool (eqEn e f)) w := eqE w e.id e.kind e.mode f.id f.kind f.mode e.d f.d e.nm e.tg f.nm f.tg e.neg f.neg
theorem guardAg (w : World) (op : BinOp) (p q : Operand) (e f : En) : (eqGuard op 37 p q e.agg f.agg).run Try.prog w = .ok () w := guardE w op p q _ _
/-- all but the last of a row -/
theorem row7_pre {w : World} {B N c : Nat} {a : Option Addr} {l : List En} {x : En} (h : Row7 w B (.slice a N c) (l ++ [x])) : Row7 w B (.slice a l.length c) l ∧ N = l.length + 1 ∧ N ≤ c ∧ ∃ g, a = some ⟨g, 0, none⟩ := by
  have h2 := h.2
  rcases h2 with ⟨h1, h0⟩ | ⟨g, cap, cur, hv, hB, hw, hc, hm, hs, ht⟩
  · simp at h0
  · injection hv with h1 h2 h3
    subst h1 h3
    rw [List.length_append] at h2 hc ht
    refine ⟨⟨ec_len l, .inr ⟨g, c, cur, rfl, hB, hw, by omega, hm, hs, ?_⟩⟩, h2, by omega, g, rfl⟩
    have : cur.toList.take (l.length * 7) = (cur.toList.take ((l.length + [x].length) * 7)).take (l.length * 7) := by
      rw [List.take_take]
      congr 1
      have : [x].length = 1 := rfl
      omega
    rw [this, ht, ec_app, List.take_append_of_le_length (by rw [ec_len]; exact Nat.le_refl _), List.take_of_length_le (by rw [ec_len]; exact Nat.le_refl _)]
/-- the law's list and its last one, behind j entries -/
structure Uj (w5 wr : World) (L : List En) (k : Ky) (e : En) (use : Bool) (j : Nat) (v : Value) : Prop where
  last : ∃ y, wr.heap[w5.heap.size]? = some (.cells y.vals.toArray 37 (0, 0)) ∧ (use = false → y = e) ∧ (use = true → (∀ x ∈ L.take j, hasK k x = false) ∨ (y ∈ L ∧ hasK k y = true))
  row : Row7 wr (w5.heap.size + 1) v ((L.take j).filter fun e => !hasK k e)
  below : Below w5.heap.size w5 wr
  lt : w5.heap.size + 1 ≤ wr.heap.size
theorem Uj.start (w5 : World) (L : List En) (k : Ky) (e : En) (use : Bool) : Uj w5 (w5.alloc (.cells e.vals.toArray 37)) L k e use 0 (.slice none 0 0) :=
  ⟨⟨e, heap_new _ _, fun _ => rfl, fun _ => .inl fun x hx => by simp at hx⟩, World.ownsRow_nil _ _ _ _, below_alloc _ _, cellLt (p := ⟨w5.heap.size, 0, none⟩) (cells7_of (heap_new w5 (.cells e.vals.toArray 37))).c0⟩
theorem take_no {L : List En} {j : Nat} {x : En} {k : Ky} (hx : L[j]? = some x) (hk : hasK k x = false) (h : ∀ x ∈ L.take j, hasK k x = false) : ∀ x ∈ L.take (j + 1), hasK k x = false := by
  intro z hz
  rw [List.take_add_one, hx, List.mem_append] at hz
  rcases hz with hz | hz
  · exact h z hz
  · simp at hz; rw [hz]; exact hk
theorem Uj.keep {w5 wr Z : World} {L : List En} {k : Ky} {e x : En} {use : Bool} {j : Nat} {v v' : Value} (h : Uj w5 wr L k e use j v) (hx : L[j]? = some x) (hk : hasK k x = false) (hr : Row7 Z (w5.heap.size + 1) v' (((L.take j).filter fun e => !hasK k e) ++ [x])) (hO : Only (fun b => v.ownBlock = some b) wr Z) : Uj w5 Z L k e use (j + 1) v' := by
  obtain ⟨y, h1, h2, h3⟩ := h.last
  refine ⟨⟨y, ?_, h2, fun hu => (h3 hu).imp (take_no hx hk) id⟩, by rw [filt_take _ hx, if_pos (by rw [hk]; rfl)]; exact hr, hO.below h.below h.below.size fun b hb => by have := (World.ownsRow.lt h.row b hb).1; omega, Nat.le_trans h.lt hO.size⟩
  rw [hO.block _ (by have := h.lt; omega) fun hb => by have := (World.ownsRow.lt h.row _ hb).1; omega]
  exact h1
theorem Uj.skip {w5 wr Z : World} {L : List En} {k : Ky} {e x : En} {j : Nat} {v : Value} (h : Uj w5 wr L k e false j v) (hx : L[j]? = some x) (hk : hasK k x = true) (hb : Below wr.heap.size wr Z) : Uj w5 Z L k e false (j + 1) v := by
  obtain ⟨y, h1, h2, h3⟩ := h.last
  exact ⟨⟨y, (hb.block _ (by have := h.lt; omega)).trans h1, h2, fun hu => by cases hu⟩, by rw [filt_take _ hx, if_neg (by rw [hk]; decide), List.append_nil]; exact h.row.below hb, chainB h.below hb, Nat.le_trans h.lt hb.size⟩
theorem Uj.hit {w5 wr Z : World} {L : List En} {k : Ky} {e x : En} {j : Nat} {v : Value} (h : Uj w5 wr L k e true j v) (hx : L[j]? = some x) (hk : hasK k x = true) (hb : Below wr.heap.size wr Z) : Uj w5 (Z.setRow w5.heap.size x.vals.toArray) L k e true (j + 1) v ∧ (enSt (.pointer (some ⟨w5.heap.size, 0, none⟩)) x.agg).run Try.prog Z = .ok () (Z.setRow w5.heap.size x.vals.toArray) := by
  obtain ⟨y, h1, h2, h3⟩ := h.last
  have h4 := (hb.block _ (by have := h.lt; omega)).trans h1
  have hO := onlyR Z w5.heap.size x.vals.toArray
  refine ⟨⟨⟨x, setRow_heap _ _ _ _ _ _ h4, fun hu => by (cases hu), fun _ => .inr ⟨List.mem_of_getElem? hx, hk⟩⟩, ?_, hO.below (chainB h.below hb) (chainB h.below hb).size fun b hb => by omega, Nat.le_trans (Nat.le_trans h.lt hb.size) hO.size⟩, enSt_of h4 rfl rfl⟩
  rw [filt_take _ hx, if_neg (by rw [hk]; decide), List.append_nil]
  have hr := h.row.below hb
  exact owns_moved hr fun b hb => hO.block b (World.ownsRow.lt hr b hb).2 (by have := (World.ownsRow.lt hr b hb).1; omega)
theorem Uj.fin {w5 wr : World} {L : List En} {k : Ky} {e x0 : En} {use : Bool} {j : Nat} {v : Value} (h : Uj w5 wr L k e use j v) (hj : L.length ≤ j) (hL : KeysOk L) (h0 : use = false → x0 = e) (h1 : use = true → getL L k = some x0) : wr.heap[w5.heap.size]? = some (.cells x0.vals.toArray 37 (0, 0)) ∧ Row7 wr (w5.heap.size + 1) v (outL L k) := by
  obtain ⟨y, h2, h3, h4⟩ := h.last
  have hr := h.row
  rw [List.take_of_length_le hj] at hr h4
  refine ⟨?_, hr⟩
  cases use with
  | false => rw [h0 rfl, ← h3 rfl]; exact h2
  | true =>
    have hg := hL.get.1 (h1 rfl)
    rcases h4 rfl with h4 | ⟨h4, h5⟩
    · have := h4 x0 hg.1
      rw [hasK_iff.2 hg.2] at this
      cases this
    · have := hL.get.2 ⟨h4, hasK_iff.1 h5⟩
      rw [h1 rfl] at this
      rw [Option.some.inj this]
      exact h2
attribute [local go_sem high] eqAg guardAg
set_option maxRecDepth 100000 in
set_option maxHeartbeats 16000000 in
theorem walk_DentUses (a : Option Addr) (cap : Nat) (ops : List DOp) (e : En) (use : Bool) (w : World) (row : RowD w a ops) (hlen : ops.length * 112 ≤ 140737488351232) :
    Calls Try.prog 5 #[.slice a ops.length cap, e.agg, .bool use] w fun x w' => x = .returned (.bool true) ∧ Below w.heap.size w w' := by
  obtain ⟨n, hn⟩ : ∃ n, ops.length = n := ⟨_, rfl⟩
  have hnb : n < 1300000000000 := by omega
  obtain ⟨S, hS⟩ : ∃ S, runS ops = S := ⟨_, rfl⟩
  obtain ⟨W1, hW1⟩ : ∃ W, w.alloc (.cells e.vals.toArray 37) = W := ⟨_, rfl⟩
  have b1 := boxO hW1
  have HX : Hid (∀ W : World, W.heap[w.heap.size]? = W1.heap[w.heap.size]? → Cells7 W w.heap.size 0 e) := fun W hW => cells7_of (hW.trans b1.1)
  have HO : Hid (Calls Try.prog 9 #[.slice a n cap] W1 fun x w2 => ∃ p q, x = .returned (.tuple #[.pointer (some ⟨p, 0, none⟩), .pointer (some ⟨q, 0, none⟩), .bool true]) ∧ Ld w w2 p S n (fun b => b = w.heap.size) ∧ w2.heap[w.heap.size]? = W1.heap[w.heap.size]?) := by
    rw [← hn, ← hS]
    refine (of_p a cap ops W1 (row.below b1.2.1) (by omega)).mono ?_
    rintro x w2 ⟨p, q, rfl, ht⟩
    exact ⟨p, q, rfl, (ht.ld.up b1.2.1).mono (fun b hb => .inr (by omega)) (Nat.le_refl _), ht.below.block _ (by omega)⟩
  have HA : Hid (∀ w, Calls Try.prog 12 #[] w fun x w' => x = .returned (.bool true) ∧ Below w.heap.size w w') := awake_p
  have hSl : S.L.length ≤ n := by
    rw [← hS, ← hn]; exact (runS_len ops).1
  have onee := enOne_of
  rw [hn, show e.agg = .agg e.vals.toArray from rfl]
  clear row hlen hS b1
  go_enter Try.func5, Try.ntmps5
  cases use with
  | true =>
    obtain ⟨ok, hok⟩ : ∃ ok, (getL S.L e.key).isSome = ok := ⟨_, rfl⟩
    have HUs : Hid (∀ W m F, Ld w W m S n F → Calls Try.prog 14 #[.pointer (some ⟨m, 0, none⟩), .agg #[.int .i64 e.d, .string e.nm]] W fun x w' => x = .returned (.bool ok) ∧ Ldc w W w' m (S.use e.key) (n + 1) F) := fun W m F hl => by
      have := ld_use hl e.key (by omega)
      rw [hok] at this; exact this
    cases ok with
    | false =>
      have hu : S.use e.key = S := by
        unfold Cs.use
        cases hg : getL S.L e.key with
        | none => rfl
        | some x => rw [hg] at hok; cases hok
      rw [hu] at HUs
      clear hu
      go_wp2_with (first
        | (go_at_call 12; refine (HA.out _).mono ?_; rintro x wD ⟨rfl, hb⟩; have HD : Hid (Below w.heap.size w wD) := chainB HC4.out hb; clear hb)
        | (go_at_call 16; refine (sameE_yes _ _ _ _ _ _ H5.out.2.1 H5.out.2.2 (by omega)).mono ?_; rintro x wB ⟨rfl, hb⟩; have HC4 : Hid (Below w.heap.size w wB) := chainB H5.out.1.below hb; clear hb)
        | (go_at_call 14; refine (HUs.out _ _ _ H3.out.1).mono ?_; rintro x w4 ⟨rfl, hl⟩; have H4 : Hid (Ld w w4 p S (n + 1) (fun b => b = w.heap.size ∨ w2.heap.size ≤ b ∧ b < w3.heap.size) ∧ Row7 w4 w2.heap.size v3 S.L) := ⟨hl.ld, owns_moved H3.out.2.1 fun b hb => hl.kept b (.inr (World.ownsRow.lt H3.out.2.1 b hb))⟩; clear hl)
        | (go_at_call 13; first
          | (refine (ld_entries H4.out.1 (by omega)).mono ?_; rintro x w5 ⟨v5, rfl, hr5, hb⟩; have H5 : Hid (Ld w w5 p S (n + 1) (fun _ => False) ∧ Row7 w5 w2.heap.size v3 S.L ∧ Row7 w5 w4.heap.size v5 S.L) := ⟨(H4.out.1.on' hb).mono (fun _ h => h.elim) (Nat.le_refl _), H4.out.2.below hb, hr5⟩; clear hr5 hb)
          | (refine (ld_entries H2.out.1 (by omega)).mono ?_; rintro x w3 ⟨v3, rfl, hr3, hb⟩; have H3 : Hid (Ld w w3 p S n (fun b => b = w.heap.size ∨ w2.heap.size ≤ b ∧ b < w3.heap.size) ∧ Row7 w3 w2.heap.size v3 S.L ∧ w3.heap[w.heap.size]? = W1.heap[w.heap.size]?) := ⟨H2.out.1.on hb, hr3, (hb.block _ (H2.out.1.fl _ rfl)).trans H2.out.2⟩; have r0 := (HX.out _ H3.out.2.2).c0; have r1 := (HX.out _ H3.out.2.2).c1; clear hr3 hb))
        | (go_at_call 9; refine HO.out.mono ?_; rintro x w2 ⟨p, q, rfl, hl, hx⟩; have H2 : Hid (Ld w w2 p S n (fun b => b = w.heap.size) ∧ w2.heap[w.heap.size]? = W1.heap[w.heap.size]?) := ⟨hl, hx⟩; clear hl hx))
      go_ret
      exact ⟨rfl, HD.out⟩
    | true =>
      obtain ⟨x0, hx0⟩ : ∃ x0, getL S.L e.key = some x0 := Option.isSome_iff_exists.1 hok
      obtain ⟨T, hT⟩ : ∃ T, S.use e.key = T := ⟨_, rfl⟩
      have HT : Hid (T.L = outL S.L e.key ++ [x0]) := by
        show _ = _
        rw [← hT]
        unfold Cs.use
        rw [hx0]
      rw [hT] at HUs
      clear hT
      have bx := box7
      go_wp2_with (first
        | (go_at_call 14; refine (HUs.out _ _ _ H3.out.1).mono ?_; rintro x w4 ⟨rfl, hl⟩; have H4 : Hid (Ld w w4 p T (n + 1) (fun b => b = w.heap.size ∨ w2.heap.size ≤ b ∧ b < w3.heap.size) ∧ Row7 w4 w2.heap.size v3 S.L ∧ w4.heap[w.heap.size]? = W1.heap[w.heap.size]?) := ⟨hl.ld, owns_moved H3.out.2.1 fun b hb => hl.kept b (.inr (World.ownsRow.lt H3.out.2.1 b hb)), (hl.kept _ (.inl rfl)).trans H3.out.2.2⟩; clear hl)
        | (go_at_call 13; first
          | (refine (ld_entries H4.out.1 (by omega)).mono ?_; rintro x w5 ⟨v5, rfl, hr5, hb⟩; have H5 : Hid (Ld w w5 p T (n + 1) (fun _ => False) ∧ Row7 w5 w2.heap.size v3 S.L ∧ Row7 w5 w4.heap.size v5 T.L ∧ w5.heap[w.heap.size]? = W1.heap[w.heap.size]? ∧ w.heap.size < w5.heap.size) := ⟨(H4.out.1.on' hb).mono (fun _ h => h.elim) (Nat.le_refl _), H4.out.2.1.below hb, hr5, (hb.block _ (H4.out.1.fl _ (.inl rfl))).trans H4.out.2.2, Nat.lt_of_lt_of_le (H4.out.1.fl _ (.inl rfl)) hb.size⟩; have lde := enLd_at (HX.out _ H5.out.2.2.2.1); clear hr5 hb)
          | (refine (ld_entries H2.out.1 (by omega)).mono ?_; rintro x w3 ⟨v3, rfl, hr3, hb⟩; have H3 : Hid (Ld w w3 p S n (fun b => b = w.heap.size ∨ w2.heap.size ≤ b ∧ b < w3.heap.size) ∧ Row7 w3 w2.heap.size v3 S.L ∧ w3.heap[w.heap.size]? = W1.heap[w.heap.size]?) := ⟨H2.out.1.on hb, hr3, (hb.block _ (H2.out.1.fl _ rfl)).trans H2.out.2⟩; have r0 := (HX.out _ H3.out.2.2).c0; have r1 := (HX.out _ H3.out.2.2).c1; clear hr3 hb))
        | (go_at_call 9; refine HO.out.mono ?_; rintro x w2 ⟨p, q, rfl, hl, hx⟩; have HKS : Hid (KeysOk S.L) := hl.keys; have H2 : Hid (Ld w w2 p S n (fun b => b = w.heap.size) ∧ w2.heap[w.heap.size]? = W1.heap[w.heap.size]?) := ⟨hl, hx⟩; clear hl hx))
      have HG : Hid (getL S.L e.key = some x0) := hx0
      obtain ⟨a3, c3, hv3⟩ := owns_len H5.out.2.1
      subst hv3
      obtain ⟨a5, N5, c5, hv5⟩ : ∃ a N c, v5 = .slice a N c := by
        obtain ⟨a5, c5, hv5⟩ := owns_len H5.out.2.2.1
        exact ⟨_, _, _, hv5⟩
      subst hv5
      obtain ⟨m, hm⟩ : ∃ m, S.L.length = m := ⟨_, rfl⟩
      have HM : Hid (S.L.length = m) := hm
      have H6 : Hid (Ld w w5 p T (n + 1) (fun _ => False) ∧ Row7 w5 w2.heap.size (.slice a3 m c3) S.L ∧ Row7 w5 w4.heap.size (.slice a5 N5 c5) T.L ∧ w5.heap[w.heap.size]? = W1.heap[w.heap.size]? ∧ w.heap.size < w5.heap.size) := by
        rw [← hm]; exact H5.out
      rw [hm] at hSl ⊢
      have HK7 : Hid (∀ W : World, Below w5.heap.size w5 W → W.cell? ⟨w.heap.size, 0, none⟩ = some (.int .i64 e.d) ∧ W.cell? ⟨w.heap.size, 1, none⟩ = some (.string e.nm)) := fun W hW => by
        have := HX.out W ((hW.block _ H6.out.2.2.2.2).trans H6.out.2.2.2.1)
        exact ⟨this.c0, this.c1⟩
      have hst : Hid (Uj w5 (w5.alloc (.cells e.vals.toArray 37)) S.L e.key e true 0 (.slice none 0 0)) := Uj.start _ _ _ _ _
      clear H2 H3 H4 H5 r0 r1 lde HX HUs hx0 hok HO hm bx
      clear hW1
      go_loopw [13, 15] (fun s13 s15 wj => ∃ j : Nat, j ≤ m ∧ s15 = .int .i64 j ∧ ∃ a2 n2 c2, s13 = .slice a2 n2 c2 ∧ Hid (Uj w5 wj S.L e.key e true j (.slice a2 n2 c2))) (fun _ s15 _ => m - (intOf s15).toNat)
      case atStart => exact ⟨0, Nat.zero_le _, rfl, _, _, _, rfl, hst⟩
      case round =>
        clear hst
        obtain ⟨j, hj, rfl, a2, n2, c2, rfl, HJ⟩ := hrel
        by_cases hlj : j < m
        · obtain ⟨x, hx⟩ : ∃ e, S.L[j]? = some e := ⟨_, List.getElem?_eq_getElem (by rw [HM.out]; exact hlj)⟩
          obtain ⟨gl, rfl, -, -, hgl2, hc, -⟩ := owns_entry (H6.out.2.1.below HJ.out.below) hx
          have e0 := hc.c0
          have e1 := hc.c1
          obtain ⟨t0, t1⟩ := HK7.out wr HJ.out.below
          have hljz : (j : Int) < (m : Int) := by omega
          have hcl : ((S.L.take j).filter fun x => !hasK e.key x).length ≤ j := Nat.le_trans (List.length_filter_le _ _) (by rw [List.length_take]; omega)
          have hw2 : IntKind.i64.wrap ((j : Int) + 1) = ((j + 1 : Nat) : Int) := by
            rw [show ((j + 1 : Nat) : Int) = (j : Int) + 1 by omega]; exact IntWalk.i64_in _ (by omega)
          have HKp : Hid (∀ nq, hasK e.key x = false → ∃ a6 N6 c6 Z, (∀ ty, (Builtin.append_ #[41, 41] ty #[.slice a2 n2 c2, .slice (some ⟨(wr.drewN nq).heap.size, 0, none⟩) 1 1]).run Try.prog ((wr.drewN nq).alloc (.cells x.vals.toArray 37)) = .ok (.slice a6 N6 c6) Z) ∧ Hid (Uj w5 Z S.L e.key e true (j + 1) (.slice a6 N6 c6)) ∧ (enLd (.pointer (some ⟨gl, j * 7, none⟩))).run Try.prog (wr.drewN nq) = .ok x.agg (wr.drewN nq)) := fun nq hk => by
            have bb : Below wr.heap.size wr (wr.drewN nq) := below_drewN (Below.refl _ _) nq
            obtain ⟨a6, N6, c6, Z, r6, row6, o6⟩ := keep_more (X := wr.drewN nq) x (owns_below HJ.out.row bb) (Nat.le_trans HJ.out.lt bb.size) (by omega)
            exact ⟨a6, N6, c6, Z, r6, HJ.out.keep hx hk row6 ((Only.of bb).trans o6), enLd_at (hc.below bb)⟩
          have HDr : Hid (∀ nq, hasK e.key x = true → ∃ Z, (enSt (.pointer (some ⟨w5.heap.size, 0, none⟩)) x.agg).run Try.prog (wr.drewN nq) = .ok () Z ∧ Hid (Uj w5 Z S.L e.key e true (j + 1) (.slice a2 n2 c2)) ∧ (enLd (.pointer (some ⟨gl, j * 7, none⟩))).run Try.prog (wr.drewN nq) = .ok x.agg (wr.drewN nq)) := fun nq hk => by
            have bb : Below wr.heap.size wr (wr.drewN nq) := below_drewN (Below.refl _ _) nq
            obtain ⟨q1, q2⟩ := HJ.out.hit hx hk bb
            exact ⟨_, q2, q1, enLd_at (hc.below bb)⟩
          have hdec := hasK_dec e.key x
          have hdec2 : hasK e.key x = decide (x.d = e.d ∧ x.nm = e.nm) := hdec
          clear HJ hc hcl hx hdec
          cases hk : hasK e.key x with
          | false =>
            have hd : decide (x.d = e.d ∧ x.nm = e.nm) = false := by rw [← hdec2, hk]
            clear hdec2
            go_upto_region 19 with fail
            go_quiet (fail)
            obtain ⟨a6, N6, c6, Z, r6, H7, ld6⟩ := HKp.out nq hk
            clear HKp HDr
            go_wp2_with (at_builtin; refine wpList_apR rfl (.tmp 66) (.tmp 71) 41 rfl _ _ (.slice a6 N6 c6) Z (by simp [Act.eval]) (by simp [Act.eval]) r6 ?_)
            go_roundw
            case rel => exact ⟨j + 1, by omega, rfl, _, _, _, rfl, H7⟩
            case measure => simp [intOf]; omega
          | true =>
            have hd : decide (x.d = e.d ∧ x.nm = e.nm) = true := by rw [← hdec2, hk]
            clear hdec2
            go_upto_region 19 with fail
            go_quiet (fail)
            obtain ⟨Z, st6, H7, ld6⟩ := HDr.out nq hk
            clear HKp HDr
            go_wp2
            go_roundw
            case rel => exact ⟨j + 1, by omega, rfl, _, _, _, rfl, H7⟩
            case measure => simp [intOf]; omega
        · obtain rfl : j = m := by omega
          have hljz : ¬ (j : Int) < (j : Int) := by omega
          obtain ⟨hbox, hrow⟩ := HJ.out.fin (x0 := x0) (by rw [HM.out]; exact Nat.le_refl _) HKS.out (fun h => by cases h) (fun _ => HG.out)
          have hr5 := H6.out.2.2.1.below HJ.out.below
          rw [HT.out] at hr5
          obtain ⟨hpre, hN, hcap, gp, rfl⟩ := row7_pre hr5
          obtain ⟨L', hL'⟩ : ∃ L', outL S.L e.key = L' := ⟨_, rfl⟩
          rw [hL'] at hr5 hrow hpre hN
          have hn2 : n2 = L'.length := by
            obtain ⟨_, _, hh⟩ := owns_len hrow
            injection hh
          subst hn2
          have hlb : L'.length ≤ j := by
            rw [← hL', ← HM.out]
            exact List.length_filter_le _ _
          obtain ⟨g', hg', -, -, -, hc5, -⟩ := owns_entry hr5 (i := L'.length) (e := x0) (by simp)
          cases hg'
          have HS : Hid (∀ W, Below wr.heap.size wr W → (enLd (.pointer (some ⟨w5.heap.size, 0, none⟩))).run Try.prog W = .ok x0.agg W ∧ (enLd (.pointer (some ⟨gp, L'.length * 7, none⟩))).run Try.prog W = .ok x0.agg W) := fun W hW => ⟨enLd_at ((cells7_of hbox).below hW), enLd_at (hc5.below hW)⟩
          have HQ : Hid (∀ W, Below wr.heap.size wr W → Row7 W w4.heap.size (.slice (some ⟨gp, 0, none⟩) L'.length c5) L' ∧ Row7 W (w5.heap.size + 1) (.slice a2 L'.length c2) L' ∧ Below w.heap.size w W) := fun W hW => ⟨hpre.below hW, hrow.below hW, chainB H6.out.1.below (chainB HJ.out.below hW)⟩
          have hee : eqEn x0 x0 = true := (eqEn_iff _ _).2 rfl
          have hw7 : IntKind.i64.wrap ((L'.length : Int) + 1) = (N5 : Int) := by
            rw [show (N5 : Int) = (L'.length : Int) + 1 by omega]; exact IntWalk.i64_in _ (by omega)
          have hcz : (L'.length : Int) < (N5 : Int) := by omega
          have kA := HS.out wr (Below.refl _ _)
          obtain ⟨LL, hLL⟩ : ∃ l, L'.length = l := ⟨_, rfl⟩
          have HLL : Hid (L'.length = LL) := hLL
          have hs1 : (L'.length : Int) ≤ (c5 : Int) := by omega
          rw [hLL] at HS HQ hw7 hcz hs1 kA hlb ⊢
          have hs0 : (0 : Int) ≤ (LL : Int) := by omega
          have hb0 : Hid (Below wr.heap.size wr wr) := Below.refl _ _
          clear HJ hrow hr5 hpre hbox hc5 hLL hL' hN hcap
          go_upto_region 23 with fail
          have hd1 : Below wr.heap.size wr wr.drew := below_drewN (Below.refl _ _) 1
          have H1 : Hid (Below wr.heap.size wr wr.drew) := hd1
          replace kA := HS.out wr.drew hd1
          clear hd1
          go_region_held3 (fun W => (enLd (.pointer (some ⟨w5.heap.size, 0, none⟩))).run Try.prog W = .ok x0.agg W ∧ (enLd (.pointer (some ⟨gp, LL * 7, none⟩))).run Try.prog W = .ok x0.agg W)
            (with_reducible first | exact kA | exact kB | exact kC)
            (first
              | (go_at_call 12; refine (HA.out _).mono ?_; rintro x wD ⟨rfl, hb⟩; have kC := HS.out wD (chainB HB.out hb); have HD : Hid (Below w.heap.size w wD) := (HQ.out _ (chainB HB.out hb)).2.2; clear hb)
              | (go_at_call 16; refine (sameE_yes _ _ _ _ _ _ (HQ.out _ H1.out).1 (HQ.out _ H1.out).2.1 (by have := HLL.out; omega)).mono ?_; rintro x wB ⟨rfl, hb⟩; have kB := HS.out wB (chainB H1.out hb); have HB : Hid (Below wr.heap.size wr wB) := chainB H1.out hb; clear hb))
          go_wp2
          go_ret
          exact ⟨rfl, HD.out⟩
  | false =>
    by_cases hnm : e.nm = nob
    · have HPt : Hid (∀ W m F, Ld w W m S n F → Calls Try.prog 15 #[.pointer (some ⟨m, 0, none⟩), e.agg] W fun x w' => x = .returned (.int .i64 1) ∧ Ldc w W w' m S (n + 1) F) := fun W m F hl => by
        have := ld_put hl e (by omega)
        unfold putS at this
        rw [if_pos hnm, if_pos hnm] at this
        exact this
      have hnn : (e.nm.toList == []) = true := by rw [hnm, nob_list]; rfl
      clear hnm
      go_wp2_with (first
        | (go_at_call 12; refine (HA.out _).mono ?_; rintro x wD ⟨rfl, hb⟩; have HD : Hid (Below w.heap.size w wD) := chainB HC4.out hb; clear hb)
        | (go_at_call 16; refine (sameE_yes _ _ _ _ _ _ H5.out.2.1 H5.out.2.2 (by omega)).mono ?_; rintro x wB ⟨rfl, hb⟩; have HC4 : Hid (Below w.heap.size w wB) := chainB H5.out.1.below hb; clear hb)
        | (go_at_call 15; refine (HPt.out _ _ _ H3.out.1).mono ?_; rintro x w4 ⟨rfl, hl⟩; have H4 : Hid (Ld w w4 p S (n + 1) (fun b => b = w.heap.size ∨ w2.heap.size ≤ b ∧ b < w3.heap.size) ∧ Row7 w4 w2.heap.size v3 S.L) := ⟨hl.ld, owns_moved H3.out.2.1 fun b hb => hl.kept b (.inr (World.ownsRow.lt H3.out.2.1 b hb))⟩; have r1 := (HX.out _ ((hl.kept _ (.inl rfl)).trans H3.out.2.2)).c1; clear hl)
        | (go_at_call 13; first
          | (refine (ld_entries H4.out.1 (by omega)).mono ?_; rintro x w5 ⟨v5, rfl, hr5, hb⟩; have H5 : Hid (Ld w w5 p S (n + 1) (fun _ => False) ∧ Row7 w5 w2.heap.size v3 S.L ∧ Row7 w5 w4.heap.size v5 S.L) := ⟨(H4.out.1.on' hb).mono (fun _ h => h.elim) (Nat.le_refl _), H4.out.2.below hb, hr5⟩; clear hr5 hb)
          | (refine (ld_entries H2.out.1 (by omega)).mono ?_; rintro x w3 ⟨v3, rfl, hr3, hb⟩; have H3 : Hid (Ld w w3 p S n (fun b => b = w.heap.size ∨ w2.heap.size ≤ b ∧ b < w3.heap.size) ∧ Row7 w3 w2.heap.size v3 S.L ∧ w3.heap[w.heap.size]? = W1.heap[w.heap.size]?) := ⟨H2.out.1.on hb, hr3, (hb.block _ (H2.out.1.fl _ rfl)).trans H2.out.2⟩; have r0 := enLd_at (HX.out _ H3.out.2.2); clear hr3 hb))
        | (go_at_call 9; refine HO.out.mono ?_; rintro x w2 ⟨p, q, rfl, hl, hx⟩; have H2 : Hid (Ld w w2 p S n (fun b => b = w.heap.size) ∧ w2.heap[w.heap.size]? = W1.heap[w.heap.size]?) := ⟨hl, hx⟩; clear hl hx))
      go_ret
      exact ⟨rfl, HD.out⟩
    · obtain ⟨T, hT⟩ : ∃ T, S.put e = T := ⟨_, rfl⟩
      have HPt : Hid (∀ W m F, Ld w W m S n F → Calls Try.prog 15 #[.pointer (some ⟨m, 0, none⟩), e.agg] W fun x w' => x = .returned (.int .i64 0) ∧ Ldc w W w' m T (n + 1) F) := fun W m F hl => by
        have := ld_put hl e (by omega)
        unfold putS at this
        rw [if_neg hnm, if_neg hnm, hT] at this
        exact this
      have HT : Hid (T.L = outL S.L e.key ++ [e]) := by
        show _ = _
        rw [← hT]; rfl
      have hnn : (e.nm.toList == []) = false := nm_test hnm
      clear hT hnm
      have bx := box7
      go_wp2_with (first
        | (go_at_call 15; refine (HPt.out _ _ _ H3.out.1).mono ?_; rintro x w4 ⟨rfl, hl⟩; have H4 : Hid (Ld w w4 p T (n + 1) (fun b => b = w.heap.size ∨ w2.heap.size ≤ b ∧ b < w3.heap.size) ∧ Row7 w4 w2.heap.size v3 S.L ∧ w4.heap[w.heap.size]? = W1.heap[w.heap.size]?) := ⟨hl.ld, owns_moved H3.out.2.1 fun b hb => hl.kept b (.inr (World.ownsRow.lt H3.out.2.1 b hb)), (hl.kept _ (.inl rfl)).trans H3.out.2.2⟩; have r1 := (HX.out _ H4.out.2.2).c1; clear hl)
        | (go_at_call 13; first
          | (refine (ld_entries H4.out.1 (by omega)).mono ?_; rintro x w5 ⟨v5, rfl, hr5, hb⟩; have H5 : Hid (Ld w w5 p T (n + 1) (fun _ => False) ∧ Row7 w5 w2.heap.size v3 S.L ∧ Row7 w5 w4.heap.size v5 T.L ∧ w5.heap[w.heap.size]? = W1.heap[w.heap.size]? ∧ w.heap.size < w5.heap.size) := ⟨(H4.out.1.on' hb).mono (fun _ h => h.elim) (Nat.le_refl _), H4.out.2.1.below hb, hr5, (hb.block _ (H4.out.1.fl _ (.inl rfl))).trans H4.out.2.2, Nat.lt_of_lt_of_le (H4.out.1.fl _ (.inl rfl)) hb.size⟩; have lde := enLd_at (HX.out _ H5.out.2.2.2.1); clear hr5 hb)
          | (refine (ld_entries H2.out.1 (by omega)).mono ?_; rintro x w3 ⟨v3, rfl, hr3, hb⟩; have H3 : Hid (Ld w w3 p S n (fun b => b = w.heap.size ∨ w2.heap.size ≤ b ∧ b < w3.heap.size) ∧ Row7 w3 w2.heap.size v3 S.L ∧ w3.heap[w.heap.size]? = W1.heap[w.heap.size]?) := ⟨H2.out.1.on hb, hr3, (hb.block _ (H2.out.1.fl _ rfl)).trans H2.out.2⟩; have r0 := enLd_at (HX.out _ H3.out.2.2); clear hr3 hb))
        | (go_at_call 9; refine HO.out.mono ?_; rintro x w2 ⟨p, q, rfl, hl, hx⟩; have HKS : Hid (KeysOk S.L) := hl.keys; have H2 : Hid (Ld w w2 p S n (fun b => b = w.heap.size) ∧ w2.heap[w.heap.size]? = W1.heap[w.heap.size]?) := ⟨hl, hx⟩; clear hl hx))
      obtain ⟨a3, c3, hv3⟩ := owns_len H5.out.2.1
      subst hv3
      obtain ⟨a5, N5, c5, hv5⟩ : ∃ a N c, v5 = .slice a N c := by
        obtain ⟨a5, c5, hv5⟩ := owns_len H5.out.2.2.1
        exact ⟨_, _, _, hv5⟩
      subst hv5
      obtain ⟨m, hm⟩ : ∃ m, S.L.length = m := ⟨_, rfl⟩
      have HM : Hid (S.L.length = m) := hm
      have H6 : Hid (Ld w w5 p T (n + 1) (fun _ => False) ∧ Row7 w5 w2.heap.size (.slice a3 m c3) S.L ∧ Row7 w5 w4.heap.size (.slice a5 N5 c5) T.L ∧ w5.heap[w.heap.size]? = W1.heap[w.heap.size]? ∧ w.heap.size < w5.heap.size) := by
        rw [← hm]; exact H5.out
      rw [hm] at hSl ⊢
      have HK7 : Hid (∀ W : World, Below w5.heap.size w5 W → W.cell? ⟨w.heap.size, 0, none⟩ = some (.int .i64 e.d) ∧ W.cell? ⟨w.heap.size, 1, none⟩ = some (.string e.nm)) := fun W hW => by
        have := HX.out W ((hW.block _ H6.out.2.2.2.2).trans H6.out.2.2.2.1)
        exact ⟨this.c0, this.c1⟩
      have hst : Hid (Uj w5 (w5.alloc (.cells e.vals.toArray 37)) S.L e.key e false 0 (.slice none 0 0)) := Uj.start _ _ _ _ _
      clear H2 H3 H4 H5 r0 r1 lde HX HPt HO hm bx
      clear hW1
      go_loopw [13, 15] (fun s13 s15 wj => ∃ j : Nat, j ≤ m ∧ s15 = .int .i64 j ∧ ∃ a2 n2 c2, s13 = .slice a2 n2 c2 ∧ Hid (Uj w5 wj S.L e.key e false j (.slice a2 n2 c2))) (fun _ s15 _ => m - (intOf s15).toNat)
      case atStart => exact ⟨0, Nat.zero_le _, rfl, _, _, _, rfl, hst⟩
      case round =>
        clear hst
        obtain ⟨j, hj, rfl, a2, n2, c2, rfl, HJ⟩ := hrel
        by_cases hlj : j < m
        · obtain ⟨x, hx⟩ : ∃ e, S.L[j]? = some e := ⟨_, List.getElem?_eq_getElem (by rw [HM.out]; exact hlj)⟩
          obtain ⟨gl, rfl, -, -, hgl2, hc, -⟩ := owns_entry (H6.out.2.1.below HJ.out.below) hx
          have e0 := hc.c0
          have e1 := hc.c1
          obtain ⟨t0, t1⟩ := HK7.out wr HJ.out.below
          have hljz : (j : Int) < (m : Int) := by omega
          have hcl : ((S.L.take j).filter fun x => !hasK e.key x).length ≤ j := Nat.le_trans (List.length_filter_le _ _) (by rw [List.length_take]; omega)
          have hw2 : IntKind.i64.wrap ((j : Int) + 1) = ((j + 1 : Nat) : Int) := by
            rw [show ((j + 1 : Nat) : Int) = (j : Int) + 1 by omega]; exact IntWalk.i64_in _ (by omega)
          have HKp : Hid (∀ nq, hasK e.key x = false → ∃ a6 N6 c6 Z, (∀ ty, (Builtin.append_ #[41, 41] ty #[.slice a2 n2 c2, .slice (some ⟨(wr.drewN nq).heap.size, 0, none⟩) 1 1]).run Try.prog ((wr.drewN nq).alloc (.cells x.vals.toArray 37)) = .ok (.slice a6 N6 c6) Z) ∧ Hid (Uj w5 Z S.L e.key e false (j + 1) (.slice a6 N6 c6)) ∧ (enLd (.pointer (some ⟨gl, j * 7, none⟩))).run Try.prog (wr.drewN nq) = .ok x.agg (wr.drewN nq)) := fun nq hk => by
            have bb : Below wr.heap.size wr (wr.drewN nq) := below_drewN (Below.refl _ _) nq
            obtain ⟨a6, N6, c6, Z, r6, row6, o6⟩ := keep_more (X := wr.drewN nq) x (owns_below HJ.out.row bb) (Nat.le_trans HJ.out.lt bb.size) (by omega)
            exact ⟨a6, N6, c6, Z, r6, HJ.out.keep hx hk row6 ((Only.of bb).trans o6), enLd_at (hc.below bb)⟩
          have HDr : Hid (∀ nq, hasK e.key x = true → Uj w5 (wr.drewN nq) S.L e.key e false (j + 1) (.slice a2 n2 c2)) := fun nq hk => HJ.out.skip hx hk (below_drewN (Below.refl _ _) nq)
          have hdec := hasK_dec e.key x
          have hdec2 : hasK e.key x = decide (x.d = e.d ∧ x.nm = e.nm) := hdec
          clear HJ hc hcl hx hdec
          cases hk : hasK e.key x with
          | false =>
            have hd : decide (x.d = e.d ∧ x.nm = e.nm) = false := by rw [← hdec2, hk]
            clear hdec2
            go_upto_region 19 with fail
            go_quiet (fail)
            obtain ⟨a6, N6, c6, Z, r6, H7, ld6⟩ := HKp.out nq hk
            clear HKp HDr
            go_wp2_with (at_builtin; refine wpList_apR rfl (.tmp 66) (.tmp 71) 41 rfl _ _ (.slice a6 N6 c6) Z (by simp [Act.eval]) (by simp [Act.eval]) r6 ?_)
            go_roundw
            case rel => exact ⟨j + 1, by omega, rfl, _, _, _, rfl, H7⟩
            case measure => simp [intOf]; omega
          | true =>
            have hd : decide (x.d = e.d ∧ x.nm = e.nm) = true := by rw [← hdec2, hk]
            clear hdec2
            go_upto_region 19 with fail
            go_quiet (fail)
            have H7 : Hid (Uj w5 (wr.drewN nq) S.L e.key e false (j + 1) (.slice a2 n2 c2)) := HDr.out nq hk
            clear HKp HDr
            go_wp2
            go_roundw
            case rel => exact ⟨j + 1, by omega, rfl, _, _, _, rfl, H7⟩
            case measure => simp [intOf]; omega
        · obtain rfl : j = m := by omega
          have hljz : ¬ (j : Int) < (j : Int) := by omega
          obtain ⟨hbox, hrow⟩ := HJ.out.fin (x0 := e) (by rw [HM.out]; exact Nat.le_refl _) HKS.out (fun _ => rfl) (fun h => by cases h)
          have hr5 := H6.out.2.2.1.below HJ.out.below
          rw [HT.out] at hr5
          obtain ⟨hpre, hN, hcap, gp, rfl⟩ := row7_pre hr5
          obtain ⟨L', hL'⟩ : ∃ L', outL S.L e.key = L' := ⟨_, rfl⟩
          rw [hL'] at hr5 hrow hpre hN
          have hn2 : n2 = L'.length := by
            obtain ⟨_, _, hh⟩ := owns_len hrow
            injection hh
          subst hn2
          have hlb : L'.length ≤ j := by
            rw [← hL', ← HM.out]
            exact List.length_filter_le _ _
          obtain ⟨g', hg', -, -, -, hc5, -⟩ := owns_entry hr5 (i := L'.length) (e := e) (by simp)
          cases hg'
          have HS : Hid (∀ W, Below wr.heap.size wr W → (enLd (.pointer (some ⟨w5.heap.size, 0, none⟩))).run Try.prog W = .ok e.agg W ∧ (enLd (.pointer (some ⟨gp, L'.length * 7, none⟩))).run Try.prog W = .ok e.agg W) := fun W hW => ⟨enLd_at ((cells7_of hbox).below hW), enLd_at (hc5.below hW)⟩
          have HQ : Hid (∀ W, Below wr.heap.size wr W → Row7 W w4.heap.size (.slice (some ⟨gp, 0, none⟩) L'.length c5) L' ∧ Row7 W (w5.heap.size + 1) (.slice a2 L'.length c2) L' ∧ Below w.heap.size w W) := fun W hW => ⟨hpre.below hW, hrow.below hW, chainB H6.out.1.below (chainB HJ.out.below hW)⟩
          have hee : eqEn e e = true := (eqEn_iff _ _).2 rfl
          have hw7 : IntKind.i64.wrap ((L'.length : Int) + 1) = (N5 : Int) := by
            rw [show (N5 : Int) = (L'.length : Int) + 1 by omega]; exact IntWalk.i64_in _ (by omega)
          have hcz : (L'.length : Int) < (N5 : Int) := by omega
          have kA := HS.out wr (Below.refl _ _)
          obtain ⟨LL, hLL⟩ : ∃ l, L'.length = l := ⟨_, rfl⟩
          have HLL : Hid (L'.length = LL) := hLL
          have hs1 : (L'.length : Int) ≤ (c5 : Int) := by omega
          rw [hLL] at HS HQ hw7 hcz hs1 kA hlb ⊢
          have hs0 : (0 : Int) ≤ (LL : Int) := by omega
          have hb0 : Hid (Below wr.heap.size wr wr) := Below.refl _ _
          clear HJ hrow hr5 hpre hbox hc5 hLL hL' hN hcap
          go_upto_region 23 with fail
          have hd1 : Below wr.heap.size wr wr.drew := below_drewN (Below.refl _ _) 1
          have H1 : Hid (Below wr.heap.size wr wr.drew) := hd1
          replace kA := HS.out wr.drew hd1
          clear hd1
          go_region_held3 (fun W => (enLd (.pointer (some ⟨w5.heap.size, 0, none⟩))).run Try.prog W = .ok e.agg W ∧ (enLd (.pointer (some ⟨gp, LL * 7, none⟩))).run Try.prog W = .ok e.agg W)
            (with_reducible first | exact kA | exact kB | exact kC)
            (first
              | (go_at_call 12; refine (HA.out _).mono ?_; rintro x wD ⟨rfl, hb⟩; have kC := HS.out wD (chainB HB.out hb); have HD : Hid (Below w.heap.size w wD) := (HQ.out _ (chainB HB.out hb)).2.2; clear hb)
              | (go_at_call 16; refine (sameE_yes _ _ _ _ _ _ (HQ.out _ H1.out).1 (HQ.out _ H1.out).2.1 (by have := HLL.out; omega)).mono ?_; rintro x wB ⟨rfl, hb⟩; have kB := HS.out wB (chainB H1.out hb); have HB : Hid (Below wr.heap.size wr wB) := chainB H1.out hb; clear hb))
          go_wp2
          go_ret
          exact ⟨rfl, HD.out⟩
end
end Go.Proofs.Ytlabophmfdfigaa
