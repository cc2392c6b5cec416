/- The law TidePlays. -/
import Derived.Test.YtpmcecenhgppbaaJTAys39
import Derived.Test.YtpmcecenhgppbaaJTAys40
namespace Go.Proofs.Ytpmcecenhgppbaa
section
open Go.RowKit Go.Shelf
attribute [local go_sem ↓ high] loadMsg storeMsg buildMsg storeAct loadAct buildAct loadMm storeMm loadTo storeTo
attribute [local go_sem high] run_store_complex eqC

theorem settle_len (n : Nat) : ∀ s : Ts, s.held.length = n → s.settle.2.length ≤ n := by
  induction n with
  | zero =>
    intro s hs
    rw [Ts.settle_none (due_nil (List.length_eq_zero_iff.1 hs))]
    exact Nat.le_refl _
  | succ n ih =>
    intro s hs
    cases hd : s.due with
    | none => rw [Ts.settle_none hd]; exact Nat.zero_le _
    | some i =>
      obtain ⟨m, hm, hq⟩ := Ts.due_some hd
      rw [Ts.settle_some hd hm]
      have hp := due_pot hd hm
      have h1 := ih ((s.without i).meet m).1 (by omega)
      have h2 := meet_few (s.without i) m
      rw [List.length_append]; omega
theorem take_len (s : Ts) (m : Pm) : (s.take m).2.length ≤ s.held.length + 4 := by
  unfold Ts.take
  split
  · have h1 := settle_len _ ((s.begun m).meet m).1 rfl
    have h2 := meet_few (s.begun m) m
    have h3 := meet_len (s.begun m) m
    have h4 : (s.begun m).held.length ≤ s.held.length := by
      unfold Ts.begun
      split
      · exact Nat.zero_le _
      · exact Nat.le_refl _
    have h5 : (s.begunA m).length ≤ 1 := by
      unfold Ts.begunA
      split
      · exact Nat.le_refl _
      · exact Nat.zero_le _
    rw [List.length_append, List.length_append]; omega
  · exact Nat.zero_le _
theorem Pr.few {w0 w : World} {t u : Nat} {Sa Sb : Ts} (h : Pr w0 w t u Sa Sb) : Sa.held.length ≤ 8 := by
  obtain ⟨s, d, h1, rfl, -⟩ := h.ex
  have := h1.lh
  have := h1.l8
  show (s.hs.map Hm.m).length ≤ 8
  rw [List.length_map]; omega
set_option maxHeartbeats 16000000 in
set_option maxRecDepth 100000 in
theorem plays_no (x y z : Int) (a1 : Option Addr) (n1 cap1 : Nat) (w : World) (hx : newOk x y z = false) : Calls Try.prog 3 #[.int .i64 x, .int .i64 y, .int .i64 z, .slice a1 n1 cap1] w fun e w' => e = .returned (.bool true) ∧ Below w.heap.size w w' := by
  have HN := new_no x y z w hx
  have HD := new_noD x y z w hx
  have HAw : Hid (∀ W, Calls Try.prog 8 #[] W fun e w' => e = .returned (.bool true) ∧ Below W.heap.size W w') := awake_p
  clear hx
  go_enter Try.func3, Try.ntmps3
  go_wp2_with (first
    | (go_at_call 6; refine HN.mono ?_; rintro q w1 ⟨rfl, rfl⟩)
    | (go_at_call 7; refine HD.mono ?_; rintro q w1 ⟨rfl, rfl⟩)
    | (go_at_call 8; refine (HAw.out _).mono ?_; rintro q w12 ⟨rfl, hb12⟩))
  go_ret
  exact ⟨rfl, hb12⟩
set_option maxHeartbeats 16000000 in
set_option maxRecDepth 100000 in
theorem plays_walk (cl lf : Int) (h : Nat) (hok : newOk cl lf h = true) (a1 : Option Addr) (cap1 : Nat) (ops1 : List TOp) (w : World) (row1 : RowT w a1 ops1) (hlen1 : ops1.length ≤ 700000000000) : Calls Try.prog 3 #[.int .i64 cl, .int .i64 lf, .int .i64 h, .slice a1 ops1.length cap1] w fun e w' => e = .returned (.bool true) ∧ Below w.heap.size w w' := by
  have HN := new_yes cl lf h w hok
  have HD : Hid (∀ W, Calls Try.prog 7 #[.int .i64 cl, .int .i64 lf, .int .i64 h] W fun e w' => e = .returned (.tuple #[.pointer (some ⟨W.heap.size, 0, none⟩), .int .i64 0]) ∧ (∃ s, IsD w' W.heap.size W.heap.size s ∧ s.say = Ts.new cl lf h) ∧ Below W.heap.size W w') := fun W => (new_yesD cl lf h W hok).mono fun e w' hq => ⟨hq.1, by obtain ⟨s, a, b, -⟩ := hq.2.1; exact ⟨s, a, b⟩, hq.2.2⟩
  have HAw : Hid (∀ W, Calls Try.prog 8 #[] W fun e w' => e = .returned (.bool true) ∧ Below W.heap.size W w') := awake_p
  have HRow1 : Hid (RowT w a1 ops1) := row1
  obtain ⟨n1, hn1⟩ : ∃ n1, ops1.length = n1 := ⟨_, rfl⟩
  have HN1 : Hid (ops1.length = n1) := hn1
  rw [hn1] at hlen1
  rw [hn1]
  obtain ⟨t, ht⟩ : ∃ t, w.heap.size = t := ⟨_, rfl⟩
  have HT : Hid (w.heap.size = t) := ht
  rw [ht] at HN
  have HN2 : Hid (Calls Try.prog 6 #[.int .i64 cl, .int .i64 lf, .int .i64 h] w fun e w' => e = .returned (.tuple #[.pointer (some ⟨t, 0, none⟩), .int .i64 0]) ∧ (∃ s, IsT w' t t s ∧ s.say = Ts.new cl lf h ∧ ∀ k, s.blk t k → t ≤ k) ∧ Below t w w') := HN
  clear hn1 row1 ht hok HN
  go_enter Try.func3, Try.ntmps3
  go_wp2_with (first
    | (go_at_call 6; go_loud (refine HN2.out.mono ?_; rintro q w1 ⟨rfl, ⟨s1, hs1, hy1, -⟩, hb1⟩; have R1 : Hid (IsT w1 t t s1 ∧ s1.say = Ts.new cl lf h ∧ Below t w w1) := ⟨hs1, hy1, hb1⟩; clear hs1 hy1 hb1))
    | (go_at_call 7; refine (HD.out _).mono ?_; rintro q w2 ⟨rfl, ⟨d1, hd1, hz1⟩, hb2⟩; obtain ⟨u, hu⟩ : ∃ u, w1.heap.size = u := ⟨_, rfl⟩; have R2 : Hid (Pr w w2 t u (Ts.new cl lf h) (Ts.new cl lf h)) := (by have := pr_new (w0 := w) (by rw [HT.out]; exact R1.out.1) R1.out.2.1 (by rw [HT.out]; exact R1.out.2.2) hd1 hz1 hb2; rw [hu, HT.out] at this; exact this); rw [hu]; clear hd1 hz1 hb2 hu))
  clear HD HN2 R1
  go_loopw [13] (fun s13 wr => ∃ (i : Nat) (S : Ts), i ≤ n1 ∧ s13 = .int .i64 i ∧ Hid (Pr w wr t u S S ∧ S.due = none ∧ S.fr.length + S.held.length ≤ i)) (fun s13 _ => n1 - (intOf s13).toNat)
  case atStart => exact ⟨0, _, Nat.zero_le _, rfl, R2.out, new_due _ _ _, Nat.le_refl _⟩
  case round =>
    obtain ⟨i, S, hil, rfl, HR⟩ := hrel
    by_cases hlt : i < n1
    · have hlz : (i : Int) < (n1 : Int) := by omega
      have hbd : S.fr.length + S.held.length + 1 ≤ 700000000000 := Nat.le_trans (Nat.succ_le_succ HR.out.2.2) (Nat.le_trans hlt hlen1)
      have HBd : Hid ((S.fr.length + S.held.length + 1) * 56 ≤ 140737488351232) := Nat.le_trans (Nat.mul_le_mul_right 56 hbd) (by decide)
      clear hbd
      obtain ⟨bI, offI, o, rfl, hx, hcx, hax, -⟩ := (HRow1.out.below HR.out.1.bel).get (i := i) (by rw [HN1.out]; exact hlt)
      have HArg : Hid (∀ V, Below w.heap.size w V → ArgM V o.m) := fun V hV => by
        obtain ⟨_, _, o2, -, ho2, -, ha2, -⟩ := (HRow1.out.below hV).get (i := i) (by rw [HN1.out]; exact hlt)
        rw [hx] at ho2
        cases ho2
        exact ha2
      have ml : (toLd (.pointer (some ⟨bI, offI + i * 19, none⟩))).run Try.prog wr = .ok (.agg o.arr) wr := toLd_at (fun j v hv => hcx j v (by unfold TOp.arr at hv; rw [List.getElem?_toArray] at hv; exact hv)) o.size
      obtain ⟨gx, hgx⟩ : ∃ gx, wr.heap.size = gx := ⟨_, rfl⟩
      obtain ⟨W1, hW1⟩ : ∃ W1, wr.alloc (.cells #[.bool false, .int .i64 0, .int .i64 0, .int .i64 0, .int .i64 0, .int .i64 0, .int .i64 0, .int .i64 0, .int .i64 0, .int .i64 0, .int .i64 0, .int .i64 0, .string ⟨#[]⟩, .int .i64 0, .string ⟨#[]⟩, .int .i64 0, .string ⟨#[]⟩, .slice none 0 0, .slice none 0 0] 38) = W1 := ⟨_, rfl⟩
      have hb1 := boxB hW1
      obtain ⟨W2, hW2⟩ : ∃ W2, W1.setRow gx o.arr = W2 := ⟨_, rfl⟩
      rw [hgx] at hb1
      have ms := toSt_of hb1.1 rfl o.size (TOp.one hax) hW2
      have hx2 : W2.heap[gx]? = some (.cells o.arr 38 (0, 0)) := by rw [← hW2]; exact setRow_heap _ _ _ _ _ _ hb1.1
      have hb2 : Below wr.heap.size wr W2 := by
        have o1 : Only (· = gx) W1 W2 := by rw [← hW2]; exact onlyR _ _ _
        have b5 : Below wr.heap.size wr W1 := by rw [hgx]; exact hb1.2
        exact o1.below b5 b5.size (fun k hk => by rw [hk, hgx]; exact Nat.le_refl _)
      have P2 : Hid (Pr w W2 t u S S) := HR.out.1.below hb2
      have HX2 : Hid (W2.heap[gx]? = some (.cells o.arr 38 (0, 0))) := hx2
      obtain ⟨X2, hX2⟩ : ∃ X, o.arr = X := ⟨_, rfl⟩
      rw [hX2] at ml ms
      cases hask : o.ask with
      | true =>
        have c0 : W2.cell? ⟨gx, 0, none⟩ = some (.bool true) := by rw [cell_of hx2 0, ← hask]; rfl
        have c1 : W2.cell? ⟨gx, 1, none⟩ = some (.int .i64 o.seq) := cell_of hx2 1
        clear hx hcx hax hb1 hW2 hx2 hb2 hX2 hask
        go_wp2_with (first
          | (go_at_call 9; refine (P2.out.ask_p o.seq).mono ?_; rintro q w5 ⟨rfl, hp5, hk5⟩; have P5 : Hid (Pr w w5 t u (S.ask o.seq) S) := hp5; have d1 : w5.cell? ⟨gx, 1, none⟩ = some (.int .i64 o.seq) := cell_of ((hk5.tag gx _ ⟨_, _, HX2.out⟩ (by decide) (by decide)).trans HX2.out) 1; clear hp5 hk5 ml ms)
          | (go_at_call 10; refine (P5.out.ask_d o.seq).mono ?_; rintro q w6 ⟨rfl, hp6, -⟩; have P6 : Hid (Pr w w6 t u (S.ask o.seq) (S.ask o.seq)) := hp6; clear hp6)
          | (go_at_call 15; refine (like_yes P6.out).mono ?_; rintro q w7 ⟨rfl, hb7⟩; have P7 : Hid (Pr w w7 t u (S.ask o.seq) (S.ask o.seq)) := P6.out.below hb7; clear hb7))
        exact ⟨⟨i + 1, _, by omega, by simp, P7.out, ask_due HR.out.2.1, Nat.le_trans (ask_pot S o.seq) (Nat.le_succ_of_le HR.out.2.2)⟩, by simp [intOf]; omega⟩
      | false =>
        have c0 : W2.cell? ⟨gx, 0, none⟩ = some (.bool false) := by rw [cell_of hx2 0, ← hask]; rfl
        obtain ⟨Z, hZ⟩ : ∃ Z, o.m.arr = Z := ⟨_, rfl⟩
        have HMm : Hid (∀ V, V.heap[gx]? = some (.cells o.arr 38 (0, 0)) → (mmLd (.pointer (some ⟨gx, 2, none⟩))).run Try.prog V = .ok (.agg Z) V) := fun V hV => by
          rw [← hZ]
          exact mmLd_at (fun j v hv => (by rw [Nat.add_comm, cell_of hV (j + 2)]; exact TOp.arr_get hv)) o.m.size
        have HMs : Hid (∀ V, Below w.heap.size w V → Calls Try.prog 13 #[.agg Z] V fun e w' => MsgR o.m V e w') := fun V hV => by
          rw [← hZ]
          exact msg_p o.m V (HArg.out V hV)
        clear hx hcx hax hb1 hW2 hx2 hb2 hX2 hask hZ
        go_upto_region 14 with fail
        clear ml ms
        have kS := HMm.out W2.drew HX2.out
        go_region_held3 (fun V => (mmLd (.pointer (some ⟨gx, 2, none⟩))).run Try.prog V = .ok (.agg Z) V)
          (with_reducible first | exact k7 | exact k6 | exact k5 | exact k4 | exact k3 | exact kS)
          (first
            | (go_at_call 11; refine HSA.out.mono ?_; rintro q w7 ⟨rfl, hb7⟩; have P7 : Hid (Pr w w7 t u (S.take z.m).1 (S.take z.m).1) := P6.out.1.below hb7; have k7 := HMm.out w7 (hkeep P6.out.2 hb7); clear hb7)
            | (go_at_call 14; refine (P5.out.1.take_d z2 P5.out.2.2.1 HR.out.2.1 HBd.out).mono ?_; rintro q w6 ⟨v6, l6, rfl, ha6, hc6, hp6, hk6⟩; rw [P5.out.2.2.2.1] at hc6 hp6; have h6 := (hk6.tag gx _ ⟨_, _, P5.out.2.2.2.2⟩ (by decide) (by decide) (by decide)).trans P5.out.2.2.2.2; have P6 : Hid (Pr w w6 t u (S.take z.m).1 (S.take z.m).1 ∧ w6.heap[gx]? = some (.cells o.arr 38 (0, 0))) := ⟨hp6, h6⟩; have HSA : Hid (Calls Try.prog 11 #[v4, v6] w6 fun e w' => e = .returned (.bool true) ∧ Below w6.heap.size w6 w') := sameActs_yes _ _ _ _ w6 _ _ (hk6.acts P5.out.2.1) ha6 (R4c.out.trans hc6.symm) (by have h1 := take_len S z.m; have h2 := P2.out.few; have h3 := congrArg List.length R4c.out; rw [List.length_map] at h3; omega); have k6 := HMm.out w6 h6; clear ha6 hc6 hp6 hk6 h6)
            | (have _q := P4; clear _q; go_at_call 13; refine (HMs.out _ P4.out.1.bel).mono ?_; rintro q w5 ⟨z2, rfl, hzm2, hLz2, hb5⟩; have h5 := hkeep P4.out.2.2 hb5; have P5 : Hid (Pr w w5 t u (S.take z.m).1 S ∧ Acts w5 w3.heap.size v4 l4 ∧ Lists w5 0 z2 ∧ z2.m = z.m ∧ w5.heap[gx]? = some (.cells o.arr 38 (0, 0))) := ⟨P4.out.1.below hb5, P4.out.2.1.below hb5, hLz2.down (Nat.zero_le _), hzm2.trans P3.out.2.2.1.symm, h5⟩; have k5 := HMm.out w5 h5; clear hzm2 hLz2 hb5 h5)
            | (go_at_call 12; refine (P3.out.1.take_p z P3.out.2.1).mono ?_; rintro q w4 ⟨v4, l4, rfl, ha4, hc4, hp4, hk4⟩; have h4 := (hk4.tag gx _ ⟨_, _, P3.out.2.2.2⟩ (by decide) (by decide)).trans P3.out.2.2.2; have P4 : Hid (Pr w w4 t u (S.take z.m).1 S ∧ Acts w4 w3.heap.size v4 l4 ∧ w4.heap[gx]? = some (.cells o.arr 38 (0, 0))) := ⟨hp4, ha4, h4⟩; have R4c : Hid (l4.map Am.c = (S.take z.m).2) := hc4; have k4 := HMm.out w4 h4; clear ha4 hc4 hp4 hk4 h4)
            | (go_at_call 13; refine (HMs.out _ P2.out.bel.drew).mono ?_; rintro q w3 ⟨z, rfl, hzm, hLz, hb3⟩; have h3 := hkeep HX2.out (undrew hb3); have P3 : Hid (Pr w w3 t u S S ∧ Lists w3 0 z ∧ z.m = o.m.pm ∧ w3.heap[gx]? = some (.cells o.arr 38 (0, 0))) := ⟨P2.out.below (undrew hb3), hLz.down (Nat.zero_le _), hzm, h3⟩; have k3 := HMm.out w3 h3; clear hzm hLz hb3 h3))
        clear kS k3 k4 k5 k6 k7
        go_wp2_with (go_at_call 15; refine (like_yes P7.out).mono ?_; rintro q w8 ⟨rfl, hb8⟩; have P8 : Hid (Pr w w8 t u (S.take z.m).1 (S.take z.m).1) := P7.out.below hb8; clear hb8)
        exact ⟨⟨i + 1, _, by omega, by simp, P8.out, take_due HR.out.2.1, Nat.le_trans (take_pot S z.m) (Nat.succ_le_succ HR.out.2.2)⟩, by simp [intOf]; omega⟩
    · have hlz : ¬ (i : Int) < (n1 : Int) := by omega
      have HBe : Hid (Below w.heap.size w wr) := HR.out.1.bel
      go_wp2_with (first
        | (go_at_call 8; refine (HAw.out _).mono ?_; rintro q w12 ⟨rfl, hb12⟩))
      go_ret
      exact ⟨rfl, chainB HBe.out hb12⟩
theorem walk_TidePlays (x y z : Int) (a1 : Option Addr) (cap1 : Nat) (ops1 : List TOp) (w : World) (_ : (Lit.int .i64 x).wf = true) (_ : (Lit.int .i64 y).wf = true) (_ : (Lit.int .i64 z).wf = true) (row1 : RowT w a1 ops1) (hlen1 : ops1.length ≤ 700000000000) : Calls Try.prog 3 #[.int .i64 x, .int .i64 y, .int .i64 z, .slice a1 ops1.length cap1] w fun e w' => e = .returned (.bool true) ∧ Below w.heap.size w w' := by
  cases hx : newOk x y z with
  | false => exact plays_no x y z a1 _ cap1 w hx
  | true =>
    have hz := ((newOk_parts x y z).1 hx).2.2.2.2.1
    obtain ⟨h, rfl⟩ : ∃ h : Nat, z = (h : Int) := ⟨z.toNat, by omega⟩
    exact plays_walk x y h hx a1 cap1 ops1 w row1 hlen1
end
end Go.Proofs.Ytpmcecenhgppbaa
