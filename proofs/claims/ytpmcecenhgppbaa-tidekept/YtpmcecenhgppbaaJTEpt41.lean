/- The law TideKept. -/
import Derived.Test.YtpmcecenhgppbaaJTEpt40
namespace Go.Proofs.Ytpmcecenhgppbaa
section
open Go.RowKit Go.Shelf
attribute [local go_sem ↓ high] loadMsg storeMsg buildMsg storeAct loadAct buildAct loadMm storeMm loadTo storeTo
attribute [local go_sem high] run_store_complex eqC

set_option maxHeartbeats 16000000 in
set_option maxRecDepth 100000 in
theorem walk_TideKept (a1 : Option Addr) (cap1 : Nat) (ops1 : List TOp) (w : World) (row1 : RowT w a1 ops1) (hlen1 : ops1.length ≤ 700000000000) : Calls Try.prog 5 #[.slice a1 ops1.length cap1] w fun e w' => e = .returned (.bool true) ∧ Below w.heap.size w w' := by
  have HN : Hid (Calls Try.prog 6 #[.int .i64 1, .int .i64 1, .int .i64 8] w fun e w' => e = .returned (.tuple #[.pointer (some ⟨w.heap.size, 0, none⟩), .int .i64 0]) ∧ (∃ s, IsT w' w.heap.size w.heap.size s ∧ s.say = Ts.new 1 1 8 ∧ ∀ k, s.blk w.heap.size k → w.heap.size ≤ k) ∧ Below w.heap.size w w') := new_yes 1 1 8 w (by decide)
  have HD : Hid (∀ W, Calls Try.prog 7 #[.int .i64 1, .int .i64 1, .int .i64 8] W fun e w' => e = .returned (.tuple #[.pointer (some ⟨W.heap.size, 0, none⟩), .int .i64 0]) ∧ (∃ s, IsD w' W.heap.size W.heap.size s ∧ s.say = Ts.new 1 1 8) ∧ Below W.heap.size W w') := fun W => (new_yesD 1 1 8 W (by decide)).mono fun e w' hq => ⟨hq.1, by obtain ⟨s, a, b, -⟩ := hq.2.1; exact ⟨s, a, b⟩, hq.2.2⟩
  have HAw : Hid (∀ W, Calls Try.prog 8 #[] W fun e w' => e = .returned (.bool true) ∧ Below W.heap.size W w') := awake_p
  have HRow1 : Hid (RowT w a1 ops1) := row1
  obtain ⟨n1, hn1⟩ : ∃ n1, ops1.length = n1 := ⟨_, rfl⟩
  have HN1 : Hid (ops1.length = n1) := hn1
  rw [hn1] at hlen1
  rw [hn1]
  obtain ⟨t, ht⟩ : ∃ t, w.heap.size = t := ⟨_, rfl⟩
  have HT : Hid (w.heap.size = t) := ht
  rw [ht] at HN
  have HN2 : Hid (Calls Try.prog 6 #[.int .i64 1, .int .i64 1, .int .i64 8] w fun e w' => e = .returned (.tuple #[.pointer (some ⟨t, 0, none⟩), .int .i64 0]) ∧ (∃ s, IsT w' t t s ∧ s.say = Ts.new 1 1 8 ∧ ∀ k, s.blk t k → t ≤ k) ∧ Below t w w') := HN
  clear hn1 row1 ht HN
  go_enter Try.func5, Try.ntmps5
  go_wp2_with (first
    | (go_at_call 6; refine HN2.out.mono ?_; rintro q w1 ⟨rfl, ⟨s1, hs1, hy1, -⟩, hb1⟩; have R1 : Hid (IsT w1 t t s1 ∧ s1.say = Ts.new 1 1 8 ∧ Below t w w1) := ⟨hs1, hy1, hb1⟩; clear hs1 hy1 hb1)
    | (go_at_call 7; refine (HD.out _).mono ?_; rintro q w2 ⟨rfl, ⟨d1, hd1, hz1⟩, hb2⟩; obtain ⟨u, hu⟩ : ∃ u, w1.heap.size = u := ⟨_, rfl⟩; have R2 : Hid (Pr w w2 t u (Ts.new 1 1 8) (Ts.new 1 1 8)) := (by have := pr_new (w0 := w) (by rw [HT.out]; exact R1.out.1) R1.out.2.1 (by rw [HT.out]; exact R1.out.2.2) hd1 hz1 hb2; rw [hu, HT.out] at this; exact this); rw [hu]; clear hd1 hz1 hb2 hu))
  clear HD HN2 R1
  go_loopw [7] (fun s7 wr => ∃ (i : Nat) (S : Ts), i ≤ n1 ∧ s7 = .int .i64 i ∧ Hid (Pr w wr t u S S ∧ S.due = none ∧ S.fr.length + S.held.length ≤ i)) (fun s7 _ => n1 - (intOf s7).toNat)
  case atStart => exact ⟨0, _, Nat.zero_le _, rfl, R2.out, new_due _ _ _, Nat.le_refl _⟩
  case round =>
    obtain ⟨i, S, hil, rfl, HR⟩ := hrel
    by_cases hlt : i < n1
    · have hlz : (i : Int) < (n1 : Int) := by omega
      have hbd : S.fr.length + S.held.length + 1 ≤ 700000000000 := Nat.le_trans (Nat.succ_le_succ HR.out.2.2) (Nat.le_trans hlt hlen1)
      have HBd : Hid ((S.fr.length + S.held.length + 1) * 56 ≤ 140737488351232) := Nat.le_trans (Nat.mul_le_mul_right 56 hbd) (by decide)
      clear hbd
      obtain ⟨bI, offI, o, rfl, hx, hcx, hax, hwf⟩ := (HRow1.out.below HR.out.1.bel).get (i := i) (by rw [HN1.out]; exact hlt)
      obtain ⟨Zm, hZm⟩ : ∃ Z, o.m.arr = Z := ⟨_, rfl⟩
      obtain ⟨ask, hask⟩ : ∃ y, o.ask = y := ⟨_, rfl⟩
      obtain ⟨oq, hoq⟩ : ∃ y, o.seq = y := ⟨_, rfl⟩
      have HGet : Hid (∀ V, Below w.heap.size w V → V.cell? ⟨bI, offI + i * 19, none⟩ = some (.bool ask) ∧ V.cell? ⟨bI, offI + i * 19 + 1, none⟩ = some (.int .i64 oq) ∧ (mmLd (.pointer (some ⟨bI, offI + i * 19 + 2, none⟩))).run Try.prog V = .ok (.agg Zm) V ∧ Calls Try.prog 13 #[.agg Zm] V fun e w' => MsgR o.m V e w') := fun V hV => by
        obtain ⟨b2, off2, o2, e2, ho2, hc2, ha2, -⟩ := (HRow1.out.below hV).get (i := i) (by rw [HN1.out]; exact hlt)
        rw [hx] at ho2
        cases ho2
        cases e2
        rw [← hZm, ← hask, ← hoq]
        exact ⟨hc2 0 _ rfl, hc2 1 _ rfl, RowT.msg hc2, msg_p o.m V ha2⟩
      have HFl : Hid ((Op.floatEq .f64 o.m.pm.re o.m.pm.re && Op.floatEq .f64 o.m.pm.im o.m.pm.im) = true) := by
        have h1 := feq_int hwf.1
        have h2 := feq_int hwf.2
        show (Op.floatEq .f64 (floatOfInt .f64 o.m.ep) (floatOfInt .f64 o.m.ep) && Op.floatEq .f64 (floatOfInt .f64 o.m.nb) (floatOfInt .f64 o.m.nb)) = true
        rw [h1, h2]; rfl
      have g1 := HGet.out wr HR.out.1.bel
      have c0 := g1.1
      have c1 := g1.2.1
      have c2 := g1.2.2.1
      clear hx hcx hax hZm hask hoq hwf g1
      cases ask with
      | true =>
        go_wp2_with (first
          | (go_at_call 9; refine (HR.out.1.ask_p oq).mono ?_; rintro q w5 ⟨rfl, hp5, -⟩; have P5 : Hid (Pr w w5 t u (S.ask oq) S) := hp5; have d1 := (HGet.out w5 hp5.bel).2.1; clear hp5 c0 c2)
          | (go_at_call 10; refine (P5.out.ask_d oq).mono ?_; rintro q w6 ⟨rfl, hp6, -⟩; have P6 : Hid (Pr w w6 t u (S.ask oq) (S.ask oq)) := hp6; clear hp6))
        exact ⟨⟨i + 1, _, by omega, by simp, P6.out, ask_due HR.out.2.1, Nat.le_trans (ask_pot S oq) (Nat.le_succ_of_le HR.out.2.2)⟩, by simp [intOf]; omega⟩
      | false =>
        go_upto_region 14 with (first
          | (go_at_call 14; refine (P5.out.1.take_d z2 P5.out.2.1 HR.out.2.1 HBd.out).mono ?_; rintro q w6 ⟨v6, l6, rfl, ha6, hc6, hp6, hk6⟩; rw [P5.out.2.2.1] at hc6 hp6; have P6 : Hid (Pf w w6 t u (S.take z.m).1 (S.take z.m).1 (fun k => (False ∨ (wr.heap.size ≤ k ∧ k < V2.heap.size)) ∨ AtB l4 k) ∧ Lists w6 wr.heap.size z ∧ w6.heap[gx]? = some (.cells z.arr 45 (0, 0)) ∧ Acts w6 V2.heap.size v4 l4 ∧ Acts w6 w5.heap.size v6 l6 ∧ l6.map Am.c = (S.take z.m).2) := ⟨hp6, hk6.lists P5.out.2.2.2.1, (hk6.mine gx (.inl (.inr P2.out.2.2.1)) (Array.getElem?_eq_some_iff.1 P5.out.2.2.2.2.1).1).trans P5.out.2.2.2.2.1, hk6.acts P5.out.2.2.2.2.2, ha6, hc6⟩; clear ha6 hc6 hp6 hk6)
          | (have _q := P4; clear _q; go_at_call 13; refine (HGet.out _ P4.out.1.bel).2.2.2.mono ?_; rintro q w5 ⟨z2, rfl, hzm2, hLz2, hb5⟩; have P5 : Hid (Pf w w5 t u (S.take z.m).1 S (fun k => (False ∨ (wr.heap.size ≤ k ∧ k < V2.heap.size)) ∨ AtB l4 k) ∧ Lists w5 0 z2 ∧ z2.m = z.m ∧ Lists w5 wr.heap.size z ∧ w5.heap[gx]? = some (.cells z.arr 45 (0, 0)) ∧ Acts w5 V2.heap.size v4 l4) := ⟨P4.out.1.below hb5, hLz2.down (Nat.zero_le _), hzm2.trans P2.out.2.2.2.2.symm, P4.out.2.1.below hb5, hkeep P4.out.2.2.1 hb5, P4.out.2.2.2.1.below hb5⟩; clear hzm2 hLz2 hb5)
          | (go_at_call 12; refine (HTp.out).mono ?_; rintro q w4 ⟨v4, l4, rfl, ha4, hc4, hp4, hk4⟩; have P4 : Hid (Pf w w4 t u (S.take z.m).1 S (fun k => (False ∨ (wr.heap.size ≤ k ∧ k < V2.heap.size)) ∨ AtB l4 k) ∧ Lists w4 wr.heap.size z ∧ w4.heap[gx]? = some (.cells z.arr 45 (0, 0)) ∧ Acts w4 V2.heap.size v4 l4 ∧ l4.map Am.c = (S.take z.m).2) := ⟨hp4, hk4.lists P2.out.2.1, (hk4.mine gx (.inr P2.out.2.2.1) P2.out.2.2.1.2).trans P2.out.2.2.2.1, ha4, hc4⟩; have c24 := (HGet.out w4 hp4.bel).2.2.1; clear ha4 hc4 hp4 hk4 ml)
          | (go_at_call 13; refine (HGet.out _ HR.out.1.bel).2.2.2.mono ?_; rintro q w3 ⟨z, rfl, hzm, hLz, hb3⟩; obtain ⟨V2, ms, hx2, hb2⟩ := msg_box w3 z.arr z.size z.one; obtain ⟨gx, hgx⟩ : ∃ g, w3.heap.size = g := ⟨_, rfl⟩; rw [hgx] at ms hx2; have P2 : Hid (Pf w V2 t u S S (fun k => False ∨ (wr.heap.size ≤ k ∧ k < V2.heap.size)) ∧ Lists V2 wr.heap.size z ∧ (wr.heap.size ≤ gx ∧ gx < V2.heap.size) ∧ V2.heap[gx]? = some (.cells z.arr 45 (0, 0)) ∧ z.m = o.m.pm) := ⟨HR.out.1.pf.add (chainB hb3 hb2), hLz.below hb2, ⟨by rw [← hgx]; exact hb3.size, (Array.getElem?_eq_some_iff.1 hx2).1⟩, hx2, hzm⟩; have ml := msgLd_of hx2 z.size; obtain ⟨Z, hZ⟩ : ∃ Z, z.arr = Z := ⟨_, rfl⟩; have HZ : Hid (z.arr = Z) := hZ; have HTp : Hid (Calls Try.prog 12 #[.pointer (some ⟨t, 0, none⟩), .agg Z] V2 fun e w' => PfP w V2 t u S S (fun k => False ∨ (wr.heap.size ≤ k ∧ k < V2.heap.size)) z.m e w') := (by rw [← hZ]; exact P2.out.1.take_p z (P2.out.2.1.down (Nat.zero_le _))); rw [hZ] at ms ml; rw [hZ]; clear hzm hLz hb3 hb2 hx2 hZ))
        have hc4 := P4.out.2.2.2.2
        have HKp : Hid (∀ V, V.heap[gx]? = some (.cells z.arr 45 (0, 0)) → Below w.heap.size w V → (msgLd (.pointer (some ⟨gx, 0, none⟩))).run Try.prog V = .ok (.agg Z) V ∧ (mmLd (.pointer (some ⟨bI, offI + i * 19 + 2, none⟩))).run Try.prog V = .ok (.agg Zm) V) := fun V h1 h2 => ⟨by rw [← HZ.out]; exact msgLd_of h1 z.size, (HGet.out V h2).2.2.1⟩
        have HC4 : Hid (l4.map Am.c = (S.take z.m).2) := hc4
        have kS := HKp.out w6.drew P6.out.2.2.1 P6.out.1.bel.drew
        clear hc4 c0 c1 c2 c24
        go_region_held3 (fun V => (msgLd (.pointer (some ⟨gx, 0, none⟩))).run Try.prog V = .ok (.agg Z) V ∧ (mmLd (.pointer (some ⟨bI, offI + i * 19 + 2, none⟩))).run Try.prog V = .ok (.agg Zm) V)
          (with_reducible first | exact k9 | exact k8 | exact k7 | exact kS)
          (first
            | (go_at_call 11; refine HSA.out.mono ?_; rintro q w9 ⟨rfl, hb9⟩; have P9 : Hid (Pf w w9 t u (S.take z.m).1 (S.take z.m).1 (fun k => (False ∨ (wr.heap.size ≤ k ∧ k < V2.heap.size)) ∨ AtB l4 k) ∧ Lists w9 wr.heap.size z ∧ w9.heap[gx]? = some (.cells z.arr 45 (0, 0)) ∧ Acts w9 V2.heap.size v4 l4) := ⟨P8.out.1.below hb9, P8.out.2.1.below hb9, hkeep P8.out.2.2.1 hb9, P8.out.2.2.2.below hb9⟩; have k9 := HKp.out w9 P9.out.2.2.1 P9.out.1.bel; clear hb9)
            | (go_at_call 16; refine HSm.out.mono ?_; rintro q w8 ⟨rfl, hb8⟩; have P8 : Hid (Pf w w8 t u (S.take z.m).1 (S.take z.m).1 (fun k => (False ∨ (wr.heap.size ≤ k ∧ k < V2.heap.size)) ∨ AtB l4 k) ∧ Lists w8 wr.heap.size z ∧ w8.heap[gx]? = some (.cells z.arr 45 (0, 0)) ∧ Acts w8 V2.heap.size v4 l4) := ⟨P7.out.1.below hb8, P7.out.2.1.below hb8, hkeep P7.out.2.2.1 hb8, P7.out.2.2.2.1.below hb8⟩; have HSA : Hid (Calls Try.prog 11 #[v4, v6] w8 fun e w' => e = .returned (.bool true) ∧ Below w8.heap.size w8 w') := sameActs_yes _ _ _ _ w8 _ _ P8.out.2.2.2 (P7.out.2.2.2.2.below hb8) (HC4.out.trans P6.out.2.2.2.2.2.symm) (by have h1 := take_len S z.m; have h2 := HR.out.1.few; have h3 := congrArg List.length HC4.out; rw [List.length_map] at h3; omega); have k8 := HKp.out w8 P8.out.2.2.1 P8.out.1.bel; clear hb8)
            | (go_at_call 13; refine (HGet.out _ P6.out.1.bel.drew).2.2.2.mono ?_; rintro q w7 ⟨z3, rfl, hzm3, hLz3, hb7⟩; have hu7 := undrew hb7; have P7 : Hid (Pf w w7 t u (S.take z.m).1 (S.take z.m).1 (fun k => (False ∨ (wr.heap.size ≤ k ∧ k < V2.heap.size)) ∨ AtB l4 k) ∧ Lists w7 wr.heap.size z ∧ w7.heap[gx]? = some (.cells z.arr 45 (0, 0)) ∧ Acts w7 V2.heap.size v4 l4 ∧ Acts w7 w5.heap.size v6 l6) := ⟨P6.out.1.below hu7, P6.out.2.1.below hu7, hkeep P6.out.2.2.1 hu7, P6.out.2.2.2.1.below hu7, P6.out.2.2.2.2.1.below hu7⟩; have HSm : Hid (Calls Try.prog 16 #[.agg Z, .agg z3.arr] w7 fun e w' => e = .returned (.bool true) ∧ Below w7.heap.size w7 w') := (by rw [← HZ.out]; exact same_msgF (P2.out.2.2.2.2.trans hzm3.symm) (by rw [P2.out.2.2.2.2]; exact HFl.out) (P7.out.2.1.down (Nat.zero_le _)) (hLz3.down (Nat.zero_le _)) (lists_few P7.out.2.1).1 (lists_few P7.out.2.1).2); have k7 := HKp.out w7 P7.out.2.2.1 P7.out.1.bel; clear hzm3 hLz3 hb7 hu7))
        clear kS k7 k8 k9
        obtain ⟨a4, c4, hv4⟩ := owns_len P9.out.2.2.2.row
        subst hv4
        obtain ⟨S2, hS2⟩ : ∃ y, (S.take z.m).1 = y := ⟨_, rfl⟩
        have HS2 : Hid (S2.due = none ∧ S2.fr.length + S2.held.length ≤ i + 1) := by
          rw [← hS2]
          exact ⟨take_due HR.out.2.1, Nat.le_trans (take_pot S z.m) (Nat.succ_le_succ HR.out.2.2)⟩
        obtain ⟨F9, hF9⟩ : ∃ y, (fun k => (False ∨ (wr.heap.size ≤ k ∧ k < V2.heap.size)) ∨ AtB l4 k) = y := ⟨_, rfl⟩
        obtain ⟨LK, hLK⟩ : ∃ y, ((z.vk, z.m.ks.length) :: keysOfA l4) = y := ⟨_, rfl⟩
        obtain ⟨LE, hLE⟩ : ∃ y, ((z.ve, z.m.es.length) :: entsOfA l4) = y := ⟨_, rfl⟩
        have K9 : Hid (Kw w w9 w9 t u S2 F9 LK LE) := by
          have hw : w.heap.size ≤ wr.heap.size := HR.out.1.bel.size
          have hp := P9.out.1
          rw [hS2] at hp
          have := kw_acts hp P9.out.2.1 P9.out.2.2.2 hw (Nat.le_trans hw (Nat.le_trans P2.out.2.2.1.1 (Nat.le_of_lt P2.out.2.2.1.2))) (fun k hk => .inl (.inr (by
            rcases hk with e | e
            · exact World.ownsRow.lt P2.out.2.1.es k e
            · exact World.ownsRow.lt P2.out.2.1.ks k e))) (fun k hk => .inr hk)
          rw [hF9, hLK, hLE] at this
          exact this
        have HTwo : Hid (Two w9 a4 l4.length 7 4 6 LK LE) := two_acts P9.out.2.2.2 (fun p hp => by rw [← hLK]; exact List.mem_cons_of_mem _ hp) (fun p hp => by rw [← hLE]; exact List.mem_cons_of_mem _ hp)
        obtain ⟨nk, hnk0⟩ : ∃ y, z.m.ks.length = y := ⟨_, rfl⟩
        obtain ⟨ne, hne0⟩ : ∃ y, z.m.es.length = y := ⟨_, rfl⟩
        obtain ⟨ak, hak⟩ : ∃ y, z.ak = y := ⟨_, rfl⟩
        obtain ⟨ck, hck⟩ : ∃ y, z.ck = y := ⟨_, rfl⟩
        obtain ⟨ae, hae⟩ : ∃ y, z.ae = y := ⟨_, rfl⟩
        obtain ⟨ce, hce⟩ : ∃ y, z.ce = y := ⟨_, rfl⟩
        have hnk : nk ≤ 140737488351232 := by rw [← hnk0]; exact (lists_few P9.out.2.1).2
        have hne : ne ≤ 140737488351232 := by rw [← hne0]; exact (lists_few P9.out.2.1).1
        have HC : Hid (∀ V, Keeps w9 V → V.cell? ⟨gx, 15, none⟩ = some (.slice ak nk ck) ∧ V.cell? ⟨gx, 14, none⟩ = some (.slice ae ne ce)) := fun V hV => by
          have hb := (hV gx _ ⟨_, _, P9.out.2.2.1⟩ (by decide) (by decide)).trans P9.out.2.2.1
          rw [← hnk0, ← hne0, ← hak, ← hck, ← hae, ← hce]
          exact ⟨cell_of hb 15, cell_of hb 14⟩
        have HM : Hid ((Value.slice ak nk ck, nk) ∈ LK ∧ (Value.slice ae ne ce, ne) ∈ LE) := by
          rw [← hnk0, ← hne0, ← hak, ← hck, ← hae, ← hce, ← hLK, ← hLE]
          exact ⟨List.mem_cons_self, List.mem_cons_self⟩
        obtain ⟨m4, hm4⟩ : ∃ y, l4.length = y := ⟨_, rfl⟩
        have hm4b : m4 ≤ 1000 := by
          have h1 := take_len S z.m
          have h2 := HR.out.1.few
          have h3 := congrArg List.length HC4.out
          rw [List.length_map] at h3
          omega
        rw [hm4] at HTwo
        rw [hm4]
        clear hS2 hF9 hLK hLE hnk0 hne0 hak hck hae hce hm4 P9
        go_wp2
        go_loopw [11] (fun s11 wk => ∃ ka : Nat, ka ≤ nk ∧ s11 = .int .i64 ka ∧ Hid (Kw w w9 wk t u S2 F9 LK LE)) (fun s11 _ => nk - (intOf s11).toNat)
        case atStart => exact ⟨0, Nat.zero_le _, rfl, K9.out⟩
        case round =>
          obtain ⟨ka, hka, rfl, HW⟩ := hrel
          have cA := (HC.out wr HW.out.keeps).1
          by_cases hlka : ka < nk
          · have hlkaz : (ka : Int) < (nk : Int) := by omega
            obtain ⟨g, cap, u0, u1, e, e0, e1, ef, hnx⟩ := HW.out.key HM.out.1 hlka
            cases e
            have HNx : Hid (Kw w w9 (laidK wr g (ka * 2) 91) t u S2 F9 LK LE) := hnx 91
            unfold laidK at HNx
            clear hnx
            go_wp2
            exact ⟨⟨ka + 1, by omega, by simp, HNx.out⟩, by simp [intOf]; omega⟩
          · have hlkaz : ¬ (ka : Int) < (nk : Int) := by omega
            have HZka : Hid (Kw w w9 wr t u S2 F9 LK LE) := HW.out
            clear HW
            go_wp2
            go_loopw [12] (fun s12 wk => ∃ kb : Nat, kb ≤ ne ∧ s12 = .int .i64 kb ∧ Hid (Kw w w9 wk t u S2 F9 LK LE)) (fun s12 _ => ne - (intOf s12).toNat)
            case atStart => exact ⟨0, Nat.zero_le _, rfl, HZka.out⟩
            case round =>
              obtain ⟨kb, hkb, rfl, HW⟩ := hrel
              have cA := (HC.out wr HW.out.keeps).2
              by_cases hlkb : kb < ne
              · have hlkbz : (kb : Int) < (ne : Int) := by omega
                obtain ⟨g, cap, e, ⟨u0, u1, u2, u3, u4, u5, u6, e0, e1, e2, e3, e4, e5, e6⟩, ef, hnx⟩ := HW.out.ent HM.out.2 hlkb
                cases e
                have HNx : Hid (Kw w w9 (laidE wr g (kb * 7)) t u S2 F9 LK LE) := hnx
                unfold laidE at HNx
                clear hnx
                go_wp2
                exact ⟨⟨kb + 1, by omega, by simp, HNx.out⟩, by simp [intOf]; omega⟩
              · have hlkbz : ¬ (kb : Int) < (ne : Int) := by omega
                have HZkb : Hid (Kw w w9 wr t u S2 F9 LK LE) := HW.out
                clear HW
                go_wp2
                go_loopw [13] (fun s13 wk => ∃ ja : Nat, ja ≤ m4 ∧ s13 = .int .i64 ja ∧ Hid (Kw w w9 wk t u S2 F9 LK LE)) (fun s13 _ => m4 - (intOf s13).toNat)
                case atStart => exact ⟨0, Nat.zero_le _, rfl, HZkb.out⟩
                case round =>
                  obtain ⟨ja, hja, rfl, HWja⟩ := hrel
                  by_cases hlja : ja < m4
                  · have hljaz : (ja : Int) < (m4 : Int) := by omega
                    obtain ⟨gA, akja, nkja, ckja, aeja, neja, ceja, rfl, hmkja, hmeja, hnkja, hneja, hclja⟩ := HTwo.out ja hlja
                    have HCja : Hid (∀ V, Keeps w9 V → V.cell? ⟨gA, ja * 7 + 4, none⟩ = some (.slice akja nkja ckja) ∧ V.cell? ⟨gA, ja * 7 + 6, none⟩ = some (.slice aeja neja ceja)) := hclja
                    have HMja : Hid ((Value.slice akja nkja ckja, nkja) ∈ LK ∧ (Value.slice aeja neja ceja, neja) ∈ LE) := ⟨hmkja, hmeja⟩
                    clear hclja hmkja hmeja
                    go_wp2
                    go_loopw [14] (fun s14 wk => ∃ kc : Nat, kc ≤ nkja ∧ s14 = .int .i64 kc ∧ Hid (Kw w w9 wk t u S2 F9 LK LE)) (fun s14 _ => nkja - (intOf s14).toNat)
                    case atStart => exact ⟨0, Nat.zero_le _, rfl, HWja.out⟩
                    case round =>
                      obtain ⟨kc, hkc, rfl, HW⟩ := hrel
                      have cA := (HCja.out wr HW.out.keeps).1
                      by_cases hlkc : kc < nkja
                      · have hlkcz : (kc : Int) < (nkja : Int) := by omega
                        obtain ⟨g, cap, u0, u1, e, e0, e1, ef, hnx⟩ := HW.out.key HMja.out.1 hlkc
                        cases e
                        have HNx : Hid (Kw w w9 (laidK wr g (kc * 2) 92) t u S2 F9 LK LE) := hnx 92
                        unfold laidK at HNx
                        clear hnx
                        go_wp2
                        exact ⟨⟨kc + 1, by omega, by simp, HNx.out⟩, by simp [intOf]; omega⟩
                      · have hlkcz : ¬ (kc : Int) < (nkja : Int) := by omega
                        have HZkc : Hid (Kw w w9 wr t u S2 F9 LK LE) := HW.out
                        clear HW
                        go_wp2
                        go_loopw [15] (fun s15 wk => ∃ kd : Nat, kd ≤ neja ∧ s15 = .int .i64 kd ∧ Hid (Kw w w9 wk t u S2 F9 LK LE)) (fun s15 _ => neja - (intOf s15).toNat)
                        case atStart => exact ⟨0, Nat.zero_le _, rfl, HZkc.out⟩
                        case round =>
                          obtain ⟨kd, hkd, rfl, HW⟩ := hrel
                          have cA := (HCja.out wr HW.out.keeps).2
                          by_cases hlkd : kd < neja
                          · have hlkdz : (kd : Int) < (neja : Int) := by omega
                            obtain ⟨g, cap, e, ⟨u0, u1, u2, u3, u4, u5, u6, e0, e1, e2, e3, e4, e5, e6⟩, ef, hnx⟩ := HW.out.ent HMja.out.2 hlkd
                            cases e
                            have HNx : Hid (Kw w w9 (laidE wr g (kd * 7)) t u S2 F9 LK LE) := hnx
                            unfold laidE at HNx
                            clear hnx
                            go_wp2
                            exact ⟨⟨kd + 1, by omega, by simp, HNx.out⟩, by simp [intOf]; omega⟩
                          · have hlkdz : ¬ (kd : Int) < (neja : Int) := by omega
                            have HZkd : Hid (Kw w w9 wr t u S2 F9 LK LE) := HW.out
                            clear HW
                            go_wp2
                            exact ⟨⟨ja + 1, by omega, by simp, HZkd.out⟩, by simp [intOf]; omega⟩
                  · have hljaz : ¬ (ja : Int) < (m4 : Int) := by omega
                    have HZja : Hid (Kw w w9 wr t u S2 F9 LK LE) := HWja.out
                    clear HWja
                    go_wp2_with (go_at_call 17; refine (HZja.out.pf.held).mono ?_; rintro q w10 ⟨vh, lh, rfl, hmh, hlh, hph⟩; obtain ⟨ah, ch, hvh⟩ := owns_len hmh.row; subst hvh; have KH : Hid (Msgs w10 wr.heap.size (.slice ah lh.length ch) lh ∧ Pf w w10 t u S2 S2 (fun k => F9 k ∨ (wr.heap.size ≤ k ∧ k < w10.heap.size)) ∧ w.heap.size ≤ wr.heap.size) := ⟨hmh, hph, HZja.out.pf.bel.size⟩; clear hmh hph)
                    obtain ⟨F10, hF10⟩ : ∃ y, (fun k => F9 k ∨ (wr.heap.size ≤ k ∧ k < w10.heap.size)) = y := ⟨_, rfl⟩
                    have K10 : Hid (Kw w w10 w10 t u S2 F10 (keysOfM lh) (entsOfM lh)) := by
                      have := kw_held KH.out.2.1 KH.out.1 KH.out.2.2
                      rw [hF10] at this; exact this
                    have HTwh : Hid (Two w10 ah lh.length 16 15 14 (keysOfM lh) (entsOfM lh)) := two_msgs KH.out.1 (fun p hp => hp) (fun p hp => hp)
                    obtain ⟨LK2, hLK2⟩ : ∃ y, keysOfM lh = y := ⟨_, rfl⟩
                    obtain ⟨LE2, hLE2⟩ : ∃ y, entsOfM lh = y := ⟨_, rfl⟩
                    rw [hLK2, hLE2] at K10 HTwh
                    obtain ⟨mh, hmh4⟩ : ∃ y, lh.length = y := ⟨_, rfl⟩
                    rw [hmh4] at HTwh hlh
                    rw [hmh4]
                    clear hLK2 hLE2 hmh4 hF10 KH HZja
                    go_wp2
                    go_loopw [17] (fun s17 wk => ∃ jh : Nat, jh ≤ mh ∧ s17 = .int .i64 jh ∧ Hid (Kw w w10 wk t u S2 F10 LK2 LE2)) (fun s17 _ => mh - (intOf s17).toNat)
                    case atStart => exact ⟨0, Nat.zero_le _, rfl, K10.out⟩
                    case round =>
                      obtain ⟨jh, hjh, rfl, HWjh⟩ := hrel
                      by_cases hljh : jh < mh
                      · have hljhz : (jh : Int) < (mh : Int) := by omega
                        obtain ⟨gA, akjh, nkjh, ckjh, aejh, nejh, cejh, rfl, hmkjh, hmejh, hnkjh, hnejh, hcljh⟩ := HTwh.out jh hljh
                        have HCjh : Hid (∀ V, Keeps w10 V → V.cell? ⟨gA, jh * 16 + 15, none⟩ = some (.slice akjh nkjh ckjh) ∧ V.cell? ⟨gA, jh * 16 + 14, none⟩ = some (.slice aejh nejh cejh)) := hcljh
                        have HMjh : Hid ((Value.slice akjh nkjh ckjh, nkjh) ∈ LK2 ∧ (Value.slice aejh nejh cejh, nejh) ∈ LE2) := ⟨hmkjh, hmejh⟩
                        clear hcljh hmkjh hmejh
                        go_wp2
                        go_loopw [18] (fun s18 wk => ∃ kc : Nat, kc ≤ nkjh ∧ s18 = .int .i64 kc ∧ Hid (Kw w w10 wk t u S2 F10 LK2 LE2)) (fun s18 _ => nkjh - (intOf s18).toNat)
                        case atStart => exact ⟨0, Nat.zero_le _, rfl, HWjh.out⟩
                        case round =>
                          obtain ⟨kc, hkc, rfl, HW⟩ := hrel
                          have cA := (HCjh.out wr HW.out.keeps).1
                          by_cases hlkc : kc < nkjh
                          · have hlkcz : (kc : Int) < (nkjh : Int) := by omega
                            obtain ⟨g, cap, u0, u1, e, e0, e1, ef, hnx⟩ := HW.out.key HMjh.out.1 hlkc
                            cases e
                            have HNx : Hid (Kw w w10 (laidK wr g (kc * 2) 93) t u S2 F10 LK2 LE2) := hnx 93
                            unfold laidK at HNx
                            clear hnx
                            go_wp2
                            exact ⟨⟨kc + 1, by omega, by simp, HNx.out⟩, by simp [intOf]; omega⟩
                          · have hlkcz : ¬ (kc : Int) < (nkjh : Int) := by omega
                            have HZkc : Hid (Kw w w10 wr t u S2 F10 LK2 LE2) := HW.out
                            clear HW
                            go_wp2
                            go_loopw [19] (fun s19 wk => ∃ kd : Nat, kd ≤ nejh ∧ s19 = .int .i64 kd ∧ Hid (Kw w w10 wk t u S2 F10 LK2 LE2)) (fun s19 _ => nejh - (intOf s19).toNat)
                            case atStart => exact ⟨0, Nat.zero_le _, rfl, HZkc.out⟩
                            case round =>
                              obtain ⟨kd, hkd, rfl, HW⟩ := hrel
                              have cA := (HCjh.out wr HW.out.keeps).2
                              by_cases hlkd : kd < nejh
                              · have hlkdz : (kd : Int) < (nejh : Int) := by omega
                                obtain ⟨g, cap, e, ⟨u0, u1, u2, u3, u4, u5, u6, e0, e1, e2, e3, e4, e5, e6⟩, ef, hnx⟩ := HW.out.ent HMjh.out.2 hlkd
                                cases e
                                have HNx : Hid (Kw w w10 (laidE wr g (kd * 7)) t u S2 F10 LK2 LE2) := hnx
                                unfold laidE at HNx
                                clear hnx
                                go_wp2
                                exact ⟨⟨kd + 1, by omega, by simp, HNx.out⟩, by simp [intOf]; omega⟩
                              · have hlkdz : ¬ (kd : Int) < (nejh : Int) := by omega
                                have HZkd : Hid (Kw w w10 wr t u S2 F10 LK2 LE2) := HW.out
                                clear HW
                                go_wp2
                                exact ⟨⟨jh + 1, by omega, by simp, HZkd.out⟩, by simp [intOf]; omega⟩
                      · have hljhz : ¬ (jh : Int) < (mh : Int) := by omega
                        have HZjh : Hid (Kw w w10 wr t u S2 F10 LK2 LE2) := HWjh.out
                        clear HWjh
                        go_wp2_with (go_at_call 15; refine (like_yes HZjh.out.pf.pr).mono ?_; rintro q w12 ⟨rfl, hb12⟩; have P12 : Hid (Pr w w12 t u S2 S2) := HZjh.out.pf.pr.below hb12; clear hb12)
                        exact ⟨⟨i + 1, S2, by omega, by simp, P12.out, HS2.out.1, HS2.out.2⟩, by simp [intOf]; omega⟩
    · have hlz : ¬ (i : Int) < (n1 : Int) := by omega
      have HBe : Hid (Below w.heap.size w wr) := HR.out.1.bel
      go_wp2_with (first
        | (go_at_call 8; refine (HAw.out _).mono ?_; rintro q w12 ⟨rfl, hb12⟩))
      go_ret
      exact ⟨rfl, chainB HBe.out hb12⟩
end
end Go.Proofs.Ytpmcecenhgppbaa
