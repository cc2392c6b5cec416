/- The walk of the law TreeCopies, for scripts of small bulk: it returns true. -/
import Derived.Test.YtjelggpkeogebaaJTIes20
namespace Go.Proofs.Ytjelggpkeogebaa
section
open Go.RowKit Go.Lib
attribute [local go_sem high] eqK' neqK' eqE neqE eqN neqN guardK guardE guardN

theorem told_fewC {M : Nms} {s : Tr} (o : Opn) : (toldE M s o).length ≤ 1000000000 := by
  unfold toldE tellL
  split
  · repeat' split
    all_goals simp
  · simp
/-- a list of the law's own grown -/
theorem grown_own {wr w4 w5 : World} {v : Value} {e : TypeId} {size n : Nat} {xs : List Value} (hb : Below wr.heap.size wr w4) (ho : w4.ownsRow wr.heap.size e size v n xs) (hg : w4.grownBy w5 v.ownBlock) : Below wr.heap.size wr w5 :=
  (only_grown hg).below hb hb.size fun q hq => (World.ownsRow.lt ho q hq).1
/-- what the law has behind so many rounds -/
structure Cp (w wr : World) (t u c : Nat) (s r z : Tr) (K : Int) (ops ops3 : List Opn) (k : Nat) : Prop where
  tri : Trio w wr t s K u r K c z K
  al : Alike s r
  alc : Alike z (runT Mn emptyT (ops ++ ops3.take k))
theorem take_all {ops : List Opn} {k : Nat} (h : ops.length ≤ k) : ops.take (k + 1) = ops.take k := by rw [List.take_of_length_le h, List.take_of_length_le (by omega)]
/-- a mutation, while a list that was told of another one stays -/
theorem Trio.did2 {w0 w w' : World} {t u c : Nat} {s r z : Tr} {k k' k'' : Int} {o : Opn} {e : Ending} {v0 : Value} {es : List En} (h : Trio w0 w t s k u r k' c z k'') (hl : Lst w0.heap.size w s v0 es) (ha : AppR Mn t s o w w' e) : ∃ v kv s', e = .returned (.tuple #[v, kv, .int .i64 (doesE Mn s o)]) ∧ Trio w0 w' t s' (k + 1) u r k' c z k'' ∧ Step Mn s s' o ∧ Row7 w' w0.heap.size v0 es ∧ Row7 w' w0.heap.size v (toldE Mn s o) := by
  obtain ⟨v, kv, s', he, hps, hst, hr, hk, hoff⟩ := ha
  have d1 := h.tu.did1 hps hst hr hk hoff
  have d2 := h.tc.did1 hps hst hr hk hoff
  exact ⟨v, kv, s', he, ⟨d1.pair, d2.pair, ⟨d1.pair.two, d2.pair.two, h.uc.ne, h.uc.off⟩⟩, hst, hl.stays h.tu.one.own.is hps, owns_le hr h.tu.one.bel.size⟩
theorem Law.more {w0 w : World} {t : Nat} {s : Tr} {k k' : Int} (h : Law w0 w t s k) (hk : k ≤ k') : Law w0 w t s k' := ⟨h.own, h.bel, h.good.mono hk⟩
theorem Pair.more {w0 w : World} {t u : Nat} {s r : Tr} {k k' l l' : Int} (h : Pair w0 w t s k u r l) (hk : k ≤ k') (hl : l ≤ l') : Pair w0 w t s k' u r l' := ⟨h.one.more hk, h.two.more hl, h.ne, h.off⟩
theorem Trio.more {w0 w : World} {t u c : Nat} {s r z : Tr} {k l m k' l' m' : Int} (h : Trio w0 w t s k u r l c z m) (hk : k ≤ k') (hl : l ≤ l') (hm : m ≤ m') : Trio w0 w t s k' u r l' c z m' := ⟨h.tu.more hk hl, h.tc.more hk hm, h.uc.more hl hm⟩
theorem RowOps.at {w : World} {a : Option Addr} {ops : List Opn} {k : Nat} {o : Opn} (h : RowOps w a ops) (ho : ops[k]? = some o) : ∃ b off, a = some ⟨b, off, none⟩ ∧ CellsO w b (off + k * 7) o ∧ b < w.heap.size := by
  rcases h with h0 | ⟨b, off, e, hb, hc⟩
  · rw [h0] at ho; simp at ho
  · exact ⟨b, off, e, hc k o ho, hb⟩
set_option maxRecDepth 20000 in
set_option maxHeartbeats 16000000 in
theorem walk_TreeCopies (a : Option Addr) (cap : Nat) (ops : List Opn) (a2 : Option Addr) (cap2 : Nat) (ops2 : List Opn) (a3 : Option Addr) (cap3 : Nat) (ops3 : List Opn) (w : World) (row : RowOps w a ops) (hlen : ops.length ≤ 1048576) (row2 : RowOps w a2 ops2) (hlen2 : ops2.length ≤ 1048576) (row3 : RowOps w a3 ops3) (hlen3 : ops3.length ≤ 1048576) :
    Calls Try.prog 4 #[.slice a ops.length cap, .slice a2 ops2.length cap2, .slice a3 ops3.length cap3] w fun e w' => e = .returned (.bool true) ∧ Below w.heap.size w w' := by
  obtain ⟨i1, hi1, hw0, hw1, hw2⟩ := info_parts Try.infoOp
  have HAw : Hid (∀ w, Calls Try.prog 8 #[] w fun e w' => e = .returned (.bool true) ∧ Below w.heap.size w w') := awake_p
  have HBe : Hid (∀ W, Below w.heap.size w W → Calls Try.prog 14 #[.slice a ops.length cap] W fun e w' => ∃ t, e = .returned (.tuple #[.pointer (some ⟨t, 0, none⟩), .bool true]) ∧ Hid (∃ s, Own5 W.heap.size w' t s ∧ Alike s (runT Mn emptyT ops) ∧ Below W.heap.size W w')) := fun W hb => (behind_p a cap ops W (row.below hb) (by omega)).mono fun _ _ ⟨t, s, he, h⟩ => ⟨t, he, s, h⟩
  have HCo : Hid (∀ W, Below w.heap.size w W → Calls Try.prog 19 #[.slice a ops.length cap] W fun e w' => ∃ v', e = .returned v' ∧ Hid (OwnO w' W.heap.size v' ops) ∧ Below W.heap.size W w') := fun W hb => copyO_any a cap ops W (row.below hb) hlen
  obtain ⟨n1, hn1⟩ : ∃ n, ops.length = n := ⟨_, rfl⟩
  obtain ⟨n2, hn2⟩ : ∃ n, ops2.length = n := ⟨_, rfl⟩
  obtain ⟨n3, hn3⟩ : ∃ n, ops3.length = n := ⟨_, rfl⟩
  rw [hn1] at hlen HBe HCo
  rw [hn2] at hlen2
  rw [hn3] at hlen3
  rw [hn1, hn2, hn3]
  have H : Hid (ops.length = n1 ∧ ops2.length = n2 ∧ ops3.length = n3 ∧ RowOps w a2 ops2 ∧ RowOps w a3 ops3) := ⟨hn1, hn2, hn3, row2, row3⟩
  clear row row2 row3 hn1 hn2 hn3
  go_enter Try.func4, Try.ntmps4
  go_upto_region 5 with (first
    | (go_at_call 14; have _q := hB1; refine (HBe.out _ hB1.out).mono ?_; rintro x w2 ⟨u, rfl, h2⟩)
    | (go_at_call 14; refine (HBe.out _ (Below.refl _ _)).mono ?_; rintro x w1 ⟨t, rfl, h1⟩; have hB1 : Hid (Below w.heap.size w w1) := (by obtain ⟨s, -, -, hb⟩ := h1.out; exact hb)))
  obtain ⟨s, ho1, hal1, hb1⟩ := h1.out
  obtain ⟨r, ho2, hal2, hb2⟩ := h2.out
  have hg1 : Good Mn s n1 := by rw [← H.out.1]; exact (good_behind Mn ops).alike hal1.symm
  have hg2 : Good Mn r n1 := by rw [← H.out.1]; exact (good_behind Mn ops).alike hal2.symm
  have HP : Hid (Pair w w2 t s n1 u r n1 ∧ Alike s r ∧ Alike s (runT Mn emptyT ops)) := ⟨Law.beside (⟨⟨ho1.is, ho1.t0, ho1.v0⟩, hb1, hg1⟩ : Law w w1 t s n1) ho2 hb2 hg2, hal1.trans hal2.symm, hal1⟩
  clear h1 h2 hB1 ho1 hal1 hb1 ho2 hal2 hb2 hg1 hg2
  have HCp : Hid (Calls Try.prog 15 #[.pointer (some ⟨t, 0, none⟩)] w2 fun e w' => ∃ c, e = .returned (.pointer (some ⟨c, 0, none⟩)) ∧ Hid (∃ z, Trio w w' t s n1 u r n1 c z n1 ∧ Alike s z)) := (copy_p t s w2 HP.out.1.one.own.is).mono fun e w' ⟨c, z, he, ho, hal, hb⟩ => ⟨c, he, z, HP.out.1.beside ho hb (HP.out.1.one.good.alike hal), hal⟩
  go_upto_region 6 with (go_at_call 15; refine HCp.out.mono ?_; rintro x w3 ⟨c, rfl, h3⟩)
  obtain ⟨z, hT3, hal3⟩ := h3.out
  have H3 : Hid (Trio w w3 t s n1 u r n1 c z n1 ∧ Alike s z ∧ Alike s r ∧ Alike s (runT Mn emptyT ops)) := ⟨hT3, hal3, HP.out.2.1, HP.out.2.2⟩
  have ez : z.es = s.es ∧ z.vers = s.vers ∧ z.next = s.next := ⟨hal3.es.symm, hal3.vers.symm, hal3.next.symm⟩
  have HEz : Hid (z.es = s.es ∧ z.vers = s.vers ∧ z.next = s.next) := ez
  clear h3 hT3 hal3 HP HCp ez
  have HDz : Hid (∀ W, Below w3.heap.size w3 W → Calls Try.prog 16 #[.pointer (some ⟨c, 0, none⟩)] W fun e w' => ∃ v', e = .returned v' ∧ Hid (Row7 w' W.heap.size v' s.es) ∧ Below W.heap.size W w') := fun W hb => by
    have := dump_p c z W (H3.out.1.tc.two.own.is.below hb)
    rw [HEz.out.1] at this
    exact this
  have HDs : Hid (∀ W, Below w3.heap.size w3 W → Calls Try.prog 16 #[.pointer (some ⟨t, 0, none⟩)] W fun e w' => ∃ v', e = .returned v' ∧ Hid (Row7 w' W.heap.size v' s.es) ∧ Below W.heap.size W w') := fun W hb => dump_p t s W (H3.out.1.tc.one.own.is.below hb)
  have HVz : Hid (∀ x, x = c ∨ x = t → ∀ W, Below w3.heap.size w3 W → Calls Try.prog 17 #[.pointer (some ⟨x, 0, none⟩)] W fun e w' => e = .returned (.int .i64 s.vers) ∧ W = w') := fun x hx W hb => by
    rcases hx with rfl | rfl
    · rw [← HEz.out.2.1]; exact (version_p _ z W (H3.out.1.tc.two.own.is.below hb)).mono fun _ _ h => ⟨h.1, h.2.symm⟩
    · exact (version_p _ s W (H3.out.1.tc.one.own.is.below hb)).mono fun _ _ h => ⟨h.1, h.2.symm⟩
  have HNz : Hid (∀ x, x = c ∨ x = t → ∀ W, Below w3.heap.size w3 W → Calls Try.prog 18 #[.pointer (some ⟨x, 0, none⟩)] W fun e w' => e = .returned (.int .i64 s.next) ∧ W = w') := fun x hx W hb => by
    rcases hx with rfl | rfl
    · rw [← HEz.out.2.2]; exact (next_p _ z W (H3.out.1.tc.two.own.is.below hb)).mono fun _ _ h => ⟨h.1, h.2.symm⟩
    · exact (next_p _ s W (H3.out.1.tc.one.own.is.below hb)).mono fun _ _ h => ⟨h.1, h.2.symm⟩
  go_upto_region 8 with (first
    | (go_at_call 16; have _q := hb4; refine (HDs.out _ hb4).mono ?_; rintro x w5 ⟨v5, rfl, hr5, hb5⟩)
    | (go_at_call 16; refine (HDz.out _ (Below.refl _ _)).mono ?_; rintro x w4 ⟨v4, rfl, hr4, hb4⟩)
    | (go_at_call 12; refine (same_yes (hr4.out.below hb5) hr5.out H3.out.1.tu.one.len).mono ?_; rintro x w6 ⟨rfl, hb6⟩)
    | (go_at_call 17; refine (HVz.out _ (by first | exact .inl rfl | exact .inr rfl) _ (chainB hb4 (chainB hb5 hb6))).mono ?_; rintro x w7 ⟨rfl, rfl⟩)
    | (go_at_call 18; refine (HNz.out _ (by first | exact .inl rfl | exact .inr rfl) _ (chainB hb4 (chainB hb5 hb6))).mono ?_; rintro x w7 ⟨rfl, rfl⟩))
  have H6 : Hid (Cp w w6 t u c s r z n1 ops ops3 0) := ⟨H3.out.1.below (chainB hb4 (chainB hb5 hb6)), H3.out.2.2.1, by rw [List.take_zero, List.append_nil]; exact H3.out.2.1.symm.trans H3.out.2.2.2⟩
  clear hr4 hr5 hb4 hb5 hb6 HDz HDs HVz HNz HEz H3
  obtain ⟨m, hm⟩ : ∃ m, max n2 n3 = m := ⟨_, rfl⟩
  have hmm : n2 ≤ m ∧ n3 ≤ m ∧ (m = n2 ∨ m = n3) := by omega
  clear hm
  go_wp2
  go_loopw [12] (fun i wr => ∃ (k : Nat) (s r z : Tr), k ≤ m ∧ i = .int .i64 k ∧ Hid (Cp w wr t u c s r z ((n1 : Int) + k) ops ops3 k)) (fun i _ => m - (intOf i).toNat)
  case atStart => exact ⟨0, s, r, z, Nat.zero_le _, rfl, by rw [show (n1 : Int) + ((0 : Nat) : Int) = n1 by omega]; exact H6.out⟩
  case round =>
    obtain ⟨k, s, r, z, hk, rfl, hI⟩ := hrel
    obtain ⟨KK, hKK⟩ : ∃ K : Int, (n1 : Int) + k = K := ⟨_, rfl⟩
    have HKK : Hid ((n1 : Int) + k = KK ∧ KK ≤ 3000000) := ⟨hKK, by omega⟩
    rw [hKK] at hI
    clear hKK
    by_cases hk2 : k < n2
    · obtain ⟨o, ho⟩ : ∃ o, ops2[k]? = some o := ⟨_, List.getElem?_eq_getElem (by rw [H.out.2.1]; exact hk2)⟩
      obtain ⟨b, off, rfl, hoc⟩ := H.out.2.2.2.1.at ho
      have HOc : Hid (CellsO w b (off + k * 7) o ∧ b < w.heap.size) := hoc
      have hki : (k : Int) < (n2 : Int) := by omega
      obtain ⟨E, hE⟩ : ∃ x, doesE Mn s o = x := ⟨_, rfl⟩
      have HEE : Hid (doesE Mn s o = E ∧ doesE Mn r o = E ∧ toldE Mn r o = toldE Mn s o) := ⟨hE, by rw [← hE]; exact (doesE_eq Mn hI.out.al.es o).symm, (toldE_alike hI.out.al o).symm⟩
      clear ho hoc hE
      have hc := HOc.out.1.below HOc.out.2 hI.out.tri.tu.one.bel
      have x0 := hc.c0
      have x1 := hc.c1
      have x2 := hc.c2
      have x3 := hc.c3
      have x4 := hc.c4
      have x5 := hc.c5
      have x6 := hc.c6
      clear hc
      have HA1 : Hid (Calls Try.prog 10 #[.pointer (some ⟨t, 0, none⟩), .agg #[.int .i64 o.kind, .int .i64 o.dir, .string o.nm, .int .i64 o.dst, .string o.new, .int .i64 o.mode, .string o.tg]] wr fun e w' => ∃ v kv, e = .returned (.tuple #[v, kv, .int .i64 E]) ∧ Hid (∃ s', Trio w w' t s' (KK + 1) u r KK c z KK ∧ Step Mn s s' o ∧ Lst w.heap.size w' r v (toldE Mn s o))) := (hI.out.tri.tu.one.apply o (by have := HKK.out; omega)).mono fun e w' hh => by
        obtain ⟨v, kv, s', he, h⟩ := hI.out.tri.did hh
        exact ⟨v, kv, by rw [← HEE.out.1]; exact he, s', h⟩
      go_upto_region 13 with (go_at_call 10; refine HA1.out.mono ?_; rintro x w7 ⟨v7, q7, rfl, h7⟩)
      clear x0 x1 x2 x3 x4 x5 x6 HA1
      obtain ⟨s7, ht7, hst7, hl7⟩ := h7.out
      have H7 : Hid (Trio w w7 t s7 (KK + 1) u r KK c z KK ∧ Step Mn s s7 o ∧ Lst w.heap.size w7 r v7 (toldE Mn s o)) := ⟨ht7, hst7, hl7⟩
      clear h7 ht7 hst7 hl7
      have hc := HOc.out.1.below HOc.out.2 H7.out.1.tu.one.bel
      have x0 := hc.c0
      have x1 := hc.c1
      have x2 := hc.c2
      have x3 := hc.c3
      have x4 := hc.c4
      have x5 := hc.c5
      have x6 := hc.c6
      clear hc
      have HA2 : Hid (Calls Try.prog 10 #[.pointer (some ⟨u, 0, none⟩), .agg #[.int .i64 o.kind, .int .i64 o.dir, .string o.nm, .int .i64 o.dst, .string o.new, .int .i64 o.mode, .string o.tg]] w7 fun e w' => ∃ v kv, e = .returned (.tuple #[v, kv, .int .i64 E]) ∧ Hid (∃ r', Trio w w' t s7 (KK + 1) u r' (KK + 1) c z KK ∧ Alike s7 r' ∧ Row7 w' w.heap.size v7 (toldE Mn s o) ∧ Row7 w' w.heap.size v (toldE Mn s o))) := (H7.out.1.tu.two.apply o (by have := HKK.out; omega)).mono fun e w' hh => by
        obtain ⟨v, kv, r', he, ht, hst, h1, h2⟩ := H7.out.1.turn.did2 H7.out.2.2 hh
        rw [HEE.out.2.2] at h2
        exact ⟨v, kv, by rw [← HEE.out.2.1]; exact he, r', ht.turn.turn, Step.both hI.out.al H7.out.2.1 hst, h1, h2⟩
      go_upto_region 14 with (go_at_call 10; refine HA2.out.mono ?_; rintro x w8 ⟨v8, q8, rfl, h8⟩)
      clear x0 x1 x2 x3 x4 x5 x6 HA2
      obtain ⟨r8, h8⟩ := h8.out
      have H8 : Hid (Trio w w8 t s7 (KK + 1) u r8 (KK + 1) c z KK ∧ Alike s7 r8 ∧ Row7 w8 w.heap.size v7 (toldE Mn s o) ∧ Row7 w8 w.heap.size v8 (toldE Mn s o)) := h8
      clear h8
      go_upto_region 16 with (go_at_call 12; refine (same_yes H8.out.2.2.1 H8.out.2.2.2 (told_fewC o)).mono ?_; rintro x w9 ⟨rfl, hb9⟩)
      have H9 : Hid (Trio w w9 t s7 (KK + 1) u r8 (KK + 1) c z KK ∧ Alike s7 r8) := ⟨H8.out.1.below hb9, H8.out.2.1⟩
      clear hb9 H8
      by_cases hk3 : k < n3
      · obtain ⟨o3, ho3⟩ : ∃ o, ops3[k]? = some o := ⟨_, List.getElem?_eq_getElem (by rw [H.out.2.2.1]; exact hk3)⟩
        obtain ⟨b3, off3, rfl, hoc3⟩ := H.out.2.2.2.2.at ho3
        have HOc3 : Hid (CellsO w b3 (off3 + k * 7) o3 ∧ b3 < w.heap.size) := hoc3
        have HO3 : Hid (ops3[k]? = some o3) := ho3
        have hki3 : (k : Int) < (n3 : Int) := by omega
        clear ho3 hoc3
        have hc := HOc3.out.1.below HOc3.out.2 H9.out.1.tu.one.bel
        have x0 := hc.c0
        have x1 := hc.c1
        have x2 := hc.c2
        have x3 := hc.c3
        have x4 := hc.c4
        have x5 := hc.c5
        have x6 := hc.c6
        clear hc
        have HA3 : Hid (Calls Try.prog 10 #[.pointer (some ⟨c, 0, none⟩), .agg #[.int .i64 o3.kind, .int .i64 o3.dir, .string o3.nm, .int .i64 o3.dst, .string o3.new, .int .i64 o3.mode, .string o3.tg]] w9 fun e w' => ∃ v kv E, e = .returned (.tuple #[v, kv, .int .i64 E]) ∧ Hid (∃ z', Trio w w' t s7 (KK + 1) u r8 (KK + 1) c z' (KK + 1) ∧ Alike z' (runT Mn emptyT (ops ++ ops3.take (k + 1))))) := (H9.out.1.tc.two.apply o3 (by have := HKK.out; omega)).mono fun e w' hh => by
          obtain ⟨v, kv, z', he, ht, hst, -⟩ := (H9.out.1.turn.turn).did hh
          refine ⟨v, kv, _, he, z', (ht.turn).more (by omega) (by omega) (by omega), ?_⟩
          rw [take_op HO3.out, ← List.append_assoc, runT_snoc]
          exact hst.alike.trans (stepT_alike Mn hI.out.alc o3)
        go_wp2_with (go_at_call 10; refine HA3.out.mono ?_; rintro x w10 ⟨v10, q10, E10, rfl, h10⟩)
        obtain ⟨z10, ht10, hal10⟩ := h10.out
        refine ⟨⟨k + 1, s7, r8, z10, by omega, by simp, ?_⟩, by simp [intOf]; omega⟩
        rw [show (n1 : Int) + ((k + 1 : Nat) : Int) = KK + 1 by have := HKK.out.1; omega]
        exact ⟨ht10, H9.out.2, hal10⟩
      · have hki3 : ¬ (k : Int) < (n3 : Int) := by omega
        have HT : Hid (ops3.take (k + 1) = ops3.take k) := take_all (by rw [H.out.2.2.1]; omega)
        go_wp2
        refine ⟨⟨k + 1, s7, r8, z, by omega, by simp, ?_⟩, by simp [intOf]; omega⟩
        rw [show (n1 : Int) + ((k + 1 : Nat) : Int) = KK + 1 by have := HKK.out.1; omega]
        exact ⟨H9.out.1.more (by omega) (by omega) (by omega), H9.out.2, by rw [HT.out]; exact hI.out.alc⟩
    · have hki : ¬ (k : Int) < (n2 : Int) := by omega
      by_cases hk3 : k < n3
      · obtain ⟨o3, ho3⟩ : ∃ o, ops3[k]? = some o := ⟨_, List.getElem?_eq_getElem (by rw [H.out.2.2.1]; exact hk3)⟩
        obtain ⟨b3, off3, rfl, hoc3⟩ := H.out.2.2.2.2.at ho3
        have HOc3 : Hid (CellsO w b3 (off3 + k * 7) o3 ∧ b3 < w.heap.size) := hoc3
        have HO3 : Hid (ops3[k]? = some o3) := ho3
        have hki3 : (k : Int) < (n3 : Int) := by omega
        clear ho3 hoc3
        have hc := HOc3.out.1.below HOc3.out.2 hI.out.tri.tu.one.bel
        have x0 := hc.c0
        have x1 := hc.c1
        have x2 := hc.c2
        have x3 := hc.c3
        have x4 := hc.c4
        have x5 := hc.c5
        have x6 := hc.c6
        clear hc
        have HA3 : Hid (Calls Try.prog 10 #[.pointer (some ⟨c, 0, none⟩), .agg #[.int .i64 o3.kind, .int .i64 o3.dir, .string o3.nm, .int .i64 o3.dst, .string o3.new, .int .i64 o3.mode, .string o3.tg]] wr fun e w' => ∃ v kv E, e = .returned (.tuple #[v, kv, .int .i64 E]) ∧ Hid (∃ z', Trio w w' t s (KK + 1) u r (KK + 1) c z' (KK + 1) ∧ Alike z' (runT Mn emptyT (ops ++ ops3.take (k + 1))))) := (hI.out.tri.tc.two.apply o3 (by have := HKK.out; omega)).mono fun e w' hh => by
          obtain ⟨v, kv, z', he, ht, hst, -⟩ := (hI.out.tri.turn.turn).did hh
          refine ⟨v, kv, _, he, z', (ht.turn).more (by omega) (by omega) (by omega), ?_⟩
          rw [take_op HO3.out, ← List.append_assoc, runT_snoc]
          exact hst.alike.trans (stepT_alike Mn hI.out.alc o3)
        go_wp2_with (go_at_call 10; refine HA3.out.mono ?_; rintro x w10 ⟨v10, q10, E10, rfl, h10⟩)
        obtain ⟨z10, ht10, hal10⟩ := h10.out
        refine ⟨⟨k + 1, s, r, z10, by omega, by simp, ?_⟩, by simp [intOf]; omega⟩
        rw [show (n1 : Int) + ((k + 1 : Nat) : Int) = KK + 1 by have := HKK.out.1; omega]
        exact ⟨ht10, hI.out.al, hal10⟩
      · have hki3 : ¬ (k : Int) < (n3 : Int) := by omega
        have HC : Hid (Trio w wr t s KK u r KK c z KK ∧ Alike s r ∧ Alike z (runT Mn emptyT (ops ++ ops3))) := ⟨hI.out.tri, hI.out.al, by have := hI.out.alc; rw [List.take_of_length_le (by rw [H.out.2.2.1]; omega)] at this; exact this⟩
        have HCo2 := HCo.out wr HC.out.1.tu.one.bel
        have HCq : Hid (Calls Try.prog 19 #[.slice a n1 cap] wr fun e w' => ∃ v', e = .returned v' ∧ Hid (OwnO w' wr.heap.size v' ops) ∧ Below wr.heap.size wr w') := HCo2
        clear HCo HCo2 HBe hI
        cases a3 with
        | none =>
          have he3 : ops3 = [] := by
            rcases H.out.2.2.2.2 with h | ⟨b, off, e, _⟩
            · exact h
            · cases e
          have hn30 : n3 = 0 := by rw [← H.out.2.2.1, he3]; rfl
          subst hn30
          go_upto_region 19 with (first
            | (go_at_call 19; refine HCq.out.mono ?_; rintro x w4 ⟨v4, rfl, ho4, hb4⟩; have HOw : Hid (w4.ownsRow w.heap.size 38 7 v4 n1 (oc ops)) := (by have := ho4.out; unfold OwnO at this; rw [H.out.1] at this; exact owns_le this HC.out.1.tu.one.bel.size))
            | (at_builtin; refine Lib.wpList_append_run _ rfl _ _ 23 23 rfl _ _ rfl rfl _ _ (run_append_owned_no w.heap.size 23 _ 38 i1 7 Try.underlying23 hi1 cap3 _ n1 (oc ops) HOw.out) ?_)
            | (go_at_call 14; obtain ⟨a6, c6, hv6, hr6⟩ := ho4.out.form; subst hv6; have HB6 := behind_p a6 c6 ops w4 hr6 (by rw [H.out.1]; omega); refine HB6.mono ?_; rintro x w6 ⟨y, q, rfl, ho6, hal6, hb6⟩))
          have hal6' : Alike (runT Mn emptyT (ops ++ ops3)) q := by rw [he3, List.append_nil]; exact hal6.symm
          have HT6 := HC.out.1.below (chainB hb4 hb6)
          clear ho4 HOw hb4 hb6 HCq he3
          have HW : Hid (Trio w w6 t s KK u r KK c z KK ∧ Alike s r ∧ IsP w6 y q ∧ z.es = q.es ∧ z.vers = q.vers ∧ z.es.length ≤ 1000000000) := ⟨HT6, HC.out.2.1, ho6.is, (HC.out.2.2.trans hal6').es, (HC.out.2.2.trans hal6').vers, by have := HC.out.1.tc.two.len; exact this⟩
          have HDt : Hid (∀ W, Below w6.heap.size w6 W → Calls Try.prog 16 #[.pointer (some ⟨t, 0, none⟩)] W fun e w' => ∃ v', e = .returned v' ∧ Hid (Row7 w' W.heap.size v' s.es) ∧ Below W.heap.size W w') := fun W hb => dump_p t s W (HW.out.1.tu.one.own.is.below hb)
          have HDu : Hid (∀ W, Below w6.heap.size w6 W → Calls Try.prog 16 #[.pointer (some ⟨u, 0, none⟩)] W fun e w' => ∃ v', e = .returned v' ∧ Hid (Row7 w' W.heap.size v' s.es) ∧ Below W.heap.size W w') := fun W hb => by rw [HW.out.2.1.es]; exact dump_p u r W (HW.out.1.tu.two.own.is.below hb)
          have HDc : Hid (∀ W, Below w6.heap.size w6 W → Calls Try.prog 16 #[.pointer (some ⟨c, 0, none⟩)] W fun e w' => ∃ v', e = .returned v' ∧ Hid (Row7 w' W.heap.size v' z.es) ∧ Below W.heap.size W w') := fun W hb => dump_p c z W (HW.out.1.tc.two.own.is.below hb)
          have HDy : Hid (∀ W, Below w6.heap.size w6 W → Calls Try.prog 16 #[.pointer (some ⟨y, 0, none⟩)] W fun e w' => ∃ v', e = .returned v' ∧ Hid (Row7 w' W.heap.size v' z.es) ∧ Below W.heap.size W w') := fun W hb => by rw [HW.out.2.2.2.1]; exact dump_p y q W (HW.out.2.2.1.below hb)
          have HVs : Hid (∀ x, x = c ∨ x = y → ∀ W, Below w6.heap.size w6 W → Calls Try.prog 17 #[.pointer (some ⟨x, 0, none⟩)] W fun e w' => e = .returned (.int .i64 z.vers) ∧ W = w') := fun x hx W hb => by
            rcases hx with rfl | rfl
            · exact (version_p _ z W (HW.out.1.tc.two.own.is.below hb)).mono fun _ _ h => ⟨h.1, h.2.symm⟩
            · rw [HW.out.2.2.2.2.1]; exact (version_p _ q W (HW.out.2.2.1.below hb)).mono fun _ _ h => ⟨h.1, h.2.symm⟩
          have HBe6 : Hid (Below w.heap.size w w6 ∧ s.es.length ≤ 1000000000) := ⟨HW.out.1.tu.one.bel, HW.out.1.tu.one.len⟩
          clear ho6 hal6 hal6' HT6
          go_wp2_with (first
            | (go_at_call 16; have _q := hb10; refine (HDy.out _ (chainB hb7 (chainB hb8 (chainB hb9 hb10)))).mono ?_; rintro x w11 ⟨v11, rfl, hr11, hb11⟩)
            | (go_at_call 16; have _q := hb9; refine (HDc.out _ (chainB hb7 (chainB hb8 hb9))).mono ?_; rintro x w10 ⟨v10, rfl, hr10, hb10⟩)
            | (go_at_call 16; have _q := hb7; refine (HDu.out _ hb7).mono ?_; rintro x w8 ⟨v8, rfl, hr8, hb8⟩)
            | (go_at_call 16; refine (HDt.out _ (Below.refl _ _)).mono ?_; rintro x w7 ⟨v7, rfl, hr7, hb7⟩)
            | (go_at_call 12; have _q := hb11; refine (same_yes (hr10.out.below hb11) hr11.out HW.out.2.2.2.2.2).mono ?_; rintro x w12 ⟨rfl, hb12⟩)
            | (go_at_call 12; refine (same_yes (hr7.out.below hb8) hr8.out HBe6.out.2).mono ?_; rintro x w9 ⟨rfl, hb9⟩)
            | (go_at_call 17; refine (HVs.out _ (by first | exact .inl rfl | exact .inr rfl) _ (chainB hb7 (chainB hb8 (chainB hb9 (chainB hb10 (chainB hb11 hb12)))))).mono ?_; rintro x w13 ⟨rfl, rfl⟩)
            | (go_at_call 8; refine (HAw.out _).mono ?_; rintro x w14 ⟨rfl, hb14⟩))
          go_ret
          exact ⟨rfl, chainB HBe6.out.1 (chainB hb7 (chainB hb8 (chainB hb9 (chainB hb10 (chainB hb11 (chainB hb12 hb14))))))⟩
        | some ad =>
          go_upto_region 19 with (first
            | (go_at_call 19; refine HCq.out.mono ?_; rintro x w4 ⟨v4, rfl, ho4, hb4⟩; have HOw : Hid (w4.ownsRow wr.heap.size 38 7 v4 n1 (oc ops) ∧ (oc ops3).length = n3 * 7 ∧ (∀ j u, (oc ops3)[j]? = some u → w4.cell? (ad.add j) = some u) ∧ wr.heap.size ≤ w4.heap.size) := ⟨(by have := ho4.out; unfold OwnO at this; rw [H.out.1] at this; exact this), (by rw [oc_len, H.out.2.2.1]), (H.out.2.2.2.2.below (chainB HC.out.1.tu.one.bel hb4)).src, hb4.size⟩)
            | (at_builtin; refine wpList_append_own _ rfl _ _ 23 rfl wr.heap.size 38 i1 _ 7 80 Try.underlying23 hi1 hw0 hw1 hw2 rfl (by decide) _ n1 (oc ops) rfl HOw.out.1 ad n3 cap3 (oc ops3) rfl HOw.out.2.1 HOw.out.2.2.1 (oc_one ops3) (by unfold maxLen; omega) (by omega) HOw.out.2.2.2 ?_; intro v' w5 hown hgrow hxx; clear hxx; have hO5 : OwnO w5 wr.heap.size v' (ops ++ ops3) := (by unfold OwnO; rw [oc_app, List.length_append, H.out.1, H.out.2.2.1]; exact hown); have hB5 : Below wr.heap.size wr w5 := grown_own hb4 HOw.out.1 hgrow; obtain ⟨a5, c5, hv5, hr5⟩ := hO5.form; have hbh := behind_p a5 c5 (ops ++ ops3) w5 hr5 (by rw [List.length_append, H.out.1, H.out.2.2.1]; omega); obtain ⟨n5, hn5⟩ : ∃ n, (ops ++ ops3).length = n := ⟨_, rfl⟩; rw [hn5] at hbh hv5; have HO5 : Hid (Below wr.heap.size wr w5) := hB5; have HBh : Hid (Calls Try.prog 14 #[.slice a5 n5 c5] w5 fun e w' => BehR (ops ++ ops3) w5 w' e) := hbh; subst hv5; clear hown hgrow hO5 hr5 hbh hn5 hB5)
            | (go_at_call 14; refine HBh.out.mono ?_; rintro x w6 ⟨y, q, rfl, ho6, hal6, hb6⟩))
          have hal6' : Alike (runT Mn emptyT (ops ++ ops3)) q := hal6.symm
          have HT6 := HC.out.1.below (chainB HO5.out hb6)
          clear ho4 HOw hb4 hb6 HCq HO5 HBh
          have HW : Hid (Trio w w6 t s KK u r KK c z KK ∧ Alike s r ∧ IsP w6 y q ∧ z.es = q.es ∧ z.vers = q.vers ∧ z.es.length ≤ 1000000000) := ⟨HT6, HC.out.2.1, ho6.is, (HC.out.2.2.trans hal6').es, (HC.out.2.2.trans hal6').vers, by have := HC.out.1.tc.two.len; exact this⟩
          have HDt : Hid (∀ W, Below w6.heap.size w6 W → Calls Try.prog 16 #[.pointer (some ⟨t, 0, none⟩)] W fun e w' => ∃ v', e = .returned v' ∧ Hid (Row7 w' W.heap.size v' s.es) ∧ Below W.heap.size W w') := fun W hb => dump_p t s W (HW.out.1.tu.one.own.is.below hb)
          have HDu : Hid (∀ W, Below w6.heap.size w6 W → Calls Try.prog 16 #[.pointer (some ⟨u, 0, none⟩)] W fun e w' => ∃ v', e = .returned v' ∧ Hid (Row7 w' W.heap.size v' s.es) ∧ Below W.heap.size W w') := fun W hb => by rw [HW.out.2.1.es]; exact dump_p u r W (HW.out.1.tu.two.own.is.below hb)
          have HDc : Hid (∀ W, Below w6.heap.size w6 W → Calls Try.prog 16 #[.pointer (some ⟨c, 0, none⟩)] W fun e w' => ∃ v', e = .returned v' ∧ Hid (Row7 w' W.heap.size v' z.es) ∧ Below W.heap.size W w') := fun W hb => dump_p c z W (HW.out.1.tc.two.own.is.below hb)
          have HDy : Hid (∀ W, Below w6.heap.size w6 W → Calls Try.prog 16 #[.pointer (some ⟨y, 0, none⟩)] W fun e w' => ∃ v', e = .returned v' ∧ Hid (Row7 w' W.heap.size v' z.es) ∧ Below W.heap.size W w') := fun W hb => by rw [HW.out.2.2.2.1]; exact dump_p y q W (HW.out.2.2.1.below hb)
          have HVs : Hid (∀ x, x = c ∨ x = y → ∀ W, Below w6.heap.size w6 W → Calls Try.prog 17 #[.pointer (some ⟨x, 0, none⟩)] W fun e w' => e = .returned (.int .i64 z.vers) ∧ W = w') := fun x hx W hb => by
            rcases hx with rfl | rfl
            · exact (version_p _ z W (HW.out.1.tc.two.own.is.below hb)).mono fun _ _ h => ⟨h.1, h.2.symm⟩
            · rw [HW.out.2.2.2.2.1]; exact (version_p _ q W (HW.out.2.2.1.below hb)).mono fun _ _ h => ⟨h.1, h.2.symm⟩
          have HBe6 : Hid (Below w.heap.size w w6 ∧ s.es.length ≤ 1000000000) := ⟨HW.out.1.tu.one.bel, HW.out.1.tu.one.len⟩
          clear ho6 hal6 hal6' HT6
          go_wp2_with (first
            | (go_at_call 16; have _q := hb10; refine (HDy.out _ (chainB hb7 (chainB hb8 (chainB hb9 hb10)))).mono ?_; rintro x w11 ⟨v11, rfl, hr11, hb11⟩)
            | (go_at_call 16; have _q := hb9; refine (HDc.out _ (chainB hb7 (chainB hb8 hb9))).mono ?_; rintro x w10 ⟨v10, rfl, hr10, hb10⟩)
            | (go_at_call 16; have _q := hb7; refine (HDu.out _ hb7).mono ?_; rintro x w8 ⟨v8, rfl, hr8, hb8⟩)
            | (go_at_call 16; refine (HDt.out _ (Below.refl _ _)).mono ?_; rintro x w7 ⟨v7, rfl, hr7, hb7⟩)
            | (go_at_call 12; have _q := hb11; refine (same_yes (hr10.out.below hb11) hr11.out HW.out.2.2.2.2.2).mono ?_; rintro x w12 ⟨rfl, hb12⟩)
            | (go_at_call 12; refine (same_yes (hr7.out.below hb8) hr8.out HBe6.out.2).mono ?_; rintro x w9 ⟨rfl, hb9⟩)
            | (go_at_call 17; refine (HVs.out _ (by first | exact .inl rfl | exact .inr rfl) _ (chainB hb7 (chainB hb8 (chainB hb9 (chainB hb10 (chainB hb11 hb12)))))).mono ?_; rintro x w13 ⟨rfl, rfl⟩)
            | (go_at_call 8; refine (HAw.out _).mono ?_; rintro x w14 ⟨rfl, hb14⟩))
          go_ret
          exact ⟨rfl, chainB HBe6.out.1 (chainB hb7 (chainB hb8 (chainB hb9 (chainB hb10 (chainB hb11 (chainB hb12 hb14))))))⟩
end
end Go.Proofs.Ytjelggpkeogebaa
