/- The law TideOrder. -/
import Derived.Test.YtnklhdoiggomkaaJTDer27
namespace Go.Proofs.Ytnklhdoiggomkaa
section
open Go.RowKit Go.Shelf
attribute [local go_sem ↓ high] loadMsg storeMsg buildMsg storeAct loadAct buildAct
attribute [local go_sem high] run_store_complex eqC

theorem neqC (w : World) (a b c d : Nat) : (binOp .neq 43 (.complex .f64 a b) (.complex .f64 c d)).run Try.prog w = .ok (.bool (!(Op.floatEq .f64 a c && Op.floatEq .f64 b d))) w := by
  simp [binOp, Op.complexOp, Op.Complex.cmp, Op.floatEq, Op.floatCmp, asBool]
attribute [local go_sem high] neqC
theorem Lt.markb {w W : World} {t h n : Nat} {L : List Nat} {F : Nat → Prop} (r : Lt w W t (bS h n L) F) (hn : n ≤ 1000) : ∃ x y, Op.floatEq .f64 x (floatOfInt .f64 1) = true ∧ Op.floatEq .f64 y (floatOfInt .f64 (n : Int)) = true ∧ Calls Try.prog 19 #[.pointer (some ⟨t, 0, none⟩)] W fun e w' => e = .returned (.complex .f64 x y) ∧ W = w' := by
  obtain ⟨x, y, hmk, hc⟩ := lt_mark r
  have k : Mk (floatOfInt .f64 1) (floatOfInt .f64 (n : Int)) 1 (n : Int) := Mk.of (by omega) (by omega) (by omega) (by omega)
  refine ⟨x, y, ?_, ?_, hc⟩
  · rw [floatEq_whole hmk.ha k.ha]; exact decide_eq_true rfl
  · rw [floatEq_whole hmk.hb k.hb]; exact decide_eq_true rfl
theorem acts_get {W : World} {B n c j : Nat} {a : Option Addr} {l : List Am} {A : List Ac} (h : Acts W B (.slice a n c) l) (hA : l.map Am.c = A) (hj : j < n) (hn : l.length = n) : ∃ g z, a = some ⟨g, 0, none⟩ ∧ l[j]? = some z ∧ A[j]? = some z.c ∧ W.cell? ⟨g, j * 7, none⟩ = some (.bool z.c.all) ∧ W.cell? ⟨g, j * 7 + 1, none⟩ = some (.bool z.c.again) ∧ W.cell? ⟨g, j * 7 + 2, none⟩ = some (.bool z.c.reply) ∧ W.cell? ⟨g, j * 7 + 4, none⟩ = some (.slice z.ak z.c.ks.length z.ck) ∧ RowK W B (.slice z.ak z.c.ks.length z.ck) z.c.ks := by
  obtain ⟨z, hz⟩ : ∃ z, l[j]? = some z := ⟨_, List.getElem?_eq_getElem (by omega)⟩
  obtain ⟨g, rfl, -, -, -, q⟩ := owns_act h.row hz
  refine ⟨g, z, rfl, hz, by rw [← hA, List.getElem?_map, hz]; rfl, q 0 _ rfl, q 1 _ rfl, q 2 _ rfl, q 4 _ rfl, (h.each z (List.mem_of_getElem? hz)).ks⟩
theorem keys_upto {A : List Ac} {j : Nat} {c : Ac} (h : A[j]? = some c) : (A.take (j + 1)).flatMap Ac.ks = (A.take j).flatMap Ac.ks ++ c.ks := by
  rw [List.take_add_one, h, List.flatMap_append]; simp
theorem oA_few (i n n' : Nat) (h : n' ≤ 8) : (oA i n n').length ≤ 9 ∧ (∀ c ∈ oA i n n', c.ks.length ≤ 1) ∧ ∀ j, (((oA i n n').take j).flatMap Ac.ks).length ≤ 9 := by
  have h1 : (actsN n n').length ≤ 8 := by unfold actsN; rw [List.length_map, List.length_range']; omega
  have h2 : (oA i n n').length ≤ 9 := by
    unfold oA
    split
    · rw [List.length_cons]; omega
    · omega
  have h3 : ∀ l : List Ac, (∀ c ∈ l, c.ks.length ≤ 1) → (l.flatMap Ac.ks).length ≤ l.length := by
    intro l
    induction l with
    | nil => intro _; simp
    | cons c l ih =>
      intro hl
      have := hl c (List.mem_cons_self ..)
      have := ih fun d hd => hl d (List.mem_cons_of_mem _ hd)
      rw [List.flatMap_cons, List.length_append, List.length_cons]; omega
  have h4 : ∀ c ∈ actsN n n', c.ks.length ≤ 1 := fun c hc => by
    unfold actsN at hc
    obtain ⟨j, -, rfl⟩ := List.mem_map.1 hc
    exact Nat.le_refl _
  have h5 : ∀ c ∈ oA i n n', c.ks.length ≤ 1 := fun c hc => by
    unfold oA at hc
    split at hc
    · rcases List.mem_cons.1 hc with rfl | hc
      · exact Nat.zero_le _
      · exact h4 c hc
    · exact h4 c hc
  exact ⟨h2, h5, fun j => Nat.le_trans (h3 _ fun c hc => h5 c (List.mem_of_mem_take hc)) (by rw [List.length_take]; omega)⟩
theorem Try.infoBl : (Try.prog.info? 4).map (fun i => (i.zero, i.size, i.bytes)) = some (some (.bool false), 1, 1) := by kernel_rfl
theorem mk10 (w : World) : (Instr.makeSlice 63 (.int .i64 10) (.int .i64 10)).run Try.prog w = .ok (.slice (some ⟨w.heap.size, 0, none⟩) 10 10) (w.alloc (.cells (cmA fun _ => false) 4)) := by
  obtain ⟨i1, hi1, hw0, hw1, hw2⟩ := info_parts Try.infoBl
  have := Go.run_make (P := Try.prog) w 63 4 i1 _ Try.underlying63 hi1 hw0 .i64 .i64 10 10 (by omega) (by omega) (by rw [hw2]; omega) (by omega)
  have e : Go.madeCells (Value.bool false).cells ((10 : Int).toNat * 1) = cmA fun _ => false := by kernel_rfl
  rw [this, hw1, e]; rfl
attribute [local go_sem high] mk10
theorem Om.add {w W V : World} {t : Nat} {a : Option Addr} {N c : Nat} {S : Ts} {F : Nat → Prop} {ms : List Hm} (h : Om w W t a N c S F ms) (hb : Below W.heap.size W V) : Om w V t a N c S (fun k => F k ∨ (W.heap.size ≤ k ∧ k < V.heap.size)) ms := ⟨h.lt.add hb, h.row.below hb, fun q hq => .inl (h.own q hq), fun z hz => (h.each z hz).below hb, h.say⟩
theorem oc_of {w W V : World} {t : Nat} {a : Option Addr} {N c : Nat} {S : Ts} {F : Nat → Prop} {ms : List Hm} (h : Om w W t a N c S F ms) (hV : W.alloc (.cells (cmA fun _ => false) 4) = V) : Oc w V t a N c S (fun k => F k ∨ (W.heap.size ≤ k ∧ k < V.heap.size)) ms W.heap.size (fun _ => false) := by
  have hb := boxB hV
  exact ⟨h.add hb.2, .inr ⟨Nat.le_refl _, (Array.getElem?_eq_some_iff.1 hb.1).1⟩, h.lt.bel.size, hb.1⟩
theorem keysN_len (n n' : Nat) (h : n' ≤ 8) : (keysN n n').length ≤ 8 := by unfold keysN; rw [List.length_map, List.length_range']; omega
set_option maxHeartbeats 16000000 in
set_option maxRecDepth 100000 in
theorem order_walk (x : Int) (a : Option Addr) (len cap : Nat) (A : Nat → Int) (w : World) (row : RowI w a len A) (hlen : len * 8 ≤ 140737488351232) : Calls Try.prog 6 #[.int .i64 x, .slice a len cap] w fun e w' => e = .returned (.bool true) ∧ Below w.heap.size w w' := by
  obtain ⟨N, hN⟩ : ∃ N, plw x 9 = N := ⟨_, rfl⟩
  have hN8 : N ≤ 8 := by have := plw_lt x 9 (by omega); omega
  have HPx : Hid (∀ W, Calls Try.prog 28 #[.int .i64 x, .int .i64 9] W fun e w' => e = .returned (.int .i64 N) ∧ W = w') := fun W => by have := place_w x 9 W (by omega) (by omega); rw [hN] at this; exact this
  have HN : Hid (Calls Try.prog 9 #[.int .i64 1, .int .i64 1, .int .i64 8] w fun e w' => e = .returned (.tuple #[.pointer (some ⟨w.heap.size, 0, none⟩), .int .i64 0]) ∧ Lt w w' w.heap.size (Ts.new 1 1 8) (fun _ => False) ∧ Below w.heap.size w w') := lt_new 1 1 8 w w (Below.refl _ _) _ (fun k hk => hk.elim) (by
    unfold newOk withB
    simp)
  have HAw : Hid (∀ W, Calls Try.prog 11 #[] W fun e w' => e = .returned (.bool true) ∧ Below W.heap.size W w') := awake_p
  have HRow : Hid (RowI w a len A) := row
  have HLen : Hid (len * 8 ≤ 140737488351232) := hlen
  have hlen2 : len ≤ 9223372036854775807 := by omega
  obtain ⟨t, ht⟩ : ∃ t, w.heap.size = t := ⟨_, rfl⟩
  have HT : Hid (w.heap.size = t) := ht
  rw [ht] at HN
  clear hN ht row hlen
  go_enter Try.func6, Try.ntmps6
  go_wp2_with (first
    | (go_at_call_of 28 (Value.int .i64 x); refine (HPx.out _).mono ?_; rintro q w' ⟨rfl, rfl⟩)
    | (go_at_call 9; refine HN.out.mono ?_; rintro q w1 ⟨rfl, hL1, hb1⟩; have H1 : Hid (Lt w w1 t (Ts.new 1 1 8) (fun _ => False)) := hL1; clear hL1)
    | (go_at_call 27; refine (breaks_p N _ hN8).mono ?_; rintro q w2 ⟨v2, ms, rfl, hm2, hc2, hb2⟩; obtain ⟨aL, cL, rfl, ho2⟩ := om_of H1.out hm2 hc2 hb2; obtain ⟨W3, hW3⟩ : ∃ W3, w2.alloc (.cells (cmA fun _ => false) 4) = W3 := ⟨_, rfl⟩; obtain ⟨F, hF⟩ : ∃ F, Oc w W3 t aL N cL (Ts.new 1 1 8) F ms w2.heap.size (fun _ => false) := ⟨_, oc_of ho2 hW3⟩; have R3 : Hid (Oc w W3 t aL N cL (Ts.new 1 1 8) F ms w2.heap.size (fun _ => false)) := hF; clear hm2 hc2 hb2 ho2 hF))
  obtain ⟨gc, hgc⟩ : ∃ gc, w2.heap.size = gc := ⟨_, rfl⟩
  rw [hgc] at R3
  rw [hgc]
  clear hgc hb1 H1 HN HPx
  go_loopw [9, 10] (fun s9 s10 wr => ∃ (i n : Nat) (L : List Nat) (C : Nat → Bool), i ≤ len ∧ s9 = .int .i64 (n + 1 : Nat) ∧ s10 = .int .i64 i ∧ Hid (Ok8 N i n L C ∧ Oc w wr t aL N cL (oS i n L) F ms gc C)) (fun _ s10 _ => len - (intOf s10).toNat)
  case atStart => exact ⟨0, 0, [], _, Nat.zero_le _, rfl, rfl, Ok8.start N, R3.out⟩
  case round =>
    obtain ⟨i, n, L, C, hil, rfl, rfl, HR⟩ := hrel
    obtain ⟨p0, hp0⟩ : ∃ p0 : Int, ((n + 1 : Nat) : Int) = p0 := ⟨_, rfl⟩
    have HP0 : Hid (((n + 1 : Nat) : Int) = p0) := hp0
    rw [hp0]
    clear hp0
    by_cases hlt : i < len
    · have hlz : (i : Int) < (len : Int) := by omega
      by_cases hN0 : 0 < N
      · have hNz : (0 : Int) < (N : Int) := by omega
        rcases Nat.eq_zero_or_pos i with rfl | hi0
        · have hlz0 : (0 : Int) < (len : Int) := by omega
          have hbel := HR.out.2.om.lt.bel
          obtain ⟨bI, offI, rfl, hcI, hwI⟩ : ∃ bI offI, a = some ⟨bI, offI, none⟩ ∧ wr.cell? ⟨bI, offI + 0, none⟩ = some (.int .i64 (A 0)) ∧ (Lit.int .i64 (A 0)).wf = true := by
            rcases HRow.out.below hbel with h | ⟨b, off, e, hs, hc⟩
            · omega
            · exact ⟨b, off, e, (hc 0 hlt).1, (hc 0 hlt).2⟩
          rw [Nat.add_zero] at hcI
          obtain ⟨k, hk⟩ : ∃ k, plw (A 0) N = k := ⟨_, rfl⟩
          have hkN : k < N := by rw [← hk]; exact plw_lt (A 0) N hN0
          have HPk : Hid (∀ W, Calls Try.prog 28 #[.int .i64 (A 0), .int .i64 N] W fun e w' => e = .returned (.int .i64 k) ∧ W = w') := fun W => by have := place_w (A 0) N W hN0 (by omega); rw [hk] at this; exact this
          obtain ⟨n', L', hst, hok, hle, hmid, hend⟩ := HR.out.1.step hN8 k hkN
          obtain ⟨gL, z0, rfl, -, -, -, -⟩ := HR.out.2.om.get k hkN
          obtain ⟨Z, ml, hcall⟩ := HR.out.2.om.take k hkN hst
          obtain ⟨C', hC'⟩ : ∃ C' : Nat → Bool, (fun j => C j || decide (j = k + 1)) = C' := ⟨_, rfl⟩
          have HC' : Hid ((fun j => C j || decide (j = k + 1)) = C') := hC'
          rw [hC'] at hok
          have hmid' : Hid (∀ j, n < j → j ≤ n' → C' j = true) := fun j a b => by rw [← hC']; exact hmid j a b
          have hend' : Hid (C' (n' + 1) = false) := by
            have : C' (n' + 1) = false := by rw [← hC']; exact hend
            exact this
          have HOk : Hid (Ok8 N (0 + 1) n' L' C') := hok
          have hn8 : n' ≤ N := hok.le
          have HCall : Hid (Calls Try.prog 15 #[.pointer (some ⟨t, 0, none⟩), .agg Z] wr fun e w' => TkOm w wr t (some ⟨gL, 0, none⟩) N cL (bS 8 n' L') (oA 0 n n') F ms e w') := hcall
          obtain ⟨J, hJ⟩ : ∃ J, k + 1 = J := ⟨_, rfl⟩
          have HJ : Hid (k + 1 = J) := hJ
          have hJz : (k : Int) + 1 = (J : Int) := by omega
          have hJ0 : (0 : Int) ≤ (J : Int) := by omega
          have hJ10 : (J : Int) < 10 := by omega
          have hJw : IntKind.i64.wrap (J : Int) = (J : Int) := IntWalk.i64_in _ (by omega)
          have hkz : (k : Int) < (N : Int) := by omega
          clear hk hst hok hmid hend hcall hC' hbel hJ
          go_wp2_with (first
            | (go_at_call_of 28 (Value.int .i64 (A 0)); refine (HPk.out _).mono ?_; rintro q w' ⟨rfl, rfl⟩)
            | (go_at_call 15; refine HCall.out.mono ?_; rintro q w3 ⟨v3, l3, rfl, ha3, hc3, ho3, hk3⟩; have R3 : Hid (Oc w w3 t (some ⟨gL, 0, none⟩) N cL (bS 8 n' L') F ms gc C) := HR.out.2.on ho3 hk3; obtain ⟨a3, q3, rfl⟩ := owns_len ha3.row; have hcg : w3.cell? ⟨gc, J, none⟩ = some (.bool (C J)) := (cell_of R3.out.hp J).trans (cmA_get C J (by omega)); have hfg := free_of R3.out.hp J; obtain ⟨W4, hW4⟩ : ∃ W4, w3.setCell ⟨gc, J, none⟩ (.bool true) = W4 := ⟨_, rfl⟩; obtain ⟨hR4, hO4⟩ := R3.out.set J hW4; have R4 : Hid (Oc w W4 t (some ⟨gL, 0, none⟩) N cL (bS 8 n' L') F ms gc C' ∧ Acts W4 0 (.slice a3 l3.length q3) l3 ∧ l3.map Am.c = oA 0 n n') := ⟨by rw [← HJ.out, HC'.out] at hR4; exact hR4, (ha3.down (Nat.zero_le _)).only hO4 (fun q hq => ⟨by rw [hq]; exact Tag.two ⟨_, _, R3.out.hp⟩ (by decide), by rw [hq]; exact Tag.two ⟨_, _, R3.out.hp⟩ (by decide)⟩) (fun q hq => by rw [hq]; exact Tag.two ⟨_, _, R3.out.hp⟩ (by decide)), hc3⟩; clear ha3 hc3 ho3 hk3 hR4 hO4 ml))
          clear hcg hfg hcI
          go_loopw [9, 13] (fun s9 s13 wk => ∃ (p : Nat), n + 1 ≤ p ∧ p ≤ n' + 1 ∧ s9 = .int .i64 p ∧ Hid (RowK wk W4.heap.size s13 (keysN n (p - 1)) ∧ Below W4.heap.size W4 wk)) (fun s9 _ _ => n' + 1 - (intOf s9).toNat)
          case atStart => exact ⟨n + 1, Nat.le_refl _, by omega, by rw [← HP0.out], by
            have : keysN n (n + 1 - 1) = [] := by unfold keysN; rw [Nat.add_sub_cancel, Nat.sub_self]; rfl
            rw [this]; exact ⟨World.ownsRow_nil _ _ _ _, Below.refl _ _⟩⟩
          case round =>
            obtain ⟨p, hp1, hp2, rfl, HK⟩ := hrel
            have hpw : IntKind.i64.wrap ((p : Int) + 1) = (p : Int) + 1 := IntWalk.i64_in _ (by omega)
            have hp10 : (p : Int) < 10 := by omega
            have hp00 : (0 : Int) ≤ (p : Int) := by omega
            have hR5 := R4.out.1.below HK.out.2
            by_cases hlt2 : p ≤ n'
            · have hpN : (p : Int) ≤ (N : Int) := by omega
              have hcp : wr.cell? ⟨gc, p, none⟩ = some (.bool true) := by
                rw [cell_of hR5.hp p, cmA_get C' p (by omega), hmid'.out p (by omega) hlt2]
              obtain ⟨a5, q5, rfl⟩ := owns_len HK.out.1
              obtain ⟨W5, hW5⟩ : ∃ W5, wr.alloc (.cells #[.int .i64 p, .string ⟨#[107]⟩] 65) = W5 := ⟨_, rfl⟩
              have hb5 := boxB hW5
              have hk5 : RowK W5 0 (.slice (some ⟨wr.heap.size, 0, none⟩) 1 1) [kyN p] := by rw [← hW5]; exact one_key (kyN p)
              have hlk := keysN_len n (p - 1) (by omega)
              obtain ⟨v6, W6, happ, hr6, ho6⟩ := keys_append (HK.out.1.below hb5.2) hk5 (Nat.le_trans HK.out.2.size hb5.2.size) (by simp; omega)
              have hB6 := row_below (HK.out.1.below hb5.2) (HK.out.2.trans (hb5.2.mono HK.out.2.size)) (Nat.le_trans HK.out.2.size hb5.2.size) ho6
              have HK6 : Hid (RowK W6 W4.heap.size v6 (keysN n (p + 1 - 1)) ∧ Below W4.heap.size W4 W6) := ⟨by
                have := keysN_snoc n (p - 1) (by omega)
                rw [show p - 1 + 1 = p by omega] at this
                rw [Nat.add_sub_cancel, this]; exact hr6, hB6⟩
              clear hR5 hb5 hk5 hlk hr6 ho6 hB6
              go_wp2_with (first
                | (at_builtin; refine wpList_append_run rfl (.tmp 68) (.tmp 71) 34 rfl _ _ v6 W6 rfl rfl happ ?_))
              exact ⟨⟨p + 1, by omega, by omega, by simp, HK6.out⟩, by simp [intOf]; omega⟩
            · have hpe : p = n' + 1 := by omega
              have HPe : Hid (p = n' + 1) := hpe
              have hpm : (p : Int) - 1 = (n' : Int) := by omega
              have hcp : wr.cell? ⟨gc, p, none⟩ = some (.bool false) := by
                rw [cell_of hR5.hp p, cmA_get C' p (by omega), hpe, hend'.out]
              obtain ⟨a5, q5, rfl⟩ := owns_len HK.out.1
              obtain ⟨W7, hW7⟩ : ∃ W7, W7 = wr := ⟨_, rfl⟩
              subst hW7
              have hl3 : l3.length ≤ 9 := by
                have := congrArg List.length R4.out.2.2
                rw [List.length_map] at this
                rw [this]; exact (oA_few 0 n n' (by omega)).1
              have R5 : Hid (Oc w W7 t (some ⟨gL, 0, none⟩) N cL (bS 8 n' L') F ms gc C' ∧ Acts W7 0 (.slice a3 l3.length q3) l3 ∧ l3.map Am.c = oA 0 n n' ∧ RowK W7 W4.heap.size (.slice a5 (keysN n (p - 1)).length q5) (keysN n n')) := ⟨hR5, R4.out.2.1.below HK.out.2, R4.out.2.2, by
                have := HK.out.1
                rw [HPe.out, Nat.add_sub_cancel] at this ⊢; exact this⟩
              have hpN : (p : Int) ≤ (N : Int) ∨ ¬ (p : Int) ≤ (N : Int) := Decidable.em _
              clear hpe hR5 HK R4
              rcases hpN with hpN | hpN
              all_goals
                go_wp2
                clear hcp
                go_loopw [14, 15] (fun s14 s15 wj => ∃ j : Nat, j ≤ l3.length ∧ s15 = .int .i64 j ∧ Hid (RowK wj W7.heap.size s14 (((oA 0 n n').take j).flatMap Ac.ks) ∧ Below W7.heap.size W7 wj)) (fun _ s15 _ => l3.length - (intOf s15).toNat)
                case atStart => exact ⟨0, Nat.zero_le _, rfl, World.ownsRow_nil _ _ _ _, Below.refl _ _⟩
                case round =>
                  obtain ⟨j, hj, rfl, HG⟩ := hrel
                  by_cases hlt3 : j < l3.length
                  · have hlz3 : (j : Int) < (l3.length : Int) := by omega
                    obtain ⟨ga, z, rfl, hz, hAz, -, -, -, c4, hrk⟩ := acts_get (R5.out.2.1.below HG.out.2) R5.out.2.2.1 hlt3 rfl
                    obtain ⟨e1, e2, e3⟩ := oA_get 0 n n' j z.c hAz
                    obtain ⟨a8, q8, rfl⟩ := owns_len HG.out.1
                    have hf := oA_few 0 n n' (by omega)
                    have hf1 := hf.2.1 z.c (List.mem_of_getElem? hAz)
                    have hf2 := hf.2.2 j
                    obtain ⟨v9, W9, happ, hr9, ho9⟩ := keys_append HG.out.1 hrk HG.out.2.size (by omega)
                    have hB9 := row_below HG.out.1 HG.out.2 HG.out.2.size ho9
                    have HG9 : Hid (RowK W9 W7.heap.size v9 (((oA 0 n n').take (j + 1)).flatMap Ac.ks) ∧ Below W7.heap.size W7 W9) := ⟨by rw [keys_upto hAz]; exact hr9, hB9⟩
                    obtain ⟨g9, z9, e9, hz9, -, d0, d1, d2, -, -⟩ := acts_get (R5.out.2.1.below hB9) R5.out.2.2.1 hlt3 rfl
                    cases e9
                    obtain rfl : z9 = z := by rw [hz9] at hz; exact Option.some.inj hz
                    rw [e1, show decide (0 = 0 ∧ j = 0) = ((j : Int) == 0) from by by_cases h : j = 0 <;> simp [h]] at d0
                    rw [e2] at d1
                    rw [e3] at d2
                    clear e1 e2 e3 hf hf1 hf2 hr9 ho9 hB9 hrk hAz hz hz9
                    go_wp2_with (first
                      | (at_builtin; refine wpList_append_run rfl (.tmp 81) (.tmp 86) 34 rfl _ _ v9 W9 rfl rfl happ ?_))
                    exact ⟨⟨j + 1, by omega, by simp, HG9.out⟩, by simp [intOf]; omega⟩
                  · have hje : l3.length = j := by omega
                    have hlz3 : ¬ (j : Int) < (l3.length : Int) := by omega
                    have hfull : ((oA 0 n n').take j).flatMap Ac.ks = keysN n n' := by
                      have := congrArg List.length R5.out.2.2.1
                      rw [List.length_map] at this
                      rw [List.take_of_length_le (by omega), oA_keys]
                    have hgr := HG.out.1
                    rw [hfull] at hgr
                    obtain ⟨a8, q8, rfl⟩ := owns_len hgr
                    have hkl := keysN_len n n' (by omega)
                    have HSK : Hid (Calls Try.prog 29 #[.slice a8 (keysN n n').length q8, .slice a5 (keysN n (p - 1)).length q5] wr fun e w' => e = .returned (.bool true) ∧ Below wr.heap.size wr w') := by
                      have := sameK_any _ _ _ _ _ _ wr hgr (R5.out.2.2.2.below HG.out.2) (by omega) (by omega)
                      rw [(sameKs_iff _ _).2 rfl] at this; exact this
                    have R8 : Hid (Oc w wr t (some ⟨gL, 0, none⟩) N cL (bS 8 n' L') F ms gc C') := R5.out.1.below HG.out.2
                    have hnw : IntKind.i64.wrap (n' : Int) = (n' : Int) := IntWalk.i64_in _ (by omega)
                    have hnw2 : IntKind.i64.wrap (2 * (n' : Int)) = 2 * (n' : Int) := IntWalk.i64_in _ (by omega)
                    have HMA : Hid (∀ W, Calls Try.prog 30 #[.int .i64 1, .int .i64 n'] W fun e w' => e = .returned (.complex .f64 (floatOfInt .f64 1) (floatOfInt .f64 n')) ∧ W = w') := fun W => (mark_any 1 n' W).mono fun e w' hh => ⟨hh.1, hh.2.symm⟩
                    clear hje hfull hgr hkl HG
                    go_wp2_with (first
                      | (go_at_call 29; refine HSK.out.mono ?_; rintro q w10 ⟨rfl, hb10⟩; have R10 : Hid (Oc w w10 t (some ⟨gL, 0, none⟩) N cL (bS 8 n' L') F ms gc C') := R8.out.below hb10)
                      | (go_at_call 19; obtain ⟨x8, y8, f1, f2, hc8⟩ := R10.out.om.lt.markb (by omega); refine hc8.mono ?_; clear hc8; rintro q w' ⟨rfl, rfl⟩)
                      | (go_at_call 30; refine (HMA.out _).mono ?_; rintro q w' ⟨rfl, rfl⟩)
                      | (go_at_call 20; refine (lt_version R10.out.om.lt).mono ?_; rintro q w' ⟨rfl, rfl⟩; rw [show (bS 8 n' L').ver = 2 * (n' : Int) from rfl]))
                    exact ⟨⟨0 + 1, n', L', C', by omega, by rw [HPe.out], by simp, HOk.out, by
                      rw [show oS (0 + 1) n' L' = bS 8 n' L' from if_neg (by omega)]; exact R10.out⟩, by simp [intOf]; omega⟩
        · have hiz : ¬ (i : Int) = 0 := by omega
          have hbel := HR.out.2.om.lt.bel
          obtain ⟨bI, offI, rfl, hcI, hwI⟩ : ∃ bI offI, a = some ⟨bI, offI, none⟩ ∧ wr.cell? ⟨bI, offI + i, none⟩ = some (.int .i64 (A i)) ∧ (Lit.int .i64 (A i)).wf = true := by
            rcases HRow.out.below hbel with h | ⟨b, off, e, hs, hc⟩
            · omega
            · exact ⟨b, off, e, (hc i hlt).1, (hc i hlt).2⟩
          obtain ⟨k, hk⟩ : ∃ k, plw (A i) N = k := ⟨_, rfl⟩
          have hkN : k < N := by rw [← hk]; exact plw_lt (A i) N hN0
          have HPk : Hid (∀ W, Calls Try.prog 28 #[.int .i64 (A i), .int .i64 N] W fun e w' => e = .returned (.int .i64 k) ∧ W = w') := fun W => by have := place_w (A i) N W hN0 (by omega); rw [hk] at this; exact this
          obtain ⟨n', L', hst, hok, hle, hmid, hend⟩ := HR.out.1.step hN8 k hkN
          obtain ⟨gL, z0, rfl, -, -, -, -⟩ := HR.out.2.om.get k hkN
          obtain ⟨Z, ml, hcall⟩ := HR.out.2.om.take k hkN hst
          obtain ⟨C', hC'⟩ : ∃ C' : Nat → Bool, (fun j => C j || decide (j = k + 1)) = C' := ⟨_, rfl⟩
          have HC' : Hid ((fun j => C j || decide (j = k + 1)) = C') := hC'
          rw [hC'] at hok
          have hmid' : Hid (∀ j, n < j → j ≤ n' → C' j = true) := fun j a b => by rw [← hC']; exact hmid j a b
          have hend' : Hid (C' (n' + 1) = false) := by
            have : C' (n' + 1) = false := by rw [← hC']; exact hend
            exact this
          have HOk : Hid (Ok8 N (i + 1) n' L' C') := hok
          have hn8 : n' ≤ N := hok.le
          have HCall : Hid (Calls Try.prog 15 #[.pointer (some ⟨t, 0, none⟩), .agg Z] wr fun e w' => TkOm w wr t (some ⟨gL, 0, none⟩) N cL (bS 8 n' L') (oA i n n') F ms e w') := hcall
          obtain ⟨J, hJ⟩ : ∃ J, k + 1 = J := ⟨_, rfl⟩
          have HJ : Hid (k + 1 = J) := hJ
          have hJz : (k : Int) + 1 = (J : Int) := by omega
          have hJ0 : (0 : Int) ≤ (J : Int) := by omega
          have hJ10 : (J : Int) < 10 := by omega
          have hJw : IntKind.i64.wrap (J : Int) = (J : Int) := IntWalk.i64_in _ (by omega)
          have hkz : (k : Int) < (N : Int) := by omega
          clear hk hst hok hmid hend hcall hC' hbel hJ
          go_wp2_with (first
            | (go_at_call_of 28 (Value.int .i64 (A i)); refine (HPk.out _).mono ?_; rintro q w' ⟨rfl, rfl⟩)
            | (go_at_call 15; refine HCall.out.mono ?_; rintro q w3 ⟨v3, l3, rfl, ha3, hc3, ho3, hk3⟩; have R3 : Hid (Oc w w3 t (some ⟨gL, 0, none⟩) N cL (bS 8 n' L') F ms gc C) := HR.out.2.on ho3 hk3; obtain ⟨a3, q3, rfl⟩ := owns_len ha3.row; have hcg : w3.cell? ⟨gc, J, none⟩ = some (.bool (C J)) := (cell_of R3.out.hp J).trans (cmA_get C J (by omega)); have hfg := free_of R3.out.hp J; obtain ⟨W4, hW4⟩ : ∃ W4, w3.setCell ⟨gc, J, none⟩ (.bool true) = W4 := ⟨_, rfl⟩; obtain ⟨hR4, hO4⟩ := R3.out.set J hW4; have R4 : Hid (Oc w W4 t (some ⟨gL, 0, none⟩) N cL (bS 8 n' L') F ms gc C' ∧ Acts W4 0 (.slice a3 l3.length q3) l3 ∧ l3.map Am.c = oA i n n') := ⟨by rw [← HJ.out, HC'.out] at hR4; exact hR4, (ha3.down (Nat.zero_le _)).only hO4 (fun q hq => ⟨by rw [hq]; exact Tag.two ⟨_, _, R3.out.hp⟩ (by decide), by rw [hq]; exact Tag.two ⟨_, _, R3.out.hp⟩ (by decide)⟩) (fun q hq => by rw [hq]; exact Tag.two ⟨_, _, R3.out.hp⟩ (by decide)), hc3⟩; clear ha3 hc3 ho3 hk3 hR4 hO4 ml))
          clear hcg hfg hcI
          go_loopw [9, 13] (fun s9 s13 wk => ∃ (p : Nat), n + 1 ≤ p ∧ p ≤ n' + 1 ∧ s9 = .int .i64 p ∧ Hid (RowK wk W4.heap.size s13 (keysN n (p - 1)) ∧ Below W4.heap.size W4 wk)) (fun s9 _ _ => n' + 1 - (intOf s9).toNat)
          case atStart => exact ⟨n + 1, Nat.le_refl _, by omega, by rw [← HP0.out], by
            have : keysN n (n + 1 - 1) = [] := by unfold keysN; rw [Nat.add_sub_cancel, Nat.sub_self]; rfl
            rw [this]; exact ⟨World.ownsRow_nil _ _ _ _, Below.refl _ _⟩⟩
          case round =>
            obtain ⟨p, hp1, hp2, rfl, HK⟩ := hrel
            have hpw : IntKind.i64.wrap ((p : Int) + 1) = (p : Int) + 1 := IntWalk.i64_in _ (by omega)
            have hp10 : (p : Int) < 10 := by omega
            have hp00 : (0 : Int) ≤ (p : Int) := by omega
            have hR5 := R4.out.1.below HK.out.2
            by_cases hlt2 : p ≤ n'
            · have hpN : (p : Int) ≤ (N : Int) := by omega
              have hcp : wr.cell? ⟨gc, p, none⟩ = some (.bool true) := by
                rw [cell_of hR5.hp p, cmA_get C' p (by omega), hmid'.out p (by omega) hlt2]
              obtain ⟨a5, q5, rfl⟩ := owns_len HK.out.1
              obtain ⟨W5, hW5⟩ : ∃ W5, wr.alloc (.cells #[.int .i64 p, .string ⟨#[107]⟩] 65) = W5 := ⟨_, rfl⟩
              have hb5 := boxB hW5
              have hk5 : RowK W5 0 (.slice (some ⟨wr.heap.size, 0, none⟩) 1 1) [kyN p] := by rw [← hW5]; exact one_key (kyN p)
              have hlk := keysN_len n (p - 1) (by omega)
              obtain ⟨v6, W6, happ, hr6, ho6⟩ := keys_append (HK.out.1.below hb5.2) hk5 (Nat.le_trans HK.out.2.size hb5.2.size) (by simp; omega)
              have hB6 := row_below (HK.out.1.below hb5.2) (HK.out.2.trans (hb5.2.mono HK.out.2.size)) (Nat.le_trans HK.out.2.size hb5.2.size) ho6
              have HK6 : Hid (RowK W6 W4.heap.size v6 (keysN n (p + 1 - 1)) ∧ Below W4.heap.size W4 W6) := ⟨by
                have := keysN_snoc n (p - 1) (by omega)
                rw [show p - 1 + 1 = p by omega] at this
                rw [Nat.add_sub_cancel, this]; exact hr6, hB6⟩
              clear hR5 hb5 hk5 hlk hr6 ho6 hB6
              go_wp2_with (first
                | (at_builtin; refine wpList_append_run rfl (.tmp 68) (.tmp 71) 34 rfl _ _ v6 W6 rfl rfl happ ?_))
              exact ⟨⟨p + 1, by omega, by omega, by simp, HK6.out⟩, by simp [intOf]; omega⟩
            · have hpe : p = n' + 1 := by omega
              have HPe : Hid (p = n' + 1) := hpe
              have hpm : (p : Int) - 1 = (n' : Int) := by omega
              have hcp : wr.cell? ⟨gc, p, none⟩ = some (.bool false) := by
                rw [cell_of hR5.hp p, cmA_get C' p (by omega), hpe, hend'.out]
              obtain ⟨a5, q5, rfl⟩ := owns_len HK.out.1
              obtain ⟨W7, hW7⟩ : ∃ W7, W7 = wr := ⟨_, rfl⟩
              subst hW7
              have hl3 : l3.length ≤ 9 := by
                have := congrArg List.length R4.out.2.2
                rw [List.length_map] at this
                rw [this]; exact (oA_few i n n' (by omega)).1
              have R5 : Hid (Oc w W7 t (some ⟨gL, 0, none⟩) N cL (bS 8 n' L') F ms gc C' ∧ Acts W7 0 (.slice a3 l3.length q3) l3 ∧ l3.map Am.c = oA i n n' ∧ RowK W7 W4.heap.size (.slice a5 (keysN n (p - 1)).length q5) (keysN n n')) := ⟨hR5, R4.out.2.1.below HK.out.2, R4.out.2.2, by
                have := HK.out.1
                rw [HPe.out, Nat.add_sub_cancel] at this ⊢; exact this⟩
              have hpN : (p : Int) ≤ (N : Int) ∨ ¬ (p : Int) ≤ (N : Int) := Decidable.em _
              clear hpe hR5 HK R4
              rcases hpN with hpN | hpN
              all_goals
                go_wp2
                clear hcp
                go_loopw [14, 15] (fun s14 s15 wj => ∃ j : Nat, j ≤ l3.length ∧ s15 = .int .i64 j ∧ Hid (RowK wj W7.heap.size s14 (((oA i n n').take j).flatMap Ac.ks) ∧ Below W7.heap.size W7 wj)) (fun _ s15 _ => l3.length - (intOf s15).toNat)
                case atStart => exact ⟨0, Nat.zero_le _, rfl, World.ownsRow_nil _ _ _ _, Below.refl _ _⟩
                case round =>
                  obtain ⟨j, hj, rfl, HG⟩ := hrel
                  by_cases hlt3 : j < l3.length
                  · have hlz3 : (j : Int) < (l3.length : Int) := by omega
                    obtain ⟨ga, z, rfl, hz, hAz, -, -, -, c4, hrk⟩ := acts_get (R5.out.2.1.below HG.out.2) R5.out.2.2.1 hlt3 rfl
                    obtain ⟨e1, e2, e3⟩ := oA_get i n n' j z.c hAz
                    obtain ⟨a8, q8, rfl⟩ := owns_len HG.out.1
                    have hf := oA_few i n n' (by omega)
                    have hf1 := hf.2.1 z.c (List.mem_of_getElem? hAz)
                    have hf2 := hf.2.2 j
                    obtain ⟨v9, W9, happ, hr9, ho9⟩ := keys_append HG.out.1 hrk HG.out.2.size (by omega)
                    have hB9 := row_below HG.out.1 HG.out.2 HG.out.2.size ho9
                    have HG9 : Hid (RowK W9 W7.heap.size v9 (((oA i n n').take (j + 1)).flatMap Ac.ks) ∧ Below W7.heap.size W7 W9) := ⟨by rw [keys_upto hAz]; exact hr9, hB9⟩
                    obtain ⟨g9, z9, e9, hz9, -, d0, d1, d2, -, -⟩ := acts_get (R5.out.2.1.below hB9) R5.out.2.2.1 hlt3 rfl
                    cases e9
                    obtain rfl : z9 = z := by rw [hz9] at hz; exact Option.some.inj hz
                    rw [e1, show decide (i = 0 ∧ j = 0) = false from decide_eq_false (by omega)] at d0
                    rw [e2] at d1
                    rw [e3] at d2
                    clear e1 e2 e3 hf hf1 hf2 hr9 ho9 hB9 hrk hAz hz hz9
                    go_wp2_with (first
                      | (at_builtin; refine wpList_append_run rfl (.tmp 81) (.tmp 86) 34 rfl _ _ v9 W9 rfl rfl happ ?_))
                    exact ⟨⟨j + 1, by omega, by simp, HG9.out⟩, by simp [intOf]; omega⟩
                  · have hje : l3.length = j := by omega
                    have hlz3 : ¬ (j : Int) < (l3.length : Int) := by omega
                    have hfull : ((oA i n n').take j).flatMap Ac.ks = keysN n n' := by
                      have := congrArg List.length R5.out.2.2.1
                      rw [List.length_map] at this
                      rw [List.take_of_length_le (by omega), oA_keys]
                    have hgr := HG.out.1
                    rw [hfull] at hgr
                    obtain ⟨a8, q8, rfl⟩ := owns_len hgr
                    have hkl := keysN_len n n' (by omega)
                    have HSK : Hid (Calls Try.prog 29 #[.slice a8 (keysN n n').length q8, .slice a5 (keysN n (p - 1)).length q5] wr fun e w' => e = .returned (.bool true) ∧ Below wr.heap.size wr w') := by
                      have := sameK_any _ _ _ _ _ _ wr hgr (R5.out.2.2.2.below HG.out.2) (by omega) (by omega)
                      rw [(sameKs_iff _ _).2 rfl] at this; exact this
                    have R8 : Hid (Oc w wr t (some ⟨gL, 0, none⟩) N cL (bS 8 n' L') F ms gc C') := R5.out.1.below HG.out.2
                    have hnw : IntKind.i64.wrap (n' : Int) = (n' : Int) := IntWalk.i64_in _ (by omega)
                    have hnw2 : IntKind.i64.wrap (2 * (n' : Int)) = 2 * (n' : Int) := IntWalk.i64_in _ (by omega)
                    have HMA : Hid (∀ W, Calls Try.prog 30 #[.int .i64 1, .int .i64 n'] W fun e w' => e = .returned (.complex .f64 (floatOfInt .f64 1) (floatOfInt .f64 n')) ∧ W = w') := fun W => (mark_any 1 n' W).mono fun e w' hh => ⟨hh.1, hh.2.symm⟩
                    clear hje hfull hgr hkl HG
                    go_wp2_with (first
                      | (go_at_call 29; refine HSK.out.mono ?_; rintro q w10 ⟨rfl, hb10⟩; have R10 : Hid (Oc w w10 t (some ⟨gL, 0, none⟩) N cL (bS 8 n' L') F ms gc C') := R8.out.below hb10)
                      | (go_at_call 19; obtain ⟨x8, y8, f1, f2, hc8⟩ := R10.out.om.lt.markb (by omega); refine hc8.mono ?_; clear hc8; rintro q w' ⟨rfl, rfl⟩)
                      | (go_at_call 30; refine (HMA.out _).mono ?_; rintro q w' ⟨rfl, rfl⟩)
                      | (go_at_call 20; refine (lt_version R10.out.om.lt).mono ?_; rintro q w' ⟨rfl, rfl⟩; rw [show (bS 8 n' L').ver = 2 * (n' : Int) from rfl]))
                    exact ⟨⟨i + 1, n', L', C', by omega, by rw [HPe.out], by simp, HOk.out, by
                      rw [show oS (i + 1) n' L' = bS 8 n' L' from if_neg (by omega)]; exact R10.out⟩, by simp [intOf]; omega⟩
      · have d1 : decide ((0 : Int) < (N : Int)) = false := decide_eq_false (by omega)
        have d2 : decide (0 < N) = false := decide_eq_false hN0
        have HBe : Hid (Below w.heap.size w wr) := HR.out.2.om.lt.bel
        clear hN0
        go_wp2_with (first
          | (go_at_call 11; refine (HAw.out _).mono ?_; rintro q w12 ⟨rfl, hb12⟩))
        go_ret
        exact ⟨rfl, chainB HBe.out hb12⟩
    · have hlz : ¬ (i : Int) < (len : Int) := by omega
      have HBe : Hid (Below w.heap.size w wr) := HR.out.2.om.lt.bel
      go_wp2_with (first
        | (go_at_call 11; refine (HAw.out _).mono ?_; rintro q w12 ⟨rfl, hb12⟩))
      go_ret
      exact ⟨rfl, chainB HBe.out hb12⟩
theorem walk_TideOrder (x : Int) (a : Option Addr) (len cap : Nat) (A : Nat → Int) (w : World) (_ : (Lit.int .i64 x).wf = true) (row : RowI w a len A) (hlen : len * 8 ≤ 140737488351232) : Calls Try.prog 6 #[.int .i64 x, .slice a len cap] w fun e w' => e = .returned (.bool true) ∧ Below w.heap.size w w' := order_walk x a len cap A w row hlen
end
end Go.Proofs.Ytnklhdoiggomkaa
