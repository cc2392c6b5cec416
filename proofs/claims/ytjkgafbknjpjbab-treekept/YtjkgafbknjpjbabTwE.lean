/- The walk of the law TreeKept: it returns true. -/
import Derived.Test.YtjkgafbknjpjbabTqU
import Derived.Test.YtjkgafbknjpjbabTpX
namespace Go.Proofs.Ytjkgafbknjpjbab
open Go.RowKit
attribute [local go_sem high] eqK' neqK' eqE neqE eqN neqN guardK guardE guardN

theorem mEn_vals (i : Int) : (mEn i).vals = [.int .i64 (-9), .string ⟨#[109]⟩, .bool false, .int .i64 i, .int .i64 0, .int .i64 0, .string ⟨#[]⟩] := rfl
theorem told_lens {s : Tr} (w : WF Mn s.es s.next) (o : Opn) : (toldK Mn s o).length = (toldE Mn s o).length := by
  unfold toldK toldE
  by_cases h : doesE Mn s o = 0
  · rw [if_pos h, if_pos h, ← tell_keys (deed w h)]; simp
  · rw [if_neg h, if_neg h]; rfl
theorem toldK_le (s : Tr) (o : Opn) : (toldK Mn s o).length ≤ 2 := by
  unfold toldK keysL
  split
  · repeat' split
    all_goals simp
  · simp
theorem listR_le (es : List En) (d : Int) : (listR es d).length ≤ es.length := by
  unfold listR
  split
  · exact listL_le es d
  · simp
set_option maxRecDepth 20000 in
set_option maxHeartbeats 16000000 in
theorem walk_TreeKept (a : Option Addr) (cap : Nat) (ops : List Opn) (w : World) (row : RowOps w a ops) (hlen : ops.length ≤ 3000000000000) :
    Calls Try.prog 6 #[.slice a ops.length cap] w fun e w' => e = .returned (.bool true) ∧ Below w.heap.size w w' := by
  obtain ⟨i1, hi1, hw0, hw1, hw2⟩ := info_parts Try.infoE
  have HBe : Hid (Calls Try.prog 14 #[.slice a ops.length cap] w fun e w' => ∃ t s, e = .returned (.tuple #[.pointer (some ⟨t, 0, none⟩), .bool true]) ∧ Law w w' t s ops.length) := (behind_p a cap ops w row hlen).mono fun _ _ h => Law.of h
  have HAw : Hid (∀ w, Calls Try.prog 13 #[] w fun e w' => e = .returned (.bool true) ∧ Below w.heap.size w w') := awake_p
  clear row
  go_enter Try.func6, Try.ntmps6
  go_upto_region 5 with (first
    | (go_at_call 14; refine HBe.out.mono ?_; rintro x w1 ⟨t, s, rfl, hL⟩; have H1 : Hid (Law w w1 t s ops.length) := hL; clear hL)
    | (go_at_call 12; refine (dump_p t s _ H1.out.own.is).mono ?_; rintro x w2 ⟨v2, rfl, hr2, hb2⟩; have H2 : Hid (Law w w2 t s ops.length ∧ Lst w.heap.size w2 s v2 s.es) := ⟨H1.out.below hb2, Lst.of H1.out.own.is hr2 H1.out.bel.size⟩; clear hr2 hb2))
  go_upto_region 6 with (go_at_call 12; refine (dump_p t s _ H2.out.1.own.is).mono ?_; rintro x w3 ⟨v3, rfl, hr3, hb3⟩)
  obtain ⟨n, hn⟩ : ∃ n, s.es.length = n := ⟨_, rfl⟩
  have hn47 : n ≤ 47 := by rw [← hn]; exact H2.out.1.good.wf.len
  obtain ⟨a2, c2, hv2⟩ := owns_len H2.out.2.row
  rw [hn] at hv2
  subst hv2
  have H3 : Hid (Row7 w3 w2.heap.size v3 s.es ∧ Below w2.heap.size w2 w3 ∧ s.es.length = n) := ⟨hr3, hb3, hn⟩
  clear hr3 hb3 hn H1 HBe
  go_wp2
  go_loopw [6, 7] (fun v i wr => ∃ k : Nat, k ≤ 70 ∧ i = .int .i64 k ∧ Hid (Row7 wr w2.heap.size v (s.es ++ mEns k) ∧ Below w2.heap.size w2 wr)) (fun _ i _ => 70 - (intOf i).toNat)
  case atStart => exact ⟨0, Nat.zero_le _, rfl, by rw [show mEns 0 = [] from rfl, List.append_nil]; exact H3.out.1, H3.out.2.1⟩
  case round =>
    obtain ⟨k, hk, rfl, hI⟩ := hrel
    by_cases hk70 : k < 70
    · have hki : (k : Int) < 70 := by omega
      have hLn : (s.es ++ mEns k).length = n + k := by rw [List.length_append, H3.out.2.2, mEns_len]
      have hown : wr.ownsRow w2.heap.size 39 7 u6 (n + k) (ec (s.es ++ mEns k)) := by rw [← hLn]; exact hI.out.1
      have HL : Hid ((s.es ++ mEns k).length = n + k) := hLn
      clear hLn
      go_wp2_with (at_builtin; refine wpList_append_own_at _ rfl (.tmp 38) (.tmp 43) 27 rfl w2.heap.size 39 i1 _ 7 72 Try.underlying27 hi1 hw0 hw1 hw2 rfl (by decide) _ (n + k) (ec (s.es ++ mEns k)) rfl (World.ownsRow.alloc hown _) ⟨wr.heap.size, 0, none⟩ 1 1 (mEn k).vals rfl rfl (vals_at _ (mEn k) _) (vals_one (mEn k)) (by unfold maxLen; omega) (by omega) (by have := hI.out.2.size; simp; omega) ?_; intro v5 w5 hown5 hgrow5 _ _; have H5 : Hid (w5.ownsRow w2.heap.size 39 7 v5 (n + k + 1) (ec (s.es ++ mEns k) ++ (mEn k).vals) ∧ Below w2.heap.size w2 w5) := ⟨hown5, Below.grown (hI.out.2.alloc hI.out.2.size _) hgrow5 (by have := hI.out.2.size; simp; omega) (fun q hq => (World.ownsRow.lt hown q hq).1)⟩; clear hown5 hgrow5)
      refine ⟨⟨k + 1, by omega, by simp, ?_, H5.out.2⟩, by simp [intOf]; omega⟩
      rw [mEns_succ, ← List.append_assoc]
      unfold Row7
      rw [List.length_append, HL.out, ec_app]
      have : ec [mEn k] = (mEn k).vals := by unfold ec; simp
      rw [this]; exact H5.out.1
    · have hk' : k = 70 := by omega
      subst hk'
      have hrow70 := hI.out.1
      have hL70 : (s.es ++ mEns 70).length = n + 69 + 1 := by rw [List.length_append, H3.out.2.2, mEns_len]
      obtain ⟨g, c, hu6⟩ := owns_form (by unfold Row7 at hrow70; rw [hL70] at hrow70; exact hrow70)
      obtain ⟨M, hM⟩ : ∃ M, n + 69 + 1 = M := ⟨_, rfl⟩
      rw [hM] at hu6
      subst hu6
      have HMn : Hid (n + 69 + 1 = M) := hM
      have hM117 : M ≤ 117 := by omega
      have hcap : n + 70 ≤ c := by have := (owns_cells (by unfold Row7 at hrow70; rw [hL70, hM] at hrow70; exact hrow70)).2.2.1; omega
      have hcapx : c ≤ 9223372036854775807 := by have := (owns_cells (by unfold Row7 at hrow70; rw [hL70, hM] at hrow70; exact hrow70)).2.2.2.1; unfold maxLen at this; omega
      have hg2 : w2.heap.size ≤ g := (owns_cells (by unfold Row7 at hrow70; rw [hL70, hM] at hrow70; exact hrow70)).2.2.2.2.1
      have hpre : Row7 wr w2.heap.size (.slice (some ⟨g, 0, none⟩) n c) s.es := by rw [← H3.out.2.2]; exact row7_pre hrow70
      have H4 : Hid (Law w wr t s ops.length ∧ Row7 wr w2.heap.size (.slice (some ⟨g, 0, none⟩) n c) s.es ∧ Row7 wr w2.heap.size (.slice (some ⟨g, 0, none⟩) M c) (s.es ++ mEns 70) ∧ Row7 wr w.heap.size (.slice a2 n c2) s.es ∧ Below w2.heap.size w2 wr) := ⟨H2.out.1.below hI.out.2, hpre, hrow70, H2.out.2.row.below hI.out.2, hI.out.2⟩
      clear hrow70 hL70 hpre hI hM
      have hni : (0 : Int) ≤ (n : Int) := by omega
      have hnc : (n : Int) ≤ (c : Int) := by omega
      have hnc' : n ≤ c := by omega
      go_upto_region 10 with fail
      have k0 : Below wr.heap.size wr wr.drew := (Below.refl _ _).drew
      have HVe : Hid (∀ W, Below wr.heap.size wr W → Calls Try.prog 17 #[.pointer (some ⟨t, 0, none⟩)] W fun e w' => e = .returned (.int .i64 s.vers) ∧ W = w') := fun W h => (version_p t s W (H4.out.1.own.is.below h)).mono fun _ _ h => ⟨h.1, h.2.symm⟩
      have HNx : Hid (∀ W, Below wr.heap.size wr W → Calls Try.prog 10 #[.pointer (some ⟨t, 0, none⟩)] W fun e w' => e = .returned (.int .i64 s.next) ∧ W = w') := fun W h => (next_p t s W (H4.out.1.own.is.below h)).mono fun _ _ h => ⟨h.1, h.2.symm⟩
      have HLd : Hid (∀ W, Below wr.heap.size wr W → Calls Try.prog 20 #[.slice (some ⟨g, 0, none⟩) n c, .int .i64 s.vers, .int .i64 s.next] W fun e w' => ∃ u r, e = .returned (.tuple #[.pointer (some ⟨u, 0, none⟩), .int .i64 0]) ∧ Hid (Pair w w' t s ops.length u r ops.length ∧ Alike s r ∧ W.heap.size ≤ u ∧ (∀ q, r.v.ownBlock = some q → W.heap.size ≤ q)) ∧ Below W.heap.size W w') := fun W h => (load_p _ s.es _ s.vers s.next W (H4.out.2.1.below h) (by have := H4.out.1.good.wf.len; omega)).mono fun e w' hr => (H4.out.1.below h).load hr
      go_region_held3 (fun w' => Below wr.heap.size wr w')
        (with_reducible first | exact k0 | exact hK5)
        (first
          | (go_at_call 17; refine (HVe.out _ k0).mono ?_; rintro x w4 ⟨rfl, rfl⟩)
          | (go_at_call 10; refine (HNx.out _ k0).mono ?_; rintro x w4 ⟨rfl, rfl⟩)
          | (go_at_call 20; refine (HLd.out _ k0).mono ?_; rintro x w5 ⟨u, r, rfl, h5, hb5⟩; have hK5 : Below wr.heap.size wr w5 := chainB k0 hb5))
      have H5 : Hid (Row7 w5 w2.heap.size (.slice (some ⟨g, 0, none⟩) n c) s.es ∧ Row7 w5 w2.heap.size (.slice (some ⟨g, 0, none⟩) M c) (s.es ++ mEns 70) ∧ Row7 w5 w.heap.size (.slice a2 n c2) s.es ∧ g < wr.heap.size) := ⟨H4.out.2.1.below hK5, H4.out.2.2.1.below hK5, H4.out.2.2.2.1.below hK5, (World.ownsRow.lt H4.out.2.2.1 g rfl).2⟩
      clear k0 hK5 hb5 HVe HNx HLd
      go_upto_region 13 with (go_at_call 16; refine (same_yes H5.out.1 H5.out.2.2.1 h5.out.1.one.len).mono ?_; rintro x w6 ⟨rfl, hb6⟩)
      have H6 : Hid (Pair w w6 t s ops.length u r ops.length ∧ Alike s r ∧ Row7 w6 w2.heap.size (.slice (some ⟨g, 0, none⟩) M c) (s.es ++ mEns 70) ∧ w.heap.size ≤ g ∧ g ≠ t ∧ g ≠ u ∧ s.v.ownBlock ≠ some g ∧ r.v.ownBlock ≠ some g) := ⟨h5.out.1.below hb6, h5.out.2.1, H5.out.2.1.below hb6, Nat.le_trans H2.out.1.bel.size hg2, by have := H2.out.1.own.is.tt.lt; omega, by have := h5.out.2.2.1; have := H5.out.2.2.2; simp at *; omega, fun e => by have := (H2.out.1.own.is.tv e).lt; omega, fun e => by have := h5.out.2.2.2 g e; have := H5.out.2.2.2; simp at *; omega⟩
      clear hb6 h5 H5 H4
      go_wp2
      go_loopw [10] (fun i W => ∃ (k : Nat) (G : List En), k ≤ M ∧ i = .int .i64 k ∧ Hid (Row7 W w2.heap.size (.slice (some ⟨g, 0, none⟩) M c) G ∧ G.length = M ∧ (∀ j, k ≤ j → G[j]? = (s.es ++ mEns 70)[j]?) ∧ Only (· = g) w6 W)) (fun i _ => M - (intOf i).toNat)
      case atStart => exact ⟨0, s.es ++ mEns 70, Nat.zero_le _, rfl, H6.out.2.2.1, by rw [List.length_append, mEns_len, H3.out.2.2]; have := HMn.out; omega, fun _ _ => rfl, Only.of (Below.refl _ _)⟩
      case round =>
        obtain ⟨k, G, hkM, rfl, hG⟩ := hrel
        by_cases hkl : k < M
        · obtain ⟨e, he⟩ : ∃ x, G[k]? = some x := ⟨_, List.getElem?_eq_getElem (by rw [hG.out.2.1]; exact hkl)⟩
          have hrow := hG.out.1
          obtain ⟨g', hg', -, -, -, hce, hfz⟩ := owns_entry hrow he
          cases hg'
          have hki : (k : Int) < (M : Int) := by omega
          have hrow' : Hid (Row7 (put7o wr g (k * 7) zeroEn) w2.heap.size (.slice (some ⟨g, 0, none⟩) M c) (G.set k zeroEn) ∧ Only (· = g) w6 (put7o wr g (k * 7) zeroEn)) := ⟨by
            unfold Row7 at hrow ⊢
            rw [List.length_set, hG.out.2.1]
            rw [hG.out.2.1] at hrow
            exact put7o_row (e := zeroEn) hrow he, hG.out.2.2.2.trans (put7o_only _ _ _ _)⟩
          have hset : Hid (∀ j, k + 1 ≤ j → (G.set k zeroEn)[j]? = (s.es ++ mEns 70)[j]?) := fun j hj => by rw [List.getElem?_set_ne (by omega)]; exact hG.out.2.2.1 j (by omega)
          unfold put7o zeroEn at hrow'
          simp only at hrow'
          by_cases hkn : k < n
          · have hkn1 : ¬ (n : Int) ≤ (k : Int) := by omega
            have x0 := hce.c0
            have x1 := hce.c1
            have x2 := hce.c2
            have x3 := hce.c3
            have x4 := hce.c4
            have x5 := hce.c5
            have x6 := hce.c6
            clear hrow he hce
            go_wp2
            exact ⟨⟨k + 1, G.set k zeroEn, by omega, by simp, hrow'.out.1, by rw [List.length_set]; exact hG.out.2.1, hset.out, hrow'.out.2⟩, by simp [intOf]; omega⟩
          · obtain ⟨j, hj⟩ : ∃ j, k = n + j := ⟨k - n, by omega⟩
            have hem : e = mEn j := by
              have h1 := hG.out.2.2.1 k (Nat.le_refl _)
              rw [he, List.getElem?_append_right (by rw [H3.out.2.2]; omega), H3.out.2.2, show k - n = j by omega, mEns_get (by have := HMn.out; omega)] at h1
              exact Option.some.inj h1
            subst hem
            have hkn1 : (n : Int) ≤ (k : Int) := by omega
            have hwr : IntKind.i64.wrap ((k : Int) - (n : Int)) = (j : Int) := (IntWalk.i64_in _ (by omega)).trans (by omega)
            have x0 := hce.c0
            have x1 := hce.c1
            have x2 := hce.c2
            have x3 := hce.c3
            have x4 := hce.c4
            have x5 := hce.c5
            have x6 := hce.c6
            unfold mEn at x0 x1 x2 x3 x4 x5 x6
            simp only at x0 x1 x2 x3 x4 x5 x6
            have heq : eqEn ⟨-9, ⟨#[109]⟩, false, j, 0, 0, ⟨#[]⟩⟩ ⟨-9, ⟨#[109]⟩, false, j, 0, 0, ⟨#[]⟩⟩ = true := (eqEn_iff _ _).2 rfl
            have HJ : Hid (k = n + j) := hj
            clear hrow he hce hj
            go_wp2
            exact ⟨⟨k + 1, G.set k zeroEn, by omega, by simp, hrow'.out.1, by rw [List.length_set]; exact hG.out.2.1, hset.out, hrow'.out.2⟩, by simp [intOf]; omega⟩
        · have hkl' : k = M := by omega
          have H7 : Hid (Pair w wr t s ops.length u r ops.length ∧ Alike s r) := ⟨H6.out.1.only hG.out.2.2.2 (fun q hq => by subst hq; exact H6.out.2.2.2), H6.out.2.1⟩
          clear hG H6
          obtain ⟨o, hoq⟩ : ∃ o : Opn, (⟨10, 1, ⟨#[97]⟩, 1, ⟨#[98]⟩, 0, ⟨#[]⟩⟩ : Opn) = o := ⟨_, rfl⟩
          obtain ⟨E, hE⟩ : ∃ x, doesE Mn r o = x := ⟨_, rfl⟩
          have HO : Hid (doesE Mn r o = E ∧ doesE Mn s o = E ∧ (⟨10, 1, ⟨#[97]⟩, 1, ⟨#[98]⟩, 0, ⟨#[]⟩⟩ : Opn) = o) := ⟨hE, by rw [← hE]; exact doesE_eq Mn H7.out.2.es o, hoq⟩
          clear hE hoq
          have HAp : Hid (∀ W, Pair w W t s ops.length u r ops.length → Calls Try.prog 11 #[.pointer (some ⟨u, 0, none⟩), .agg #[.int .i64 10, .int .i64 1, .string ⟨#[97]⟩, .int .i64 1, .string ⟨#[98]⟩, .int .i64 0, .string ⟨#[]⟩]] W fun e w' => ∃ v kv r', e = .returned (.tuple #[v, kv, .int .i64 E]) ∧ Hid (Did2 w w' u r r' ops.length t s ops.length o v kv ∧ PS W w' u r r' ∧ (∀ q, v.ownBlock = some q → W.heap.size ≤ q) ∧ (∀ q, kv.ownBlock = some q → W.heap.size ≤ q))) := fun W h => by
            have := h.two.apply o (by omega)
            rw [← HO.out.2.2] at this
            refine this.mono fun e w' hh => ?_
            obtain ⟨v, kv, r', he, hd, hps, hv, hkv⟩ := h.symm.did' hh
            rw [HO.out.2.2] at he hd
            exact ⟨v, kv, r', by rw [← HO.out.1]; exact he, hd, hps, hv, hkv⟩
          go_upto_region 22 with (first
            | (go_at_call 12; refine (dump_p u r _ H7.out.1.two.own.is).mono ?_; rintro x w8 ⟨v8, rfl, hr8, hb8⟩)
            | (go_at_call 21; refine (list_p u r 1 _ (H7.out.1.two.own.is.below hb8)).mono ?_; rintro x w9 ⟨v9, rfl, hr9, hb9⟩)
            | (go_at_call 11; refine (HAp.out _ ((H7.out.1.below hb8).below hb9)).mono ?_; rintro x w10 ⟨v10, k10, r10, rfl, h10⟩))
          have hps := h10.out.2.1
          have hP10 := h10.out.1.pair
          have hA0 : Lst w.heap.size w8 r v8 r.es := Lst.of H7.out.1.two.own.is hr8 H7.out.1.two.bel.size
          have hA1 : Lst w.heap.size w8 s v8 r.es := Lst.of H7.out.1.one.own.is hr8 H7.out.1.one.bel.size
          have hB0 : Lst w.heap.size w9 r v9 (listR r.es 1) := Lst.of (H7.out.1.two.own.is.below hb8) hr9 (H7.out.1.two.below hb8).bel.size
          have hB1 : Lst w.heap.size w9 s v9 (listR r.es 1) := Lst.of (H7.out.1.one.own.is.below hb8) hr9 (H7.out.1.one.below hb8).bel.size
          have hI9 := (H7.out.1.two.own.is.below hb8).below hb9
          have hA2 := (hA0.below hb9).step hI9 hps
          have hA3 : Lst w.heap.size w10 s v8 r.es := ⟨hA2.row, hA1.off⟩
          have hB2 := hB0.step hI9 hps
          have hB3 : Lst w.heap.size w10 s v9 (listR r.es 1) := ⟨hB2.row, hB1.off⟩
          have LA := hP10.lone hA2 hA3
          have LB := hP10.lone hB2 hB3
          have LC := hP10.lone h10.out.1.told h10.out.1.told2
          have LK := hP10.loneK h10.out.1.keys
          have hAB : ∀ q, v8.ownBlock = some q → v9.ownBlock ≠ some q := fun q h1 h2 => by have := (World.ownsRow.lt hr8 q h1).2; have := (World.ownsRow.lt hr9 q h2).1; omega
          obtain ⟨a8, c8, hv8⟩ := owns_len hA2.row
          obtain ⟨a9, c9, hv9⟩ := owns_len hB2.row
          obtain ⟨a10, c10, hv10⟩ := owns_len h10.out.1.told.row
          obtain ⟨b10, d10, hk10⟩ := owns_len h10.out.1.keys
          obtain ⟨n8, hn8⟩ : ∃ x, r.es.length = x := ⟨_, rfl⟩
          obtain ⟨n9, hn9⟩ : ∃ x, (listR r.es 1).length = x := ⟨_, rfl⟩
          obtain ⟨n10, hn10⟩ : ∃ x, (toldE Mn r o).length = x := ⟨_, rfl⟩
          have hKn : (toldK Mn r o).length = n10 := by rw [← hn10]; exact told_lens H7.out.1.two.good.wf o
          rw [hn8] at hv8
          rw [hn9] at hv9
          rw [hn10] at hv10
          rw [hKn] at hk10
          subst hv8 hv9 hv10 hk10
          have HN : Hid (r.es.length = n8 ∧ (listR r.es 1).length = n9 ∧ (toldE Mn r o).length = n10 ∧ (toldK Mn r o).length = n10 ∧ n8 ≤ 47 ∧ n9 ≤ 47 ∧ n10 ≤ 2) := ⟨hn8, hn9, hn10, hKn, by rw [← hn8]; exact H7.out.1.two.good.wf.len, by rw [← hn9]; exact Nat.le_trans (listR_le r.es 1) H7.out.1.two.good.wf.len, by rw [← hKn]; exact toldK_le r o⟩
          have hn47' : n8 ≤ 47 := HN.out.2.2.2.2.1
          have hn47'' : n9 ≤ 47 := HN.out.2.2.2.2.2.1
          have hn2 : n10 ≤ 2 := HN.out.2.2.2.2.2.2
          have HP : Hid (Pair w w10 u r10 ((ops.length : Int) + 1) t s ops.length ∧ Row7 w10 w.heap.size (.slice a8 n8 c8) r.es ∧ Row7 w10 w.heap.size (.slice a9 n9 c9) (listR r.es 1) ∧ Row7 w10 w.heap.size (.slice a10 n10 c10) (toldE Mn r o) ∧ RowK w10 w.heap.size (.slice b10 n10 d10) (toldK Mn r o)) := ⟨hP10, hA2.row, hB2.row, h10.out.1.told.row, h10.out.1.keys⟩
          have HL : Hid (Lone w u r10 t s (.slice a8 n8 c8) ∧ Lone w u r10 t s (.slice a9 n9 c9) ∧ Lone w u r10 t s (.slice a10 n10 c10) ∧ Lone w u r10 t s (.slice b10 n10 d10)) := ⟨LA, LB, LC, LK⟩
          have HD : Hid ((∀ q, (Value.slice a8 n8 c8).ownBlock = some q → (Value.slice a9 n9 c9).ownBlock ≠ some q) ∧ ((∀ q, (Value.slice a8 n8 c8).ownBlock = some q → (Value.slice a10 n10 c10).ownBlock ≠ some q) ∧ (∀ q, (Value.slice a8 n8 c8).ownBlock = some q → (Value.slice b10 n10 d10).ownBlock ≠ some q)) ∧ (∀ q, (Value.slice a9 n9 c9).ownBlock = some q → (Value.slice a10 n10 c10).ownBlock ≠ some q) ∧ (∀ q, (Value.slice a9 n9 c9).ownBlock = some q → (Value.slice b10 n10 d10).ownBlock ≠ some q)) := ⟨hAB, ⟨fun q h1 h2 => by have := (World.ownsRow.lt hr8 q h1).2; have := h10.out.2.2.1 q h2; have := hb9.size; omega, fun q h1 h2 => by have := (World.ownsRow.lt hr8 q h1).2; have := h10.out.2.2.2 q h2; have := hb9.size; omega⟩, fun q h1 h2 => by have := (World.ownsRow.lt hr9 q h1).2; have := h10.out.2.2.1 q h2; omega, fun q h1 h2 => by have := (World.ownsRow.lt hr9 q h1).2; have := h10.out.2.2.2 q h2; omega⟩
          have HSt : Hid (Step Mn r r10 o) := h10.out.1.step
          clear hA0 hA1 hB0 hB1 hI9 hA2 hA3 hB2 hB3 LA LB LC LK hAB hps hP10 h10 hr8 hr9 hb8 hb9 hn8 hn9 hn10 hKn HAp
          go_wp2
          go_loopw [17] (fun i W => ∃ (k : Nat) (G : List En), k ≤ n8 ∧ i = .int .i64 k ∧ Hid (Row7 W w.heap.size (.slice a8 n8 c8) G ∧ G.length = n8 ∧ Only (fun q => (Value.slice a8 n8 c8).ownBlock = some q) w10 W)) (fun i _ => n8 - (intOf i).toNat)
          case atStart => exact ⟨0, r.es, Nat.zero_le _, rfl, HP.out.2.1, HN.out.1, Only.of (Below.refl _ _)⟩
          case round =>
            obtain ⟨k, G, hkl, rfl, hG⟩ := hrel
            by_cases hkn : k < n8
            · obtain ⟨e, he⟩ : ∃ x, G[k]? = some x := ⟨_, List.getElem?_eq_getElem (by rw [hG.out.2.1]; exact hkn)⟩
              have hrow := hG.out.1
              obtain ⟨gx, hgx, -, -, -, hce, hfz⟩ := owns_entry hrow he
              subst hgx
              have hki : (k : Int) < (n8 : Int) := by omega
              have hrow' : Hid (Row7 (put7o wr gx (k * 7) aEn) w.heap.size (.slice (some ⟨gx, 0, none⟩) n8 c8) (G.set k aEn) ∧ Only (fun q => (Value.slice (some ⟨gx, 0, none⟩) n8 c8).ownBlock = some q) w10 (put7o wr gx (k * 7) aEn)) := ⟨by
                unfold Row7 at hrow ⊢
                rw [List.length_set, hG.out.2.1]
                rw [hG.out.2.1] at hrow
                exact put7o_row (e := aEn) hrow he, hG.out.2.2.trans ((put7o_only _ _ _ _).mono fun q hq => by subst hq; rfl)⟩
              unfold put7o aEn at hrow'
              simp only at hrow'
              have x0 := hce.c0
              have x1 := hce.c1
              have x2 := hce.c2
              have x3 := hce.c3
              have x4 := hce.c4
              have x5 := hce.c5
              have x6 := hce.c6
              clear hrow he hce
              go_wp2
              exact ⟨⟨k + 1, G.set k aEn, by omega, by simp, hrow'.out.1, by rw [List.length_set]; exact hG.out.2.1, hrow'.out.2⟩, by simp [intOf]; omega⟩
            · have hkl' : k = n8 := by omega
              have hki : ¬ (k : Int) < (n8 : Int) := by omega
              have HB : Hid (Pair w wr u r10 ((ops.length : Int) + 1) t s ops.length ∧ Row7 wr w.heap.size (.slice a9 n9 c9) (listR r.es 1) ∧ Row7 wr w.heap.size (.slice a10 n10 c10) (toldE Mn r o) ∧ RowK wr w.heap.size (.slice b10 n10 d10) (toldK Mn r o)) := ⟨HP.out.1.only hG.out.2.2 HL.out.1, owns_moved HP.out.2.2.1 (fun q hq => hG.out.2.2.block q (Tag.own HP.out.2.2.1 hq).lt (fun e => HD.out.1 q e hq)), owns_moved HP.out.2.2.2.1 (fun q hq => hG.out.2.2.block q (Tag.own HP.out.2.2.2.1 hq).lt (fun e => HD.out.2.1.1 q e hq)), owns_moved HP.out.2.2.2.2 (fun q hq => hG.out.2.2.block q (Tag.own HP.out.2.2.2.2 hq).lt (fun e => HD.out.2.1.2 q e hq))⟩
              clear hG
              go_wp2
              obtain ⟨PB, hPB⟩ : ∃ PB : World → Prop, ∀ W, PB W ↔ Only (fun q => (Value.slice a9 n9 c9).ownBlock = some q) wr W := ⟨_, fun _ => Iff.rfl⟩
              have HPB : Hid (∀ W, PB W ↔ Only (fun q => (Value.slice a9 n9 c9).ownBlock = some q) wr W) := hPB
              clear hPB
              go_loopw [18] (fun i W => ∃ (k : Nat) (G : List En), k ≤ n9 ∧ i = .int .i64 k ∧ Hid (Row7 W w.heap.size (.slice a9 n9 c9) G ∧ G.length = n9 ∧ PB W)) (fun i _ => n9 - (intOf i).toNat)
              case atStart => exact ⟨0, listR r.es 1, Nat.zero_le _, rfl, HB.out.2.1, HN.out.2.1, (HPB.out _).2 (Only.of (Below.refl _ _))⟩
              case round =>
                obtain ⟨k, G, hkl, rfl, hG⟩ := hrel
                by_cases hkn : k < n9
                · obtain ⟨e, he⟩ : ∃ x, G[k]? = some x := ⟨_, List.getElem?_eq_getElem (by rw [hG.out.2.1]; exact hkn)⟩
                  have hrow := hG.out.1
                  obtain ⟨gx, hgx, -, -, -, hce, hfz⟩ := owns_entry hrow he
                  subst hgx
                  have hki : (k : Int) < (n9 : Int) := by omega
                  have hrow' : Hid (Row7 (put7o wr gx (k * 7) zeroEn) w.heap.size (.slice (some ⟨gx, 0, none⟩) n9 c9) (G.set k zeroEn) ∧ PB (put7o wr gx (k * 7) zeroEn)) := ⟨by
                    unfold Row7 at hrow ⊢
                    rw [List.length_set, hG.out.2.1]
                    rw [hG.out.2.1] at hrow
                    exact put7o_row (e := zeroEn) hrow he, (HPB.out _).2 (((HPB.out _).1 hG.out.2.2).trans ((put7o_only _ _ _ _).mono fun q hq => by subst hq; rfl))⟩
                  unfold put7o zeroEn at hrow'
                  simp only at hrow'
                  have x0 := hce.c0
                  have x1 := hce.c1
                  have x2 := hce.c2
                  have x3 := hce.c3
                  have x4 := hce.c4
                  have x5 := hce.c5
                  have x6 := hce.c6
                  clear hrow he hce
                  go_wp2
                  exact ⟨⟨k + 1, G.set k zeroEn, by omega, by simp, hrow'.out.1, by rw [List.length_set]; exact hG.out.2.1, hrow'.out.2⟩, by simp [intOf]; omega⟩
                · have hkl' : k = n9 := by omega
                  have hki : ¬ (k : Int) < (n9 : Int) := by omega
                  have HC : Hid (Pair w wr u r10 ((ops.length : Int) + 1) t s ops.length ∧ Row7 wr w.heap.size (.slice a10 n10 c10) (toldE Mn r o) ∧ RowK wr w.heap.size (.slice b10 n10 d10) (toldK Mn r o)) := ⟨HB.out.1.only ((HPB.out _).1 hG.out.2.2) HL.out.2.1, owns_moved HB.out.2.2.1 (fun q hq => ((HPB.out _).1 hG.out.2.2).block q (Tag.own HB.out.2.2.1 hq).lt (fun e => HD.out.2.2.1 q e hq)), owns_moved HB.out.2.2.2 (fun q hq => ((HPB.out _).1 hG.out.2.2).block q (Tag.own HB.out.2.2.2 hq).lt (fun e => HD.out.2.2.2 q e hq))⟩
                  clear hG HB
                  go_wp2
                  obtain ⟨PC, hPC⟩ : ∃ PC : World → Prop, ∀ W, PC W ↔ Only (fun q => (Value.slice a10 n10 c10).ownBlock = some q ∨ (Value.slice b10 n10 d10).ownBlock = some q) wr W := ⟨_, fun _ => Iff.rfl⟩
                  have HPC : Hid (∀ W, PC W ↔ Only (fun q => (Value.slice a10 n10 c10).ownBlock = some q ∨ (Value.slice b10 n10 d10).ownBlock = some q) wr W) := hPC
                  clear hPC
                  go_loopw [19] (fun i W => ∃ (k : Nat) (G : List En) (xs : List Value), k ≤ n10 ∧ i = .int .i64 k ∧ Hid (Row7 W w.heap.size (.slice a10 n10 c10) G ∧ G.length = n10 ∧ W.ownsRow w.heap.size 37 2 (.slice b10 n10 d10) n10 xs ∧ PC W)) (fun i _ => n10 - (intOf i).toNat)
                  case atStart => exact ⟨0, toldE Mn r o, kc (toldK Mn r o), Nat.zero_le _, rfl, HC.out.2.1, HN.out.2.2.1, by have := HC.out.2.2; unfold RowK at this; rw [HN.out.2.2.2.1] at this; exact this, (HPC.out _).2 (Only.of (Below.refl _ _))⟩
                  case round =>
                    obtain ⟨k, G, xs, hkl, rfl, hG⟩ := hrel
                    by_cases hkn : k < n10
                    · obtain ⟨e, he⟩ : ∃ x, G[k]? = some x := ⟨_, List.getElem?_eq_getElem (by rw [hG.out.2.1]; exact hkn)⟩
                      have hrow := hG.out.1
                      obtain ⟨gx, hgx, -, -, -, hce, hfz⟩ := owns_entry hrow he
                      subst hgx
                      have hKr := hG.out.2.2.1
                      rcases hKr.2 with ⟨-, hz0⟩ | ⟨gk, capk, cur, hek, -, -, -, -, -, -⟩
                      · omega
                      · cases hek
                        have hki : (k : Int) < (n10 : Int) := by omega
                        have hkx : gk ≠ gx := (Tag.own hKr rfl).ne (Tag.own hrow rfl) (by decide)
                        obtain ⟨W3, hW3⟩ : ∃ x, put7o wr gx (k * 7) zeroEn = x := ⟨_, rfl⟩
                        have hr3 : Row7 W3 w.heap.size (.slice (some ⟨gx, 0, none⟩) n10 c10) (G.set k zeroEn) := by
                          rw [← hW3]
                          unfold Row7 at hrow ⊢
                          rw [List.length_set, hG.out.2.1]
                          rw [hG.out.2.1] at hrow
                          exact put7o_row (e := zeroEn) hrow he
                        have ho3 : Only (· = gx) wr W3 := by rw [← hW3]; exact put7o_only _ _ _ _
                        have hK3 : W3.ownsRow w.heap.size 37 2 (.slice (some ⟨gk, 0, none⟩) n10 d10) n10 xs := owns_moved hKr (fun q hq => by cases hq; exact ho3.block gk (Tag.own hKr rfl).lt hkx)
                        obtain ⟨hcK, hfK, -⟩ := owns_cells hK3
                        obtain ⟨y0, hy0⟩ : ∃ y, xs[k * 2]? = some y := ⟨_, List.getElem?_eq_getElem (by rw [hKr.1]; omega)⟩
                        obtain ⟨y1, hy1⟩ : ∃ y, xs[k * 2 + 1]? = some y := ⟨_, List.getElem?_eq_getElem (by rw [hKr.1]; omega)⟩
                        have z0 := hcK _ _ hy0
                        have z1 := hcK _ _ hy1
                        obtain ⟨xs', hxs'⟩ := put2o_row hK3 (k * 2)
                        have hfin : Hid (Row7 (put2o W3 gk (k * 2)) w.heap.size (.slice (some ⟨gx, 0, none⟩) n10 c10) (G.set k zeroEn) ∧ (put2o W3 gk (k * 2)).ownsRow w.heap.size 37 2 (.slice (some ⟨gk, 0, none⟩) n10 d10) n10 xs' ∧ PC (put2o W3 gk (k * 2))) := ⟨owns_moved hr3 (fun q hq => (put2o_only W3 gk (k * 2)).block q (Tag.own hr3 hq).lt (fun e => by cases hq; exact hkx e.symm)), hxs', (HPC.out _).2 ((((HPC.out _).1 hG.out.2.2.2).trans (ho3.mono fun q hq => by subst hq; exact .inl rfl)).trans ((put2o_only _ _ _).mono fun q hq => by subst hq; exact .inr rfl))⟩
                        unfold put7o zeroEn at hW3
                        simp only at hW3
                        unfold put2o at hfin
                        have HW3 : Hid (((((((wr.setCell ⟨gx, k * 7, none⟩ (.int .i64 0)).setCell ⟨gx, k * 7 + 1, none⟩ (.string ⟨#[]⟩)).setCell ⟨gx, k * 7 + 2, none⟩ (.bool false)).setCell ⟨gx, k * 7 + 3, none⟩ (.int .i64 0)).setCell ⟨gx, k * 7 + 4, none⟩ (.int .i64 0)).setCell ⟨gx, k * 7 + 5, none⟩ (.int .i64 0)).setCell ⟨gx, k * 7 + 6, none⟩ (.string ⟨#[]⟩) = W3) := hW3
                        have x0 := hce.c0
                        have x1 := hce.c1
                        have x2 := hce.c2
                        have x3 := hce.c3
                        have x4 := hce.c4
                        have x5 := hce.c5
                        have x6 := hce.c6
                        clear hrow he hce hW3 hr3 ho3 hK3 hcK hy0 hy1 hxs' hKr
                        go_upto_region 34 with fail
                        rw [HW3.out]
                        clear x0 x1 x2 x3 x4 x5 x6 hfz
                        go_wp2
                        exact ⟨⟨k + 1, G.set k zeroEn, xs', by omega, by simp, hfin.out.1, by rw [List.length_set]; exact hG.out.2.1, hfin.out.2.1, hfin.out.2.2⟩, by simp [intOf]; omega⟩
                    · have hkl' : k = n10 := by omega
                      have hki : ¬ (k : Int) < (n10 : Int) := by omega
                      have HE : Hid (Pair w wr u r10 ((ops.length : Int) + 1) t s ops.length) := HC.out.1.only ((HPC.out _).1 hG.out.2.2.2) (fun q hq => hq.elim (HL.out.2.2.1 q) (HL.out.2.2.2 q))
                      clear hG
                      have HAt : Hid (Calls Try.prog 11 #[.pointer (some ⟨t, 0, none⟩), .agg #[.int .i64 10, .int .i64 1, .string ⟨#[97]⟩, .int .i64 1, .string ⟨#[98]⟩, .int .i64 0, .string ⟨#[]⟩]] wr fun e w' => ∃ v kv s', e = .returned (.tuple #[v, kv, .int .i64 E]) ∧ Hid (Did2 w w' t s s' ops.length u r10 ((ops.length : Int) + 1) o v kv)) := by
                        have := HE.out.two.apply o (by omega)
                        rw [← HO.out.2.2] at this
                        refine this.mono fun e w' hh => ?_
                        obtain ⟨v, kv, s', he, hd, -⟩ := HE.out.symm.did hh
                        rw [HO.out.2.2] at he hd
                        exact ⟨v, kv, s', by rw [← HO.out.2.1]; exact he, hd⟩
                      go_upto_region 36 with (go_at_call 11; refine HAt.out.mono ?_; rintro x w12 ⟨v12, k12, s12, rfl, h12⟩)
                      have HAl : Hid (Alike s12 r10) := h12.out.step.both H7.out.2 HSt.out
                      go_wp2_with (first
                        | (go_at_call 12; refine (dump_p u r10 _ h12.out.pair.two.own.is).mono ?_; rintro x w13 ⟨v13, rfl, hr13, hb13⟩)
                        | (go_at_call 12; refine (dump_p t s12 _ (h12.out.pair.one.own.is.below hb13)).mono ?_; rintro x w14 ⟨v14, rfl, hr14, hb14⟩; rw [HAl.out.es] at hr14)
                        | (go_at_call 16; refine (same_yes (hr13.below hb14) hr14 h12.out.pair.two.len).mono ?_; rintro x w15 ⟨rfl, hb15⟩)
                        | (go_at_call 13; refine (HAw.out _).mono ?_; rintro x w16 ⟨rfl, hb16⟩))
                      go_ret
                      exact ⟨rfl, chainB (chainB (chainB (chainB h12.out.pair.one.bel hb13) hb14) hb15) hb16⟩
end Go.Proofs.Ytjkgafbknjpjbab
