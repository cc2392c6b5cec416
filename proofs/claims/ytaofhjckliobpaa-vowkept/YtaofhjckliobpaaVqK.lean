/- VowKept. -/
import Derived.Test.YtaofhjckliobpaaVpL
import Derived.Test.YtaofhjckliobpaaTkA
namespace Go.Proofs.Ytaofhjckliobpaa
open Go.RowKit Go.Shelf Go.Sort
attribute [local go_sem high] eqK neqK guardK run_store_complex

theorem grant_one' (S : Vs) (k : Ky) (ver : Int) : (S.grant k ver).2.length ≤ 1 := by
  rcases grant_cases S k ver with ⟨e, _⟩ | ⟨o, l, _, _, e⟩
  · rw [e]; exact Nat.zero_le _
  · rw [e]; exact tell_one _ _ _
theorem touch_one' (S : Vs) (ks : List Ky) (ver : Int) : (S.touch ks ver).2.length ≤ 1 := by
  rcases touch_cases S ks ver with ⟨e, _⟩ | ⟨_, e⟩
  · rw [e]; exact Nat.zero_le _
  · rw [e]; exact tell_one _ _ _
theorem L2.onF {w0 wr w' : World} {t u : Nat} {S S' : Vs} {F : Nat → Prop} (h : L2 w0 wr t u S S' F) (hb : Below wr.heap.size wr w') : L2 w0 w' t u S S' F := (h.on hb).mono fun _ h => .inl h
def kM : Ky := ⟨-8, ⟨#[109]⟩⟩
set_option maxHeartbeats 8000000 in
set_option maxRecDepth 20000 in
theorem walk_VowKept (v : Value) (keys : List Ky) (ver : Int) (w : World) (h : ArgK w v keys) (hcap : ∀ a n c, v = .slice a n c → n ≤ c) (_ : (Lit.int .i64 ver).wf = true) :
    Calls Try.prog 8 #[v, .int .i64 ver] w fun e w' => e = .returned (.bool true) ∧ Below w.heap.size w w' := by
  obtain ⟨i1, hi1, hw0, hw1, hw2⟩ := info_parts Try.infoKy
  obtain ⟨a, cap, rfl⟩ := h.form
  obtain ⟨n, hn⟩ : ∃ n, keys.length = n := ⟨_, rfl⟩
  have hl13 : n * 24 ≤ 140737488351232 := by obtain ⟨_, _, _, hl, _⟩ := h; omega
  rw [hn] at h ⊢
  have H : Hid (ArgK w (.slice a n cap) keys ∧ keys.length = n) := ⟨h, hn⟩
  clear h hn hcap
  have hnew1 := lv_new w w (Below.refl _ _) 1 3 9 (by omega) (by omega) (by omega) (by omega) (by omega) (by omega)
  change Calls Try.prog 9 #[.int .i64 1, .int .i64 3, .int .i64 9] w _ at hnew1
  go_enter Try.func8, Try.ntmps8
  go_upto_region 2 with (go_at_call 9; refine hnew1.mono ?_; rintro e w1 ⟨rfl, hL1, hb1⟩)
  have hnew2 := lv_new w w1 hL1.below 1 3 9 (by omega) (by omega) (by omega) (by omega) (by omega) (by omega)
  change Calls Try.prog 9 #[.int .i64 1, .int .i64 3, .int .i64 9] w1 _ at hnew2
  go_upto_region 3 with (go_at_call 9; refine hnew2.mono ?_; rintro e w2 ⟨rfl, hL2, hb2⟩)
  have HI : Hid (L2 w w2 w.heap.size w1.heap.size (Vs.new 1 3 9) (Vs.new 1 3 9) (fun _ => False)) := L2.new (hL1.mono fun _ h => h.elim) hb2 hL2
  obtain ⟨U, hU⟩ : ∃ u, w1.heap.size = u := ⟨_, rfl⟩
  rw [hU] at HI ⊢
  have hcp := copyK_any (.slice a n cap) keys w2 (H.out.1.below HI.out.below)
  clear hnew1 hnew2 hL1 hL2 hb1 hb2
  go_upto_region 7 with (go_at_call 20; refine hcp.mono ?_; rintro e w3 ⟨v7, rfl, hr7, hb3⟩; obtain ⟨a7, c7, h7⟩ := owns_len hr7; rw [H.out.2] at h7; subst h7)
  have HR3 : Hid (Below w2.heap.size w2 w3 ∧ RowK w3 w2.heap.size (.slice a7 n c7) keys) := ⟨hb3, by rw [← H.out.2] at hr7 ⊢; exact hr7⟩
  clear hcp hr7 hb3
  go_loopw [9, 10] (fun s9 s10 wr => ∃ i : Nat, s10 = .int .i64 i ∧ i ≤ 70 ∧ Hid (Below w2.heap.size w2 wr ∧ RowK wr w2.heap.size s9 (keys ++ List.replicate i kM))) (fun _ s10 _ => 70 - (intOf s10).toNat)
  case atStart => exact ⟨0, rfl, by omega, HR3.out.1, by rw [List.replicate_zero, List.append_nil]; exact HR3.out.2⟩
  case round =>
    rename World => W4
    clear HR3
    obtain ⟨i, rfl, hi, HR⟩ := hrel
    have HN : Hid ((keys ++ List.replicate i kM).length = n + i) := by show _ = _; rw [List.length_append, H.out.2, List.length_replicate]
    obtain ⟨a9, c9, h9⟩ := owns_len HR.out.2
    rw [HN.out] at h9
    subst h9
    by_cases hlt : i < 70
    · have hltz : (i : Int) < 70 := by omega
      have hown : W4.ownsRow w2.heap.size 36 2 (.slice a9 (n + i) c9) (n + i) (kc (keys ++ List.replicate i kM)) := by
        have := HR.out.2
        unfold RowK at this
        rw [HN.out] at this; exact this
      have HO : Hid (W4.ownsRow w2.heap.size 36 2 (.slice a9 (n + i) c9) (n + i) (kc (keys ++ List.replicate i kM))) := hown
      clear hown
      go_wp2_with (at_builtin; refine wpList_append_own _ rfl _ _ 31 rfl w2.heap.size 36 i1 (.agg #[.int .i64 0, .string ⟨#[]⟩]) 2 24 Try.underlying31 hi1 hw0 hw1 hw2 rfl (by decide) _ (n + i) (kc (keys ++ List.replicate i kM)) rfl (World.ownsRow.alloc HO.out _) ⟨W4.heap.size, 0, none⟩ 1 1 kM.vals rfl rfl (one_key _ kM) (ky_one _) (by unfold maxLen; omega) (by omega) (by have := HR.out.1.size; simp; omega) ?_; intro v9 w5 hown9 hgrow9 _)
      refine ⟨⟨i + 1, by simp, by omega, ?_, ?_⟩, by simp [intOf]; omega⟩
      · exact (HR.out.1.alloc (by have := HR.out.1.size; omega) _).grown hgrow9 (by have := HR.out.1.size; simp; omega) (fun k hk => (HO.out.lt k hk).1)
      · show World.ownsRow _ _ _ _ _ _ _
        rw [List.replicate_succ', ← List.append_assoc, List.length_append, HN.out, kc_app]
        exact hown9
    · obtain rfl : i = 70 := by omega
      have hltz : ¬ ((70 : Nat) : Int) < 70 := by omega
      obtain ⟨M, hM⟩ : ∃ M, keys ++ List.replicate 70 kM = M := ⟨_, rfl⟩
      obtain ⟨N, hN⟩ : ∃ N, n + 70 = N := ⟨_, rfl⟩
      rw [hN] at HR HN ⊢
      rw [hM] at HR HN
      have HM : Hid (keys ++ List.replicate 70 kM = M ∧ M.length = N ∧ n + 70 = N) := ⟨hM, HN.out, hN⟩
      have HL : Hid (L2 w W4 w.heap.size U (Vs.new 1 3 9) (Vs.new 1 3 9) (fun k => (Value.slice a9 N c9).ownBlock = some k) ∧ RowK W4 w2.heap.size (.slice a9 N c9) M) := ⟨(HI.out.on HR.out.1).mono fun k hk => .inr (HR.out.2.lt hk), HR.out.2⟩
      have hNn : n + 70 = N := hN
      have HM2 : Hid (w.heap.size ≤ w2.heap.size) := HI.out.below.size
      clear hM hN HI HN
      go_wp2
      rename_i K2 h2
      have key : ∀ (W5 : World) (S : Vs), L2 w W5 w.heap.size U S S (fun k => (Value.slice a9 N c9).ownBlock = some k) → RowK W5 w2.heap.size (.slice a9 N c9) M → ∀ (x11 x12 x13 x14 x50 x51 x52 x53 x54 x55 x56 x57 x58 x59 x60 x61 x62 x63 x64 x65 x66 x67 x68 x69 x70 x71 x72 x73 x74 x75 x76 x77 x78 x79 x80 x81 x82 x83 x84 x85 x86 x87 x88 x89 x90 x91 x92 x93 x94 x95 x96 x97 x98 x99 x100 x101 x102 x103 x104 x105 x106 x107 : Value), K2 ⟨#[.slice a n cap, .int .i64 ver, undef, undef, .bool false, .pointer (some ⟨w.heap.size, 0, none⟩), .int .i64 0, .pointer (some ⟨U, 0, none⟩), .int .i64 0, .slice a9 N c9, .int .i64 70, x11, x12, x13, x14, undef, undef, undef, undef, undef, undef, undef, undef, undef, .tuple #[.pointer (some ⟨w.heap.size, 0, none⟩), .int .i64 0], .tuple #[.pointer (some ⟨w.heap.size, 0, none⟩), .int .i64 0], .pointer (some ⟨w.heap.size, 0, none⟩), .int .i64 0, .tuple #[.pointer (some ⟨U, 0, none⟩), .int .i64 0], .tuple #[.pointer (some ⟨U, 0, none⟩), .int .i64 0], .pointer (some ⟨U, 0, none⟩), .int .i64 0, .int .i64 0, .bool false, .bool false, .int .i64 0, .bool false, .bool false, .bool false, .pointer (some ⟨w.heap.size, 0, none⟩), .bool false, .bool false, .bool false, .pointer (some ⟨U, 0, none⟩), .bool false, .bool false, .slice a n cap, .slice a7 n c7, .int .i64 70, .bool false, x50, x51, x52, x53, x54, x55, x56, x57, x58, x59, x60, x61, x62, x63, x64, x65, x66, x67, x68, x69, x70, x71, x72, x73, x74, x75, x76, x77, x78, x79, x80, x81, x82, x83, x84, x85, x86, x87, x88, x89, x90, x91, x92, x93, x94, x95, x96, x97, x98, x99, x100, x101, x102, x103, x104, x105, x106, x107, undef, undef, undef, undef, undef, undef, undef, undef, undef, undef, undef, undef, undef, undef, undef, undef, undef, undef, undef, undef, undef, undef, undef, undef, undef, undef, undef, undef, undef, undef, undef, undef, undef, undef, undef, undef, undef, undef, undef, undef, undef, undef, undef, undef, undef, undef, undef, undef, undef, undef, undef, undef, undef, undef, undef, undef, undef, undef, undef, undef, undef, undef, undef, undef, undef, undef, undef, undef, undef, undef, undef, undef, undef, undef, undef, undef, undef, undef, undef, undef, undef, undef, undef, undef, undef, undef, undef, undef, undef, undef, undef, undef, undef, undef, undef, undef, undef, undef, undef, undef, undef, undef, undef, undef, undef, undef, undef, undef, undef, undef, undef, undef, undef, undef, undef, undef, undef, undef, undef, undef, undef, undef, undef, undef, undef, undef, undef, undef, undef, undef, undef, undef, undef, undef, undef, undef, undef, undef, undef], []⟩ W5 := by
        intro W5 S hL hR x11 x12 x13 x14 x50 x51 x52 x53 x54 x55 x56 x57 x58 x59 x60 x61 x62 x63 x64 x65 x66 x67 x68 x69 x70 x71 x72 x73 x74 x75 x76 x77 x78 x79 x80 x81 x82 x83 x84 x85 x86 x87 x88 x89 x90 x91 x92 x93 x94 x95 x96 x97 x98 x99 x100 x101 x102 x103 x104 x105 x106 x107
        have HL : Hid (L2 w W5 w.heap.size U S S (fun k => (Value.slice a9 N c9).ownBlock = some k) ∧ RowK W5 w2.heap.size (.slice a9 N c9) M) := ⟨hL, hR⟩
        obtain ⟨g9, hg9, hNc⟩ : ∃ g9, a9 = some ⟨g9, 0, none⟩ ∧ N ≤ c9 := by
          rcases hR.2 with ⟨e, -⟩ | ⟨g, cap', cur, e, h1, h2, h3, -⟩
          · cases e; omega
          · cases e; exact ⟨g, rfl, by rw [HM.out.2.1] at h3; exact h3⟩
        subst hg9
        have HRd : Hid (RdK W5 (.slice (some ⟨g9, 0, none⟩) n c9) keys) := by
          have hr : W5.ownsRow w2.heap.size 36 2 (.slice (some ⟨g9, 0, none⟩) N c9) N (kc M) := by
            have := hR; unfold RowK at this; rw [HM.out.2.1] at this; exact this
          obtain ⟨hc, -, -, -, -, hlt⟩ := owns_cells hr
          refine ⟨_, _, by rw [H.out.2], .inr ⟨g9, 0, rfl, hlt, fun j u hu => ?_⟩⟩
          rw [Nat.zero_add]
          refine hc j u ?_
          rw [← HM.out.1, kc_app, List.getElem?_append_left ((List.getElem?_eq_some_iff.1 hu).1)]
          exact hu
        have hto := l2_touch hL (.slice (some ⟨g9, 0, none⟩) n c9) keys ver HRd.out (by rw [H.out.2]; unfold LK; exact hl13)
        have hs0 : (0 : Int) ≤ (n : Int) := by omega
        have hs1 : (n : Int) ≤ (c9 : Int) := by omega
        have hs2 : n ≤ c9 := by omega
        clear hL hR
        apply h2
        clear h2
        go_upto_region 24 with (go_at_call 19; refine hto.mono ?_; rintro e w5 ⟨v5, rfl, Bq5, hc5⟩; obtain ⟨a5, c5, D, rfl, hDl, hK5⟩ := KA.mk1 HL.out.2 HM2.out HL.out.1.below.size hc5; obtain ⟨nD, hnD⟩ : ∃ k, D.length = k := ⟨_, rfl⟩; rw [hnD] at hDl ⊢; have HDl : Hid (nD = (S.touch keys ver).2.length) := hDl; have HnD : Hid (D.length = nD) := hnD; clear hnD hDl)
        have hnD1 : nD ≤ 1000 := by
          rw [HDl.out]
          have := touch_one' S keys ver
          omega
        have hcp := copyK_any (.slice a n cap) keys w5 (H.out.1.below hK5.lv.below)
        have HK5 : Hid (KA w w5 w.heap.size U (S.touch keys ver).1 S w2.heap.size Bq5 w5.heap.size (.slice (some ⟨g9, 0, none⟩) N c9) M a5 D) := hK5
        clear hto hc5 hK5 HDl HRd HL
        obtain ⟨C5, hC5⟩ : ∃ c, w5.heap.size = c := ⟨_, rfl⟩
        obtain ⟨S1, hS1⟩ : ∃ s, (S.touch keys ver).1 = s := ⟨_, rfl⟩
        go_upto_region 25 with (first
          | (go_at_call 20; refine hcp.mono ?_; rintro e w6 ⟨v6, rfl, hr6, hb6⟩; obtain ⟨a6, c6, h6⟩ := owns_len hr6; subst h6; have hto2 := l2_touch (HK5.out.on hb6).lv.symm _ keys ver hr6.rd (by rw [H.out.2]; unfold LK; exact hl13))
          | (go_at_call 19; refine hto2.mono ?_; rintro e w7 ⟨v7', rfl, Bq7, hc7⟩; obtain ⟨a7', c7', h7'⟩ := hc7.rt.form; subst h7'))
        have HK7 : Hid (KA w w7 w.heap.size U S1 S1 w2.heap.size Bq5 C5 (.slice (some ⟨g9, 0, none⟩) N c9) M a5 D) := by
          have := (HK5.out.on hb6).mk2 hc7
          rw [hS1, hC5] at this
          exact this
        clear hcp hr6 hb6 hto2 hc7 HK5 hS1
        go_wp2
        go_loopw [16] (fun s16 wr => ∃ (i : Nat) (X : List Ky), s16 = .int .i64 i ∧ i ≤ N ∧ Hid (KA w wr w.heap.size U S1 S1 w2.heap.size Bq5 C5 (.slice (some ⟨g9, 0, none⟩) N c9) X a5 D ∧ X.length = N ∧ ∀ j, i ≤ j → X[j]? = M[j]?)) (fun s16 _ => N - (intOf s16).toNat)
        case atStart => exact ⟨0, M, rfl, Nat.zero_le _, HK7.out, HM.out.2.1, fun _ _ => rfl⟩
        case round =>
          rename World => W8
          clear HK7
          obtain ⟨i, X, rfl, hiN, HX⟩ := hrel
          by_cases hlt : i < N
          · have hltz : (i : Int) < (N : Int) := by omega
            obtain ⟨x, hx⟩ : ∃ x, X[i]? = some x := ⟨_, List.getElem?_eq_getElem (by rw [HX.out.2.1]; exact hlt)⟩
            have hxM : M[i]? = some x := by rw [← HX.out.2.2 i (Nat.le_refl _)]; exact hx
            obtain ⟨g9', e9, -, -, y0, y1, yf⟩ := HX.out.1.row.key hx
            cases e9
            have yf0 := yf (i * 2)
            have yf1 := yf (i * 2 + 1)
            clear yf
            have HN : Hid (∀ q, KA w (put2 (W8.drewN q) g9 (i * 2) ⟨66, ⟨#[]⟩⟩) w.heap.size U S1 S1 w2.heap.size Bq5 C5 (.slice (some ⟨g9, 0, none⟩) N c9) (X.set i ⟨66, ⟨#[]⟩⟩) a5 D ∧ (X.set i ⟨66, ⟨#[]⟩⟩).length = N ∧ ∀ j, i + 1 ≤ j → (X.set i ⟨66, ⟨#[]⟩⟩)[j]? = M[j]?) := fun q => ⟨(HX.out.1.on (below_drewN (Below.refl _ _) q)).own HX.out.2.1 hx, by rw [List.length_set]; exact HX.out.2.1, fun j hj => by rw [List.getElem?_set_ne (by omega)]; exact HX.out.2.2 j (by omega)⟩
            by_cases hin : i < n
            · have hkx : keys[i]? = some x := by rw [← hxM, ← HM.out.1, List.getElem?_append_left (by rw [H.out.2]; exact hin)]
              obtain ⟨g0, off0, ha0, -, z0, z1⟩ := (H.out.1.below HX.out.1.lv.below).key hkx
              subst ha0
              have hinz : (i : Int) < (n : Int) := by omega
              have hinz2 : ¬ (n : Int) ≤ (i : Int) := by omega
              have hxx : eqKy x x = true := eqKy_self x
              clear hx hxM hkx
              go_upto_region 28 with fail
              go_quiet (fail)
              go_wp2
              exact ⟨⟨i + 1, _, by simp, by omega, HN.out _⟩, by simp [intOf]; omega⟩
            · have hxk : x = kM := by
                rw [← HM.out.1, List.getElem?_append_right (by rw [H.out.2]; omega)] at hxM
                exact (List.mem_replicate.1 (List.mem_of_getElem? hxM)).2
              subst hxk
              have hinz : ¬ (i : Int) < (n : Int) := by omega
              have hinz2 : (n : Int) ≤ (i : Int) := by omega
              have hxx : eqKy kM kM = true := eqKy_self kM
              unfold kM at y0 y1 hxx
              clear hx hxM
              go_upto_region 28 with fail
              go_quiet (fail)
              go_wp2
              exact ⟨⟨i + 1, _, by simp, by omega, HN.out _⟩, by simp [intOf]; omega⟩
          · obtain rfl : i = N := by omega
            have hltz : ¬ (i : Int) < (i : Int) := by omega
            have HK8 : Hid (KA w W8 w.heap.size U S1 S1 w2.heap.size Bq5 C5 (.slice (some ⟨g9, 0, none⟩) i c9) X a5 D) := HX.out.1
            clear HX HM
            go_wp2
            go_loopw [17, 18] (fun sk _ wr => ∃ k : Nat, sk = .int .i64 k ∧ k ≤ nD ∧ Hid (KA w wr w.heap.size U S1 S1 w2.heap.size Bq5 C5 (.slice (some ⟨g9, 0, none⟩) i c9) X (a5) D)) (fun sk _ _ => nD - (intOf sk).toNat)
            case atStart => exact ⟨0, rfl, Nat.zero_le _, HK8.out⟩
            case round =>
              rename World => Va
              clear HK8
              obtain ⟨k, rfl, hkn, HKa⟩ := hrel
              by_cases hlk : k < nD
              · have hlkz : (k : Int) < (nD : Int) := by omega
                obtain ⟨⟨xa, m, xc⟩, hxD⟩ : ∃ x, D[k]? = some x := ⟨_, List.getElem?_eq_getElem (by rw [HnD.out]; exact hlk)⟩
                have HXD : Hid (D[k]? = some (xa, m, xc)) := hxD
                obtain ⟨g5, u0, u1, ha, hFg, x0, x1, x3, xf⟩ := HKa.out.sh.at hxD
                subst ha
                have hm13 : m ≤ 10000000000000 := (HKa.out.sh.each _ (List.mem_of_getElem? hxD)).1
                have HFg : Hid (_ ∧ _) := hFg
                have xf0 := xf (k * 4)
                have xf1 := xf (k * 4 + 1)
                clear hxD xf hFg
                go_wp2
                go_loopw [18] (fun sj wr => ∃ j : Nat, sj = .int .i64 j ∧ j ≤ m ∧ Hid (KA w wr w.heap.size U S1 S1 w2.heap.size Bq5 C5 (.slice (some ⟨g9, 0, none⟩) i c9) X (some ⟨g5, 0, none⟩) D)) (fun sj _ => m - (intOf sj).toNat)
                case atStart => exact ⟨0, rfl, Nat.zero_le _, HKa.out⟩
                case round =>
                  rename World => Vb
                  clear HKa x0 x1 x3 xf0 xf1
                  obtain ⟨j, rfl, hjm, HKb⟩ := hrel
                  obtain ⟨g', u0, u1, ha, -, x0, x1, x3, xf⟩ := HKb.out.sh.at HXD.out
                  cases ha
                  by_cases hlj : j < m
                  · have hljz : (j : Int) < (m : Int) := by omega
                    obtain ⟨gk, p0, p1, ck, hxa, hFk, c0, c1, cf, hck⟩ := (HKb.out.sh.each _ (List.mem_of_getElem? HXD.out)).2.at hlj
                    simp only at hxa
                    subst hxa
                    have cf0 := cf (j * 2)
                    have cf1 := cf (j * 2 + 1)
                    have HCk : Hid (_ ∧ _) := ⟨hFk, hck⟩
                    clear hck cf xf hFk
                    go_wp2
                    exact ⟨⟨j + 1, by simp, by omega, HKb.out.key (x := ⟨55, ⟨#[]⟩⟩) HCk.out.1 HCk.out.2⟩, by simp [intOf]; omega⟩
                  · obtain rfl : j = m := by omega
                    have hljz : ¬ (j : Int) < (j : Int) := by omega
                    have xf0 := xf (k * 4)
                    clear xf
                    go_wp2
                    exact ⟨⟨k + 1, by simp, by omega, HKb.out⟩, by simp [intOf]; omega⟩
              · obtain rfl : k = nD := by omega
                have hlkz : ¬ (k : Int) < (k : Int) := by omega
                obtain ⟨nP, hnP⟩ : ∃ k, S1.ks.length = k := ⟨_, rfl⟩
                have HSh : Hid (L2 w Va w.heap.size U S1 S1 (fun k => (Value.slice (some ⟨g9, 0, none⟩) i c9).ownBlock = some k) ∧ RowK Va w2.heap.size (.slice (some ⟨g9, 0, none⟩) i c9) X) := HKa.out.shut
                have hpr := lv_promises HSh.out.1.fst
                clear HKa
                go_upto_region 39 with (go_at_call 28; refine hpr.mono ?_; rintro e w10 ⟨v19, rfl, hr19, hb10⟩; obtain ⟨a19, c19, h19⟩ := owns_len hr19; subst h19)
                have HP : Hid (KA w w10 w.heap.size U S1 S1 w2.heap.size Va.heap.size w10.heap.size (.slice (some ⟨g9, 0, none⟩) i c9) X none [] ∧ Sk (fun k => Va.heap.size ≤ k ∧ k < w10.heap.size) w10 a19 nP) := ⟨KA.mk0 HSh.out.1 HSh.out.2 HM2.out hb10 Sh.nil, by rw [← hnP]; exact (Sk.of hr19 fun k h1 h2 => ⟨h1, h2⟩).2⟩
                have hnP33 : nP ≤ 33 := by rw [← hnP]; exact HSh.out.1.lq.2
                have HB10 : Hid (Below Va.heap.size Va w10) := hb10
                clear hpr hr19 hb10 hnP HSh
                go_wp2
                go_loopw [20] (fun s20 wr => ∃ k : Nat, s20 = .int .i64 k ∧ k ≤ nP ∧ Hid (KA w wr w.heap.size U S1 S1 w2.heap.size Va.heap.size w10.heap.size (.slice (some ⟨g9, 0, none⟩) i c9) X none [] ∧ Sk (fun k => Va.heap.size ≤ k ∧ k < w10.heap.size) wr a19 nP)) (fun s20 _ => nP - (intOf s20).toNat)
                case atStart => exact ⟨0, rfl, Nat.zero_le _, HP.out⟩
                case round =>
                  rename World => W11
                  clear HP
                  obtain ⟨k, rfl, hkn, HP⟩ := hrel
                  by_cases hlp : k < nP
                  · have hlpz : (k : Int) < (nP : Int) := by omega
                    obtain ⟨gk, p0, p1, ck, hxa, hFk, c0, c1, cf, hck⟩ := HP.out.2.at hlp
                    subst hxa
                    have cf0 := cf (k * 2)
                    have cf1 := cf (k * 2 + 1)
                    have HCk : Hid (_ ∧ _) := ⟨hFk, hck⟩
                    clear hck cf hFk
                    go_wp2
                    exact ⟨⟨k + 1, by simp, by omega, HP.out.1.key (x := ⟨44, ⟨#[]⟩⟩) HCk.out.1 HCk.out.2, HP.out.2.put (k := ⟨44, ⟨#[]⟩⟩)⟩, by simp [intOf]; omega⟩
                  · obtain rfl : k = nP := by omega
                    have hlpz : ¬ (k : Int) < (k : Int) := by omega
                    have HSh : Hid (L2 w W11 w.heap.size U S1 S1 (fun k => (Value.slice (some ⟨g9, 0, none⟩) i c9).ownBlock = some k) ∧ RowK W11 w2.heap.size (.slice (some ⟨g9, 0, none⟩) i c9) X) := HP.out.1.shut
                    have hqu := lv_queue HSh.out.1.fst
                    clear HP
                    go_upto_region 44 with (go_at_call 30; refine hqu.mono ?_; rintro e w12 ⟨v21, rfl, hR12, hb12⟩; obtain ⟨a21, c21, E, rfl, hEl, hS21⟩ := Sh.of (F := fun k => W11.heap.size ≤ k ∧ k < w12.heap.size) hR12 (fun k h1 h2 => ⟨h1, h2⟩); obtain ⟨nE, hnE⟩ : ∃ k, E.length = k := ⟨_, rfl⟩; rw [hnE] at hEl ⊢; have HEl : Hid (nE = S1.q.length) := hEl; have HnE : Hid (E.length = nE) := hnE; clear hnE hEl)
                    have HQ : Hid (KA w w12 w.heap.size U S1 S1 w2.heap.size W11.heap.size w12.heap.size (.slice (some ⟨g9, 0, none⟩) i c9) X a21 E) := KA.mk0 HSh.out.1 HSh.out.2 HM2.out hb12 hS21
                    have hnE16 : nE ≤ 16 := by rw [HEl.out]; exact HSh.out.1.lq.1
                    clear hqu hR12 hb12 hS21 HSh HEl
                    go_wp2
                    go_loopw [22, 23] (fun sk _ wr => ∃ k : Nat, sk = .int .i64 k ∧ k ≤ nE ∧ Hid (KA w wr w.heap.size U S1 S1 w2.heap.size W11.heap.size w12.heap.size (.slice (some ⟨g9, 0, none⟩) i c9) X (a21) E)) (fun sk _ _ => nE - (intOf sk).toNat)
                    case atStart => exact ⟨0, rfl, Nat.zero_le _, HQ.out⟩
                    case round =>
                      rename World => Ya
                      clear HQ
                      obtain ⟨k, rfl, hkn, HKa⟩ := hrel
                      by_cases hlk : k < nE
                      · have hlkz : (k : Int) < (nE : Int) := by omega
                        obtain ⟨⟨xa, m, xc⟩, hxD⟩ : ∃ x, E[k]? = some x := ⟨_, List.getElem?_eq_getElem (by rw [HnE.out]; exact hlk)⟩
                        have HXD : Hid (E[k]? = some (xa, m, xc)) := hxD
                        obtain ⟨g21, u0, u1, ha, hFg, x0, x1, x3, xf⟩ := HKa.out.sh.at hxD
                        subst ha
                        have hm13 : m ≤ 10000000000000 := (HKa.out.sh.each _ (List.mem_of_getElem? hxD)).1
                        have HFg : Hid (_ ∧ _) := hFg
                        have xf0 := xf (k * 4)
                        have xf1 := xf (k * 4 + 1)
                        clear hxD xf hFg
                        go_wp2
                        go_loopw [23] (fun sj wr => ∃ j : Nat, sj = .int .i64 j ∧ j ≤ m ∧ Hid (KA w wr w.heap.size U S1 S1 w2.heap.size W11.heap.size w12.heap.size (.slice (some ⟨g9, 0, none⟩) i c9) X (some ⟨g21, 0, none⟩) E)) (fun sj _ => m - (intOf sj).toNat)
                        case atStart => exact ⟨0, rfl, Nat.zero_le _, HKa.out⟩
                        case round =>
                          rename World => Yb
                          clear HKa x0 x1 x3 xf0 xf1
                          obtain ⟨j, rfl, hjm, HKb⟩ := hrel
                          obtain ⟨g', u0, u1, ha, -, x0, x1, x3, xf⟩ := HKb.out.sh.at HXD.out
                          cases ha
                          by_cases hlj : j < m
                          · have hljz : (j : Int) < (m : Int) := by omega
                            obtain ⟨gk, p0, p1, ck, hxa, hFk, c0, c1, cf, hck⟩ := (HKb.out.sh.each _ (List.mem_of_getElem? HXD.out)).2.at hlj
                            simp only at hxa
                            subst hxa
                            have cf0 := cf (j * 2)
                            have cf1 := cf (j * 2 + 1)
                            have HCk : Hid (_ ∧ _) := ⟨hFk, hck⟩
                            clear hck cf xf hFk
                            go_wp2
                            exact ⟨⟨j + 1, by simp, by omega, HKb.out.key (x := ⟨33, ⟨#[]⟩⟩) HCk.out.1 HCk.out.2⟩, by simp [intOf]; omega⟩
                          · obtain rfl : j = m := by omega
                            have hljz : ¬ (j : Int) < (j : Int) := by omega
                            have xf0 := xf (k * 4)
                            clear xf
                            go_wp2
                            exact ⟨⟨k + 1, by simp, by omega, HKb.out.fld HFg.out (r := 0) (by omega)⟩, by simp [intOf]; omega⟩
                      · obtain rfl : k = nE := by omega
                        have hlkz : ¬ (k : Int) < (k : Int) := by omega
                        have HS : Hid (L2 w Ya w.heap.size U S1 S1 (fun _ => False)) := HKa.out.lv.mono fun _ h => h.elim
                        obtain ⟨nP, hnP⟩ : ∃ x, S1.ks.length = x := ⟨_, rfl⟩
                        obtain ⟨nQ, hnQ⟩ : ∃ x, S1.q.length = x := ⟨_, rfl⟩
                        have hl33 := HS.out.lq
                        have HPr : Hid (∀ W, L2 w W w.heap.size U S1 S1 (fun _ => False) → ∀ z, z = w.heap.size ∨ z = U → Calls Try.prog 28 #[.pointer (some ⟨z, 0, none⟩)] W fun e w' => ∃ a c, e = .returned (.slice a nP c) ∧ RowK w' W.heap.size (.slice a nP c) S1.ks ∧ Below W.heap.size W w') := fun W h z hz => by
                          have h' : Lv w W z S1 (fun _ => False) := by
                            rcases hz with rfl | rfl
                            · exact h.fst
                            · exact h.symm.fst
                          refine (lv_promises h').mono ?_
                          rintro e w' ⟨v', rfl, hr, hb⟩
                          obtain ⟨a, c, rfl⟩ := owns_len hr
                          rw [hnP] at hr ⊢
                          exact ⟨a, c, rfl, hr, hb⟩
                        have HQu : Hid (∀ W, L2 w W w.heap.size U S1 S1 (fun _ => False) → ∀ z, z = w.heap.size ∨ z = U → Calls Try.prog 30 #[.pointer (some ⟨z, 0, none⟩)] W fun e w' => ∃ a c, e = .returned (.slice a nQ c) ∧ Rd w' (.slice a nQ c) S1.q S1.e ∧ Below W.heap.size W w') := fun W h z hz => by
                          have h' : Lv w W z S1 (fun _ => False) := by
                            rcases hz with rfl | rfl
                            · exact h.fst
                            · exact h.symm.fst
                          refine (lv_queue h').mono ?_
                          rintro e w' ⟨v', rfl, hr, hb⟩
                          obtain ⟨a, c, rfl⟩ := hr.form
                          rw [hnQ] at hr ⊢
                          exact ⟨a, c, rfl, hr.rd, hb⟩
                        have HMk : Hid (∀ W, L2 w W w.heap.size U S1 S1 (fun _ => False) → ∀ z, z = w.heap.size ∨ z = U → Calls Try.prog 26 #[.pointer (some ⟨z, 0, none⟩)] W fun e w' => ∃ a b, e = .returned (.complex .f64 a b) ∧ Hid (Mk a b S1.e S1.n) ∧ w' = W) := fun W h z hz => by
                          have h' : Lv w W z S1 (fun _ => False) := by
                            rcases hz with rfl | rfl
                            · exact h.fst
                            · exact h.symm.fst
                          obtain ⟨a, b, hm, hc⟩ := lv_mark h'
                          refine hc.mono ?_
                          rintro e w' ⟨rfl, rfl⟩
                          exact ⟨a, b, rfl, hm, rfl⟩
                        have HSm : Hid (∀ W v v' b b', RowK W b v S1.ks → RowK W b' v' S1.ks → Calls Try.prog 27 #[v, v'] W fun e w' => e = .returned (.bool true) ∧ Below W.heap.size W w') := fun W v v' b b' h h' => by
                          have := sameK_any v v' S1.ks S1.ks W h.rd h'.rd (by omega) (by omega)
                          rw [(sameKs_iff _ _).2 rfl] at this
                          exact this
                        have HSB : Hid (∀ W v v', Rd W v S1.q S1.e → Rd W v' S1.q S1.e → Calls Try.prog 16 #[v, v'] W fun e w' => e = .returned (.bool true) ∧ Below W.heap.size W w') := fun W v v' h h' => same_rd h h' (by omega)
                        clear hnP hnQ hl33 HKa
                        go_wp2_with (first
                          | (go_at_call 28; refine (HPr.out _ (HS.out.onF hb13) _ (.inr rfl)).mono ?_; rintro e w14 ⟨a14, c14, rfl, hr14, hb14⟩)
                          | (go_at_call 28; refine (HPr.out _ HS.out _ (.inl rfl)).mono ?_; rintro e w13 ⟨a13, c13, rfl, hr13, hb13⟩)
                          | (go_at_call 27; refine (HSm.out _ _ _ _ _ (hr13.below hb14) hr14).mono ?_; rintro e w15 ⟨rfl, hb15⟩; have hL15 := ((HS.out.onF hb13).onF hb14).onF hb15)
                          | (go_at_call 30; refine (HQu.out _ (hL15.onF hb16) _ (.inr rfl)).mono ?_; rintro e w17 ⟨a17, c17, rfl, hr17, hb17⟩)
                          | (go_at_call 30; refine (HQu.out _ hL15 _ (.inl rfl)).mono ?_; rintro e w16 ⟨a16, c16, rfl, hr16, hb16⟩)
                          | (go_at_call 16; refine (HSB.out _ _ _ (hr16.below hb17) hr17).mono ?_; rintro e w18 ⟨rfl, hb18⟩; have hL18 := ((hL15.onF hb16).onF hb17).onF hb18)
                          | (go_at_call 26; refine (HMk.out _ hL18 _ (.inr rfl)).mono ?_; rintro e w' ⟨ya, yb, rfl, hyy, hw'⟩; rw [hw']; obtain ⟨o1, o2⟩ := mk_eq hxx.out hyy.out; rw [cmp_eq rfl] at o2)
                          | (go_at_call 26; refine (HMk.out _ hL18 _ (.inl rfl)).mono ?_; rintro e w' ⟨xa, xb, rfl, hxx, hw'⟩; rw [hw'])
                          | (go_at_call 11; refine (awake_p _).mono ?_; rintro e wf ⟨rfl, hbf⟩; have hbe := chainB hL18.below hbf))
                        go_ret
                        exact ⟨rfl, hbe⟩
      go_loopw [11, 12, 13, 14] (fun s11 _ _ _ wr => ∃ (i : Nat) (S : Vs), s11 = .int .i64 i ∧ i ≤ 5 ∧ i ≤ n ∧ Hid (L2 w wr w.heap.size U S S (fun k => (Value.slice a9 N c9).ownBlock = some k) ∧ RowK wr w2.heap.size (.slice a9 N c9) M)) (fun s11 _ _ _ _ => 5 - (intOf s11).toNat)
      case atStart => exact ⟨0, _, rfl, by omega, by omega, HL.out⟩
      case round =>
        rename World => W5
        clear HL
        obtain ⟨i, S, rfl, hi5, hin, HL⟩ := hrel
        by_cases hlt : i < n ∧ i < 5
        · obtain ⟨hltn, hlt5⟩ := hlt
          have hz1 : (i : Int) < (n : Int) := by omega
          have hz2 : (i : Int) < 5 := by omega
          obtain ⟨x, hx⟩ : ∃ x, keys[i]? = some x := ⟨_, List.getElem?_eq_getElem (by rw [H.out.2]; exact hltn)⟩
          have HX : Hid (∀ W, Below w.heap.size w W → ∃ g off, a = some ⟨g, off, none⟩ ∧ W.cell? ⟨g, off + i * 2, none⟩ = some (.int .i64 x.d) ∧ W.cell? ⟨g, off + i * 2 + 1, none⟩ = some (.string x.nm)) := fun W hb => by
            obtain ⟨g, off, e, -, h0, h1⟩ := (H.out.1.below hb).key hx
            exact ⟨g, off, e, h0, h1⟩
          obtain ⟨g0, off0, ha0, y0, y1⟩ := HX.out W5 HL.out.1.below
          subst ha0
          have HX2 : Hid (∀ W, Below w.heap.size w W → W.cell? ⟨g0, off0 + i * 2, none⟩ = some (.int .i64 x.d) ∧ W.cell? ⟨g0, off0 + i * 2 + 1, none⟩ = some (.string x.nm)) := fun W hb => by
            obtain ⟨g, off, e, h0, h1⟩ := HX.out W hb
            cases e
            exact ⟨h0, h1⟩
          have hg1 := l2_grant HL.out.1 x ver
          unfold Ky.agg at hg1
          clear hx HX
          go_upto_region 14 with (go_at_call 17; refine hg1.mono ?_; rintro e w5 ⟨v5, rfl, Bq5, hc5⟩; obtain ⟨a5, c5, D, rfl, hDl, hK5⟩ := KA.mk1 HL.out.2 HM2.out HL.out.1.below.size hc5; obtain ⟨nD, hnD⟩ : ∃ k, D.length = k := ⟨_, rfl⟩; rw [hnD] at hDl ⊢; have HDl : Hid (nD = (S.grant x ver).2.length) := hDl; have HnD : Hid (D.length = nD) := hnD; clear hnD hDl)
          obtain ⟨z0, z1⟩ := HX2.out w5 hK5.lv.below
          have hnD1 : nD ≤ 1000 := by
            rw [HDl.out]
            have := grant_one' S x ver
            omega
          have hg2 := l2_grant hK5.lv.symm x ver
          unfold Ky.agg at hg2
          have HK5 : Hid (KA w w5 w.heap.size U (S.grant x ver).1 S w2.heap.size Bq5 w5.heap.size (.slice a9 N c9) M a5 D ∧ D.length = nD) := ⟨hK5, HnD.out⟩
          clear hg1 hc5 hK5 HDl HnD y0 y1
          go_upto_region 16 with (go_at_call 17; refine hg2.mono ?_; rintro e w6 ⟨v6, rfl, Bq6, hc6⟩; obtain ⟨a6, c6, h6⟩ := hc6.rt.form; subst h6)
          obtain ⟨S1, hS1⟩ : ∃ s, (S.grant x ver).1 = s := ⟨_, rfl⟩
          have HK6 : Hid (KA w w6 w.heap.size U S1 S1 w2.heap.size Bq5 w5.heap.size (.slice a9 N c9) M a5 D ∧ D.length = nD) := by
            have := HK5.out.1.mk2 hc6
            rw [hS1] at this
            exact ⟨this, HK5.out.2⟩
          have HnD : Hid (D.length = nD) := HK6.out.2
          clear hg2 hc6 HK5 hS1 z0 z1 HX2 HL
          go_wp2
          go_loopw [13, 14] (fun sk _ wr => ∃ k : Nat, sk = .int .i64 k ∧ k ≤ nD ∧ Hid (KA w wr w.heap.size U S1 S1 w2.heap.size Bq5 w5.heap.size (.slice a9 N c9) M (a5) D)) (fun sk _ _ => nD - (intOf sk).toNat)
          case atStart => exact ⟨0, rfl, Nat.zero_le _, HK6.out.1⟩
          case round =>
            rename World => Va
            clear HK6
            obtain ⟨k, rfl, hkn, HKa⟩ := hrel
            by_cases hlk : k < nD
            · have hlkz : (k : Int) < (nD : Int) := by omega
              obtain ⟨⟨xa, m, xc⟩, hxD⟩ : ∃ x, D[k]? = some x := ⟨_, List.getElem?_eq_getElem (by rw [HnD.out]; exact hlk)⟩
              have HXD : Hid (D[k]? = some (xa, m, xc)) := hxD
              obtain ⟨g5, u0, u1, ha, hFg, x0, x1, x3, xf⟩ := HKa.out.sh.at hxD
              subst ha
              have hm13 : m ≤ 10000000000000 := (HKa.out.sh.each _ (List.mem_of_getElem? hxD)).1
              have HFg : Hid (_ ∧ _) := hFg
              have xf0 := xf (k * 4)
              have xf1 := xf (k * 4 + 1)
              clear hxD xf hFg
              go_wp2
              go_loopw [14] (fun sj wr => ∃ j : Nat, sj = .int .i64 j ∧ j ≤ m ∧ Hid (KA w wr w.heap.size U S1 S1 w2.heap.size Bq5 w5.heap.size (.slice a9 N c9) M (some ⟨g5, 0, none⟩) D)) (fun sj _ => m - (intOf sj).toNat)
              case atStart => exact ⟨0, rfl, Nat.zero_le _, HKa.out.fld HFg.out (r := 1) (by omega)⟩
              case round =>
                rename World => Vb
                clear HKa x0 x1 x3 xf0 xf1
                obtain ⟨j, rfl, hjm, HKb⟩ := hrel
                obtain ⟨g', u0, u1, ha, -, x0, x1, x3, xf⟩ := HKb.out.sh.at HXD.out
                cases ha
                by_cases hlj : j < m
                · have hljz : (j : Int) < (m : Int) := by omega
                  obtain ⟨gk, p0, p1, ck, hxa, hFk, c0, c1, cf, hck⟩ := (HKb.out.sh.each _ (List.mem_of_getElem? HXD.out)).2.at hlj
                  simp only at hxa
                  subst hxa
                  have cf0 := cf (j * 2)
                  have cf1 := cf (j * 2 + 1)
                  have HCk : Hid (_ ∧ _) := ⟨hFk, hck⟩
                  clear hck cf xf hFk
                  go_wp2
                  exact ⟨⟨j + 1, by simp, by omega, HKb.out.key (x := ⟨77, ⟨#[]⟩⟩) HCk.out.1 HCk.out.2⟩, by simp [intOf]; omega⟩
                · obtain rfl : j = m := by omega
                  have hljz : ¬ (j : Int) < (j : Int) := by omega
                  have xf0 := xf (k * 4)
                  clear xf
                  go_wp2
                  exact ⟨⟨k + 1, by simp, by omega, HKb.out⟩, by simp [intOf]; omega⟩
            · obtain rfl : k = nD := by omega
              have hlkz : ¬ (k : Int) < (k : Int) := by omega
              go_wp2
              exact ⟨⟨i + 1, S1, by simp, by omega, by omega, HKa.out.shut⟩, by simp [intOf]; omega⟩
        · by_cases hltn : i < n
          · have hz1 : (i : Int) < (n : Int) := by omega
            have hz2 : ¬ (i : Int) < 5 := by omega
            clear hlt
            go_wp2
            exact key _ S HL.out.1 HL.out.2 ..
          · have hz1 : ¬ (i : Int) < (n : Int) := by omega
            clear hlt
            go_wp2
            exact key _ S HL.out.1 HL.out.2 ..
end Go.Proofs.Ytaofhjckliobpaa
