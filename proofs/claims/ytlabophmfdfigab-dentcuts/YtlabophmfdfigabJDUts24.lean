/- DentCuts. -/
import Derived.Test.YtlabophmfdfigabJDUts23
namespace Go.Proofs.Ytlabophmfdfigab
section
open Go.RowKit
attribute [local go_sem ↓ high] loadEn storeEn builden
attribute [local go_sem high] eqK neqK guardK
theorem filt_take {L : List En} {j : Nat} {e : En} (f : En → Bool) (h : L[j]? = some e) : (L.take (j + 1)).filter f = (L.take j).filter f ++ if f e then [e] else [] := by
  rw [List.take_add_one, h, List.filter_append]
  congr 1
  cases hf : f e <;> simp [hf]
def hitA (ks : List Ky) (e : En) : Bool := ks.any fun k => hitK k e
theorem hitA_take {ks : List Ky} {j : Nat} {k : Ky} (h : ks[j]? = some k) (e : En) : hitA (ks.take (j + 1)) e = (hitA (ks.take j) e || hitK k e) := by
  unfold hitA
  rw [List.take_add_one, h, List.any_append]
  simp
theorem hitK_or (k : Ky) (e : En) : hitK k e = (decide (k.d = e.d ∧ k.nm = e.nm) || (k.nm.toList == []) && (k.d == e.d)) := by
  have h1 : (k.nm.toList == []) = decide (k.nm = nob) := by
    rw [Bool.eq_iff_iff, beq_iff_eq, decide_eq_true_iff, ← nob_list]
    exact bytes_eq
  rw [h1]
  unfold hitK
  rw [Bool.eq_iff_iff]
  simp only [Bool.and_eq_true, Bool.or_eq_true, decide_eq_true_iff, beq_iff_eq]
  constructor
  · rintro ⟨h, h2 | h2⟩
    · exact .inr ⟨h2, h.symm⟩
    · exact .inl ⟨h.symm, h2.symm⟩
  · rintro (⟨h, h2⟩ | ⟨h, h2⟩)
    · exact ⟨h.symm, .inr h2.symm⟩
    · exact ⟨h2.symm, .inl h⟩
theorem cut_L (ks : List Ky) : ∀ (s : Cs), (s.cut ks).L = s.L.filter fun e => !hitA ks e := by
  unfold Cs.cut
  induction ks with
  | nil =>
    intro s
    exact (List.filter_eq_self.2 fun _ _ => rfl).symm
  | cons k ks ih =>
    intro s
    rw [List.foldl_cons, ih]
    show ((s.L.filter _).filter _) = _
    rw [List.filter_filter]
    congr 1
    funext e
    unfold hitA
    rw [List.any_cons, Bool.not_or, Bool.and_comm]
set_option maxRecDepth 100000 in
set_option maxHeartbeats 16000000 in
theorem walk_DentCuts (a : Option Addr) (cap : Nat) (ops : List DOp) (v : Value) (ks : List Ky) (w : World) (row : RowD w a ops) (hlen : ops.length * 112 ≤ 140737488351232) (hks : ArgK w v ks) (_ : ∀ a n c, v = .slice a n c → n ≤ c) :
    Calls Try.prog 3 #[.slice a ops.length cap, v] w fun x w' => x = .returned (.bool true) ∧ Below w.heap.size w w' := by
  obtain ⟨n, hn⟩ : ∃ n, ops.length = n := ⟨_, rfl⟩
  have hnb : n < 1300000000000 := by omega
  obtain ⟨S, hS⟩ : ∃ S, runS ops = S := ⟨_, rfl⟩
  have HO : Hid (Calls Try.prog 9 #[.slice a n cap] w fun x w2 => ∃ p q, x = .returned (.tuple #[.pointer (some ⟨p, 0, none⟩), .pointer (some ⟨q, 0, none⟩), .bool true]) ∧ Ld w w2 p S n (fun _ => False)) := by
    rw [← hn, ← hS]
    refine (of_p a cap ops w row (by omega)).mono ?_
    rintro x w2 ⟨p, q, rfl, ht⟩
    exact ⟨p, q, rfl, ht.ld.mono (fun _ hb => hb.elim) (Nat.le_refl _)⟩
  have HA : Hid (∀ w, Calls Try.prog 16 #[] w fun x w' => x = .returned (.bool true) ∧ Below w.heap.size w w') := awake_p
  have hSl : S.L.length ≤ n := by
    rw [← hS, ← hn]; exact (runS_len ops).1
  obtain ⟨ak, ck, hv, hkl, hkc⟩ := hks
  subst hv
  obtain ⟨m2, hm2⟩ : ∃ m, ks.length = m := ⟨_, rfl⟩
  have HKA : Hid (ArgK w (.slice ak m2 ck) ks ∧ ks.length = m2) := by
    rw [← hm2]
    exact ⟨⟨ak, ck, rfl, hkl, hkc⟩, rfl⟩
  have HKC : Hid (∀ j, j < m2 → ∃ k gk ok, ks[j]? = some k ∧ ak = some ⟨gk, ok, none⟩ ∧ ∀ w', Below w.heap.size w w' → w'.cell? ⟨gk, ok + j * 2, none⟩ = some (.int .i64 k.d) ∧ w'.cell? ⟨gk, ok + j * 2 + 1, none⟩ = some (.string k.nm)) := fun j hj => by
    rcases hkc with h0 | ⟨gk, ok, e1, hg1, hc1⟩
    · rw [h0] at hm2; simp at hm2; omega
    · obtain ⟨k, hk⟩ : ∃ k, ks[j]? = some k := ⟨_, List.getElem?_eq_getElem (by omega)⟩
      refine ⟨k, gk, ok, hk, e1, fun w' hw' => ⟨?_, ?_⟩⟩
      · exact (hw'.cell (p := ⟨gk, ok + j * 2, none⟩) hg1).trans (hc1 (j * 2) _ (kc_get ks j k hk).1)
      · exact (hw'.cell (p := ⟨gk, ok + j * 2 + 1, none⟩) hg1).trans (hc1 (j * 2 + 1) _ (kc_get ks j k hk).2)
  rw [hn, hm2]
  rw [hm2] at hkl
  have hkb : m2 < 6000000000000 := by omega
  clear row hlen hS hkc hkl hm2
  go_enter Try.func3, Try.ntmps3
  go_wp2_with (first
    | (go_at_call 10; refine (ld_entries H2.out (by omega)).mono ?_; rintro x w3 ⟨v3, rfl, hr3, hb⟩; have H3 : Hid (Ld w w3 p S n (fun _ => False) ∧ Row7 w3 w2.heap.size v3 S.L) := ⟨H2.out.on' hb, hr3⟩; clear hr3 hb)
    | (go_at_call 9; refine HO.out.mono ?_; rintro x w2 ⟨p, q, rfl, hl⟩; have H2 : Hid (Ld w w2 p S n (fun _ => False)) := hl; clear hl))
  obtain ⟨a3, c3, hv3⟩ := owns_len H3.out.2
  subst hv3
  obtain ⟨m, hm⟩ : ∃ m, S.L.length = m := ⟨_, rfl⟩
  have HM : Hid (S.L.length = m) := hm
  have H5 : Hid (Ld w w3 p S n (fun _ => False) ∧ Row7 w3 w2.heap.size (.slice a3 m c3) S.L) := by
    rw [← hm]
    exact ⟨H3.out.1, H3.out.2⟩
  rw [hm] at hSl ⊢
  clear H2 H3 HO hm
  have onee := enOne_of
  go_loopw [8, 10, 11, 12] (fun s8 s10 _ _ wj => ∃ j : Nat, j ≤ m ∧ s10 = .int .i64 j ∧ ∃ a2 n2 c2, s8 = .slice a2 n2 c2 ∧ Hid (Row7 wj w3.heap.size (.slice a2 n2 c2) ((S.L.take j).filter fun e => !hitA ks e) ∧ Below w3.heap.size w3 wj)) (fun _ s10 _ _ _ => m - (intOf s10).toNat)
  case atStart => exact ⟨0, Nat.zero_le _, rfl, _, _, _, rfl, World.ownsRow_nil _ _ _ _, Below.refl _ _⟩
  case round =>
    obtain ⟨j, hj, rfl, a2, n2, c2, rfl, HJ⟩ := hrel
    by_cases hlj : j < m
    · obtain ⟨hrow, hbj⟩ := HJ.out
      obtain ⟨e, he⟩ : ∃ e, S.L[j]? = some e := ⟨_, List.getElem?_eq_getElem (by rw [HM.out]; exact hlj)⟩
      obtain ⟨gl, rfl, -, -, hgl2, hc, -⟩ := owns_entry (H5.out.2.below hbj) he
      have hljz : (j : Int) < (m : Int) := by omega
      have hw1 : IntKind.i64.wrap ((j : Int) + 1) = ((j + 1 : Nat) : Int) := by
        rw [show ((j + 1 : Nat) : Int) = (j : Int) + 1 by omega]; exact IntWalk.i64_in _ (by omega)
      have hcl : ((S.L.take j).filter fun e => !hitA ks e).length ≤ j := Nat.le_trans (List.length_filter_le _ _) (by rw [List.length_take]; omega)
      have hct := filt_take (fun e => !hitA ks e) he
      have HCe : Hid (∀ W, Below w3.heap.size w3 W → Cells7 W gl (j * 7) e) := fun W hW => by
        obtain ⟨g', hg', -, -, -, hc', -⟩ := owns_entry (H5.out.2.below hW) he
        cases hg'; exact hc'
      have HKp : Hid (∀ W, Below wr.heap.size wr W → hitA ks e = false → ∃ a6 N6 c6 Z, (∀ ty, (Builtin.append_ #[28, 28] ty #[.slice a2 n2 c2, .slice (some ⟨W.heap.size, 0, none⟩) 1 1]).run Try.prog (W.alloc (.cells e.vals.toArray 35)) = .ok (.slice a6 N6 c6) Z) ∧ Hid (Row7 Z w3.heap.size (.slice a6 N6 c6) ((S.L.take (j + 1)).filter fun e => !hitA ks e) ∧ Below w3.heap.size w3 Z) ∧ (enLd (.pointer (some ⟨gl, j * 7, none⟩))).run Try.prog W = .ok e.agg W) := fun W bb hk => by
        obtain ⟨a6, N6, c6, Z, r6, row6, o6⟩ := keep_more (X := W) e (owns_below hrow bb) (chainB hbj bb).size (by omega)
        refine ⟨a6, N6, c6, Z, r6, ⟨by rw [hct, if_pos (by rw [hk]; rfl)]; exact row6, ?_⟩, enLd_at (hc.below bb)⟩
        exact o6.below (chainB hbj bb) (chainB hbj bb).size fun b hb' => (World.ownsRow.lt hrow b hb').1
      have HDr : Hid (∀ W, Below wr.heap.size wr W → hitA ks e = true → Row7 W w3.heap.size (.slice a2 n2 c2) ((S.L.take (j + 1)).filter fun e => !hitA ks e) ∧ Below w3.heap.size w3 W) := fun W bb hk => by
        exact ⟨by rw [hct, if_neg (by rw [hk]; decide), List.append_nil]; exact owns_below hrow bb, chainB hbj bb⟩
      obtain ⟨w7, hw7⟩ : ∃ w7, w7 = wr := ⟨_, rfl⟩
      subst hw7
      have HBj : Hid (Below w3.heap.size w3 w7) := hbj
      have hb7 : Below w7.heap.size w7 w7 := Below.refl _ _
      clear HJ hrow hc hcl hct he hbj
      go_wp2
      go_loopw [11, 12] (fun s11 s12 wk => ∃ k : Nat, k ≤ m2 ∧ s12 = .int .i64 k ∧ ∃ b, s11 = .bool b ∧ Hid (b = hitA (ks.take k) e ∧ Below w7.heap.size w7 wk)) (fun _ s12 _ => m2 - (intOf s12).toNat)
      case atStart => exact ⟨0, Nat.zero_le _, rfl, false, rfl, rfl, hb7⟩
      case round =>
        obtain ⟨k, hk, rfl, b, rfl, HK⟩ := hrel
        by_cases hlk : k < m2
        · obtain ⟨eb, hbk⟩ := HK.out
          obtain ⟨ky, gk, ok, hky, rfl, hkcell⟩ := HKC.out k hlk
          have hw := chainB H5.out.1.below (chainB HBj.out hbk)
          obtain ⟨y0, y1⟩ := hkcell wr hw
          have hce := HCe.out _ (chainB HBj.out hbk)
          have z0 := hce.c0
          have z1 := hce.c1
          have hlkz : (k : Int) < (m2 : Int) := by omega
          have hw4 : IntKind.i64.wrap ((k : Int) + 1) = ((k + 1 : Nat) : Int) := by
            rw [show ((k + 1 : Nat) : Int) = (k : Int) + 1 by omega]; exact IntWalk.i64_in _ (by omega)
          have hmt := hitA_take hky e
          rw [← eb, hitK_or] at hmt
          have HB7 : Hid (Below w7.heap.size w7 wr) := hbk
          obtain ⟨P1, hP1⟩ : ∃ P, decide (ky.d = e.d ∧ ky.nm = e.nm) = P := ⟨_, rfl⟩
          obtain ⟨P2, hP2⟩ : ∃ P, (ky.nm.toList == []) = P := ⟨_, rfl⟩
          obtain ⟨P3, hP3⟩ : ∃ P, (ky.d == e.d) = P := ⟨_, rfl⟩
          rw [hP1, hP2, hP3] at hmt
          clear HK eb hbk hky hce hw hkcell HKp HDr HCe
          cases b with
          | true =>
            have HT : Hid (true = hitA (ks.take (k + 1)) e) := by rw [Bool.true_or] at hmt; exact hmt.symm
            clear hmt hP1 hP2 hP3
            go_upto_region 13 with fail
            go_quiet (fail)
            go_wp2
            go_roundw
            case rel => exact ⟨k + 1, by omega, rfl, true, rfl, HT.out, below_drewN HB7.out _⟩
            case measure => simp [intOf]; omega
          | false =>
            rw [Bool.false_or] at hmt
            cases P1 with
            | true =>
              have HT : Hid (true = hitA (ks.take (k + 1)) e) := by rw [Bool.true_or] at hmt; exact hmt.symm
              clear hmt hP2 hP3
              go_upto_region 13 with fail
              go_quiet (fail)
              go_wp2
              go_roundw
              case rel => exact ⟨k + 1, by omega, rfl, true, rfl, HT.out, below_drewN HB7.out _⟩
              case measure => simp [intOf]; omega
            | false =>
              rw [Bool.false_or] at hmt
              cases P2 with
              | true =>
                rw [Bool.true_and] at hmt
                have HT : Hid (P3 = hitA (ks.take (k + 1)) e) := hmt.symm
                clear hmt
                go_upto_region 13 with fail
                go_quiet (fail)
                go_wp2
                go_roundw
                case rel => exact ⟨k + 1, by omega, rfl, P3, rfl, HT.out, below_drewN HB7.out _⟩
                case measure => simp [intOf]; omega
              | false =>
                rw [Bool.false_and] at hmt
                have HT : Hid (false = hitA (ks.take (k + 1)) e) := hmt.symm
                clear hmt hP3
                go_upto_region 13 with fail
                go_quiet (fail)
                go_wp2
                go_roundw
                case rel => exact ⟨k + 1, by omega, rfl, false, rfl, HT.out, below_drewN HB7.out _⟩
                case measure => simp [intOf]; omega
        · obtain rfl : k = m2 := by omega
          have hlkz : ¬ (k : Int) < (k : Int) := by omega
          obtain ⟨eb, hbk⟩ := HK.out
          rw [List.take_of_length_le (by rw [HKA.out.2]; exact Nat.le_refl _)] at eb
          cases b with
          | true =>
            have H6 : Hid _ := HDr.out _ hbk eb.symm
            clear HK hbk eb HCe HKp HDr
            go_wp2
            go_roundw
            case rel => exact ⟨j + 1, by omega, rfl, _, _, _, rfl, H6⟩
            case measure => simp [intOf]; omega
          | false =>
            obtain ⟨a6, N6, c6, Z, r6, H6, ld6⟩ := HKp.out _ hbk eb.symm
            clear HK hbk eb HCe HKp HDr
            go_wp2_with (at_builtin; refine wpList_apR rfl (.tmp 73) (.tmp 78) 28 rfl _ _ (.slice a6 N6 c6) Z (by simp [Act.eval]) (by simp [Act.eval]) r6 ?_)
            go_roundw
            case rel => exact ⟨j + 1, by omega, rfl, _, _, _, rfl, H6⟩
            case measure => simp [intOf]; omega
    · obtain rfl : j = m := by omega
      have hljz : ¬ (j : Int) < (j : Int) := by omega
      obtain ⟨hrow, hbj⟩ := HJ.out
      rw [List.take_of_length_le (by rw [HM.out]; exact Nat.le_refl _), ← cut_L] at hrow
      obtain ⟨T, hT⟩ : ∃ T, S.cut ks = T := ⟨_, rfl⟩
      rw [hT] at hrow
      have hn2 : n2 = T.L.length := by
        obtain ⟨_, _, hh⟩ := owns_len hrow
        injection hh
      have HC : Hid (Calls Try.prog 12 #[.slice ak m2 ck] wr fun y W2 => ∃ v2, y = .returned v2 ∧ Calls Try.prog 11 #[.pointer (some ⟨p, 0, none⟩), v2] W2 fun y w' => y = .returned (.tuple #[]) ∧ Ld w w' p T n (fun _ => False) ∧ Row7 w' w3.heap.size (.slice a2 n2 c2) T.L) := by
        have L1 := H5.out.1.on hbj
        refine (copyK_any _ ks wr (HKA.out.1.below L1.below)).mono ?_
        rintro y W2 ⟨v2, rfl, hr2, hb2⟩
        refine ⟨v2, rfl, (ld_cut (L1.on hb2) v2 ks (hr2.rd fun g hg e => e.2 (.inr ⟨(World.ownsRow.lt hr2 g hg).1, (World.ownsRow.lt hr2 g hg).2⟩)) (by rw [HKA.out.2]; omega)).mono ?_⟩
        rintro y w' ⟨rfl, hd⟩
        rw [hT] at hd
        exact ⟨rfl, hd.ld.mono (fun _ h => h.elim) (Nat.le_refl _), owns_moved (owns_below hrow hb2) fun b hb => hd.kept b (.inl (.inr ⟨(World.ownsRow.lt hrow b hb).1, (World.ownsRow.lt hrow b hb).2⟩))⟩
      have HWh : Hid (∀ (i : Nat) k, ks[i]? = some k → decide (k.d ∈ T.W) = false) := fun i k hk => by
        rw [decide_eq_false_iff_not, ← hT, cut_W]
        exact fun h => h.2 k (List.mem_of_getElem? hk) rfl
      have hTl : T.L.length ≤ n := by
        rw [← hT]
        exact Nat.le_trans (cut_sub ks S).length_le (by rw [HM.out]; omega)
      rw [← hn2] at hTl
      have HN2 : Hid (n2 = T.L.length) := hn2
      clear HJ hrow hbj hT hn2
      go_wp2_with (first
        | (go_at_call 11; refine hcut.out.mono ?_; rintro y w9 ⟨rfl, hl, hr⟩; have H9 : Hid (Ld w w9 p T n (fun _ => False) ∧ Row7 w9 w3.heap.size (.slice a2 n2 c2) T.L) := ⟨hl, hr⟩; clear hl hr)
        | (go_at_call 12; refine HC.out.mono ?_; rintro y w8 ⟨v2, rfl, hcc⟩; have hcut : Hid (Calls Try.prog 11 #[.pointer (some ⟨p, 0, none⟩), v2] w8 fun y w' => y = .returned (.tuple #[]) ∧ Ld w w' p T n (fun _ => False) ∧ Row7 w' w3.heap.size (.slice a2 n2 c2) T.L) := hcc; clear hcc))
      have hb9 : Below w9.heap.size w9 w9 := Below.refl _ _
      go_loopw [13] (fun s13 wk => ∃ k : Nat, k ≤ m2 ∧ s13 = .int .i64 k ∧ Hid (Below w9.heap.size w9 wk)) (fun s13 _ => m2 - (intOf s13).toNat)
      case atStart => exact ⟨0, Nat.zero_le _, rfl, hb9⟩
      case round =>
        obtain ⟨k, hk, rfl, HK⟩ := hrel
        by_cases hlk : k < m2
        · obtain ⟨ky, gk, ok, hky, rfl, hkcell⟩ := HKC.out k hlk
          obtain ⟨y0, -⟩ := hkcell wr (chainB H9.out.1.below HK.out)
          have hlkz : (k : Int) < (m2 : Int) := by omega
          have hw4 : IntKind.i64.wrap ((k : Int) + 1) = ((k + 1 : Nat) : Int) := by
            rw [show ((k + 1 : Nat) : Int) = (k : Int) + 1 by omega]; exact IntWalk.i64_in _ (by omega)
          have HQ : Hid (Calls Try.prog 13 #[.pointer (some ⟨p, 0, none⟩), .int .i64 ky.d] wr fun x w' => x = .returned (.bool false) ∧ Below w9.heap.size w9 w') := by
            refine (ld_whole (H9.out.1.on' HK.out) ky.d).mono ?_
            rintro x w' ⟨rfl, hb⟩
            exact ⟨by rw [HWh.out k ky hky], chainB HK.out hb⟩
          clear hky hkcell HK
          go_wp2_with (go_at_call 13; refine HQ.out.mono ?_; rintro x wB ⟨rfl, hb⟩; have HB : Hid (Below w9.heap.size w9 wB) := hb; clear hb)
          exact ⟨⟨k + 1, by omega, by simp, HB⟩, by simp [intOf]; omega⟩
        · have hlkz : ¬ (k : Int) < (m2 : Int) := by omega
          have HE : Hid (Ld w wr p T n (fun _ => False) ∧ Row7 wr w3.heap.size (.slice a2 n2 c2) T.L) := ⟨H9.out.1.on' HK.out, H9.out.2.below HK.out⟩
          have HLn : Hid (∀ W, Ld w W p T n (fun _ => False) → Calls Try.prog 15 #[.pointer (some ⟨p, 0, none⟩)] W fun x w' => x = .returned (.int .i64 n2) ∧ Below w.heap.size w w') := fun W hW => by
            refine (ld_len hW (by omega)).mono ?_
            rintro x w' ⟨rfl, hb⟩
            exact ⟨by rw [HN2.out], chainB hW.below hb⟩
          clear HK
          go_wp2_with (first
            | (go_at_call 16; refine (HA.out _).mono ?_; rintro x wD ⟨rfl, hb⟩; have HD : Hid (Below w.heap.size w wD) := chainB HC4.out hb; clear hb)
            | (go_at_call 15; refine (HLn.out _ HB2.out).mono ?_; rintro x wC ⟨rfl, hb⟩; have HC4 : Hid (Below w.heap.size w wC) := hb; clear hb)
            | (go_at_call 14; refine (sameE_yes _ _ _ _ _ _ HB1.out.2.1 HB1.out.2.2 (by have := HN2.out; omega)).mono ?_; rintro x wB ⟨rfl, hb⟩; have HB2 : Hid (Ld w wB p T n (fun _ => False)) := HB1.out.1.on' hb; clear hb)
            | (go_at_call 10; refine (ld_entries HE.out.1 (by omega)).mono ?_; rintro x wA ⟨v9, rfl, hr9, hb⟩; have HB1 : Hid (Ld w wA p T n (fun _ => False) ∧ Row7 wA wr.heap.size v9 T.L ∧ Row7 wA w3.heap.size (.slice a2 n2 c2) T.L) := ⟨HE.out.1.on' hb, hr9, HE.out.2.below hb⟩; clear hr9 hb))
          go_ret
          exact ⟨rfl, HD.out⟩
end
end Go.Proofs.Ytlabophmfdfigab
