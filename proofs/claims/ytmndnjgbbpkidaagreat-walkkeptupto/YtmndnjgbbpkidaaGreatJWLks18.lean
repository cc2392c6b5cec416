/- The document's cache: Evict, Cut. -/
import Derived.Test.YtmndnjgbbpkidaaGreatJWLks17
namespace Go.Proofs.YtmndnjgbbpkidaaGreat
section
open Go.RowKit
attribute [local go_sem ↓ high] loadEn storeEn builden
attribute [local go_sem high] eqK neqK guardK

set_option maxRecDepth 100000 in
set_option maxHeartbeats 4000000 in
theorem revict_d (B q : Nat) (k : Kc) (s : Cs) (ky : Ky) (w : World) (h : IsK w B q k s) (hB : B ≤ w.heap.size) (hk : KeysOk s.L) (hl : s.L.length ≤ 1400000000000) (hlw : s.W.length ≤ 1400000000000) : Calls Tryz.prog 30 #[.pointer (some ⟨q, 0, none⟩), .agg #[.int .i64 ky.d, .string ky.nm]] w fun x w' => x = .returned (.bool (getL s.L ky).isSome) ∧ ∃ k', Afk w w' B q k k' (s.evict ky) := by
  obtain ⟨W1, hW1⟩ : ∃ W, w.alloc (.cells #[.int .i64 ky.d, .string ky.nm] 29) = W := ⟨_, rfl⟩
  have b1 := boxO hW1
  have box : ∀ W : World, W.heap[w.heap.size]? = W1.heap[w.heap.size]? → W.cell? ⟨w.heap.size, 0, none⟩ = some (.int .i64 ky.d) ∧ W.cell? ⟨w.heap.size, 1, none⟩ = some (.string ky.nm) := fun W hW => ⟨by rw [cell_of (hW.trans b1.1)]; rfl, by rw [cell_of (hW.trans b1.1)]; rfl⟩
  have x0 := (box W1 rfl).1
  have x1 := (box W1 rfl).2
  have h1 := h.below b1.2.1
  have HA : Hid (Calls Tryz.prog 54 #[.pointer (some ⟨q, 0, none⟩), .agg #[.int .i64 ky.d, .string ky.nm]] W1 fun x w' => x = .returned (.int .i64 (atV s.L ky.d ky.nm)) ∧ Below W1.heap.size W1 w') := at_d B q k s ky W1 h1 (by omega)
  rcases at_cases s.L ky with ⟨hg, hat⟩ | ⟨i, e, hg, hat, hi, hout⟩
  · rw [hat] at HA
    have HE : Hid (∀ W, Below W1.heap.size W1 W → ∃ k', Afk w W B q k k' (s.evict ky)) := fun W hW => ⟨k, by unfold Cs.evict; rw [hg]; exact Afk.refl h (chainB b1.2.1 hW)⟩
    rw [hg]
    clear h h1 b1 hk hg hat box
    go_enter Tryz.func30, Tryz.ntmps30
    go_wp2_with (go_at_call 54; refine HA.out.mono ?_; rintro x W2 ⟨rfl, hb⟩; have HB2 : Hid (Below W1.heap.size W1 W2) := hb; clear hb)
    go_ret
    exact ⟨rfl, HE.out _ HB2.out⟩
  · rw [hat] at HA
    have hin : i < s.L.length := (List.getElem?_eq_some_iff.1 hi).1
    have hev : s.evict ky = ⟨outL s.L ky, if e.neg then s.W else partW s.W ky.d⟩ := by unfold Cs.evict; rw [hg]
    rw [hev, hg]
    obtain ⟨vl, vw⟩ := k
    obtain ⟨a0, cap0, hv0⟩ := owns_len h.rowL
    simp only at hv0
    subst hv0
    obtain ⟨n0, hn0⟩ : ∃ n, s.L.length = n := ⟨_, rfl⟩
    have HC : Hid (∀ W, Below W1.heap.size W1 W → ∃ g, a0 = some ⟨g, 0, none⟩ ∧ W.cell? ⟨q, 0, none⟩ = some (.slice a0 n0 cap0) ∧ W.cell? ⟨g, i * 7 + 2, none⟩ = some (.bool e.neg)) := fun W hW => by
      have hh := h1.below hW
      obtain ⟨g, hg1, -, -, -, hc, -⟩ := owns_entry hh.rowL hi
      exact ⟨g, hg1, by rw [← hn0]; exact hh.cells.1, hc.c2⟩
    have nbk : ¬ Kc.blk ⟨.slice a0 s.L.length cap0, vw⟩ q w.heap.size := fun hc => by have := (h.at hc).2; omega
    have HO : Hid (∀ W, Below W1.heap.size W1 W → Calls Tryz.prog 55 #[.pointer (some ⟨q, 0, none⟩), .int .i64 i] W fun x X => x = .returned (.tuple #[]) ∧ X.cell? ⟨w.heap.size, 0, none⟩ = some (.int .i64 ky.d) ∧ Hid (∃ k2, Afk w X B q ⟨.slice a0 n0 cap0, vw⟩ k2 ⟨outL s.L ky, s.W⟩)) := fun W hW => by
      refine (out_d B q _ s i _ (h1.below hW) (Nat.le_trans hB (chainB b1.2.1 hW).size) hin (by omega)).mono ?_
      rintro x X ⟨rfl, k2, ha⟩
      rw [← hout hk] at ha
      refine ⟨rfl, (box X ((ha.only.block _ (by have := hW.size; omega) nbk).trans (hW.block _ (by omega)))).1, k2, ?_⟩
      rw [← hn0]
      exact (Afk.refl h (chainB b1.2.1 hW)).trans ha
    have HP : Hid (∀ X k2, Afk w X B q ⟨.slice a0 n0 cap0, vw⟩ k2 ⟨outL s.L ky, s.W⟩ → Calls Tryz.prog 57 #[.pointer (some ⟨q, 0, none⟩), .int .i64 ky.d] X fun x w' => x = .returned (.tuple #[]) ∧ Hid (∃ k', Afk w w' B q ⟨.slice a0 n0 cap0, vw⟩ k' ⟨outL s.L ky, partW s.W ky.d⟩)) := fun X k2 ha => by
      refine (part_d B q k2 _ ky.d X ha.is (Nat.le_trans hB ha.only.size) hlw).mono ?_
      rintro x w' ⟨rfl, k3, hb⟩
      exact ⟨rfl, k3, ha.trans hb⟩
    have z0 : ¬ (i : Int) < 0 := by omega
    have z1 : (i : Int) < (n0 : Int) := by omega
    have z2 : (0 : Int) ≤ (i : Int) := by omega
    rw [hn0]
    clear h h1 b1 hk hg hat hi hout hin hn0 box nbk
    cases hneg : e.neg with
    | true =>
      rw [hneg] at HC
      rw [if_pos rfl]
      go_enter Tryz.func30, Tryz.ntmps30
      go_wp2_with (first
        | (go_at_call 55; refine (HO.out _ HB2.out).mono ?_; rintro x X ⟨rfl, t0, HF⟩)
        | (go_at_call 54; refine HA.out.mono ?_; rintro x W2 ⟨rfl, hb⟩; have HB2 : Hid (Below W1.heap.size W1 W2) := hb; obtain ⟨g, rfl, y0, y1⟩ := HC.out W2 hb; clear hb))
      go_ret
      exact ⟨rfl, HF.out⟩
    | false =>
      rw [hneg] at HC
      rw [if_neg (by decide)]
      go_enter Tryz.func30, Tryz.ntmps30
      go_wp2_with (first
        | (go_at_call 57; obtain ⟨k2, hk2⟩ := HF.out; refine (HP.out _ k2 hk2).mono ?_; rintro x X2 ⟨rfl, HF2⟩; clear hk2)
        | (go_at_call 55; refine (HO.out _ HB2.out).mono ?_; rintro x X ⟨rfl, t0, HF⟩)
        | (go_at_call 54; refine HA.out.mono ?_; rintro x W2 ⟨rfl, hb⟩; have HB2 : Hid (Below W1.heap.size W1 W2) := hb; obtain ⟨g, rfl, y0, y1⟩ := HC.out W2 hb; clear hb))
      go_ret
      exact ⟨rfl, HF2.out⟩
theorem hitK_parts (k : Ky) (e : En) : (!hitK k e) = ((e.d != k.d) || (!(k.nm.toList == []) && !decide (e.nm = k.nm))) := by
  unfold hitK
  have h1 : decide (k.nm = nob) = (k.nm.toList == []) := by
    rw [Bool.eq_iff_iff, decide_eq_true_iff, beq_iff_eq, ← nob_list]
    exact bytes_eq.symm
  rw [h1]
  by_cases h2 : e.d = k.d
  · rw [decide_eq_true h2]
    simp [h2]
  · rw [decide_eq_false h2]
    have : (e.d != k.d) = true := by simpa using h2
    rw [this]; simp
theorem cutL_take (L : List En) (k : Ky) (j : Nat) (e : En) (h : L[j]? = some e) : cutEs (L.take (j + 1)) k = cutEs (L.take j) k ++ if (!hitK k e) then [e] else [] := by
  unfold cutEs
  rw [List.take_add_one, h, List.filter_append]
  congr 1
  cases hh : hitK k e <;> simp [hh]
end
section
open Go.RowKit
attribute [local go_sem ↓ high] loadEn storeEn builden
attribute [local go_sem high] eqK neqK guardK

theorem keep_more {X : World} {B : Nat} {v : Value} {l : List En} (e : En) (h : Row7 X B v l) (hB : B ≤ X.heap.size) (hl : l.length + 1 ≤ 1500000000000) : ∃ a6 N6 c6 Z, (∀ ty, (Builtin.append_ #[23, 23] ty #[v, .slice (some ⟨X.heap.size, 0, none⟩) 1 1]).run Tryz.prog (X.alloc (.cells e.vals.toArray 52)) = .ok (.slice a6 N6 c6) Z) ∧ Row7 Z B (.slice a6 N6 c6) (l ++ [e]) ∧ Only (fun b => v.ownBlock = some b) X Z := by
  have bY := below_alloc X (.cells e.vals.toArray 52)
  obtain ⟨v6, Z, r6, row6, o6, p6⟩ := appE (w := X.alloc (.cells e.vals.toArray 52)) (B := B) (v := v) (l := l) (l2 := [e]) (ad := ⟨X.heap.size, 0, none⟩) (c := 1) (owns_below h bY) (by
    have : ec [e] = e.vals := by simp [ec]
    rw [this]
    exact one_atG (w := X)) (Nat.le_trans hB bY.size) (by simp only [List.length_cons, List.length_nil]; omega)
  obtain ⟨a6, c6, hv6⟩ := owns_len row6
  subst hv6
  exact ⟨a6, _, c6, Z, r6, row6, (Only.of bY).trans o6⟩
set_option maxRecDepth 100000 in
set_option maxHeartbeats 16000000 in
theorem rcut_d (B q : Nat) (k : Kc) (s : Cs) (v : Value) (ks : List Ky) (w : World) (h : IsK w B q k s) (hB : B ≤ w.heap.size) (hks : RdK w v ks (k.blk q)) (hl : s.L.length ≤ 1400000000000) (hlw : s.W.length ≤ 1400000000000) (hkl : ks.length ≤ 100000000000000) : Calls Tryz.prog 26 #[.pointer (some ⟨q, 0, none⟩), v] w fun x w' => x = .returned (.tuple #[]) ∧ ∃ k', Afk w w' B q k k' (s.cut ks) := by
  obtain ⟨a, cap, rfl, hks⟩ := hks
  obtain ⟨n, hn⟩ : ∃ n, ks.length = n := ⟨_, rfl⟩
  rw [hn] at hkl ⊢
  have HK : Hid (∀ (j : Nat), j < n → ∃ ky, ks[j]? = some ky ∧ ∃ g o, a = some ⟨g, o, none⟩ ∧ g < w.heap.size ∧ ∀ (wr : World), wr.heap[g]? = w.heap[g]? → wr.cell? ⟨g, o + j * 2, none⟩ = some (.int .i64 ky.d) ∧ wr.cell? ⟨g, o + j * 2 + 1, none⟩ = some (.string ky.nm)) := fun j hj => by
    obtain ⟨ky, he⟩ : ∃ ky, ks[j]? = some ky := ⟨_, List.getElem?_eq_getElem (by omega)⟩
    obtain ⟨g, o, ha, h0, h1, hg⟩ := hks j ky he
    exact ⟨ky, he, g, o, ha, cellLt h0, fun wr hw => ⟨(World.cell?_of_block hw).trans h0, (World.cell?_of_block hw).trans h1⟩⟩
  have HG : Hid (∀ g o, a = some ⟨g, o, none⟩ → 0 < n → ¬ k.blk q g) := fun g o ha hn0 => by
    obtain ⟨ky, he⟩ : ∃ ky, ks[0]? = some ky := ⟨_, List.getElem?_eq_getElem (by omega)⟩
    obtain ⟨g', o', ha', -, -, hg⟩ := hks 0 ky he
    rw [ha] at ha'
    cases ha'
    exact hg
  have HS : Hid (IsK w B q k s ∧ s.L.length ≤ 1400000000000 ∧ s.W.length ≤ 1400000000000 ∧ ks.take n = ks) := ⟨h, hl, hlw, by rw [← hn]; exact List.take_length⟩
  clear h hks hn hl hlw
  have onee := enOne_of
  go_enter Tryz.func26, Tryz.ntmps26
  go_wp2
  go_loopw [4, 5, 6, 7] (fun s4 _ _ _ wr => ∃ i : Nat, i ≤ n ∧ s4 = .int .i64 i ∧ Hid (∃ ki, Afk w wr B q k ki (s.cut (ks.take i)))) (fun s4 _ _ _ _ => n - (intOf s4).toNat)
  case atStart => exact ⟨0, Nat.zero_le _, rfl, k, Afk.refl HS.out.1 (Below.refl _ _)⟩
  case round =>
    obtain ⟨i, hi, rfl, HR⟩ := hrel
    by_cases hlt : i < n
    · obtain ⟨ky, hky, g, o, rfl, hgl, hcell⟩ := HK.out i hlt
      obtain ⟨ki, hai⟩ := HR.out
      have hltz : (i : Int) < (n : Int) := by omega
      have hgk := HG.out g o rfl (by omega)
      have hcw : ∀ W : World, Below wr.heap.size wr W → W.cell? ⟨g, o + i * 2, none⟩ = some (.int .i64 ky.d) ∧ W.cell? ⟨g, o + i * 2 + 1, none⟩ = some (.string ky.nm) := fun W hW => hcell W ((hW.block g (Nat.lt_of_lt_of_le hgl hai.only.size)).trans (hai.only.block g hgl hgk))
      obtain ⟨vl, vw⟩ := ki
      obtain ⟨al, cl, hvl⟩ := owns_len hai.is.rowL
      simp only at hvl
      subst hvl
      obtain ⟨si, hsi⟩ : ∃ si, s.cut (ks.take i) = si := ⟨_, rfl⟩
      rw [hsi] at hai
      obtain ⟨m, hm⟩ : ∃ m, si.L.length = m := ⟨_, rfl⟩
      have hmb : m ≤ 1400000000000 := by
        rw [← hm, ← hsi]
        exact Nat.le_trans (cut_sub _ s).length_le HS.out.2.1
      have HI : Hid (IsK wr B q ⟨.slice al m cl, vw⟩ si ∧ si.L.length = m ∧ Afk w wr B q k ⟨.slice al m cl, vw⟩ si) := by
        rw [← hm, hsi] at *
        exact ⟨hai.is, rfl, hai⟩
      have HCW : Hid (∀ W : World, Below wr.heap.size wr W → W.cell? ⟨g, o + i * 2, none⟩ = some (.int .i64 ky.d) ∧ W.cell? ⟨g, o + i * 2 + 1, none⟩ = some (.string ky.nm)) := hcw
      have hsn := cut_snoc s ks i ky hky
      rw [hsi] at hsn
      have HT : Hid (s.cut (ks.take (i + 1)) = si.cut1 ky) := hsn
      have HL2 : Hid (si.W.length ≤ 1400000000000) := by
        rw [← hsi]
        refine Nat.le_trans ?_ HS.out.2.2.1
        have : ∀ (l : List Ky) (s : Cs), (s.cut l).W.length ≤ s.W.length := fun l => by
          unfold Cs.cut
          induction l with
          | nil => exact fun s => Nat.le_refl _
          | cons k l ih => exact fun s => Nat.le_trans (ih (s.cut1 k)) (List.length_filter_le _ _)
        exact this _ s
      have HGq : Hid (g ≠ q) := fun e => hgk (.inl e)
      clear hai hm hsi hsn hcw hcell HR hgk hky
      obtain ⟨w7, hw7⟩ : ∃ w7, w7 = wr := ⟨_, rfl⟩
      subst hw7
      have hw1 : IntKind.i64.wrap ((i : Int) + 1) = ((i + 1 : Nat) : Int) := by
        rw [show ((i + 1 : Nat) : Int) = (i : Int) + 1 by omega]; exact IntWalk.i64_in _ (by omega)
      obtain ⟨c0, -, -⟩ := HI.out.1.cells
      simp only at c0
      go_wp2
      go_loopw [5, 6, 7] (fun s5 s6 _ wj => ∃ j : Nat, j ≤ m ∧ s6 = .int .i64 j ∧ ∃ a2 n2 c2, s5 = .slice a2 n2 c2 ∧ Hid (Row7 wj w7.heap.size (.slice a2 n2 c2) (cutEs (si.L.take j) ky) ∧ Below w7.heap.size w7 wj)) (fun _ s6 _ _ => m - (intOf s6).toNat)
      case atStart => exact ⟨0, Nat.zero_le _, rfl, _, _, _, rfl, World.ownsRow_nil _ _ _ _, Below.refl _ _⟩
      case round =>
        obtain ⟨j, hj, rfl, a2, n2, c2, rfl, HJ⟩ := hrel
        obtain ⟨hrow, hbj⟩ := HJ.out
        have hh := HI.out.1.below hbj
        obtain ⟨y0, y1, yf⟩ := hh.cells
        simp only at y0 y1
        by_cases hlj : j < m
        · obtain ⟨e, he⟩ : ∃ e, si.L[j]? = some e := ⟨_, List.getElem?_eq_getElem (by rw [HI.out.2.1]; exact hlj)⟩
          obtain ⟨gl, rfl, -, -, hgl2, hc, -⟩ := owns_entry hh.rowL he
          have e0 := hc.c0
          have e1 := hc.c1
          have hljz : (j : Int) < (m : Int) := by omega
          obtain ⟨W1, hW1⟩ : ∃ W, wr.alloc (.cells #[.int .i64 e.d, .string e.nm] 29) = W := ⟨_, rfl⟩
          have b1 := boxO hW1
          have f0 : W1.cell? ⟨wr.heap.size, 0, none⟩ = some (.int .i64 e.d) := by rw [cell_of b1.1]; rfl
          have f1 : W1.cell? ⟨wr.heap.size, 1, none⟩ = some (.string e.nm) := by rw [cell_of b1.1]; rfl
          obtain ⟨g0, g1⟩ := HCW.out W1 (chainB hbj b1.2.1)
          have hcl : (cutEs (si.L.take j) ky).length ≤ j := Nat.le_trans (List.length_filter_le _ _) (by rw [List.length_take]; omega)
          have hct := cutL_take si.L ky j e he
          have hw2 : IntKind.i64.wrap ((j : Int) + 1) = ((j + 1 : Nat) : Int) := by
            rw [show ((j + 1 : Nat) : Int) = (j : Int) + 1 by omega]; exact IntWalk.i64_in _ (by omega)
          have HKp : Hid (∀ nq, (!hitK ky e) = true → ∃ a6 N6 c6 Z, (∀ ty, (Builtin.append_ #[23, 23] ty #[.slice a2 n2 c2, .slice (some ⟨(W1.drewN nq).heap.size, 0, none⟩) 1 1]).run Tryz.prog ((W1.drewN nq).alloc (.cells e.vals.toArray 52)) = .ok (.slice a6 N6 c6) Z) ∧ Hid (Row7 Z w7.heap.size (.slice a6 N6 c6) (cutEs (si.L.take (j + 1)) ky) ∧ Below w7.heap.size w7 Z) ∧ (enLd (.pointer (some ⟨gl, j * 7, none⟩))).run Tryz.prog (W1.drewN nq) = .ok e.agg (W1.drewN nq)) := fun nq hk => by
            have bb : Below wr.heap.size wr (W1.drewN nq) := below_drewN b1.2.1 nq
            obtain ⟨a6, N6, c6, Z, r6, row6, o6⟩ := keep_more (X := W1.drewN nq) e (owns_below hrow bb) (chainB hbj bb).size (by omega)
            refine ⟨a6, N6, c6, Z, r6, ⟨by rw [hct, if_pos hk]; exact row6, ?_⟩, enLd_at (hc.below bb)⟩
            exact o6.below (chainB hbj bb) (chainB hbj bb).size fun b hb' => (World.ownsRow.lt hrow b hb').1
          have HDr : Hid (∀ nq, (!hitK ky e) = false → Row7 (W1.drewN nq) w7.heap.size (.slice a2 n2 c2) (cutEs (si.L.take (j + 1)) ky) ∧ Below w7.heap.size w7 (W1.drewN nq)) := fun nq hk => by
            have bb : Below wr.heap.size wr (W1.drewN nq) := below_drewN b1.2.1 nq
            exact ⟨by rw [hct, if_neg (by rw [hk]; decide), List.append_nil]; exact owns_below hrow bb, chainB hbj bb⟩
          have c0W : W1.cell? ⟨q, 0, none⟩ = some (.slice (some ⟨gl, 0, none⟩) m cl) := (b1.2.1.cell (cellLt y0)).trans y0
          have hparts := hitK_parts ky e
          obtain ⟨P1, hP1⟩ : ∃ P, (e.d != ky.d) = P := ⟨_, rfl⟩
          obtain ⟨P2, hP2⟩ : ∃ P, (ky.nm.toList == []) = P := ⟨_, rfl⟩
          obtain ⟨P3, hP3⟩ : ∃ P, decide (e.nm = ky.nm) = P := ⟨_, rfl⟩
          have hP3' : (e.nm.toList == ky.nm.toList) = P3 := by
            rw [← hP3, Bool.eq_iff_iff, beq_iff_eq, decide_eq_true_iff]; exact bytes_eq
          have hP1' : (e.d == ky.d) = !P1 := by rw [← hP1]; simp [bne]
          rw [hP1, hP2, hP3] at hparts
          clear HJ hrow hh hc b1 hcl hct hP3 he
          cases P1 with
          | true =>
            rw [Bool.true_or] at hparts
            clear hP2 hP3'
            go_upto_region 8 with fail
            clear hW1
            go_quiet (fail)
            obtain ⟨a6, N6, c6, Z, r6, H6, ld6⟩ := HKp.out nq hparts
            clear HKp HDr hparts
            go_wp2_with (at_builtin; refine wpList_apR rfl (.tmp 57) (.tmp 65) 23 rfl _ _ (.slice a6 N6 c6) Z (by simp [Act.eval]) (by simp [Act.eval]) r6 ?_)
            go_roundw
            case rel => exact ⟨j + 1, by omega, rfl, _, _, _, rfl, H6⟩
            case measure => simp [intOf]; omega
          | false =>
            rw [Bool.false_or] at hparts
            cases P2 with
            | true =>
              have hparts' : (!hitK ky e) = false := hparts
              clear hP3'
              go_upto_region 8 with fail
              clear hW1
              go_quiet (fail)
              have H6 : Hid _ := HDr.out nq hparts
              clear HKp HDr hparts
              go_wp2
              go_roundw
              case rel => exact ⟨j + 1, by omega, rfl, _, _, _, rfl, H6⟩
              case measure => simp [intOf]; omega
            | false =>
              cases P3 with
              | true =>
                have hparts' : (!hitK ky e) = false := hparts
                go_upto_region 8 with fail
                clear hW1
                go_quiet (fail)
                have H6 : Hid _ := HDr.out nq hparts
                clear HKp HDr hparts
                go_wp2
                go_roundw
                case rel => exact ⟨j + 1, by omega, rfl, _, _, _, rfl, H6⟩
                case measure => simp [intOf]; omega
              | false =>
                have hparts' : (!hitK ky e) = true := hparts
                go_upto_region 8 with fail
                clear hW1
                go_quiet (fail)
                obtain ⟨a6, N6, c6, Z, r6, H6, ld6⟩ := HKp.out nq hparts
                clear HKp HDr hparts
                go_wp2_with (at_builtin; refine wpList_apR rfl (.tmp 57) (.tmp 65) 23 rfl _ _ (.slice a6 N6 c6) Z (by simp [Act.eval]) (by simp [Act.eval]) r6 ?_)
                go_roundw
                case rel => exact ⟨j + 1, by omega, rfl, _, _, _, rfl, H6⟩
                case measure => simp [intOf]; omega
        · obtain rfl : j = m := by omega
          have hljz : ¬ (j : Int) < (j : Int) := by omega
          have HP : Hid (Calls Tryz.prog 57 #[.pointer (some ⟨q, 0, none⟩), .int .i64 ky.d] (wr.setCell ⟨q, 0, none⟩ (.slice a2 n2 c2)) fun x w' => x = .returned (.tuple #[]) ∧ Hid (∃ k', Afk w w' B q k k' (s.cut (ks.take (i + 1))))) := by
            rw [List.take_of_length_le (by rw [HI.out.2.1]; exact Nat.le_refl _)] at hrow
            have a1 := HI.out.1.setL (Only.of hbj) (owns_le hrow (Nat.le_trans HI.out.1.hq (Nat.le_of_lt HI.out.1.tq.lt))) (.inr fun b hb' => (World.ownsRow.lt hrow b hb').1) rfl
            refine (part_d B q _ _ ky.d _ a1.is (Nat.le_trans hB (Nat.le_trans HI.out.2.2.only.size a1.only.size)) HL2.out).mono ?_
            rintro x w' ⟨rfl, k3, hb⟩
            refine ⟨rfl, k3, ?_⟩
            rw [HT.out]
            exact (HI.out.2.2.trans a1).trans hb
          have g2 : (wr.setCell ⟨q, 0, none⟩ (.slice a2 n2 c2)).cell? ⟨g, o + i * 2, none⟩ = some (.int .i64 ky.d) := by
            rw [cell_ne' HGq.out]
            exact (HCW.out wr hbj).1
          clear HJ hrow hbj hh
          go_wp2_with (go_at_call 57; refine HP.out.mono ?_; rintro x w9 ⟨rfl, H9⟩)
          go_roundw
          case rel => exact ⟨i + 1, by omega, rfl, H9⟩
          case measure => simp [intOf]; omega
    · obtain rfl : i = n := by omega
      have hltz : ¬ (i : Int) < (i : Int) := by omega
      have HE : Hid (∃ k', Afk w wr B q k k' (s.cut ks)) := by
        have := HR.out
        rw [HS.out.2.2.2] at this; exact this
      clear HR
      go_wp2
      go_end0
      exact ⟨rfl, HE.out⟩
end
section
open Go.RowKit

/-- the program's cache says s, the document's t; F: blocks that the law keeps -/
structure Tw (w0 wr : World) (p q : Nat) (s t : Cs) (n : Nat) (F : Nat → Prop) : Prop where
  ex : ∃ k, IsK wr w0.heap.size q k t ∧ Ld w0 wr p s n (fun b => F b ∨ k.blk q b) ∧ ∀ b, k.blk q b → ¬ F b
  lw : t.W.length ≤ n
  lt : t.L.length ≤ n
theorem Tw.ld {w0 wr : World} {p q : Nat} {s t : Cs} {n : Nat} {F : Nat → Prop} (h : Tw w0 wr p q s t n F) : Ld w0 wr p s n F := by
  obtain ⟨k, h1, h2, h3⟩ := h.ex
  exact h2.mono (fun _ hb => .inl hb) (Nat.le_refl _)
theorem Tw.mono {w0 wr : World} {p q : Nat} {s t : Cs} {n m : Nat} {F G : Nat → Prop} (h : Tw w0 wr p q s t n F) (hG : ∀ b, G b → F b) (hm : n ≤ m) : Tw w0 wr p q s t m G := by
  obtain ⟨k, h1, h2, h3⟩ := h.ex
  exact ⟨⟨k, h1, h2.mono (fun b hb => hb.imp (hG b) id) hm, fun b hb hg => h3 b hb (hG b hg)⟩, Nat.le_trans h.lw hm, Nat.le_trans h.lt hm⟩
theorem Tw.on {w0 wr w' : World} {p q : Nat} {s t : Cs} {n : Nat} {F : Nat → Prop} (h : Tw w0 wr p q s t n F) (hb : Below wr.heap.size wr w') : Tw w0 w' p q s t n (fun b => F b ∨ wr.heap.size ≤ b ∧ b < w'.heap.size) := by
  obtain ⟨k, h1, h2, h3⟩ := h.ex
  refine ⟨⟨k, h1.below hb, (h2.on hb).mono (fun b hk => ?_) (Nat.le_refl _), fun b hk hf => ?_⟩, h.lw, h.lt⟩
  · rcases hk with (hk | hk) | hk
    · exact .inl (.inl hk)
    · exact .inr hk
    · exact .inl (.inr hk)
  · rcases hf with hf | hf
    · exact h3 b hk hf
    · have := (h1.at hk).2; omega
theorem Tw.on' {w0 wr w' : World} {p q : Nat} {s t : Cs} {n : Nat} {F : Nat → Prop} (h : Tw w0 wr p q s t n F) (hb : Below wr.heap.size wr w') : Tw w0 w' p q s t n F := (h.on hb).mono (fun _ hk => .inl hk) (Nat.le_refl _)
theorem Tw.box {w0 wr : World} {p q : Nat} {s t : Cs} {n : Nat} {F : Nat → Prop} (h : Tw w0 wr p q s t n F) (o : Obj) : Tw w0 (wr.alloc o) p q s t n (fun b => F b ∨ b = wr.heap.size) := (h.on (below_alloc wr o)).mono (fun b hk => by
  rcases hk with hk | hk
  · exact .inl hk
  · exact .inr ⟨by omega, by rw [hk]; simp⟩) (Nat.le_refl _)
/-- behind a call -/
structure Twc (w0 wr w' : World) (p q : Nat) (s t : Cs) (n : Nat) (F : Nat → Prop) : Prop where
  tw : Tw w0 w' p q s t n F
  kept : ∀ b, F b → w'.heap[b]? = wr.heap[b]?
  size : wr.heap.size ≤ w'.heap.size
/-- a call of the program's -/
theorem tw_prog {w0 wr : World} {p q : Nat} {s t s' : Cs} {n n' : Nat} {F : Nat → Prop} (h : Tw w0 wr p q s t n F) (hn : n ≤ n') {f : Nat} {args : Array Value} {r : Value}
    (hc : ∀ G, Ld w0 wr p s n G → Calls Tryz.prog f args wr fun x w' => x = .returned r ∧ Ldc w0 wr w' p s' n' G) : Calls Tryz.prog f args wr fun x w' => x = .returned r ∧ Twc w0 wr w' p q s' t n' F := by
  obtain ⟨k, h1, h2, h3⟩ := h.ex
  refine (hc _ h2).mono ?_
  rintro x w' ⟨rfl, hd⟩
  exact ⟨rfl, ⟨⟨k, h1.moved fun b hb => hd.kept b (.inr hb), hd.ld, h3⟩, Nat.le_trans h.lw hn, Nat.le_trans h.lt hn⟩, fun b hb => hd.kept b (.inl hb), hd.size⟩
/-- a call of the document's -/
theorem tw_doc {w0 wr : World} {p q : Nat} {s t t' : Cs} {n : Nat} {F : Nat → Prop} (h : Tw w0 wr p q s t n F) {f : Nat} {args : Array Value} {r : Value} (hlt : t'.L.length ≤ n) (hlw : t'.W.length ≤ n)
    (hc : ∀ k, IsK wr w0.heap.size q k t → (∀ b, k.blk q b → ¬ F b) → Calls Tryz.prog f args wr fun x w' => x = .returned r ∧ ∃ k', Afk wr w' w0.heap.size q k k' t') : Calls Tryz.prog f args wr fun x w' => x = .returned r ∧ Twc w0 wr w' p q s t' n F := by
  obtain ⟨k, h1, h2, h3⟩ := h.ex
  refine (hc k h1 h3).mono ?_
  rintro x w' ⟨rfl, k', ha⟩
  refine ⟨rfl, ⟨⟨k', ha.is, ?_, fun b hb hf => ?_⟩, hlw, hlt⟩, fun b hb => ha.only.block b (h2.fl b (.inl hb)) (fun hc => h3 b hc hb), ha.only.size⟩
  · obtain ⟨c, i1, i2, i3, i4⟩ := h2.ex
    refine ⟨⟨c, i1.moved fun b hb => ha.only.block b (i1.lt hb) (fun hc => (i4 b hb).2 (.inr hc)), i2, i3, fun b hb => ⟨(i4 b hb).1, fun hf => ?_⟩⟩, ha.only.below h2.below h2.below.size (fun b hb => (h1.at hb).1), h2.nn, fun b hf => ?_, h2.len⟩
    · rcases hf with hf | hf
      · exact (i4 b hb).2 (.inl hf)
      · rcases ha.nblk b hf with hf | hf
        · exact (i4 b hb).2 (.inr hf)
        · have := i1.lt hb; omega
    · rcases hf with hf | hf
      · exact Nat.lt_of_lt_of_le (h2.fl b (.inl hf)) ha.only.size
      · exact (ha.is.at hf).2
  · rcases ha.nblk b hb with hb | hb
    · exact h3 b hb hf
    · have := h2.fl b (.inl hf); omega
theorem Tw.below {w0 wr : World} {p q : Nat} {s t : Cs} {n : Nat} {F : Nat → Prop} (h : Tw w0 wr p q s t n F) : Below w0.heap.size w0 wr := h.ld.below
theorem Tw.own {w0 wr w' : World} {p q : Nat} {s t : Cs} {n : Nat} {F : Nat → Prop} (h : Tw w0 wr p q s t n F) (hO : Only F wr w') (hF : ∀ k, F k → w0.heap.size ≤ k) : Tw w0 w' p q s t n (fun k => F k ∨ wr.heap.size ≤ k ∧ k < w'.heap.size) := by
  obtain ⟨k, h1, h2, h3⟩ := h.ex
  have hm : ∀ b, k.blk q b → w'.heap[b]? = wr.heap[b]? := fun b hb => hO.block b (h1.at hb).2 (h3 b hb)
  have h2' := h2.own (hO.mono fun b hb => .inl hb) (fun b hb => by
    rcases hb with hb | hb
    · exact hF b hb
    · exact (h1.at hb).1)
  refine ⟨⟨k, h1.moved hm, h2'.mono (fun b hk => ?_) (Nat.le_refl _), fun b hk hf => ?_⟩, h.lw, h.lt⟩
  · rcases hk with (hk | hk) | hk
    · exact .inl (.inl hk)
    · exact .inr hk
    · exact .inl (.inr hk)
  · rcases hf with hf | hf
    · exact h3 b hk hf
    · have := (h1.at hk).2; omega
/-- what each says of a key -/
theorem setW_len (s : Cs) (d : Int) : (s.setW d).W.length ≤ s.W.length + 1 := by
  unfold Cs.setW
  simp only
  split
  · omega
  · simp
theorem evict_Wlen (s : Cs) (k : Ky) : (s.evict k).W.length ≤ s.W.length := by
  unfold Cs.evict
  split
  · exact Nat.le_refl _
  · simp only
    split
    · exact Nat.le_refl _
    · exact List.length_filter_le _ _
theorem cut_Wlen (l : List Ky) : ∀ (s : Cs), (s.cut l).W.length ≤ s.W.length := by
  unfold Cs.cut
  induction l with
  | nil => exact fun s => Nat.le_refl _
  | cons k l ih => exact fun s => Nat.le_trans (ih (s.cut1 k)) (List.length_filter_le _ _)
end
end Go.Proofs.YtmndnjgbbpkidaaGreat
