/- The document's cache: Put, Use. -/
import Derived.Test.YtabdicbmecgogaaJPEpt17
namespace Go.Proofs.Ytabdicbmecgogaa
section
open Go.RowKit
attribute [local go_sem ↓ high] loadEn storeEn builden
attribute [local go_sem high] eqK neqK guardK

/-- one entry more at the end -/
structure Push (X : World) (B q b : Nat) (k : Kc) (s : Cs) (e : En) (a : Option Addr) (n cap : Nat) (a6 : Option Addr) (N6 c6 : Nat) (Y Z : World) : Prop where
  one : (enOne #[(0, e.agg)]).run Try.prog X.drew = .ok (.slice (some ⟨X.heap.size, 0, none⟩) 1 1) Y
  app : ∀ ty, (Builtin.append_ #[41, 41] ty #[.slice a n cap, .slice (some ⟨X.heap.size, 0, none⟩) 1 1]).run Try.prog Y = .ok (.slice a6 N6 c6) Z
  vl : k.vl = .slice a n cap
  x0 : X.cell? ⟨q, 0, none⟩ = some (.slice a n cap)
  y0 : Y.cell? ⟨q, 0, none⟩ = some (.slice a n cap)
  z0 : Z.cell? ⟨q, 0, none⟩ = some (.slice a n cap)
  zf : ∀ i, Z.frozen? ⟨q, i, none⟩ = false
  ld : (enLd (.pointer (some ⟨b, 0, none⟩))).run Try.prog X.drew = .ok e.agg X.drew
  ldY : (enLd (.pointer (some ⟨b, 0, none⟩))).run Try.prog Y = .ok e.agg Y
  fin : ∃ k', Afk X (Z.setCell ⟨q, 0, none⟩ (.slice a6 N6 c6)) B q k k' ⟨s.L ++ [e], s.W⟩
theorem push_mid {X : World} {B q b : Nat} {k : Kc} {s : Cs} {e : En} (h : IsK X B q k s) (hB : B ≤ X.heap.size) (hb : Cells7 X b 0 e) (hl : s.L.length + 1 ≤ 1500000000000) : ∃ a n cap a6 N6 c6 Y Z, Push X B q b k s e a n cap a6 N6 c6 Y Z := by
  obtain ⟨a, cap, hv⟩ := owns_len h.rowL
  obtain ⟨Y, hY⟩ : ∃ Y, X.drew.alloc (.cells e.vals.toArray 47) = Y := ⟨_, rfl⟩
  have bY : Below X.heap.size X Y := by rw [← hY]; exact (Below.refl _ X).drew.alloc (Nat.le_refl _) _
  have hY1 := h.below bY
  obtain ⟨v6, Z, r6, row6, o6, p6⟩ := appE (w := Y) (B := B) (v := k.vl) (l := s.L) (l2 := [e]) (ad := ⟨X.heap.size, 0, none⟩) (c := 1) hY1.rowL (by
    have : ec [e] = e.vals := by simp [ec]
    rw [this, ← hY]
    exact one_atG (w := X.drew)) (Nat.le_trans hB bY.size) (by simp only [List.length_cons, List.length_nil]; omega)
  obtain ⟨a6, c6, hv6⟩ := owns_len row6
  subst hv6
  have hZ0 : Z.heap[q]? = Y.heap[q]? := o6.block q hY1.tq.lt (fun e => (Tag.own hY1.rowL e).ne hY1.tq (by decide) rfl)
  have hZh := hZ0.trans hY1.head
  rw [hv] at r6
  refine ⟨a, s.L.length, cap, a6, _, c6, Y, Z, ⟨by rw [← hY]; exact enOne_of e X.drew, r6, hv, by rw [← hv]; exact h.cells.1, by rw [← hv]; exact hY1.cells.1, by rw [cell_of hZh, ← hv]; rfl, free_of hZh, enLd_at (hb.below (Below.refl _ X).drew), enLd_at (hb.below bY), ?_⟩⟩
  have hO : Only (fun b => k.vl.ownBlock = some b) X Z := (Only.of bY).trans o6
  refine ⟨_, h.setL hO row6 ?_ rfl⟩
  rcases p6 with p | p
  · exact .inl p
  · exact .inr fun b hb => by
      rw [p] at hb
      have : Y.heap.size = b := by injection hb
      have := bY.size
      omega
set_option maxRecDepth 100000 in
set_option maxHeartbeats 4000000 in
theorem rput_d (B q : Nat) (k : Kc) (s : Cs) (e : En) (w : World) (h : IsK w B q k s) (hB : B ≤ w.heap.size) (hk : KeysOk s.L) (hl : s.L.length + 1 ≤ 1400000000000) : Calls Try.prog 21 #[.pointer (some ⟨q, 0, none⟩), e.agg] w fun x w' => x = .returned (.int .i64 (if e.nm = nob then 1 else 0)) ∧ ∃ k', Afk w w' B q k k' (putS s e) := by
  obtain ⟨W1, hW1⟩ : ∃ W, w.alloc (.cells #[.int .i64 e.d, .string e.nm, .bool e.neg, .int .i64 e.id, .int .i64 e.kind, .int .i64 e.mode, .string e.tg] 47) = W := ⟨_, rfl⟩
  have b1 := boxO hW1
  have bx : Cells7 W1 w.heap.size 0 e := cells7_of b1.1
  have x0 := bx.c0
  have x1 := bx.c1
  have h1 := h.below b1.2.1
  by_cases he : e.nm = nob
  · have ht : (e.nm.toList == []) = true := by rw [he, nob_list]; rfl
    have HE : Hid (∃ k', Afk w W1 B q k k' (putS s e)) := ⟨k, by unfold putS; rw [if_pos he]; exact Afk.refl h b1.2.1⟩
    rw [if_pos he]
    unfold En.agg
    clear h h1 bx b1 hk he
    go_enter Try.func21, Try.ntmps21
    go_wp2
    go_ret
    exact ⟨rfl, HE.out⟩
  · have ht := nm_test he
    rw [if_neg he]
    have hps : putS s e = ⟨outL s.L e.key ++ [e], s.W⟩ := by unfold putS; rw [if_neg he]; rfl
    rw [hps]
    have HA : Hid (Calls Try.prog 49 #[.pointer (some ⟨q, 0, none⟩), .agg #[.int .i64 e.d, .string e.nm]] W1 fun x w' => x = .returned (.int .i64 (atV s.L e.d e.nm)) ∧ Below W1.heap.size W1 w') := at_d B q k s e.key W1 h1 (by omega)
    have HP : Hid (∀ W k2, Afk w W B q k k2 ⟨outL s.L e.key, s.W⟩ → Cells7 W w.heap.size 0 e → ∃ a n cap a6 N6 c6 Y Z, Push W B q w.heap.size k2 ⟨outL s.L e.key, s.W⟩ e a n cap a6 N6 c6 Y Z ∧ Hid (∃ k', Afk w (Z.setCell ⟨q, 0, none⟩ (.slice a6 N6 c6)) B q k k' ⟨outL s.L e.key ++ [e], s.W⟩)) := fun W k2 ha hc => by
      have hlen : (outL s.L e.key).length ≤ s.L.length := List.length_filter_le _ _
      obtain ⟨a, n, cap, a6, N6, c6, Y, Z, hp⟩ := push_mid ha.is (Nat.le_trans hB ha.only.size) hc (by show (outL s.L e.key).length + 1 ≤ _; omega)
      obtain ⟨k', hk'⟩ := hp.fin
      exact ⟨a, n, cap, a6, N6, c6, Y, Z, hp, k', ha.trans hk'⟩
    rcases at_cases s.L e.key with ⟨hg, hat⟩ | ⟨i, e', hg, hat, hi, hout⟩
    · have hat' : atV s.L e.d e.nm = -1 := hat
      rw [hat'] at HA
      have HI : Hid (∀ W, Below W1.heap.size W1 W → Afk w W B q k k ⟨outL s.L e.key, s.W⟩ ∧ Cells7 W w.heap.size 0 e) := fun W hW => ⟨by rw [outL_none hg]; exact Afk.refl h (chainB b1.2.1 hW), bx.below hW⟩
      unfold En.agg
      clear h h1 bx b1 hk he hg hat hat'
      go_enter Try.func21, Try.ntmps21
      go_upto_region 6 with (go_at_call 49; refine HA.out.mono ?_; rintro x X ⟨rfl, hb⟩; obtain ⟨a, n, cap, a6, N6, c6, Y, Z, hp, HF⟩ := HP.out X k (HI.out X hb).1 (HI.out X hb).2; clear hb)
      obtain ⟨pone, papp, -, px0, py0, pz0, pzf, pld, pldY, -⟩ := hp
      go_region_law (first | (refine step_apR rfl (.tmp 23) (.tmp 25) 41 rfl _ _ (.slice a6 N6 c6) Z (by simp [Act.eval]) (by simp [Act.eval]) papp ?_))
      all_goals (go_wp2; go_ret; exact ⟨rfl, HF.out⟩)
    · have hat' : atV s.L e.d e.nm = (i : Int) := hat
      rw [hat'] at HA
      have hin : i < s.L.length := (List.getElem?_eq_some_iff.1 hi).1
      have HO : Hid (∀ W, Below W1.heap.size W1 W → Calls Try.prog 50 #[.pointer (some ⟨q, 0, none⟩), .int .i64 i] W fun x X => x = .returned (.tuple #[]) ∧ ∃ k2, ∃ a n cap a6 N6 c6 Y Z, Push X B q w.heap.size k2 ⟨outL s.L e.key, s.W⟩ e a n cap a6 N6 c6 Y Z ∧ Hid (∃ k', Afk w (Z.setCell ⟨q, 0, none⟩ (.slice a6 N6 c6)) B q k k' ⟨outL s.L e.key ++ [e], s.W⟩)) := fun W hW => by
        refine (out_d B q k s i W (h1.below hW) (Nat.le_trans hB (chainB b1.2.1 hW).size) hin (by omega)).mono ?_
        rintro x X ⟨rfl, k2, ha⟩
        rw [← hout hk] at ha
        have hn : ¬ k.blk q w.heap.size := fun hc => by have := (h.at hc).2; omega
        have hc7 : Cells7 X w.heap.size 0 e := (bx.below hW).moved (ha.only.block _ (cellLt (bx.below hW).c0) hn)
        exact ⟨rfl, k2, HP.out X k2 ((Afk.refl h (chainB b1.2.1 hW)).trans ha) hc7⟩
      have z0 : (0 : Int) ≤ (i : Int) := by omega
      unfold En.agg
      clear h h1 bx b1 hk he hg hat hat' hi hout hin
      go_enter Try.func21, Try.ntmps21
      go_upto_region 6 with (first
        | (go_at_call 50; refine (HO.out _ HB2.out).mono ?_; rintro x X ⟨rfl, k2, a, n, cap, a6, N6, c6, Y, Z, hp, HF⟩)
        | (go_at_call 49; refine HA.out.mono ?_; rintro x W2 ⟨rfl, hb⟩; have HB2 : Hid (Below W1.heap.size W1 W2) := hb; clear hb))
      obtain ⟨pone, papp, -, px0, py0, pz0, pzf, pld, pldY, -⟩ := hp
      go_region_law (first | (refine step_apR rfl (.tmp 23) (.tmp 25) 41 rfl _ _ (.slice a6 N6 c6) Z (by simp [Act.eval]) (by simp [Act.eval]) papp ?_))
      all_goals (go_wp2; go_ret; exact ⟨rfl, HF.out⟩)
set_option maxRecDepth 100000 in
set_option maxHeartbeats 4000000 in
theorem ruse_d (B q : Nat) (k : Kc) (s : Cs) (ky : Ky) (w : World) (h : IsK w B q k s) (hB : B ≤ w.heap.size) (hk : KeysOk s.L) (hl : s.L.length + 1 ≤ 1400000000000) : Calls Try.prog 23 #[.pointer (some ⟨q, 0, none⟩), .agg #[.int .i64 ky.d, .string ky.nm]] w fun x w' => x = .returned (.bool (getL s.L ky).isSome) ∧ ∃ k', Afk w w' B q k k' (s.use ky) := by
  obtain ⟨W1, hW1⟩ : ∃ W, w.alloc (.cells #[.int .i64 ky.d, .string ky.nm] 28) = W := ⟨_, rfl⟩
  have b1 := boxO hW1
  have x0 : W1.cell? ⟨w.heap.size, 0, none⟩ = some (.int .i64 ky.d) := by rw [cell_of b1.1]; rfl
  have x1 : W1.cell? ⟨w.heap.size, 1, none⟩ = some (.string ky.nm) := by rw [cell_of b1.1]; rfl
  have h1 := h.below b1.2.1
  have HA : Hid (Calls Try.prog 49 #[.pointer (some ⟨q, 0, none⟩), .agg #[.int .i64 ky.d, .string ky.nm]] W1 fun x w' => x = .returned (.int .i64 (atV s.L ky.d ky.nm)) ∧ Below W1.heap.size W1 w') := at_d B q k s ky W1 h1 (by omega)
  have bx := box7
  rcases at_cases s.L ky with ⟨hg, hat⟩ | ⟨i, e, hg, hat, hi, hout⟩
  · rw [hat] at HA
    have HE : Hid (∀ W, Below W1.heap.size W1 W → ∃ k', Afk w W B q k k' (s.use ky)) := fun W hW => ⟨k, by unfold Cs.use; rw [hg]; exact Afk.refl h (chainB b1.2.1 hW)⟩
    rw [hg]
    clear h h1 b1 hk hg hat
    go_enter Try.func23, Try.ntmps23
    go_wp2_with (go_at_call 49; refine HA.out.mono ?_; rintro x W2 ⟨rfl, hb⟩; have HB2 : Hid (Below W1.heap.size W1 W2) := hb; clear hb)
    go_ret
    exact ⟨rfl, HE.out _ HB2.out⟩
  · rw [hat] at HA
    have hin : i < s.L.length := (List.getElem?_eq_some_iff.1 hi).1
    have hus : s.use ky = ⟨outL s.L ky ++ [e], s.W⟩ := by unfold Cs.use; rw [hg]
    rw [hus, hg]
    obtain ⟨vl, vw⟩ := k
    obtain ⟨a0, cap0, hv0⟩ := owns_len h.rowL
    simp only at hv0
    subst hv0
    obtain ⟨n0, hn0⟩ : ∃ n, s.L.length = n := ⟨_, rfl⟩
    have HC : Hid (∀ W, Below W1.heap.size W1 W → ∃ g, a0 = some ⟨g, 0, none⟩ ∧ W.cell? ⟨q, 0, none⟩ = some (.slice a0 n0 cap0) ∧ (enLd (.pointer (some ⟨g, i * 7, none⟩))).run Try.prog W = .ok e.agg W) := fun W hW => by
      have hh := h1.below hW
      obtain ⟨g, hg1, -, -, -, hc, -⟩ := owns_entry hh.rowL hi
      exact ⟨g, hg1, by rw [← hn0]; exact hh.cells.1, enLd_at hc⟩
    have HO : Hid (∀ W, Below W1.heap.size W1 W → Calls Try.prog 50 #[.pointer (some ⟨q, 0, none⟩), .int .i64 i] (W.alloc (.cells e.vals.toArray 47)) fun x X => x = .returned (.tuple #[]) ∧ ∃ k2, ∃ a n cap a6 N6 c6 Y Z, Push X B q W.heap.size k2 ⟨outL s.L ky, s.W⟩ e a n cap a6 N6 c6 Y Z ∧ Hid (∃ k', Afk w (Z.setCell ⟨q, 0, none⟩ (.slice a6 N6 c6)) B q ⟨.slice a0 n0 cap0, vw⟩ k' ⟨outL s.L ky ++ [e], s.W⟩)) := fun W hW => by
      have hW3 := chainB hW (below_alloc W (.cells e.vals.toArray 47))
      refine (out_d B q _ s i _ (h1.below hW3) (Nat.le_trans hB (chainB b1.2.1 hW3).size) hin (by omega)).mono ?_
      rintro x X ⟨rfl, k2, ha⟩
      rw [← hout hk] at ha
      have hn : ¬ Kc.blk ⟨.slice a0 s.L.length cap0, vw⟩ q W.heap.size := fun hc => by have := (h1.at hc).2; have := hW.size; omega
      have hc7 : Cells7 X W.heap.size 0 e := (cells7_of (heap_new W (.cells e.vals.toArray 47))).moved (ha.only.block _ (by simp) hn)
      have hlen : (outL s.L ky).length ≤ s.L.length := List.length_filter_le _ _
      obtain ⟨a, n, cap, a6, N6, c6, Y, Z, hp⟩ := push_mid ha.is (Nat.le_trans hB (Nat.le_trans (chainB b1.2.1 hW3).size ha.only.size)) hc7 (by show (outL s.L ky).length + 1 ≤ _; omega)
      obtain ⟨k', hk'⟩ := hp.fin
      exact ⟨rfl, k2, a, n, cap, a6, N6, c6, Y, Z, hp, k', by rw [← hn0]; exact ((Afk.refl h (chainB b1.2.1 hW3)).trans ha).trans hk'⟩
    have z0 : ¬ (i : Int) < 0 := by omega
    have z1 : (i : Int) < (n0 : Int) := by omega
    have z2 : (0 : Int) ≤ (i : Int) := by omega
    rw [hn0]
    clear h h1 b1 hk hg hat hi hout hin hn0
    go_enter Try.func23, Try.ntmps23
    go_upto_region 6 with (first
      | (go_at_call 50; refine (HO.out _ HB2.out).mono ?_; rintro x X ⟨rfl, k2, a, n, cap, a6, N6, c6, Y, Z, hp, HF⟩)
      | (go_at_call 49; refine HA.out.mono ?_; rintro x W2 ⟨rfl, hb⟩; have HB2 : Hid (Below W1.heap.size W1 W2) := hb; obtain ⟨g, rfl, y0, y1⟩ := HC.out W2 hb; clear hb))
    obtain ⟨pone, papp, -, px0, py0, pz0, pzf, pld, pldY, -⟩ := hp
    go_region_law (first | (refine step_apR rfl (.tmp 26) (.tmp 28) 41 rfl _ _ (.slice a6 N6 c6) Z (by simp [Act.eval]) (by simp [Act.eval]) papp ?_))
    all_goals (go_wp2; go_ret; exact ⟨rfl, HF.out⟩)
end
end Go.Proofs.Ytabdicbmecgogaa
