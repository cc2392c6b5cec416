/- The document's cache: Put, Use. -/
import Derived.Test.YtmndnjgbbpkidaaGreatJWLks16
namespace Go.Proofs.YtmndnjgbbpkidaaGreat
section
open Go.RowKit
attribute [local go_sem ↓ high] loadEn storeEn builden
attribute [local go_sem high] eqK neqK guardK

/-- one entry more at the end -/
structure Push (X : World) (B q b : Nat) (k : Kc) (s : Cs) (e : En) (a : Option Addr) (n cap : Nat) (a6 : Option Addr) (N6 c6 : Nat) (Y Z : World) : Prop where
  one : (enOne #[(0, e.agg)]).run Tryz.prog X.drew = .ok (.slice (some ⟨X.heap.size, 0, none⟩) 1 1) Y
  app : ∀ ty, (Builtin.append_ #[23, 23] ty #[.slice a n cap, .slice (some ⟨X.heap.size, 0, none⟩) 1 1]).run Tryz.prog Y = .ok (.slice a6 N6 c6) Z
  vl : k.vl = .slice a n cap
  x0 : X.cell? ⟨q, 0, none⟩ = some (.slice a n cap)
  y0 : Y.cell? ⟨q, 0, none⟩ = some (.slice a n cap)
  z0 : Z.cell? ⟨q, 0, none⟩ = some (.slice a n cap)
  zf : ∀ i, Z.frozen? ⟨q, i, none⟩ = false
  ld : (enLd (.pointer (some ⟨b, 0, none⟩))).run Tryz.prog X.drew = .ok e.agg X.drew
  ldY : (enLd (.pointer (some ⟨b, 0, none⟩))).run Tryz.prog Y = .ok e.agg Y
  fin : ∃ k', Afk X (Z.setCell ⟨q, 0, none⟩ (.slice a6 N6 c6)) B q k k' ⟨s.L ++ [e], s.W⟩
theorem push_mid {X : World} {B q b : Nat} {k : Kc} {s : Cs} {e : En} (h : IsK X B q k s) (hB : B ≤ X.heap.size) (hb : Cells7 X b 0 e) (hl : s.L.length + 1 ≤ 1500000000000) : ∃ a n cap a6 N6 c6 Y Z, Push X B q b k s e a n cap a6 N6 c6 Y Z := by
  obtain ⟨a, cap, hv⟩ := owns_len h.rowL
  obtain ⟨Y, hY⟩ : ∃ Y, X.drew.alloc (.cells e.vals.toArray 52) = Y := ⟨_, rfl⟩
  have bY : Below X.heap.size X Y := by rw [← hY]; exact (Below.refl _ X).drew.alloc (Nat.le_refl _) _
  have hY1 := h.below bY
  obtain ⟨v6, Z, r6, row6, o6, p6⟩ := appE (w := Y) (B := B) (v := k.vl) (l := s.L) (l2 := [e]) (ad := ⟨X.heap.size, 0, none⟩) (c := 1) hY1.rowL (by
    have : ec [e] = e.vals := by simp [ec]
    rw [this, ← hY]
    exact one_atG (w := X.drew)) (Nat.le_trans hB bY.size) (by simp only [List.length_cons, List.length_nil]; omega)
  obtain ⟨a6, c6, hv6⟩ := owns_len row6
  subst hv6
  have hZ0 : Z.heap[q]? = Y.heap[q]? := o6.block q hY1.tq.lt (fun e => (Tag.own hY1.rowL e).ne hY1.tq (by decide) rfl)
  have hZh := hZ0.trans hY1.head
  rw [hv] at r6
  refine ⟨a, s.L.length, cap, a6, _, c6, Y, Z, ⟨by rw [← hY]; exact enOne_of e X.drew, r6, hv, by rw [← hv]; exact h.cells.1, by rw [← hv]; exact hY1.cells.1, by rw [cell_of hZh, ← hv]; rfl, free_of hZh, enLd_at (hb.below (Below.refl _ X).drew), enLd_at (hb.below bY), ?_⟩⟩
  have hO : Only (fun b => k.vl.ownBlock = some b) X Z := (Only.of bY).trans o6
  refine ⟨_, h.setL hO row6 ?_ rfl⟩
  rcases p6 with p | p
  · exact .inl p
  · exact .inr fun b hb => by
      rw [p] at hb
      have : Y.heap.size = b := by injection hb
      have := bY.size
      omega
set_option maxRecDepth 100000 in
set_option maxHeartbeats 4000000 in
theorem rput_d (B q : Nat) (k : Kc) (s : Cs) (e : En) (w : World) (h : IsK w B q k s) (hB : B ≤ w.heap.size) (hk : KeysOk s.L) (hl : s.L.length + 1 ≤ 1400000000000) : Calls Tryz.prog 21 #[.pointer (some ⟨q, 0, none⟩), e.agg] w fun x w' => x = .returned (.int .i64 (if e.nm = nob then 1 else 0)) ∧ ∃ k', Afk w w' B q k k' (putS s e) := by
  obtain ⟨W1, hW1⟩ : ∃ W, w.alloc (.cells #[.int .i64 e.d, .string e.nm, .bool e.neg, .int .i64 e.id, .int .i64 e.kind, .int .i64 e.mode, .string e.tg] 52) = W := ⟨_, rfl⟩
  have b1 := boxO hW1
  have bx : Cells7 W1 w.heap.size 0 e := cells7_of b1.1
  have x0 := bx.c0
  have x1 := bx.c1
  have h1 := h.below b1.2.1
  by_cases he : e.nm = nob
  · have ht : (e.nm.toList == []) = true := by rw [he, nob_list]; rfl
    have HE : Hid (∃ k', Afk w W1 B q k k' (putS s e)) := ⟨k, by unfold putS; rw [if_pos he]; exact Afk.refl h b1.2.1⟩
    rw [if_pos he]
    unfold En.agg
    clear h h1 bx b1 hk he
    go_enter Tryz.func21, Tryz.ntmps21
    go_wp2
    go_ret
    exact ⟨rfl, HE.out⟩
  · have ht := nm_test he
    rw [if_neg he]
    have hps : putS s e = ⟨outL s.L e.key ++ [e], s.W⟩ := by unfold putS; rw [if_neg he]; rfl
    rw [hps]
    have HA : Hid (Calls Tryz.prog 54 #[.pointer (some ⟨q, 0, none⟩), .agg #[.int .i64 e.d, .string e.nm]] W1 fun x w' => x = .returned (.int .i64 (atV s.L e.d e.nm)) ∧ Below W1.heap.size W1 w') := at_d B q k s e.key W1 h1 (by omega)
    have HP : Hid (∀ W k2, Afk w W B q k k2 ⟨outL s.L e.key, s.W⟩ → Cells7 W w.heap.size 0 e → ∃ a n cap a6 N6 c6 Y Z, Push W B q w.heap.size k2 ⟨outL s.L e.key, s.W⟩ e a n cap a6 N6 c6 Y Z ∧ Hid (∃ k', Afk w (Z.setCell ⟨q, 0, none⟩ (.slice a6 N6 c6)) B q k k' ⟨outL s.L e.key ++ [e], s.W⟩)) := fun W k2 ha hc => by
      have hlen : (outL s.L e.key).length ≤ s.L.length := List.length_filter_le _ _
      obtain ⟨a, n, cap, a6, N6, c6, Y, Z, hp⟩ := push_mid ha.is (Nat.le_trans hB ha.only.size) hc (by show (outL s.L e.key).length + 1 ≤ _; omega)
      obtain ⟨k', hk'⟩ := hp.fin
      exact ⟨a, n, cap, a6, N6, c6, Y, Z, hp, k', ha.trans hk'⟩
    rcases at_cases s.L e.key with ⟨hg, hat⟩ | ⟨i, e', hg, hat, hi, hout⟩
    · have hat' : atV s.L e.d e.nm = -1 := hat
      rw [hat'] at HA
      have HI : Hid (∀ W, Below W1.heap.size W1 W → Afk w W B q k k ⟨outL s.L e.key, s.W⟩ ∧ Cells7 W w.heap.size 0 e) := fun W hW => ⟨by rw [outL_none hg]; exact Afk.refl h (chainB b1.2.1 hW), bx.below hW⟩
      unfold En.agg
      clear h h1 bx b1 hk he hg hat hat'
      go_enter Tryz.func21, Tryz.ntmps21
      go_upto_region 6 with (go_at_call 54; refine HA.out.mono ?_; rintro x X ⟨rfl, hb⟩; obtain ⟨a, n, cap, a6, N6, c6, Y, Z, hp, HF⟩ := HP.out X k (HI.out X hb).1 (HI.out X hb).2; clear hb)
      obtain ⟨pone, papp, -, px0, py0, pz0, pzf, pld, pldY, -⟩ := hp
      go_region_law (first | (refine step_apR rfl (.tmp 23) (.tmp 25) 23 rfl _ _ (.slice a6 N6 c6) Z (by simp [Act.eval]) (by simp [Act.eval]) papp ?_))
      all_goals (go_wp2; go_ret; exact ⟨rfl, HF.out⟩)
    · have hat' : atV s.L e.d e.nm = (i : Int) := hat
      rw [hat'] at HA
      have hin : i < s.L.length := (List.getElem?_eq_some_iff.1 hi).1
      have HO : Hid (∀ W, Below W1.heap.size W1 W → Calls Tryz.prog 55 #[.pointer (some ⟨q, 0, none⟩), .int .i64 i] W fun x X => x = .returned (.tuple #[]) ∧ ∃ k2, ∃ a n cap a6 N6 c6 Y Z, Push X B q w.heap.size k2 ⟨outL s.L e.key, s.W⟩ e a n cap a6 N6 c6 Y Z ∧ Hid (∃ k', Afk w (Z.setCell ⟨q, 0, none⟩ (.slice a6 N6 c6)) B q k k' ⟨outL s.L e.key ++ [e], s.W⟩)) := fun W hW => by
        refine (out_d B q k s i W (h1.below hW) (Nat.le_trans hB (chainB b1.2.1 hW).size) hin (by omega)).mono ?_
        rintro x X ⟨rfl, k2, ha⟩
        rw [← hout hk] at ha
        have hn : ¬ k.blk q w.heap.size := fun hc => by have := (h.at hc).2; omega
        have hc7 : Cells7 X w.heap.size 0 e := (bx.below hW).moved (ha.only.block _ (cellLt (bx.below hW).c0) hn)
        exact ⟨rfl, k2, HP.out X k2 ((Afk.refl h (chainB b1.2.1 hW)).trans ha) hc7⟩
      have z0 : (0 : Int) ≤ (i : Int) := by omega
      unfold En.agg
      clear h h1 bx b1 hk he hg hat hat' hi hout hin
      go_enter Tryz.func21, Tryz.ntmps21
      go_upto_region 6 with (first
        | (go_at_call 55; refine (HO.out _ HB2.out).mono ?_; rintro x X ⟨rfl, k2, a, n, cap, a6, N6, c6, Y, Z, hp, HF⟩)
        | (go_at_call 54; refine HA.out.mono ?_; rintro x W2 ⟨rfl, hb⟩; have HB2 : Hid (Below W1.heap.size W1 W2) := hb; clear hb))
      obtain ⟨pone, papp, -, px0, py0, pz0, pzf, pld, pldY, -⟩ := hp
      go_region_law (first | (refine step_apR rfl (.tmp 23) (.tmp 25) 23 rfl _ _ (.slice a6 N6 c6) Z (by simp [Act.eval]) (by simp [Act.eval]) papp ?_))
      all_goals (go_wp2; go_ret; exact ⟨rfl, HF.out⟩)
set_option maxRecDepth 100000 in
set_option maxHeartbeats 4000000 in
theorem ruse_d (B q : Nat) (k : Kc) (s : Cs) (ky : Ky) (w : World) (h : IsK w B q k s) (hB : B ≤ w.heap.size) (hk : KeysOk s.L) (hl : s.L.length + 1 ≤ 1400000000000) : Calls Tryz.prog 23 #[.pointer (some ⟨q, 0, none⟩), .agg #[.int .i64 ky.d, .string ky.nm]] w fun x w' => x = .returned (.bool (getL s.L ky).isSome) ∧ ∃ k', Afk w w' B q k k' (s.use ky) := by
  obtain ⟨W1, hW1⟩ : ∃ W, w.alloc (.cells #[.int .i64 ky.d, .string ky.nm] 29) = W := ⟨_, rfl⟩
  have b1 := boxO hW1
  have x0 : W1.cell? ⟨w.heap.size, 0, none⟩ = some (.int .i64 ky.d) := by rw [cell_of b1.1]; rfl
  have x1 : W1.cell? ⟨w.heap.size, 1, none⟩ = some (.string ky.nm) := by rw [cell_of b1.1]; rfl
  have h1 := h.below b1.2.1
  have HA : Hid (Calls Tryz.prog 54 #[.pointer (some ⟨q, 0, none⟩), .agg #[.int .i64 ky.d, .string ky.nm]] W1 fun x w' => x = .returned (.int .i64 (atV s.L ky.d ky.nm)) ∧ Below W1.heap.size W1 w') := at_d B q k s ky W1 h1 (by omega)
  have bx := box7
  rcases at_cases s.L ky with ⟨hg, hat⟩ | ⟨i, e, hg, hat, hi, hout⟩
  · rw [hat] at HA
    have HE : Hid (∀ W, Below W1.heap.size W1 W → ∃ k', Afk w W B q k k' (s.use ky)) := fun W hW => ⟨k, by unfold Cs.use; rw [hg]; exact Afk.refl h (chainB b1.2.1 hW)⟩
    rw [hg]
    clear h h1 b1 hk hg hat
    go_enter Tryz.func23, Tryz.ntmps23
    go_wp2_with (go_at_call 54; refine HA.out.mono ?_; rintro x W2 ⟨rfl, hb⟩; have HB2 : Hid (Below W1.heap.size W1 W2) := hb; clear hb)
    go_ret
    exact ⟨rfl, HE.out _ HB2.out⟩
  · rw [hat] at HA
    have hin : i < s.L.length := (List.getElem?_eq_some_iff.1 hi).1
    have hus : s.use ky = ⟨outL s.L ky ++ [e], s.W⟩ := by unfold Cs.use; rw [hg]
    rw [hus, hg]
    obtain ⟨vl, vw⟩ := k
    obtain ⟨a0, cap0, hv0⟩ := owns_len h.rowL
    simp only at hv0
    subst hv0
    obtain ⟨n0, hn0⟩ : ∃ n, s.L.length = n := ⟨_, rfl⟩
    have HC : Hid (∀ W, Below W1.heap.size W1 W → ∃ g, a0 = some ⟨g, 0, none⟩ ∧ W.cell? ⟨q, 0, none⟩ = some (.slice a0 n0 cap0) ∧ (enLd (.pointer (some ⟨g, i * 7, none⟩))).run Tryz.prog W = .ok e.agg W) := fun W hW => by
      have hh := h1.below hW
      obtain ⟨g, hg1, -, -, -, hc, -⟩ := owns_entry hh.rowL hi
      exact ⟨g, hg1, by rw [← hn0]; exact hh.cells.1, enLd_at hc⟩
    have HO : Hid (∀ W, Below W1.heap.size W1 W → Calls Tryz.prog 55 #[.pointer (some ⟨q, 0, none⟩), .int .i64 i] (W.alloc (.cells e.vals.toArray 52)) fun x X => x = .returned (.tuple #[]) ∧ ∃ k2, ∃ a n cap a6 N6 c6 Y Z, Push X B q W.heap.size k2 ⟨outL s.L ky, s.W⟩ e a n cap a6 N6 c6 Y Z ∧ Hid (∃ k', Afk w (Z.setCell ⟨q, 0, none⟩ (.slice a6 N6 c6)) B q ⟨.slice a0 n0 cap0, vw⟩ k' ⟨outL s.L ky ++ [e], s.W⟩)) := fun W hW => by
      have hW3 := chainB hW (below_alloc W (.cells e.vals.toArray 52))
      refine (out_d B q _ s i _ (h1.below hW3) (Nat.le_trans hB (chainB b1.2.1 hW3).size) hin (by omega)).mono ?_
      rintro x X ⟨rfl, k2, ha⟩
      rw [← hout hk] at ha
      have hn : ¬ Kc.blk ⟨.slice a0 s.L.length cap0, vw⟩ q W.heap.size := fun hc => by have := (h1.at hc).2; have := hW.size; omega
      have hc7 : Cells7 X W.heap.size 0 e := (cells7_of (heap_new W (.cells e.vals.toArray 52))).moved (ha.only.block _ (by simp) hn)
      have hlen : (outL s.L ky).length ≤ s.L.length := List.length_filter_le _ _
      obtain ⟨a, n, cap, a6, N6, c6, Y, Z, hp⟩ := push_mid ha.is (Nat.le_trans hB (Nat.le_trans (chainB b1.2.1 hW3).size ha.only.size)) hc7 (by show (outL s.L ky).length + 1 ≤ _; omega)
      obtain ⟨k', hk'⟩ := hp.fin
      exact ⟨rfl, k2, a, n, cap, a6, N6, c6, Y, Z, hp, k', by rw [← hn0]; exact ((Afk.refl h (chainB b1.2.1 hW3)).trans ha).trans hk'⟩
    have z0 : ¬ (i : Int) < 0 := by omega
    have z1 : (i : Int) < (n0 : Int) := by omega
    have z2 : (0 : Int) ≤ (i : Int) := by omega
    rw [hn0]
    clear h h1 b1 hk hg hat hi hout hin hn0
    go_enter Tryz.func23, Tryz.ntmps23
    go_upto_region 6 with (first
      | (go_at_call 55; refine (HO.out _ HB2.out).mono ?_; rintro x X ⟨rfl, k2, a, n, cap, a6, N6, c6, Y, Z, hp, HF⟩)
      | (go_at_call 54; refine HA.out.mono ?_; rintro x W2 ⟨rfl, hb⟩; have HB2 : Hid (Below W1.heap.size W1 W2) := hb; obtain ⟨g, rfl, y0, y1⟩ := HC.out W2 hb; clear hb))
    obtain ⟨pone, papp, -, px0, py0, pz0, pzf, pld, pldY, -⟩ := hp
    go_region_law (first | (refine step_apR rfl (.tmp 26) (.tmp 28) 23 rfl _ _ (.slice a6 N6 c6) Z (by simp [Act.eval]) (by simp [Act.eval]) papp ?_))
    all_goals (go_wp2; go_ret; exact ⟨rfl, HF.out⟩)
end
section
open Go.RowKit

theorem RowI.cell {w : World} {B n cap i : Nat} {a : Option Addr} {l : List Int} {x : Int} (h : RowI w B (.slice a n cap) l) (hi : l[i]? = some x) : ∃ g, a = some ⟨g, 0, none⟩ ∧ w.cell? ⟨g, i, none⟩ = some (.int .i64 x) := by
  have hlt : i < l.length := (List.getElem?_eq_some_iff.1 hi).1
  obtain ⟨N, hN⟩ : ∃ N, l.length = N + 1 := ⟨l.length - 1, by omega⟩
  unfold RowI at h
  rw [hN] at h
  obtain ⟨g, cap', e'⟩ := owns_form h
  cases e'
  obtain ⟨hc, _⟩ := owns_cells h
  exact ⟨g, rfl, hc i _ (by unfold ci; rw [List.getElem?_map, hi]; rfl)⟩
set_option maxHeartbeats 4000000 in
theorem rwhole_d (B q : Nat) (k : Kc) (s : Cs) (d : Int) (w : World) (h : IsK w B q k s) (hl : s.W.length ≤ 1500000000000) : Calls Tryz.prog 45 #[.pointer (some ⟨q, 0, none⟩), .int .i64 d] w fun x w' => x = .returned (.bool (decide (d ∈ s.W))) ∧ Below w.heap.size w w' := by
  obtain ⟨vl, vw⟩ := k
  obtain ⟨a, cap, hv⟩ := owns_len h.rowW
  simp only at hv
  subst hv
  obtain ⟨n, hn⟩ : ∃ n, s.W.length = n := ⟨_, rfl⟩
  obtain ⟨-, c1, -⟩ := h.cells
  simp only at c1
  rw [hn] at hl c1
  have HI : Hid (RowI w B (.slice a n cap) s.W ∧ s.W.length = n) := ⟨by rw [← hn]; exact h.rowW, hn⟩
  clear h hn
  go_enter Tryz.func45, Tryz.ntmps45
  go_wp2
  go_loopw [5] (fun s5 wr => ∃ i : Nat, i ≤ n ∧ s5 = .int .i64 i ∧ ∃ nq, wr = w.drewN nq ∧ Hid (∀ (j : Nat) e, j < i → s.W[j]? = some e → ¬ e = d)) (fun s5 _ => n - (intOf s5).toNat)
  case atStart => exact ⟨0, Nat.zero_le _, rfl, 0, rfl, fun j e hj => by omega⟩
  case round =>
    obtain ⟨i, hi, rfl, nq, rfl, HJ⟩ := hrel
    by_cases hlt : i < n
    · obtain ⟨e, he⟩ : ∃ e, s.W[i]? = some e := ⟨_, List.getElem?_eq_getElem (by rw [HI.out.2]; exact hlt)⟩
      obtain ⟨g, rfl, x0⟩ := RowI.cell HI.out.1 he
      have hltz : (i : Int) < (n : Int) := by omega
      obtain ⟨Y, hY⟩ : ∃ Y, (e == d) = Y := ⟨_, rfl⟩
      cases Y with
      | true =>
        have HA : Hid (decide (d ∈ s.W) = true) := decide_eq_true (by
          have := eq_of_beq hY
          rw [← this]; exact List.mem_of_getElem? he)
        clear HJ he
        go_wp2
        go_ret
        exact ⟨by rw [HA.out]; rfl, below_drewN (Below.refl _ _) _⟩
      | false =>
        have HJ2 : Hid (∀ (j : Nat) e, j < i + 1 → s.W[j]? = some e → ¬ e = d) := fun j e' hj he' => by
          by_cases e1 : j = i
          · subst e1
            rw [he] at he'
            cases he'
            exact fun hc => by rw [hc] at hY; simp at hY
          · exact HJ.out j e' (by omega) he'
        clear HJ he
        go_wp2
        go_roundw
        case rel => exact ⟨i + 1, by omega, by simp, _, rfl, HJ2⟩
        case measure => simp [intOf]; omega
    · obtain rfl : i = n := by omega
      have hltz : ¬ (i : Int) < (i : Int) := by omega
      have HA : Hid (decide (d ∈ s.W) = false) := decide_eq_false (fun hm => by
        obtain ⟨j, hj⟩ := List.getElem?_of_mem hm
        exact HJ.out j d (by have := (List.getElem?_eq_some_iff.1 hj).1; rw [HI.out.2] at this; exact this) hj rfl)
      clear HJ
      go_wp2
      go_ret
      exact ⟨by rw [HA.out]; rfl, below_drewN (Below.refl _ _) _⟩
/-- an int more at the end of a list -/
theorem push_int {X : World} {B : Nat} {v : Value} {l : List Int} (x : Int) (h : RowI X B v l) (hB : B ≤ X.heap.size) (hl : l.length + 1 ≤ 1500000000000) : ∃ a6 N6 c6 Z, (∀ ty, (Builtin.append_ #[57, 57] ty #[v, .slice (some ⟨X.heap.size, 0, none⟩) 1 1]).run Tryz.prog (X.alloc (.cells #[.int .i64 x] 3)) = .ok (.slice a6 N6 c6) Z) ∧ RowI Z B (.slice a6 N6 c6) (l ++ [x]) ∧ Only (fun b => v.ownBlock = some b) X Z ∧ ((Value.slice a6 N6 c6).ownBlock = v.ownBlock ∨ ∀ b, (Value.slice a6 N6 c6).ownBlock = some b → X.heap.size ≤ b) := by
  have bY := below_alloc X (.cells #[.int .i64 x] 3)
  obtain ⟨v6, Z, r6, row6, o6, p6⟩ := appI (w := X.alloc (.cells #[.int .i64 x] 3)) (B := B) (v := v) (l := l) (l2 := [x]) (ad := ⟨X.heap.size, 0, none⟩) (c := 1) (owns_below h bY) (by
    have : ci [x] = [.int .i64 x] := rfl
    rw [this]
    exact one_atG (w := X)) (Nat.le_trans hB bY.size) (by simp only [List.length_cons, List.length_nil]; omega)
  obtain ⟨a6, c6, hv6⟩ := owns_len row6
  subst hv6
  refine ⟨a6, _, c6, Z, r6, row6, (Only.of bY).trans o6, ?_⟩
  rcases p6 with p | p
  · exact .inl p
  · exact .inr fun b hb => by
      rw [p] at hb
      have : (X.alloc (.cells #[.int .i64 x] 3)).heap.size = b := by injection hb
      have := bY.size
      omega
set_option maxRecDepth 100000 in
set_option maxHeartbeats 4000000 in
theorem rset_d (B q : Nat) (k : Kc) (s : Cs) (d : Int) (w : World) (h : IsK w B q k s) (hB : B ≤ w.heap.size) (hl : s.W.length + 1 ≤ 1500000000000) : Calls Tryz.prog 32 #[.pointer (some ⟨q, 0, none⟩), .int .i64 d] w fun x w' => x = .returned (.tuple #[]) ∧ ∃ k', Afk w w' B q k k' (s.setW d) := by
  have HW : Hid (Calls Tryz.prog 45 #[.pointer (some ⟨q, 0, none⟩), .int .i64 d] w fun x w' => x = .returned (.bool (decide (d ∈ s.W))) ∧ Below w.heap.size w w') := rwhole_d B q k s d w h (by omega)
  by_cases hd : d ∈ s.W
  · rw [decide_eq_true hd] at HW
    have HE : Hid (∀ W, Below w.heap.size w W → ∃ k', Afk w W B q k k' (s.setW d)) := fun W hW => ⟨k, by
      have : s.setW d = s := by unfold Cs.setW; rw [if_pos hd]
      rw [this]; exact Afk.refl h hW⟩
    clear h hd
    go_enter Tryz.func32, Tryz.ntmps32
    go_wp2_with (go_at_call 45; refine HW.out.mono ?_; rintro x W2 ⟨rfl, hb⟩; have HB2 : Hid (Below w.heap.size w W2) := hb; clear hb)
    go_end0
    exact ⟨rfl, HE.out _ HB2.out⟩
  · rw [decide_eq_false hd] at HW
    obtain ⟨vl, vw⟩ := k
    obtain ⟨a, cap, hv⟩ := owns_len h.rowW
    simp only at hv
    subst hv
    obtain ⟨n, hn⟩ : ∃ n, s.W.length = n := ⟨_, rfl⟩
    have HC : Hid (∀ W, Below w.heap.size w W → ∃ a6 N6 c6 Z, (∀ ty, (Builtin.append_ #[57, 57] ty #[.slice a n cap, .slice (some ⟨W.heap.size, 0, none⟩) 1 1]).run Tryz.prog (W.alloc (.cells #[.int .i64 d] 3)) = .ok (.slice a6 N6 c6) Z) ∧ W.cell? ⟨q, 1, none⟩ = some (.slice a n cap) ∧ (Z.cell? ⟨q, 1, none⟩ = some (.slice a n cap) ∧ ∀ i, Z.frozen? ⟨q, i, none⟩ = false) ∧ Hid (∃ k', Afk w (Z.setCell ⟨q, 1, none⟩ (.slice a6 N6 c6)) B q ⟨vl, .slice a n cap⟩ k' (s.setW d))) := fun W hW => by
      have hh := h.below hW
      obtain ⟨a6, N6, c6, Z, r6, row6, o6, p6⟩ := push_int d hh.rowW (Nat.le_trans hB hW.size) (by omega)
      have hZ0 : Z.heap[q]? = W.heap[q]? := o6.block q hh.tq.lt (fun e => (Tag.own hh.rowW e).ne hh.tq (by decide) rfl)
      have hZh := hZ0.trans hh.head
      rw [← hn]
      refine ⟨a6, N6, c6, Z, r6, hh.cells.2.1, ⟨by rw [cell_of hZh]; rfl, free_of hZh⟩, ⟨⟨vl, .slice a6 N6 c6⟩, (Afk.refl h hW).trans ?_⟩⟩
      have := hh.setW o6 row6 p6 rfl
      have e1 : s.setW d = ⟨s.L, s.W ++ [d]⟩ := by unfold Cs.setW; rw [if_neg hd]
      rw [e1]; exact this
    rw [hn]
    clear h hd
    go_enter Tryz.func32, Tryz.ntmps32
    go_wp2_with (first
      | (at_builtin; refine wpList_apR rfl (.tmp 12) (.tmp 14) 57 rfl _ _ (.slice a6 N6 c6) Z (by simp [Act.eval]) (by simp [Act.eval]) r6 ?_)
      | (go_at_call 45; refine HW.out.mono ?_; rintro x W2 ⟨rfl, hb⟩; obtain ⟨a6, N6, c6, Z, r6, y1, ⟨z1, zf⟩, HF⟩ := HC.out W2 hb; clear hb))
    go_end0
    exact ⟨rfl, HF.out⟩
set_option maxRecDepth 100000 in
set_option maxHeartbeats 4000000 in
theorem part_d (B q : Nat) (k : Kc) (s : Cs) (d : Int) (w : World) (h : IsK w B q k s) (hB : B ≤ w.heap.size) (hl : s.W.length ≤ 1400000000000) : Calls Tryz.prog 57 #[.pointer (some ⟨q, 0, none⟩), .int .i64 d] w fun x w' => x = .returned (.tuple #[]) ∧ ∃ k', Afk w w' B q k k' ⟨s.L, partW s.W d⟩ := by
  obtain ⟨vl, vw⟩ := k
  obtain ⟨a, cap, hv⟩ := owns_len h.rowW
  simp only at hv
  subst hv
  obtain ⟨n, hn⟩ : ∃ n, s.W.length = n := ⟨_, rfl⟩
  rw [hn] at hl
  have HI : Hid (IsK w B q ⟨vl, .slice a n cap⟩ s ∧ s.W.length = n) := ⟨by rw [← hn]; exact h, hn⟩
  rw [hn]
  clear h hn
  obtain ⟨-, c1, -⟩ := HI.out.1.cells
  simp only at c1
  go_enter Tryz.func57, Tryz.ntmps57
  go_wp2
  go_loopw [4, 5] (fun s4 s5 wr => ∃ i : Nat, i ≤ n ∧ s5 = .int .i64 i ∧ ∃ a2 n2 c2, s4 = .slice a2 n2 c2 ∧ Hid (RowI wr w.heap.size (.slice a2 n2 c2) (partW (s.W.take i) d) ∧ Below w.heap.size w wr)) (fun _ s5 _ => n - (intOf s5).toNat)
  case atStart => exact ⟨0, Nat.zero_le _, rfl, _, _, _, rfl, World.ownsRow_nil _ _ _ _, Below.refl _ _⟩
  case round =>
    obtain ⟨i, hi, rfl, a2, n2, c2, rfl, HR⟩ := hrel
    obtain ⟨hrow, hb⟩ := HR.out
    have hh := HI.out.1.below hb
    obtain ⟨-, y1, yf⟩ := hh.cells
    simp only at y1
    by_cases hlt : i < n
    · obtain ⟨e, he⟩ : ∃ e, s.W[i]? = some e := ⟨_, List.getElem?_eq_getElem (by rw [HI.out.2]; exact hlt)⟩
      obtain ⟨g, rfl, x0⟩ := RowI.cell hh.rowW he
      have hltz : (i : Int) < (n : Int) := by omega
      have hsn : partW (s.W.take (i + 1)) d = partW (s.W.take i) d ++ if e = d then [] else [e] := by
        unfold partW
        rw [List.take_add_one, he, List.filter_append]
        congr 1
        by_cases h1 : e = d <;> simp [h1]
      obtain ⟨Y, hY⟩ : ∃ Y, (e == d) = Y := ⟨_, rfl⟩
      cases Y with
      | true =>
        have hed : e = d := eq_of_beq hY
        have H2 : Hid (RowI wr w.heap.size (.slice a2 n2 c2) (partW (s.W.take (i + 1)) d) ∧ Below w.heap.size w wr) := ⟨by rw [hsn, if_pos hed, List.append_nil]; exact hrow, hb⟩
        have hne : (e != d) = false := by rw [bne, hY]; rfl
        clear HR hrow hb hh hsn hed he
        go_wp2
        go_roundw
        case rel => exact ⟨i + 1, by omega, by simp, _, _, _, rfl, H2⟩
        case measure => simp [intOf]; omega
      | false =>
        have hed : ¬ e = d := fun h => by rw [h] at hY; simp at hY
        have hlen : (partW (s.W.take i) d).length ≤ i := Nat.le_trans (List.length_filter_le _ _) (by rw [List.length_take]; omega)
        obtain ⟨a6, N6, c6, Z, r6, row6, o6, p6⟩ := push_int e hrow hb.size (by omega)
        have H2 : Hid (RowI Z w.heap.size (.slice a6 N6 c6) (partW (s.W.take (i + 1)) d) ∧ Below w.heap.size w Z) := ⟨by rw [hsn, if_neg hed]; exact row6, o6.below hb hb.size fun b hb' => (World.ownsRow.lt hrow b hb').1⟩
        have hne : (e != d) = true := by rw [bne, hY]; rfl
        clear HR hrow hb hh hsn hed he row6 o6 p6 hlen
        go_wp2_with (at_builtin; refine wpList_apR rfl (.tmp 24) (.tmp 32) 57 rfl _ _ (.slice a6 N6 c6) Z (by simp [Act.eval]) (by simp [Act.eval]) r6 ?_)
        go_roundw
        case rel => exact ⟨i + 1, by omega, by simp, _, _, _, rfl, H2⟩
        case measure => simp [intOf]; omega
    · obtain rfl : i = n := by omega
      have hltz : ¬ (i : Int) < (i : Int) := by omega
      have HF : Hid (∃ k', Afk w (wr.setCell ⟨q, 1, none⟩ (.slice a2 n2 c2)) B q ⟨vl, .slice a i cap⟩ k' ⟨s.L, partW s.W d⟩) := by
        rw [List.take_of_length_le (by rw [HI.out.2]; exact Nat.le_refl _)] at hrow
        exact ⟨_, HI.out.1.setW (Only.of hb) (owns_le hrow hB) (.inr fun b hb' => (World.ownsRow.lt hrow b hb').1) rfl⟩
      clear HR hrow hb hh
      go_wp2
      go_end0
      exact ⟨rfl, HF.out⟩
set_option maxHeartbeats 4000000 in
theorem rclear_d (B q : Nat) (k : Kc) (s : Cs) (w : World) (h : IsK w B q k s) : Calls Tryz.prog 28 #[.pointer (some ⟨q, 0, none⟩)] w fun x w' => x = .returned (.tuple #[]) ∧ ∃ k', Afk w w' B q k k' Cs.clear := by
  obtain ⟨vl, vw⟩ := k
  obtain ⟨a, cap, hv⟩ := owns_len h.rowL
  simp only at hv
  subst hv
  obtain ⟨a2, cap2, hv2⟩ := owns_len h.rowW
  simp only at hv2
  subst hv2
  obtain ⟨c0, c1, cf⟩ := h.cells
  have a1 := h.setL (Only.refl _ w) (v := .slice none 0 0) (L := []) (World.ownsRow_nil _ _ _ _) (.inr fun b hb => by cases hb) rfl
  have b1 := a1.is.setW (Only.refl _ _) (v := .slice none 0 0) (L := []) (World.ownsRow_nil _ _ _ _) (.inr fun b hb => by cases hb) rfl
  have HE : Hid (∃ k', Afk w ((w.setCell ⟨q, 0, none⟩ (.slice none 0 0)).setCell ⟨q, 1, none⟩ (.slice none 0 0)) B q ⟨.slice a s.L.length cap, .slice a2 s.W.length cap2⟩ k' Cs.clear) := ⟨_, a1.trans b1⟩
  obtain ⟨-, d1, -⟩ := a1.is.cells
  obtain ⟨n1, hn1⟩ : ∃ n, s.L.length = n := ⟨_, rfl⟩
  obtain ⟨n2, hn2⟩ : ∃ n, s.W.length = n := ⟨_, rfl⟩
  simp only at c0 c1 d1
  rw [hn1, hn2] at HE ⊢
  rw [hn1] at c0
  rw [hn2] at c1 d1
  clear h a1 b1 hn1 hn2
  go_enter Tryz.func28, Tryz.ntmps28
  go_wp2
  go_end0
  exact ⟨rfl, HE.out⟩
end
end Go.Proofs.YtmndnjgbbpkidaaGreat
