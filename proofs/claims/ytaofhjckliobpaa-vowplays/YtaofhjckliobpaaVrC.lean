/- The chapter's own table: Holds, without; Less. -/
import Derived.Test.YtaofhjckliobpaaVrB
namespace Go.Proofs.Ytaofhjckliobpaa
open Go.RowKit Go.Shelf
attribute [local go_sem high] eqK neqK guardK run_store_complex

set_option maxHeartbeats 2000000 in
theorem rholds_p (t B : Nat) (s : Vt) (k : Ky) (w : World) (h : IsW w B t s) : Calls Try.prog 15 #[.pointer (some ⟨t, 0, none⟩), k.agg] w fun e w' => e = .returned (.bool (inK s.ks k)) ∧ Below w.heap.size w w' := by
  obtain ⟨a, cap, hv⟩ := owns_len h.rk
  obtain ⟨n, hn⟩ : ∃ n, s.ks.length = n := ⟨_, rfl⟩
  have hn33 : n ≤ 33 := by rw [← hn]; exact h.lk
  rw [hn] at hv
  have HR : Hid (∀ W, Below w.heap.size w W → RowK W B (.slice a n cap) s.ks ∧ W.cell? ⟨t, 2, none⟩ = some (.slice a n cap) ∧ s.ks.length = n) := fun W hb => by
    have h2 := (h.below hb).cells.2.1
    have h3 := (h.below hb).rk
    rw [hv] at h2 h3
    exact ⟨h3, h2, hn⟩
  clear h hv hn
  unfold Ky.agg
  go_enter Try.func15, Try.ntmps15
  go_wp2
  go_loopw [5] (fun i wr => ∃ j : Nat, j ≤ n ∧ i = .int .i64 j ∧ Hid (∀ (m : Nat) (e : Ky), m < j → s.ks[m]? = some e → eqKy e k = false) ∧ BoxK wr w.heap.size k ∧ Below w.heap.size w wr) (fun i _ => n - (intOf i).toNat)
  case atStart => exact ⟨0, Nat.zero_le _, rfl, fun m e hm => absurd hm (by omega), heap_new _ _, below_alloc _ _⟩
  case round =>
    obtain ⟨j, hj, rfl, HNo, hbx, hb⟩ := hrel
    obtain ⟨hrow, c2, -⟩ := HR.out wr hb
    obtain ⟨b0, b1, -⟩ := hbx.cells
    by_cases hlt : j < n
    · obtain ⟨x, hx⟩ : ∃ x, s.ks[j]? = some x := ⟨_, List.getElem?_eq_getElem (by rw [(HR.out wr hb).2.2]; exact hlt)⟩
      obtain ⟨g, rfl, -, -, x0, x1, -⟩ := hrow.key hx
      have hki : (j : Int) < (n : Int) := by omega
      cases hq : eqKy x k with
      | true =>
        have HE : Hid (inK s.ks k = true) := inK_at hx hq
        clear hx hbx hrow
        go_upto_region 4 with fail
        go_quiet (fail)
        go_wp2
        go_ret
        exact ⟨by rw [HE.out]; rfl, below_drewN hb _⟩
      | false =>
        have HT : Hid (∀ (m : Nat) (e : Ky), m < j + 1 → s.ks[m]? = some e → eqKy e k = false) := by
          intro m e hm he
          rcases Nat.lt_or_ge m j with h | h
          · exact HNo.out m e h he
          · obtain rfl : m = j := by omega
            rw [hx] at he; cases he; exact hq
        have HB : Hid (BoxK wr w.heap.size k) := hbx
        clear hx hbx hrow
        go_upto_region 4 with fail
        go_quiet (fail)
        go_wp2
        exact ⟨⟨j + 1, by omega, by simp, HT.out, HB.out.below (below_drewN (Below.refl _ _) _), below_drewN hb _⟩, by simp [intOf]; omega⟩
    · have hkl : j = n := by omega
      subst hkl
      have hki : ¬ (j : Int) < (j : Int) := by omega
      have HE : Hid (inK s.ks k = false) := inK_no fun hm => by
        obtain ⟨m, hm⟩ := List.getElem?_of_mem hm
        have := HNo.out m k (by have := (List.getElem?_eq_some_iff.1 hm).1; rw [(HR.out wr hb).2.2] at this; exact this) hm
        rw [eqKy_self] at this; cases this
      clear hbx hrow
      go_wp2
      go_ret
      exact ⟨by rw [HE.out]; rfl, hb⟩
theorem drop_step {ks : List Ky} {j : Nat} {x : Ky} (k : Ky) (hx : ks[j]? = some x) : dropK (ks.take (j + 1)) k = dropK (ks.take j) k ++ (if eqKy x k = true then [] else [x]) := by
  rw [List.take_add_one, hx]
  unfold dropK
  rw [List.filter_append]
  cases h : eqKy x k <;> simp [h]
set_option maxHeartbeats 4000000 in
theorem rwithout_p (t B : Nat) (s : Vt) (k : Ky) (w : World) (h : IsW w B t s) : Calls Try.prog 38 #[.pointer (some ⟨t, 0, none⟩), k.agg] w fun e w' => e = .returned (.tuple #[]) ∧ ∃ s', SW w w' B t s s' ∧ s'.say = { s.say with ks := dropK s.ks k } := by
  obtain ⟨i1, hi1, hw0, hw1, hw2⟩ := info_parts Try.infoKy
  obtain ⟨a, cap, hv⟩ := owns_len h.rk
  obtain ⟨n, hn⟩ : ∃ n, s.ks.length = n := ⟨_, rfl⟩
  have hn33 : n ≤ 33 := by rw [← hn]; exact h.lk
  rw [hn] at hv
  have HR : Hid (∀ W, Below w.heap.size w W → RowK W B (.slice a n cap) s.ks ∧ W.cell? ⟨t, 2, none⟩ = some (.slice a n cap) ∧ (∀ i, W.frozen? ⟨t, i, none⟩ = false) ∧ s.ks.length = n) := fun W hb => by
    have h2 := (h.below hb).cells.2.1
    have h3 := (h.below hb).rk
    rw [hv] at h2 h3
    exact ⟨h3, h2, (h.below hb).cells.2.2.2.2.2, hn⟩
  have HS : Hid (∀ W v', Below w.heap.size w W → RowK W w.heap.size v' (dropK s.ks k) → SW w (W.setCell ⟨t, 2, none⟩ v') B t s { s with pv := v', ks := dropK s.ks k }) := fun W v' hb hr => by
    have hbB : B ≤ w.heap.size := by have := h.bt; have := h.tt.lt; omega
    exact h.putP (Only.of hb) v' _ (owns_le hr hbB) (Nat.le_trans (dropK_le _ _) h.lk) fun q hq => .inr (hr.lt hq).1
  have HB : Hid (B ≤ w.heap.size) := by have := h.bt; have := h.tt.lt; show B ≤ _; omega
  clear h hv hn
  unfold Ky.agg
  go_enter Try.func38, Try.ntmps38
  go_wp2
  go_loopw [4, 5] (fun l i wr => ∃ j : Nat, j ≤ n ∧ i = .int .i64 j ∧ Hid (RowK wr (w.heap.size + 1) l (dropK (s.ks.take j) k) ∧ BoxK wr w.heap.size k ∧ Below w.heap.size w wr)) (fun _ i _ => n - (intOf i).toNat)
  case atStart => exact ⟨0, Nat.zero_le _, rfl, World.ownsRow_nil _ _ _ _, heap_new _ _, below_alloc _ _⟩
  case round =>
    rename World => W0
    obtain ⟨j, hj, rfl, HI⟩ := hrel
    obtain ⟨hrow, c2, -, -⟩ := HR.out W0 HI.out.2.2
    obtain ⟨b0, b1, -⟩ := HI.out.2.1.cells
    obtain ⟨a4, c4, h4⟩ := owns_len HI.out.1
    obtain ⟨n4, hn4⟩ : ∃ m, (dropK (s.ks.take j) k).length = m := ⟨_, rfl⟩
    rw [hn4] at h4
    subst h4
    have hn4j : n4 ≤ j := by rw [← hn4]; refine Nat.le_trans (dropK_le _ _) ?_; rw [List.length_take]; omega
    by_cases hlt : j < n
    · obtain ⟨x, hx⟩ : ∃ x, s.ks[j]? = some x := ⟨_, List.getElem?_eq_getElem (by rw [(HR.out W0 HI.out.2.2).2.2.2]; exact hlt)⟩
      obtain ⟨g, rfl, -, -, x0, x1, -⟩ := hrow.key hx
      have hki : (j : Int) < (n : Int) := by omega
      have hstep := drop_step k hx
      have HB1 : Hid (∀ q, Below W0.heap.size W0 (W0.drewN q)) := fun q => below_drewN (Below.refl _ _) q
      cases hq : eqKy x k with
      | true =>
        rw [hq, if_pos rfl, List.append_nil] at hstep
        have HT : Hid (dropK (s.ks.take (j + 1)) k = dropK (s.ks.take j) k) := hstep
        clear hx hrow hstep hn4
        go_upto_region 5 with fail
        go_quiet (fail)
        go_wp2
        exact ⟨⟨j + 1, by omega, by simp, by rw [HT.out]; exact HI.out.1.below (HB1.out _), HI.out.2.1.below (HB1.out _), chainB HI.out.2.2 (HB1.out _)⟩, by simp [intOf]; omega⟩
      | false =>
        rw [hq, if_neg (by decide)] at hstep
        have HT : Hid (dropK (s.ks.take (j + 1)) k = dropK (s.ks.take j) k ++ [x] ∧ (dropK (s.ks.take j) k).length = n4) := ⟨hstep, hn4⟩
        have HO : Hid (∀ W, Below W0.heap.size W0 W → W.ownsRow (w.heap.size + 1) 36 2 (.slice a4 n4 c4) n4 (kc (dropK (s.ks.take j) k))) := fun W hb => by
          have := HI.out.1.below hb
          unfold RowK at this
          rw [HT.out.2] at this; exact this
        have HZ : Hid (w.heap.size + 1 ≤ W0.heap.size) := (Array.getElem?_eq_some_iff.1 HI.out.2.1).1
        clear hx hrow hstep hn4
        go_upto_region 5 with fail
        go_quiet (fail)
        obtain ⟨W1, hW1⟩ : ∃ W, W0.drewN nq = W := ⟨_, rfl⟩
        have hb1 := HB1.out nq
        rw [hW1] at hb1 ⊢
        have HB2 : Hid (Below W0.heap.size W0 W1) := hb1
        obtain ⟨-, c2', -, -⟩ := HR.out W1 (chainB HI.out.2.2 hb1)
        have y0 := (hb1.cell (cellLt x0)).trans x0
        have y1 := (hb1.cell (cellLt x1)).trans x1
        clear hW1 hb1 HB1 x0 x1 c2 b0 b1
        go_wp2_with (at_builtin; refine wpList_append_own _ rfl _ _ 31 rfl (w.heap.size + 1) 36 i1 (.agg #[.int .i64 0, .string ⟨#[]⟩]) 2 24 Try.underlying31 hi1 hw0 hw1 hw2 rfl (by decide) _ n4 (kc (dropK (s.ks.take j) k)) rfl (World.ownsRow.alloc (HO.out W1 HB2.out) _) ⟨W1.heap.size, 0, none⟩ 1 1 x.vals rfl rfl (one_key _ x) (ky_one _) (by unfold maxLen; omega) (by omega) (by have := HB2.out.size; have := HZ.out; simp; omega) ?_; intro v5 w5 hown5 hgrow5 _)
        refine ⟨⟨j + 1, by omega, by simp, ?_, ?_, ?_⟩, by simp [intOf]; omega⟩
        · rw [HT.out.1]
          show World.ownsRow _ _ _ _ _ _ _
          rw [List.length_append, HT.out.2, kc_app]; exact hown5
        · have h1 := (HI.out.2.1.below HB2.out).below (below_alloc W1 (.cells #[.int .i64 x.d, .string x.nm] 36))
          refine (hgrow5.block _ (Array.getElem?_eq_some_iff.1 h1).1 fun e => ?_).trans h1
          have := ((HO.out W1 HB2.out).lt _ e.symm).1
          omega
        · have hb := (chainB HI.out.2.2 HB2.out)
          exact (hb.alloc (by have := hb.size; omega) _).grown hgrow5 (by have := hb.size; simp; omega) (fun q hq => by have := ((HO.out W1 HB2.out).lt q hq).1; omega)
    · have hkl : j = n := by omega
      subst hkl
      have hki : ¬ (j : Int) < (j : Int) := by omega
      have htk : s.ks.take j = s.ks := List.take_of_length_le (by rw [(HR.out W0 HI.out.2.2).2.2.2]; omega)
      have HF : Hid (SW w (W0.setCell ⟨t, 2, none⟩ (.slice a4 n4 c4)) B t s { s with pv := .slice a4 n4 c4, ks := dropK s.ks k }) := HS.out W0 _ HI.out.2.2 (by have := HI.out.1; rw [htk] at this; exact owns_le this (by omega))
      have cf2 := (HR.out W0 HI.out.2.2).2.2.1 2
      clear hrow hn4 htk HS
      go_wp2
      go_end0
      exact ⟨rfl, _, HF.out, rfl⟩
end Go.Proofs.Ytaofhjckliobpaa
