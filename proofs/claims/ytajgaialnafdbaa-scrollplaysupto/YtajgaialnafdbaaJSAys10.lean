/- The contract of package scroll's add. -/
import Derived.Test.YtajgaialnafdbaaJSAys09
namespace Go.Proofs.Ytajgaialnafdbaa
section
open Go.RowKit

/-- a slice that lies in neither block -/
def Far (v : Value) (b g : Nat) : Prop := ∀ a n c, v = .slice (some a) n c → a.block ≠ b ∧ a.block ≠ g
theorem RB.only {S : Nat → Prop} {w w' : World} {v : Value} {l : List Int} (h : RB w v l) (ho : Only S w w') (hn : ∀ a n c, v = .slice (some a) n c → ¬ S a.block) : RB w' v l := by
  obtain ⟨a, cap, rfl, h⟩ := h
  refine ⟨a, cap, rfl, ?_⟩
  rcases h with h | ⟨g, off, rfl, hg, hc⟩
  · exact .inl h
  · exact .inr ⟨g, off, rfl, Nat.lt_of_lt_of_le hg ho.size, fun i x hx => (World.cell?_of_block (ho.block g hg (hn _ _ _ rfl))).trans (hc i x hx)⟩
theorem OwnB.far {w : World} {base b g : Nat} {v : Value} {l : List Int} (h : OwnB w base v l) (hb : b < base) (hg : g < base) : Far v b g := by
  rintro a n c rfl
  rcases h.form with ⟨e, _⟩ | ⟨k, cap, e, hk, _⟩
  · cases e
  · cases e
    exact ⟨by show k ≠ b; omega, by show k ≠ g; omega⟩
/-- what stands while a record is laid -/
structure Ad (w wr : World) (sb b g G Hh n u : Nat) (D : Dsk) : Prop where
  d : IsD wr b g D
  s : IsS wr sb b G Hh n u
  o : Only (fun x => x = b ∨ x = g) w wr
theorem Ad.below {w wr w' : World} {sb b g G Hh n u : Nat} {D : Dsk} (h : Ad w wr sb b g G Hh n u D) (hb : Below wr.heap.size wr w') : Ad w w' sb b g G Hh n u D := ⟨h.d.below hb, h.s.below hb, h.o.trans (Only.of hb)⟩

set_option maxRecDepth 100000 in
set_option maxHeartbeats 8000000 in
theorem add_any (sb b G Hh n u g : Nat) (s : Dsk) (K : Int) (v : Value) (l : List Int) (w : World) (hs : IsS w sb b G Hh n u) (h : IsD w b g s) (hok : s.ok K) (hK : K + 8 < 9223372036854775807) (hv : RB w v l) (hf : Fit v) (hfar : Far v b g) (h1 : 1 ≤ l.length) (h2 : l.length ≤ 424) (hG : G < 4294967296) (hn : n < 1000000) (hh : Hh ≤ 1) (hu : u + nb l.length ≤ hS s.cs) :
    Calls Try.prog 38 #[.pointer (some ⟨sb, 0, none⟩), v] w fun e w' => ∃ T, T = layD s (1 + Hh * hS s.cs + u) G n (nb l.length) l (nb l.length) ∧ e = .returned (.int .i64 (if T.on then 0 else 21)) ∧ IsD w' b g T ∧ IsS w' sb b G Hh (if T.on then n + 1 else n) (if T.on then u + nb l.length else u) ∧ Only (fun x => x = b ∨ x = g ∨ x = sb) w w' := by
  obtain ⟨av, cv, rfl, _⟩ := id hv
  have hC8 := nb_le h2
  have hC1 := nb_pos h1
  have hSS := hS_lt h.few
  obtain ⟨C, hC⟩ : ∃ C, nb l.length = C := ⟨_, rfl⟩
  have hCL : 53 * (C - 1) < l.length := by rw [← hC]; unfold nb; omega
  have hfit0 : ∀ k, k < C → 1 + Hh * hS s.cs + u + k < s.cs.length := fun k hk => by
    have := half_fits s.cs Hh (u + k) hh (by rw [hC] at hu; omega)
    omega
  have hlen1 : 1 ≤ s.cs.length := by have := hfit0 0 (by rw [← hC]; omega); omega
  have hnes := hs.ne h
  obtain ⟨A, hA⟩ : ∃ A, 1 + Hh * hS s.cs + u = A := ⟨_, rfl⟩
  obtain ⟨L, hL⟩ : ∃ L, l.length = L := ⟨_, rfl⟩
  have hApos : A ≤ 1024 := by have := hfit0 0 (by rw [← hC]; omega); have := h.few; rw [hA] at *; omega
  have HB : Hid (∀ w', RB w' (.slice av l.length cv) l → Calls Try.prog 37 #[.slice av l.length cv] w' fun e w2 => e = .returned (.int .i64 (C : Nat)) ∧ w' = w2) := fun w' hw => by
    have := blocks_any _ l w' hw (by omega); rw [hC] at this; exact this.mono fun e w2 hq => ⟨hq.1, hq.2.symm⟩
  have H0 : Hid (RB w (.slice av l.length cv) l ∧ Fit (.slice av l.length cv) ∧ (∀ k, k < C → A + k < s.cs.length) ∧ 1 + Hh * hS s.cs + u = A ∧ s.ok K ∧ l.length = L ∧ Far (.slice av l.length cv) b g) := ⟨hv, hf, by rw [hA] at hfit0; exact hfit0, hA, hok, hL, hfar⟩
  have hAd : Ad w w sb b g G Hh n u s := ⟨h, hs, Only.refl _ _⟩
  have HP0 : Hid (∀ (k : Nat) w' D, k < C → IsS w' sb b G Hh n u → IsD w' b g D → D.cs.length = s.cs.length → Calls Try.prog 57 #[.pointer (some ⟨sb, 0, none⟩), .int .i64 (k : Nat)] w' fun e w2 => e = .returned (.int .i64 ((A + k : Nat) : Int)) ∧ Below w'.heap.size w' w2) := fun k w' D hk hs' hd' hl' => by
    have e : hS D.cs = hS s.cs := by unfold hS; rw [hl']
    have := place_s sb b G Hh n u g D k w' hs' hd' (by omega) (by omega) hh (by omega)
    rw [e, hA] at this
    exact this.mono fun e w2 hq => ⟨hq.1, hq.2.below⟩
  rw [hC, hA]
  rw [hL] at HB
  rw [hL]
  clear hv hf h hs hA hL hok hfar hfit0
  go_enter Try.func38, Try.ntmps38
  go_wp2_with (go_at_call 37; refine (HB.out _ (by rw [← H0.out.2.2.2.2.2.1]; exact H0.out.1)).mono ?_; rintro e w1 ⟨rfl, rfl⟩)
  go_loopw [12] (fun i wr => ∃ k : Nat, k ≤ C ∧ i = .int .i64 k ∧ Ad w wr sb b g G Hh n u (layD s A G n C l k) ∧ (0 < k → (layD s A G n C l k).on = true)) (fun i _ => C - (intOf i).toNat)
  case atStart => exact ⟨0, Nat.zero_le _, rfl, hAd, fun h => absurd h (by decide)⟩
  case round =>
    clear hAd
    obtain ⟨k, hk, rfl, hAd, hon⟩ := hrel
    by_cases hlt : k < C
    · have hki : (k : Int) < (C : Int) := by omega
      obtain ⟨D, hD⟩ : ∃ D, layD s A G n C l k = D := ⟨_, rfl⟩
      obtain ⟨D', hD'⟩ : ∃ D', layD s A G n C l (k + 1) = D' := ⟨_, rfl⟩
      have hDlen : D.cs.length = s.cs.length := by rw [← hD]; exact layD_len ..
      have hDok : D.ok (K + k) := by rw [← hD]; exact layD_ok H0.out.2.2.2.2.1 ..
      have hstep : D.wr ((A + k : Nat) : Int) (pieceB G n k C (cutP l k)) = D' := by rw [← hD, ← hD']; rfl
      rw [hD] at hAd
      have hin : A + k < D.cs.length := by rw [hDlen]; exact H0.out.2.2.1 k hlt
      have hpl : (pieceB G n k C (cutP l k)).length = 64 := pieceB_len (cutP_len _ _)
      obtain ⟨E, hE⟩ : ∃ E, D.wrE ((A + k : Nat) : Int) 64 = E := ⟨_, rfl⟩
      have hEv := wrE_in hin
      have hOv := wr_on hin hpl
      rw [hE] at hEv
      rw [hstep] at hOv
      have HH : Hid (Ad w wr sb b g G Hh n u D ∧ E = (if D.spend.on then 0 else 21) ∧ D'.on = D.spend.on ∧ layD s A G n C l (k + 1) = D') := ⟨hAd, hEv, hOv, hD'⟩
      obtain ⟨c0, c1, c2, c3, c4, cf⟩ := hAd.s.cells
      have hsb := hAd.s.lt
      have hlb := hAd.d.lb
      have hlg := hAd.d.lg
      have HW : Hid (∀ v4 base w', IsD w' b g D → OwnB w' base v4 (pieceB G n k C (cutP l k)) → b < base → Calls Try.prog 27 #[.pointer (some ⟨b, 0, none⟩), .int .i64 ((A + k : Nat) : Int), v4] w' fun e w5 => e = .returned (.int .i64 E) ∧ IsD w5 b g D' ∧ Only (fun x => x = b ∨ x = g) w' w5) := fun v4 base w' hd ho hb => by
        have := write_any b g D ((A + k : Nat) : Int) v4 _ base w' hd (hDok.good (by omega)) ho hb
        rw [hpl, hE, hstep] at this; exact this
      have HR : Hid (RB wr (.slice av L cv) l) := by
        have := RB.only H0.out.1 hAd.o (fun a n c e => by have := H0.out.2.2.2.2.2.2 a n c e; omega)
        rw [H0.out.2.2.2.2.2.1] at this; exact this
      have HF : Hid (Fit (.slice av L cv) ∧ 53 * k < l.length ∧ l.length ≤ 424) := by
        have := H0.out.2.1
        rw [H0.out.2.2.2.2.2.1] at this
        exact ⟨this, by omega, h2⟩
      have HDl : Hid (D.cs.length = s.cs.length) := hDlen
      clear hD hD' hDlen hDok hstep hin hpl hE hEv hOv hon hAd
      go_upto_region 5 with fail
      go_cut [7] from 15 to 26 (fun x wx => x = .pointer (some ⟨wr.heap.size, 0, none⟩) ∧ wx.heap[wr.heap.size]? = some (.cells #[.int .i64 (G : Nat), .int .i64 (n : Nat), .int .i64 (k : Nat), .int .i64 (C : Nat)] 99 (0, 0)) ∧ Below wr.heap.size wr wx)
      case first =>
        go_region
        all_goals
          go_wp2
          go_meet
          exact ⟨rfl, heap_new _ _, ((Below.refl _ _).alloc (Nat.le_refl _) _).drew⟩
      case rest =>
        obtain ⟨rfl, hlbl, hbc⟩ := hcut
        have hAdc := HH.out.1.below hbc
        have hszc := hbc.size
        have hlt2 : wr.heap.size < wc.heap.size := (Array.getElem?_eq_some_iff.1 hlbl).1
        have HX : Hid (∀ w', Below wc.heap.size wc w' → w'.cell? ⟨sb, 0, none⟩ = some (.pointer (some ⟨b, 0, none⟩)) ∧ w'.cell? ⟨wr.heap.size, 0, none⟩ = some (.int .i64 (G : Nat)) ∧ w'.cell? ⟨wr.heap.size, 1, none⟩ = some (.int .i64 (n : Nat)) ∧ w'.cell? ⟨wr.heap.size, 2, none⟩ = some (.int .i64 (k : Nat)) ∧ w'.cell? ⟨wr.heap.size, 3, none⟩ = some (.int .i64 (C : Nat))) := fun w' hw => by
          have e := (hw.block _ hlt2).trans hlbl
          exact ⟨(hAdc.s.below hw).cells.1, by rw [cell_of e]; rfl, by rw [cell_of e]; rfl, by rw [cell_of e]; rfl, by rw [cell_of e]; rfl⟩
        have HY : Hid (∀ w4 w5, Below wc.heap.size wc w4 → Only (fun x => x = b ∨ x = g) w4 w5 → w5.cell? ⟨sb, 0, none⟩ = some (.pointer (some ⟨b, 0, none⟩)) ∧ w5.cell? ⟨wr.heap.size, 0, none⟩ = some (.int .i64 (G : Nat)) ∧ w5.cell? ⟨wr.heap.size, 1, none⟩ = some (.int .i64 (n : Nat)) ∧ w5.cell? ⟨wr.heap.size, 2, none⟩ = some (.int .i64 (k : Nat)) ∧ w5.cell? ⟨wr.heap.size, 3, none⟩ = some (.int .i64 (C : Nat))) := fun w4 w5 hw ho => by
          have e := (ho.block wr.heap.size (by have := hw.size; omega) (by omega)).trans ((hw.block _ hlt2).trans hlbl)
          exact ⟨((hAdc.s.below hw).only ho (by omega)).cells.1, by rw [cell_of e]; rfl, by rw [cell_of e]; rfl, by rw [cell_of e]; rfl, by rw [cell_of e]; rfl⟩
        have HP : Hid (∀ w', Below wc.heap.size wc w' → Calls Try.prog 57 #[.pointer (some ⟨sb, 0, none⟩), .int .i64 (k : Nat)] w' fun e w2 => e = .returned (.int .i64 ((A + k : Nat) : Int)) ∧ Below wc.heap.size wc w2) := fun w' hw => (HP0.out k w' D hlt (hAdc.s.below hw) (hAdc.d.below hw) HDl.out).mono fun e w2 hq => ⟨hq.1, chainB hw hq.2⟩
        have HCt : Hid (∀ w', Below wc.heap.size wc w' → Calls Try.prog 59 #[.slice av L cv, .int .i64 (k : Nat)] w' fun e w2 => ∃ v', e = .returned v' ∧ RB w' v' (cutP l k) ∧ w2 = w') := fun w' hw => cut_r _ l k w' ((RB.below HR.out hbc).below hw) HF.out.1 HF.out.2.1 HF.out.2.2
        have HWc : Hid (∀ v4 base w', Below wc.heap.size wc w' → OwnB w' base v4 (pieceB G n k C (cutP l k)) → b < base → Calls Try.prog 27 #[.pointer (some ⟨b, 0, none⟩), .int .i64 ((A + k : Nat) : Int), v4] w' fun e w5 => e = .returned (.int .i64 E) ∧ IsD w5 b g D' ∧ Only (fun x => x = b ∨ x = g) w' w5) := fun v4 base w' hw ho hb => HW.out v4 base w' (hAdc.d.below hw) ho hb
        have HAc : Hid (Ad w wc sb b g G Hh n u D) := hAdc
        clear hlbl hbc hAdc c0 c1 c2 c3 c4 cf HW HR HP0
        go_upto_region 6 with fail
        have k0 := HX.out wc.drew (Below.refl _ _).drew
        refine wp_region_held_drew (S := fun w' => w'.cell? ⟨sb, 0, none⟩ = some (.pointer (some ⟨b, 0, none⟩)) ∧ w'.cell? ⟨wr.heap.size, 0, none⟩ = some (.int .i64 (G : Nat)) ∧ w'.cell? ⟨wr.heap.size, 1, none⟩ = some (.int .i64 (n : Nat)) ∧ w'.cell? ⟨wr.heap.size, 2, none⟩ = some (.int .i64 (k : Nat)) ∧ w'.cell? ⟨wr.heap.size, 3, none⟩ = some (.int .i64 (C : Nat))) (by kernel_rfl) k0 (fun hHeld => ?_)
        refine take_yes (i := 0) (some 27) (.pointer (some ⟨sb, 0, none⟩)) rfl rfl (by kernel_rfl) (by kernel_rfl) (by kernel_rfl) (fun _ _ _ h => h) (by rfl) (fun w hSw => ?_) (by assumption) ?_
        · try dsimp only at hSw
          go_simp
        try simp only [Act.put, List.setIfInBounds_toArray, List.set_cons_zero, List.set_cons_succ]
        refine take_yes (i := 1) (some 28) (.pointer (some ⟨sb, 0, none⟩)) rfl rfl (by kernel_rfl) (by kernel_rfl) (by kernel_rfl) (fun _ _ _ h => h) (by rfl) (fun w hSw => ?_) (by assumption) ?_
        · try dsimp only at hSw
          go_simp
        try simp only [Act.put, List.setIfInBounds_toArray, List.set_cons_zero, List.set_cons_succ]
        refine take_yes (i := 2) (some 29) (.pointer (some ⟨sb, 0, none⟩)) rfl rfl (by kernel_rfl) (by kernel_rfl) (by kernel_rfl) (fun _ _ _ h => h) (by rfl) (fun w hSw => ?_) (by assumption) ?_
        · try dsimp only at hSw
          go_simp
        try simp only [Act.put, List.setIfInBounds_toArray, List.set_cons_zero, List.set_cons_succ]
        refine take_yes (i := 3) (some 30) (.pointer (some ⟨b, 0, none⟩)) rfl rfl (by kernel_rfl) (by kernel_rfl) (by kernel_rfl) (fun _ _ _ h => h) (by rfl) (fun w hSw => ?_) (by assumption) ?_
        · try dsimp only at hSw
          go_simp
        try simp only [Act.put, List.setIfInBounds_toArray, List.set_cons_zero, List.set_cons_succ]
        refine take_yes (i := 4) (some 31) (.pointer (some ⟨sb, 0, none⟩)) rfl rfl (by kernel_rfl) (by kernel_rfl) (by kernel_rfl) (fun _ _ _ h => h) (by rfl) (fun w hSw => ?_) (by assumption) ?_
        · try dsimp only at hSw
          go_simp
        try simp only [Act.put, List.setIfInBounds_toArray, List.set_cons_zero, List.set_cons_succ]
        refine take_yes (i := 5) (some 32) (.int .i64 (k : Nat)) rfl rfl (by kernel_rfl) (by kernel_rfl) (by kernel_rfl) (fun _ _ _ h => h) (by rfl) (fun w hSw => ?_) (by assumption) ?_
        · try dsimp only at hSw
          go_simp
        try simp only [Act.put, List.setIfInBounds_toArray, List.set_cons_zero, List.set_cons_succ]
        refine take_yes (i := 7) (some 34) (.agg #[.int .i64 (G : Nat), .int .i64 (n : Nat), .int .i64 (k : Nat), .int .i64 (C : Nat)]) rfl rfl (by kernel_rfl) (by kernel_rfl) (by kernel_rfl) (fun _ _ _ h => h) (by rfl) (fun w hSw => ?_) (by assumption) ?_
        · try dsimp only at hSw
          go_simp
        try simp only [Act.put, List.setIfInBounds_toArray, List.set_cons_zero, List.set_cons_succ]
        refine take_yes (i := 8) (some 35) (.slice av L cv) rfl rfl (by kernel_rfl) (by kernel_rfl) (by kernel_rfl) (fun _ _ _ h => h) (by rfl) (fun w hSw => ?_) (by assumption) ?_
        · try dsimp only at hSw
          go_simp
        try simp only [Act.put, List.setIfInBounds_toArray, List.set_cons_zero, List.set_cons_succ]
        refine take_yes (i := 9) (some 36) (.int .i64 (k : Nat)) rfl rfl (by kernel_rfl) (by kernel_rfl) (by kernel_rfl) (fun _ _ _ h => h) (by rfl) (fun w hSw => ?_) (by assumption) ?_
        · try dsimp only at hSw
          go_simp
        try simp only [Act.put, List.setIfInBounds_toArray, List.set_cons_zero, List.set_cons_succ]
        refine wpAnyH_ready (rs := [6]) (by kernel_rfl) (by simp) ?_
        refine AllReadyH.cons rfl (fun K hK => ?_) AllReadyH.nil
        go_simp
        go_at_call 57
        refine (HP.out _ (by exact (Below.refl _ _).drew)).mono ?_
        rintro e w2 ⟨rfl, hb2⟩
        have k2 := HX.out w2 hb2
        refine hK.out _ _ k2 (fun hHeld => ?_)
        clear hK K
        try simp only [Act.put, List.setIfInBounds_toArray, List.set_cons_zero, List.set_cons_succ]
        refine wpAnyH_ready (rs := [10]) (by kernel_rfl) (by simp) ?_
        refine AllReadyH.cons rfl (fun K hK => ?_) AllReadyH.nil
        go_simp
        go_at_call 59
        refine (HCt.out _ hb2).mono ?_
        rintro e w3 ⟨v3, rfl, hr3, rfl⟩
        refine hK.out _ _ k2 (fun hHeld => ?_)
        clear hK K
        try simp only [Act.put, List.setIfInBounds_toArray, List.set_cons_zero, List.set_cons_succ]
        refine wpAnyH_ready (rs := [11]) (by kernel_rfl) (by simp) ?_
        refine AllReadyH.cons rfl (fun K hK => ?_) AllReadyH.nil
        go_simp
        go_at_call 58
        refine (block_any G n k C v3 _ _ hG (by omega) hr3 (cutP_len _ _)).mono ?_
        rintro e w4 ⟨v4, rfl, ho4, hb4⟩
        have hb24 := chainB hb2 hb4
        have k4 := HX.out w4 hb24
        refine hK.out _ _ k4 (fun hHeld => ?_)
        clear hK K
        try simp only [Act.put, List.setIfInBounds_toArray, List.set_cons_zero, List.set_cons_succ]
        refine wpAnyH_ready (rs := [12]) (by kernel_rfl) (by simp) ?_
        refine AllReadyH.cons rfl (fun K hK => ?_) AllReadyH.nil
        go_simp
        go_at_call 27
        refine (HWc.out v4 w3.heap.size _ hb24 ho4 (by have := hb2.size; omega)).mono ?_
        rintro e w5 ⟨rfl, hD5, hO5⟩
        have k5 := HY.out w4 w5 hb24 hO5
        refine hK.out _ _ k5 (fun hHeld => ?_)
        clear hK K
        try simp only [Act.put, List.setIfInBounds_toArray, List.set_cons_zero, List.set_cons_succ]
        refine take_yes (i := 13) (some 8) (.int .i64 E) rfl rfl (by kernel_rfl) (by kernel_rfl) (by kernel_rfl) (fun _ _ _ h => h) (by rfl) (fun w hSw => ?_) (by assumption) ?_
        · try dsimp only at hSw
          go_simp
        try simp only [Act.put, List.setIfInBounds_toArray, List.set_cons_zero, List.set_cons_succ]
        refine wpAnyH_done (by kernel_rfl) ?_ _
        have hA5 : Ad w w5 sb b g G Hh n u D' := by
          have hx := HAc.out.below hb24
          exact ⟨hD5, hx.s.only hO5 (by omega), hx.o.trans hO5⟩
        have HA5 : Hid (Ad w w5 sb b g G Hh n u D') := hA5
        clear hA5 hD5 hO5 hHeld k0 k2 k4 k5 ho4 hb4 hb2 hr3 hb24
        cases hsp : D.spend.on
        · have hE21 : E = 21 := by rw [HH.out.2.1, hsp]; rfl
          have HF2 : Hid (D'.on = false) := by rw [HH.out.2.2.1]; exact hsp
          subst hE21
          clear hsp
          go_wp2
          go_ret
          have hTD : layD s A G n C l C = D' := by rw [← HH.out.2.2.2]; exact layD_stop H0.out.2.2.2.2.1 _ _ _ _ _ (by rw [HH.out.2.2.2]; exact HF2.out) hlt
          refine ⟨D', hTD.symm, ?_, HA5.out.d, ?_, HA5.out.o.mono fun x hx => hx.elim Or.inl fun h => Or.inr (Or.inl h)⟩
          · rw [HF2.out]; rfl
          · rw [HF2.out]; exact HA5.out.s
        · have hE0 : E = 0 := by rw [HH.out.2.1, hsp]; rfl
          have HF2 : Hid (D'.on = true) := by rw [HH.out.2.2.1]; exact hsp
          subst hE0
          clear hsp
          go_wp2
          go_roundw
          case rel => exact ⟨k + 1, by omega, by go_num, by rw [HH.out.2.2.2]; exact HA5.out, fun _ => by rw [HH.out.2.2.2]; exact HF2.out⟩
          case measure => simp [intOf]; omega
    · obtain rfl : k = C := by omega
      have hT := hon (by omega)
      have HT2 : Hid ((layD s A G n k l k).on = true ∧ Ad w wr sb b g G Hh n u (layD s A G n k l k)) := ⟨hT, hAd⟩
      have HKp : Hid (Calls Try.prog 60 #[.pointer (some ⟨sb, 0, none⟩), .int .i64 (k : Nat)] wr fun e w' => e = .returned (.tuple #[]) ∧ IsS w' sb b G Hh (n + 1) (u + k) ∧ Only (· = sb) wr w') := keep_any sb b G Hh n u k wr hAd.s (by omega) (by omega) (by omega)
      clear hT hAd hon HP0
      go_wp2_with (go_at_call 60; refine HKp.out.mono ?_; rintro e w2 ⟨rfl, hs2, hO2⟩)
      go_ret
      refine ⟨_, rfl, ?_, HT2.out.2.d.only hO2 (by omega) (by omega), ?_, (HT2.out.2.o.mono fun x hx => hx.elim Or.inl fun h => Or.inr (Or.inl h)).trans (hO2.mono fun x hx => Or.inr (Or.inr hx))⟩
      · rw [HT2.out.1]; rfl
      · rw [HT2.out.1]; exact hs2
end
end Go.Proofs.Ytajgaialnafdbaa
