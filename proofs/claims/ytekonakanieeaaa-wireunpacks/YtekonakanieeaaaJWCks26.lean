/- The reader in memory: lists. -/
import Derived.Test.YtekonakanieeaaaJWCks25
namespace Go.Proofs.Ytekonakanieeaaa
section
open Go.RowKit Go.Lib

theorem Try.infoKy : (Try.prog.info? 40).map (fun i => (i.zero, i.size, i.bytes)) = some (some (.agg #[.int .i64 0, .string ⟨#[]⟩]), 2, 24) := by kernel_rfl
theorem ec_app1 (a : List En) (x : En) : ec (a ++ [x]) = ec a ++ x.vals := by rw [ec_app, show ec [x] = x.vals by unfold ec; simp]
theorem kc_app1 (a : List Ky) (x : Ky) : kc (a ++ [x]) = kc a ++ [.int .i64 x.d, .string x.nm] := by unfold kc; rw [List.flatMap_append]; simp
theorem two_cells (x : Ky) : ∀ u ∈ [Value.int .i64 x.d, .string x.nm], u.oneCell' = true := by
  intro u hu
  simp at hu
  rcases hu with rfl | rfl <;> rfl
/-- blocks of the call's own turned -/
theorem Red.own {w w2 w3 : World} {r : Nat} {v : Value} {l : List Int} {s s0 : St} {S : Nat → Prop} (h : Red w w2 r v l s) (h0 : Rg w r v l s0) (hO : Only S w2 w3) (hS : ∀ k, S k → w.heap.size ≤ k) : Red w w3 r v l s := by
  obtain ⟨⟨a, st, hi⟩, hO2⟩ := h
  have hr := h0.lt
  obtain ⟨a0, st0, hi0⟩ := h0
  have hlt := hi.tt.lt
  refine ⟨⟨a, st, (hO.block r hlt (fun e => by have := hS _ e; omega)).trans hi.head, hi.state, ?_, hi.off, hi.byt, hi.lim⟩, ?_⟩
  · obtain ⟨ad, cap, rfl, hcap, h⟩ := hi.rb
    obtain ⟨ad', cap', e, _, h'⟩ := hi0.rb
    cases e
    refine ⟨ad, cap, rfl, hcap, ?_⟩
    rcases h with h | ⟨g1, off, rfl, hg1, hc⟩
    · exact .inl h
    · rcases h' with h' | ⟨g2, off2, e2, hg2, _⟩
      · exact .inl h'
      · cases e2
        exact .inr ⟨g1, off, rfl, Nat.lt_of_lt_of_le hg1 hO.size, fun i x hx => (World.cell?_of_block (hO.block g1 hg1 (fun e => by have := hS _ e; omega))).trans (hc i x hx)⟩
  · exact ⟨hO.os.trans hO2.os, hO.tape.trans hO2.tape, hO.output.trans hO2.output, Nat.le_trans hO2.size hO.size, fun k hk hn => (hO.block k (Nat.lt_of_lt_of_le hk hO2.size) (fun e => by have := hS _ e; omega)).trans (hO2.block k hk hn)⟩

set_option maxRecDepth 20000 in
set_option maxHeartbeats 8000000 in
theorem listE_r {w : World} {r : Nat} {v : Value} {l : List Int} {s : St} (h : Rg w r v l s) : Calls Try.prog 47 #[.pointer (some ⟨r, 0, none⟩), .func (.func 48) #[.pointer (some ⟨r, 0, none⟩)] #[]] w fun e w' => ∃ u, e = .returned u ∧ Hid (Red w w' r v l (listP entP s).2 ∧ Row7 w' w.heap.size u (listP entP s).1 ∧ (listP entP s).1.length ≤ 48) := by
  obtain ⟨i1, hi1, hw0, hw1, hw2⟩ := info_parts Try.infoE
  have HG : Hid (Rg w r v l s) := h
  have HNm : Hid (Calls Try.prog 44 #[.pointer (some ⟨r, 0, none⟩)] w fun e w' => RdR w r v l (numP s).2 (.int .i64 (numP s).1) e w') := number_r h
  have hin := numP_in h.lft
  obtain ⟨LN, hLN⟩ : ∃ x, listP entP s = x := ⟨_, rfl⟩
  rw [hLN]
  unfold listP at hLN
  obtain ⟨N, hN⟩ : ∃ n : Nat, (numP s).1 = (n : Int) := ⟨(numP s).1.toNat, by omega⟩
  obtain ⟨s1, hs1⟩ : ∃ x, (numP s).2 = x := ⟨_, rfl⟩
  rw [hN, hs1] at HNm hLN
  rw [hN] at hin
  simp only [Int.toNat_natCast] at hLN
  have HL0 : Hid (listG entP N [] s1 = LN) := hLN
  have hrl := h.lt
  clear h hLN hN hs1
  go_enter Try.func47, Try.ntmps47
  go_wp2
  refine wp_scope_once 0 (by rfl) ?_
  go_wp2_with (go_at_call 44; refine HNm.out.mono ?_; rintro e w1 ⟨rfl, h1⟩)
  go_loopw [5, 8] (fun u i wr => ∃ (k : Nat) (acc : List En) (s' : St), k ≤ N ∧ i = .int .i64 k ∧ Hid (listG entP (N - k) acc s' = LN ∧ Red w wr r v l s' ∧ Row7 wr w.heap.size u acc ∧ acc.length ≤ 48)) (fun _ i _ => N - (intOf i).toNat)
  case atStart => exact ⟨0, [], s1, Nat.zero_le _, rfl, HL0.out, h1.out, World.ownsRow_nil _ _ _ _, by simp⟩
  case round =>
    obtain ⟨k, acc, s', hk, rfl, hI⟩ := hrel
    have HS : Hid (Calls Try.prog 78 #[.pointer (some ⟨r, 0, none⟩)] wr fun e w' => e = .returned (.tuple #[]) ∧ Hid (Red wr w' r v l none)) := stop_r hI.out.2.1.1
    by_cases hkn : k < N
    · have hki : (k : Int) < (N : Int) := by omega
      obtain ⟨a, st, hr⟩ := hI.out.2.1.1
      obtain ⟨-, -, c2, -⟩ := hr.cells
      have hst : st = true ↔ s' = none := by
        rcases hr.state with ⟨e, e2, _⟩ | ⟨e, e2, _⟩
        · simp [e, e2]
        · simp [e, e2]
      have hstep : listG entP (N - k) acc s' = if s' = none ∨ acc.length = 48 then ([], none) else listG entP (N - (k + 1)) (acc ++ [(entP s').1]) (entP s').2 := by
        rw [show N - k = (N - (k + 1)) + 1 by omega]; rfl
      rw [hI.out.1] at hstep
      obtain ⟨av, cv, hu⟩ := owns_len hI.out.2.2.1
      subst hu
      clear hr
      cases st with
      | true =>
        rw [if_pos (.inl (hst.1 rfl))] at hstep
        have HE : Hid (LN = ([], none)) := hstep
        clear hstep hst
        go_wp2
        go_step3
        refine fwd_goto (l := 0) ?_
        go_wp2_with (go_at_call 78; refine HS.out.mono ?_; rintro e w2 ⟨rfl, h2⟩)
        rw [Exit.noGoto_ret]
        go_ret
        rw [HE.out]
        exact ⟨_, rfl, hI.out.2.1.on h2.out, World.ownsRow_nil _ _ _ _, by simp⟩
      | false =>
        have hsn : ¬ s' = none := fun e => by have := hst.2 e; cases this
        by_cases h48 : acc.length = 48
        · rw [if_pos (.inr h48)] at hstep
          have HE : Hid (LN = ([], none)) := hstep
          have h48b : ((acc.length : Int) == 48) = true := by rw [h48]; rfl
          clear hstep hst hsn h48
          go_wp2
          go_step3
          refine fwd_goto (l := 0) ?_
          go_wp2_with (go_at_call 78; refine HS.out.mono ?_; rintro e w2 ⟨rfl, h2⟩)
          rw [Exit.noGoto_ret]
          go_ret
          rw [HE.out]
          exact ⟨_, rfl, hI.out.2.1.on h2.out, World.ownsRow_nil _ _ _ _, by simp⟩
        · rw [if_neg (fun h => h.elim hsn h48)] at hstep
          have h48b : ((acc.length : Int) == 48) = false := by rw [beq_eq_false_iff_ne]; omega
          have HRd : Hid (Calls Try.prog 48 #[.pointer (some ⟨r, 0, none⟩)] wr fun e w' => RdR wr r v l (entP s').2 ((entP s').1.agg) e w') := entry_r hI.out.2.1.1
          obtain ⟨x, hx⟩ : ∃ x, (entP s').1 = x := ⟨_, rfl⟩
          obtain ⟨s2, hs2⟩ : ∃ x, (entP s').2 = x := ⟨_, rfl⟩
          rw [hx, hs2] at hstep HRd
          have HE : Hid (listG entP (N - (k + 1)) (acc ++ [x]) s2 = LN) := hstep.symm
          have hacc : acc.length ≤ 47 := by have := hI.out.2.2.2; omega
          unfold En.agg at HRd
          clear hstep hst hsn h48 hx hs2
          go_wp2_with (first
            | (at_builtin; refine wpList_append_own_at _ rfl (.tmp 19) (.tmp 22) 27 rfl w.heap.size 44 i1 _ 7 72 Try.underlying27 hi1 hw0 hw1 hw2 rfl (by decide) _ acc.length (ec acc) rfl (World.ownsRow.alloc H2.out.2.1 _) ⟨w2.heap.size, 0, none⟩ 1 1 x.vals rfl rfl (vals_at _ x _) (vals_one x) (by unfold maxLen; omega) (by omega) (by have := H2.out.2.2; simp; omega) ?_; intro v5 w5 hown5 hgrow5 _ _; have H5 : Hid (w5.ownsRow w.heap.size 44 7 v5 (acc.length + 1) (ec acc ++ x.vals) ∧ Red w w5 r v l s2) := ⟨hown5, (H2.out.1.own HG.out (Only.of (S := fun _ => False) (below_alloc w2 _)) (fun k hk => hk.elim)).own HG.out (only_grown hgrow5) (fun q hq => (World.ownsRow.lt H2.out.2.1 q hq).1)⟩; clear hown5 hgrow5)
            | (go_at_call 48; refine HRd.out.mono ?_; rintro e w2 ⟨rfl, h2⟩; have H2 : Hid (Red w w2 r v l s2 ∧ Row7 w2 w.heap.size (.slice av acc.length cv) acc ∧ w.heap.size ≤ w2.heap.size) := ⟨hI.out.2.1.on h2.out, owns_moved hI.out.2.2.1 fun q hq => h2.out.2.block q (Tag.own hI.out.2.2.1 hq).lt (by have := (World.ownsRow.lt hI.out.2.2.1 q hq).1; omega), Nat.le_trans hI.out.2.1.2.size h2.out.2.size⟩; clear h2))
          refine ⟨⟨k + 1, acc ++ [x], s2, by omega, by simp, HE.out, H5.out.2, ?_, by rw [List.length_append]; simp; omega⟩, by simp [intOf]; omega⟩
          show World.ownsRow _ _ _ _ _ _ _
          rw [List.length_append, ec_app1]
          exact H5.out.1
    · have hki : ¬ (k : Int) < (N : Int) := by omega
      have hk0 : N - k = 0 := by omega
      have HE : Hid (LN = (acc, s')) := by have := hI.out.1; rw [hk0] at this; exact this.symm
      clear hk0
      go_wp2
      refine fwd_ret ?_
      go_ret
      rw [HE.out]
      exact ⟨_, rfl, hI.out.2.1, hI.out.2.2.1, hI.out.2.2.2⟩

set_option maxRecDepth 20000 in
set_option maxHeartbeats 8000000 in
theorem listK_r {w : World} {r : Nat} {v : Value} {l : List Int} {s : St} (h : Rg w r v l s) : Calls Try.prog 49 #[.pointer (some ⟨r, 0, none⟩), .func (.func 50) #[.pointer (some ⟨r, 0, none⟩)] #[]] w fun e w' => ∃ u, e = .returned u ∧ Hid (Red w w' r v l (listP keyP s).2 ∧ RowK w' w.heap.size u (listP keyP s).1 ∧ (listP keyP s).1.length ≤ 48) := by
  obtain ⟨i1, hi1, hw0, hw1, hw2⟩ := info_parts Try.infoKy
  have HG : Hid (Rg w r v l s) := h
  have HNm : Hid (Calls Try.prog 44 #[.pointer (some ⟨r, 0, none⟩)] w fun e w' => RdR w r v l (numP s).2 (.int .i64 (numP s).1) e w') := number_r h
  have hin := numP_in h.lft
  obtain ⟨LN, hLN⟩ : ∃ x, listP keyP s = x := ⟨_, rfl⟩
  rw [hLN]
  unfold listP at hLN
  obtain ⟨N, hN⟩ : ∃ n : Nat, (numP s).1 = (n : Int) := ⟨(numP s).1.toNat, by omega⟩
  obtain ⟨s1, hs1⟩ : ∃ x, (numP s).2 = x := ⟨_, rfl⟩
  rw [hN, hs1] at HNm hLN
  rw [hN] at hin
  simp only [Int.toNat_natCast] at hLN
  have HL0 : Hid (listG keyP N [] s1 = LN) := hLN
  have hrl := h.lt
  clear h hLN hN hs1
  go_enter Try.func49, Try.ntmps49
  go_wp2
  refine wp_scope_once 0 (by rfl) ?_
  go_wp2_with (go_at_call 44; refine HNm.out.mono ?_; rintro e w1 ⟨rfl, h1⟩)
  go_loopw [5, 8] (fun u i wr => ∃ (k : Nat) (acc : List Ky) (s' : St), k ≤ N ∧ i = .int .i64 k ∧ Hid (listG keyP (N - k) acc s' = LN ∧ Red w wr r v l s' ∧ RowK wr w.heap.size u acc ∧ acc.length ≤ 48)) (fun _ i _ => N - (intOf i).toNat)
  case atStart => exact ⟨0, [], s1, Nat.zero_le _, rfl, HL0.out, h1.out, World.ownsRow_nil _ _ _ _, by simp⟩
  case round =>
    obtain ⟨k, acc, s', hk, rfl, hI⟩ := hrel
    have HS : Hid (Calls Try.prog 78 #[.pointer (some ⟨r, 0, none⟩)] wr fun e w' => e = .returned (.tuple #[]) ∧ Hid (Red wr w' r v l none)) := stop_r hI.out.2.1.1
    by_cases hkn : k < N
    · have hki : (k : Int) < (N : Int) := by omega
      obtain ⟨a, st, hr⟩ := hI.out.2.1.1
      obtain ⟨-, -, c2, -⟩ := hr.cells
      have hst : st = true ↔ s' = none := by
        rcases hr.state with ⟨e, e2, _⟩ | ⟨e, e2, _⟩
        · simp [e, e2]
        · simp [e, e2]
      have hstep : listG keyP (N - k) acc s' = if s' = none ∨ acc.length = 48 then ([], none) else listG keyP (N - (k + 1)) (acc ++ [(keyP s').1]) (keyP s').2 := by
        rw [show N - k = (N - (k + 1)) + 1 by omega]; rfl
      rw [hI.out.1] at hstep
      obtain ⟨av, cv, hu⟩ := owns_len hI.out.2.2.1
      subst hu
      clear hr
      cases st with
      | true =>
        rw [if_pos (.inl (hst.1 rfl))] at hstep
        have HE : Hid (LN = ([], none)) := hstep
        clear hstep hst
        go_wp2
        go_step3
        refine fwd_goto (l := 0) ?_
        go_wp2_with (go_at_call 78; refine HS.out.mono ?_; rintro e w2 ⟨rfl, h2⟩)
        rw [Exit.noGoto_ret]
        go_ret
        rw [HE.out]
        exact ⟨_, rfl, hI.out.2.1.on h2.out, World.ownsRow_nil _ _ _ _, by simp⟩
      | false =>
        have hsn : ¬ s' = none := fun e => by have := hst.2 e; cases this
        by_cases h48 : acc.length = 48
        · rw [if_pos (.inr h48)] at hstep
          have HE : Hid (LN = ([], none)) := hstep
          have h48b : ((acc.length : Int) == 48) = true := by rw [h48]; rfl
          clear hstep hst hsn h48
          go_wp2
          go_step3
          refine fwd_goto (l := 0) ?_
          go_wp2_with (go_at_call 78; refine HS.out.mono ?_; rintro e w2 ⟨rfl, h2⟩)
          rw [Exit.noGoto_ret]
          go_ret
          rw [HE.out]
          exact ⟨_, rfl, hI.out.2.1.on h2.out, World.ownsRow_nil _ _ _ _, by simp⟩
        · rw [if_neg (fun h => h.elim hsn h48)] at hstep
          have h48b : ((acc.length : Int) == 48) = false := by rw [beq_eq_false_iff_ne]; omega
          have HRd : Hid (Calls Try.prog 50 #[.pointer (some ⟨r, 0, none⟩)] wr fun e w' => RdR wr r v l (keyP s').2 (.agg #[.int .i64 (keyP s').1.d, .string (keyP s').1.nm]) e w') := key_r hI.out.2.1.1
          obtain ⟨x, hx⟩ : ∃ x, (keyP s').1 = x := ⟨_, rfl⟩
          obtain ⟨s2, hs2⟩ : ∃ x, (keyP s').2 = x := ⟨_, rfl⟩
          rw [hx, hs2] at hstep HRd
          have HE : Hid (listG keyP (N - (k + 1)) (acc ++ [x]) s2 = LN) := hstep.symm
          have hacc : acc.length ≤ 47 := by have := hI.out.2.2.2; omega
          have _u := 0
          clear hstep hst hsn h48 hx hs2
          go_wp2_with (first
            | (at_builtin; refine wpList_append_own_at _ rfl (.tmp 19) (.tmp 22) 28 rfl w.heap.size 40 i1 _ 2 24 Try.underlying28 hi1 hw0 hw1 hw2 rfl (by decide) _ acc.length (kc acc) rfl (World.ownsRow.alloc H2.out.2.1 _) ⟨w2.heap.size, 0, none⟩ 1 1 [.int .i64 x.d, .string x.nm] rfl rfl (two_at _ _ _ _) (two_cells x) (by unfold maxLen; omega) (by omega) (by have := H2.out.2.2; simp; omega) ?_; intro v5 w5 hown5 hgrow5 _ _; have H5 : Hid (w5.ownsRow w.heap.size 40 2 v5 (acc.length + 1) (kc acc ++ [.int .i64 x.d, .string x.nm]) ∧ Red w w5 r v l s2) := ⟨hown5, (H2.out.1.own HG.out (Only.of (S := fun _ => False) (below_alloc w2 _)) (fun k hk => hk.elim)).own HG.out (only_grown hgrow5) (fun q hq => (World.ownsRow.lt H2.out.2.1 q hq).1)⟩; clear hown5 hgrow5)
            | (go_at_call 50; refine HRd.out.mono ?_; rintro e w2 ⟨rfl, h2⟩; have H2 : Hid (Red w w2 r v l s2 ∧ RowK w2 w.heap.size (.slice av acc.length cv) acc ∧ w.heap.size ≤ w2.heap.size) := ⟨hI.out.2.1.on h2.out, owns_moved hI.out.2.2.1 fun q hq => h2.out.2.block q (Tag.own hI.out.2.2.1 hq).lt (by have := (World.ownsRow.lt hI.out.2.2.1 q hq).1; omega), Nat.le_trans hI.out.2.1.2.size h2.out.2.size⟩; clear h2))
          refine ⟨⟨k + 1, acc ++ [x], s2, by omega, by simp, HE.out, H5.out.2, ?_, by rw [List.length_append]; simp; omega⟩, by simp [intOf]; omega⟩
          show World.ownsRow _ _ _ _ _ _ _
          rw [List.length_append, kc_app1]
          exact H5.out.1
    · have hki : ¬ (k : Int) < (N : Int) := by omega
      have hk0 : N - k = 0 := by omega
      have HE : Hid (LN = (acc, s')) := by have := hI.out.1; rw [hk0] at this; exact this.symm
      clear hk0
      go_wp2
      refine fwd_ret ?_
      go_ret
      rw [HE.out]
      exact ⟨_, rfl, hI.out.2.1, hI.out.2.2.1, hI.out.2.2.2⟩
end
end Go.Proofs.Ytekonakanieeaaa
