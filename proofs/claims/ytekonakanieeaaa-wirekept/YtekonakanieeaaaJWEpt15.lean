/- The reader in memory: entry. -/
import Derived.Test.YtekonakanieeaaaJWEpt14
namespace Go.Proofs.Ytekonakanieeaaa
section
open Go.RowKit Go.Lib

set_option maxRecDepth 20000 in
set_option maxHeartbeats 8000000 in
theorem entry_r {w : World} {r : Nat} {v : Value} {l : List Int} {s : St} (h : Rg w r v l s) : Calls Try.prog 48 #[.pointer (some ⟨r, 0, none⟩)] w fun e w' => RdR w r v l (entP s).2 (entP s).1.agg e w' := by
  have HG : Hid (Rg w r v l s) := h
  have hrl := h.lt
  obtain ⟨W, hW⟩ : ∃ W, w.alloc (.cells #[.int .i64 0, .string ⟨#[]⟩, .bool false, .int .i64 0, .int .i64 0, .int .i64 0, .string ⟨#[]⟩] 44) = W := ⟨_, rfl⟩
  have hb := boxB hW
  have HB : Hid (W.heap[w.heap.size]? = some (.cells #[.int .i64 0, .string ⟨#[]⟩, .bool false, .int .i64 0, .int .i64 0, .int .i64 0, .string ⟨#[]⟩] 44 (0, 0)) ∧ Below w.heap.size w W) := hb
  have HK : Hid (Calls Try.prog 50 #[.pointer (some ⟨r, 0, none⟩)] W fun e w' => RdR W r v l (keyP s).2 (.agg #[.int .i64 (keyP s).1.d, .string (keyP s).1.nm]) e w') := key_r (h.below hb.2)
  obtain ⟨E, hE⟩ : ∃ E, entP s = E := ⟨_, rfl⟩
  have hE2 := hE
  unfold entP at hE2
  simp only [] at hE2
  rw [hE]
  obtain ⟨K, hK⟩ : ∃ K, (keyP s).1 = K := ⟨_, rfl⟩
  obtain ⟨s1, hs1⟩ : ∃ K, (keyP s).2 = K := ⟨_, rfl⟩
  rw [hK, hs1] at hE2
  rw [hK, hs1] at HK
  obtain ⟨f, hf⟩ : ∃ f, (octP s1).1 = f := ⟨_, rfl⟩
  obtain ⟨s2, hs2⟩ : ∃ f, (octP s1).2 = f := ⟨_, rfl⟩
  rw [hf, hs2] at hE2
  have HO : Hid (∀ W2, Rg W2 r v l s1 → Calls Try.prog 43 #[.pointer (some ⟨r, 0, none⟩)] W2 fun e w' => RdR W2 r v l s2 (.int .i64 f) e w') := fun W2 h2 => by rw [← hf, ← hs2]; exact octet_r h2
  clear h hb hE hK hs1 hf hs2
  go_enter Try.func48, Try.ntmps48
  go_wp2
  refine wp_scope_once 0 (by rfl) ?_
  clear hW
  go_upto_region 2 with (go_at_call 50; refine HK.out.mono ?_; rintro e w1 ⟨rfl, h1⟩)
  obtain ⟨W1, hW1⟩ : ∃ W1, w1.alloc (.cells #[.int .i64 K.d, .string K.nm, .bool false, .int .i64 0, .int .i64 0, .int .i64 0, .string ⟨#[]⟩] 44) = W1 := ⟨_, rfl⟩
  have hb1 := boxB hW1
  have H1 : Hid (W1.heap[w1.heap.size]? = some (.cells #[.int .i64 K.d, .string K.nm, .bool false, .int .i64 0, .int .i64 0, .int .i64 0, .string ⟨#[]⟩] 44 (0, 0)) ∧ W1.heap[w.heap.size]? = some (.cells #[.int .i64 0, .string ⟨#[]⟩, .bool false, .int .i64 0, .int .i64 0, .int .i64 0, .string ⟨#[]⟩] 44 (0, 0)) ∧ Red w W1 r v l s1 ∧ w.heap.size < w1.heap.size) := by
    have hlt := (Array.getElem?_eq_some_iff.1 HB.out.1).1
    have hk := (h1.out.2.block _ hlt (by omega)).trans HB.out.1
    exact ⟨hb1.1, hkeep hk hb1.2, ⟨h1.out.1.below hb1.2, ((Only.of HB.out.2).trans h1.out.2).trans (Only.of hb1.2)⟩, Nat.lt_of_lt_of_le hlt h1.out.2.size⟩
  rw [hW1]
  clear hW1 hb1 h1 HK
  go_upto_region 3 with (go_at_call 43; refine (HO.out _ H1.out.2.2.1.1).mono ?_; rintro e w2 ⟨rfl, h2⟩)
  have H2 : Hid (w2.heap[w1.heap.size]? = some (.cells #[.int .i64 K.d, .string K.nm, .bool false, .int .i64 0, .int .i64 0, .int .i64 0, .string ⟨#[]⟩] 44 (0, 0)) ∧ w2.heap[w.heap.size]? = some (.cells #[.int .i64 0, .string ⟨#[]⟩, .bool false, .int .i64 0, .int .i64 0, .int .i64 0, .string ⟨#[]⟩] 44 (0, 0)) ∧ Red w w2 r v l s2) := by
    have e1 := H1.out.1
    have e2 := H1.out.2.1
    have := H1.out.2.2.2
    exact ⟨(h2.out.2.block _ (Array.getElem?_eq_some_iff.1 e1).1 (by omega)).trans e1, (h2.out.2.block _ (Array.getElem?_eq_some_iff.1 e2).1 (by omega)).trans e2, H1.out.2.2.1.on h2.out⟩
  have hlt1 := H1.out.2.2.2
  clear h2 HO
  by_cases hf0 : f = 0
  · subst hf0
    rw [if_pos rfl] at hE2
    obtain ⟨N, hN⟩ : ∃ N, (nodeP s2).1 = N := ⟨_, rfl⟩
    obtain ⟨s3, hs3⟩ : ∃ N, (nodeP s2).2 = N := ⟨_, rfl⟩
    rw [hN, hs3] at hE2
    have HP : Hid (E = (⟨K.d, K.nm, false, N.id, N.kind, N.mode, N.tg⟩, s3)) := hE2.symm
    have HN : Hid (Calls Try.prog 81 #[.pointer (some ⟨r, 0, none⟩)] w2 fun e w' => RdR w2 r v l s3 (.agg #[.int .i64 N.id, .int .i64 N.kind, .int .i64 N.mode, .string N.tg]) e w') := by rw [← hN, ← hs3]; exact node_r H2.out.2.2.1
    clear hE2 hN hs3
    go_upto_region 7 with (go_at_call 81; refine HN.out.mono ?_; rintro e w3 ⟨rfl, h3⟩; have e1 : w3.heap[w1.heap.size]? = some (.cells #[.int .i64 K.d, .string K.nm, .bool false, .int .i64 0, .int .i64 0, .int .i64 0, .string ⟨#[]⟩] 44 (0, 0)) := (h3.out.2.block _ (Array.getElem?_eq_some_iff.1 H2.out.1).1 (by omega)).trans H2.out.1; have e2 : w3.heap[w.heap.size]? = some (.cells #[.int .i64 0, .string ⟨#[]⟩, .bool false, .int .i64 0, .int .i64 0, .int .i64 0, .string ⟨#[]⟩] 44 (0, 0)) := (h3.out.2.block _ (Array.getElem?_eq_some_iff.1 H2.out.2.1).1 (by omega)).trans H2.out.2.1; have H3 : Hid (w3.heap[w1.heap.size]? = some (.cells #[.int .i64 K.d, .string K.nm, .bool false, .int .i64 0, .int .i64 0, .int .i64 0, .string ⟨#[]⟩] 44 (0, 0)) ∧ w3.heap[w.heap.size]? = some (.cells #[.int .i64 0, .string ⟨#[]⟩, .bool false, .int .i64 0, .int .i64 0, .int .i64 0, .string ⟨#[]⟩] 44 (0, 0)) ∧ Red w w3 r v l s3) := ⟨e1, e2, H2.out.2.2.on h3.out⟩; have ef := free_of e1; have d3 := cell_of e1 3; have d4 := cell_of e1 4; have d5 := cell_of e1 5; have d6 := cell_of e1 6; simp at d3 d4 d5 d6; clear e1 e2 h3)
    obtain ⟨W4, hW4⟩ : ∃ W4, (((w3.setCell ⟨w1.heap.size, 3, none⟩ (.int .i64 N.id)).setCell ⟨w1.heap.size, 4, none⟩ (.int .i64 N.kind)).setCell ⟨w1.heap.size, 5, none⟩ (.int .i64 N.mode)).setCell ⟨w1.heap.size, 6, none⟩ (.string N.tg) = W4 := ⟨_, rfl⟩
    have HE1 : Hid (W4.heap[w1.heap.size]? = some (.cells #[.int .i64 K.d, .string K.nm, .bool false, .int .i64 N.id, .int .i64 N.kind, .int .i64 N.mode, .string N.tg] 44 (0, 0))) := by
      have k := heap_set (heap_set (heap_set (heap_set H3.out.1 3 (.int .i64 N.id)) 4 (.int .i64 N.kind)) 5 (.int .i64 N.mode)) 6 (.string N.tg)
      simp only [List.setIfInBounds_toArray, List.set_cons_zero, List.set_cons_succ] at k
      rw [← hW4]; exact k
    have hO4 : Only (· = w1.heap.size) w3 W4 := by rw [← hW4]; exact (((only1 _ w1.heap.size 3 _).trans (only1 _ w1.heap.size 4 _)).trans (only1 _ w1.heap.size 5 _)).trans (only1 _ w1.heap.size 6 _)
    have HZ : Hid (W4.heap[w.heap.size]? = some (.cells #[.int .i64 0, .string ⟨#[]⟩, .bool false, .int .i64 0, .int .i64 0, .int .i64 0, .string ⟨#[]⟩] 44 (0, 0))) := (hO4.block _ (Array.getElem?_eq_some_iff.1 H3.out.2.1).1 (by omega)).trans H3.out.2.1
    have HR4 : Hid (Red w W4 r v l s3) := H3.out.2.2.box HG.out hO4 (by omega)
    rw [hW4]
    clear hW4 hO4 ef d3 d4 d5 d6
    have p0 := cell_of HE1.out 0
    have p1 := cell_of HE1.out 1
    have p2 := cell_of HE1.out 2
    have p3 := cell_of HE1.out 3
    have p4 := cell_of HE1.out 4
    have p5 := cell_of HE1.out 5
    have p6 := cell_of HE1.out 6
    simp at p0 p1 p2 p3 p4 p5 p6
    have q0 := cell_of HZ.out 0
    have q1 := cell_of HZ.out 1
    have q2 := cell_of HZ.out 2
    have q3 := cell_of HZ.out 3
    have q4 := cell_of HZ.out 4
    have q5 := cell_of HZ.out 5
    have q6 := cell_of HZ.out 6
    simp at q0 q1 q2 q3 q4 q5 q6
    have qf := free_of HZ.out
    go_wp2
    have hfin := heap_set (heap_set (heap_set (heap_set (heap_set (heap_set (heap_set (HZ.out) 0 (.int .i64 K.d)) 1 (.string K.nm)) 2 (.bool false)) 3 (.int .i64 N.id)) 4 (.int .i64 N.kind)) 5 (.int .i64 N.mode)) 6 (.string N.tg)
    simp only [List.setIfInBounds_toArray, List.set_cons_zero, List.set_cons_succ] at hfin
    refine fwd_ret ?_
    refine bodyPost_ret (results_cell_row rfl _ _ w.heap.size _ _ _ _ rfl hfin Try.underlying44 rfl Try.sizeE) rfl ?_
    rw [HP.out]
    exact ⟨rfl, HR4.out.box HG.out (((((((only1 _ w.heap.size 0 _).trans (only1 _ w.heap.size 1 _)).trans (only1 _ w.heap.size 2 _)).trans (only1 _ w.heap.size 3 _)).trans (only1 _ w.heap.size 4 _)).trans (only1 _ w.heap.size 5 _)).trans (only1 _ w.heap.size 6 _)) (Nat.le_refl _)⟩
  · have hf0b : (f == 0) = false := by simpa using hf0
    rw [if_neg hf0] at hE2
    by_cases hf1 : f = 1
    · subst hf1
      rw [if_pos rfl] at hE2
      have HP : Hid (E = (⟨K.d, K.nm, true, 0, 0, 0, ⟨#[]⟩⟩, s2)) := hE2.symm
      have ef := free_of H2.out.1
      have d2 := cell_of H2.out.1 2
      simp at d2
      clear hE2
      go_upto_region 7 with fail
      obtain ⟨W4, hW4⟩ : ∃ W4, w2.setCell ⟨w1.heap.size, 2, none⟩ (.bool true) = W4 := ⟨_, rfl⟩
      have HE1 : Hid (W4.heap[w1.heap.size]? = some (.cells #[.int .i64 K.d, .string K.nm, .bool true, .int .i64 0, .int .i64 0, .int .i64 0, .string ⟨#[]⟩] 44 (0, 0))) := by
        have k := heap_set H2.out.1 2 (.bool true)
        simp only [List.setIfInBounds_toArray, List.set_cons_zero, List.set_cons_succ] at k
        rw [← hW4]; exact k
      have hO4 : Only (· = w1.heap.size) w2 W4 := by rw [← hW4]; exact only1 _ w1.heap.size 2 _
      have HZ : Hid (W4.heap[w.heap.size]? = some (.cells #[.int .i64 0, .string ⟨#[]⟩, .bool false, .int .i64 0, .int .i64 0, .int .i64 0, .string ⟨#[]⟩] 44 (0, 0))) := (hO4.block _ (Array.getElem?_eq_some_iff.1 H2.out.2.1).1 (by omega)).trans H2.out.2.1
      have HR4 : Hid (Red w W4 r v l s2) := H2.out.2.2.box HG.out hO4 (by omega)
      rw [hW4]
      clear hW4 hO4 ef d2
      have p0 := cell_of HE1.out 0
      have p1 := cell_of HE1.out 1
      have p2 := cell_of HE1.out 2
      have p3 := cell_of HE1.out 3
      have p4 := cell_of HE1.out 4
      have p5 := cell_of HE1.out 5
      have p6 := cell_of HE1.out 6
      simp at p0 p1 p2 p3 p4 p5 p6
      have q0 := cell_of HZ.out 0
      have q1 := cell_of HZ.out 1
      have q2 := cell_of HZ.out 2
      have q3 := cell_of HZ.out 3
      have q4 := cell_of HZ.out 4
      have q5 := cell_of HZ.out 5
      have q6 := cell_of HZ.out 6
      simp at q0 q1 q2 q3 q4 q5 q6
      have qf := free_of HZ.out
      go_wp2
      have hfin := heap_set (heap_set (heap_set (heap_set (heap_set (heap_set (heap_set (HZ.out) 0 (.int .i64 K.d)) 1 (.string K.nm)) 2 (.bool true)) 3 (.int .i64 0)) 4 (.int .i64 0)) 5 (.int .i64 0)) 6 (.string ⟨#[]⟩)
      simp only [List.setIfInBounds_toArray, List.set_cons_zero, List.set_cons_succ] at hfin
      refine fwd_ret ?_
      refine bodyPost_ret (results_cell_row rfl _ _ w.heap.size _ _ _ _ rfl hfin Try.underlying44 rfl Try.sizeE) rfl ?_
      rw [HP.out]
      exact ⟨rfl, HR4.out.box HG.out (((((((only1 _ w.heap.size 0 _).trans (only1 _ w.heap.size 1 _)).trans (only1 _ w.heap.size 2 _)).trans (only1 _ w.heap.size 3 _)).trans (only1 _ w.heap.size 4 _)).trans (only1 _ w.heap.size 5 _)).trans (only1 _ w.heap.size 6 _)) (Nat.le_refl _)⟩
    · have hf1b : (f == 1) = false := by simpa using hf1
      rw [if_neg hf1] at hE2
      have HP : Hid (E = (⟨0, ⟨#[]⟩, false, 0, 0, 0, ⟨#[]⟩⟩, none)) := hE2.symm
      have HS : Hid (Calls Try.prog 78 #[.pointer (some ⟨r, 0, none⟩)] w2 fun e w' => e = .returned (.tuple #[]) ∧ Hid (Red w2 w' r v l none)) := stop_r H2.out.2.2.1
      clear hE2 hf0 hf1
      go_wp2
      go_step3
      refine fwd_goto (l := 0) ?_
      go_wp2_with (go_at_call 78; refine HS.out.mono ?_; rintro e w3 ⟨rfl, h3⟩; have hbx : w3.heap[w.heap.size]? = some (.cells #[.int .i64 0, .string ⟨#[]⟩, .bool false, .int .i64 0, .int .i64 0, .int .i64 0, .string ⟨#[]⟩] 44 (0, 0)) := (h3.out.2.block _ (Array.getElem?_eq_some_iff.1 H2.out.2.1).1 (by omega)).trans H2.out.2.1; have HZ : Hid (w3.heap[w.heap.size]? = some (.cells #[.int .i64 0, .string ⟨#[]⟩, .bool false, .int .i64 0, .int .i64 0, .int .i64 0, .string ⟨#[]⟩] 44 (0, 0)) ∧ Red w w3 r v l none) := ⟨hbx, H2.out.2.2.on h3.out⟩; have qf := free_of hbx; have q0 := cell_of hbx 0; have q1 := cell_of hbx 1; have q2 := cell_of hbx 2; have q3 := cell_of hbx 3; have q4 := cell_of hbx 4; have q5 := cell_of hbx 5; have q6 := cell_of hbx 6; simp at q0 q1 q2 q3 q4 q5 q6; clear hbx h3)
      have hfin := heap_set (heap_set (heap_set (heap_set (heap_set (heap_set (heap_set HZ.out.1 0 (.int .i64 0)) 1 (.string ⟨#[]⟩)) 2 (.bool false)) 3 (.int .i64 0)) 4 (.int .i64 0)) 5 (.int .i64 0)) 6 (.string ⟨#[]⟩)
      simp only [List.setIfInBounds_toArray, List.set_cons_zero, List.set_cons_succ] at hfin
      rw [Exit.noGoto_ret]
      refine bodyPost_ret (results_cell_row rfl _ _ w.heap.size _ _ _ _ rfl hfin Try.underlying44 rfl Try.sizeE) rfl ?_
      rw [HP.out]
      exact ⟨rfl, HZ.out.2.box HG.out (((((((only1 _ w.heap.size 0 _).trans (only1 _ w.heap.size 1 _)).trans (only1 _ w.heap.size 2 _)).trans (only1 _ w.heap.size 3 _)).trans (only1 _ w.heap.size 4 _)).trans (only1 _ w.heap.size 5 _)).trans (only1 _ w.heap.size 6 _)) (Nat.le_refl _)⟩
end
section
open Go.RowKit Go.Lib

theorem Try.infoKy : (Try.prog.info? 40).map (fun i => (i.zero, i.size, i.bytes)) = some (some (.agg #[.int .i64 0, .string ⟨#[]⟩]), 2, 24) := by kernel_rfl
theorem ec_app1 (a : List En) (x : En) : ec (a ++ [x]) = ec a ++ x.vals := by rw [ec_app, show ec [x] = x.vals by unfold ec; simp]
theorem kc_app1 (a : List Ky) (x : Ky) : kc (a ++ [x]) = kc a ++ [.int .i64 x.d, .string x.nm] := by unfold kc; rw [List.flatMap_append]; simp
theorem two_cells (x : Ky) : ∀ u ∈ [Value.int .i64 x.d, .string x.nm], u.oneCell' = true := by
  intro u hu
  simp at hu
  rcases hu with rfl | rfl <;> rfl
/-- blocks of the call's own turned -/
theorem Red.own {w w2 w3 : World} {r : Nat} {v : Value} {l : List Int} {s s0 : St} {S : Nat → Prop} (h : Red w w2 r v l s) (h0 : Rg w r v l s0) (hO : Only S w2 w3) (hS : ∀ k, S k → w.heap.size ≤ k) : Red w w3 r v l s := by
  obtain ⟨⟨a, st, hi⟩, hO2⟩ := h
  have hr := h0.lt
  obtain ⟨a0, st0, hi0⟩ := h0
  have hlt := hi.tt.lt
  refine ⟨⟨a, st, (hO.block r hlt (fun e => by have := hS _ e; omega)).trans hi.head, hi.state, ?_, hi.off, hi.byt, hi.lim⟩, ?_⟩
  · obtain ⟨ad, cap, rfl, hcap, h⟩ := hi.rb
    obtain ⟨ad', cap', e, _, h'⟩ := hi0.rb
    cases e
    refine ⟨ad, cap, rfl, hcap, ?_⟩
    rcases h with h | ⟨g1, off, rfl, hg1, hc⟩
    · exact .inl h
    · rcases h' with h' | ⟨g2, off2, e2, hg2, _⟩
      · exact .inl h'
      · cases e2
        exact .inr ⟨g1, off, rfl, Nat.lt_of_lt_of_le hg1 hO.size, fun i x hx => (World.cell?_of_block (hO.block g1 hg1 (fun e => by have := hS _ e; omega))).trans (hc i x hx)⟩
  · exact ⟨hO.os.trans hO2.os, hO.tape.trans hO2.tape, hO.output.trans hO2.output, Nat.le_trans hO2.size hO.size, fun k hk hn => (hO.block k (Nat.lt_of_lt_of_le hk hO2.size) (fun e => by have := hS _ e; omega)).trans (hO2.block k hk hn)⟩

set_option maxRecDepth 20000 in
set_option maxHeartbeats 8000000 in
theorem listE_r {w : World} {r : Nat} {v : Value} {l : List Int} {s : St} (h : Rg w r v l s) : Calls Try.prog 47 #[.pointer (some ⟨r, 0, none⟩), .func (.func 48) #[.pointer (some ⟨r, 0, none⟩)] #[]] w fun e w' => ∃ u, e = .returned u ∧ Hid (Red w w' r v l (listP entP s).2 ∧ Row7 w' w.heap.size u (listP entP s).1 ∧ (listP entP s).1.length ≤ 48) := by
  obtain ⟨i1, hi1, hw0, hw1, hw2⟩ := info_parts Try.infoE
  have HG : Hid (Rg w r v l s) := h
  have HNm : Hid (Calls Try.prog 44 #[.pointer (some ⟨r, 0, none⟩)] w fun e w' => RdR w r v l (numP s).2 (.int .i64 (numP s).1) e w') := number_r h
  have hin := numP_in h.lft
  obtain ⟨LN, hLN⟩ : ∃ x, listP entP s = x := ⟨_, rfl⟩
  rw [hLN]
  unfold listP at hLN
  obtain ⟨N, hN⟩ : ∃ n : Nat, (numP s).1 = (n : Int) := ⟨(numP s).1.toNat, by omega⟩
  obtain ⟨s1, hs1⟩ : ∃ x, (numP s).2 = x := ⟨_, rfl⟩
  rw [hN, hs1] at HNm hLN
  rw [hN] at hin
  simp only [Int.toNat_natCast] at hLN
  have HL0 : Hid (listG entP N [] s1 = LN) := hLN
  have hrl := h.lt
  clear h hLN hN hs1
  go_enter Try.func47, Try.ntmps47
  go_wp2
  refine wp_scope_once 0 (by rfl) ?_
  go_wp2_with (go_at_call 44; refine HNm.out.mono ?_; rintro e w1 ⟨rfl, h1⟩)
  go_loopw [5, 8] (fun u i wr => ∃ (k : Nat) (acc : List En) (s' : St), k ≤ N ∧ i = .int .i64 k ∧ Hid (listG entP (N - k) acc s' = LN ∧ Red w wr r v l s' ∧ Row7 wr w.heap.size u acc ∧ acc.length ≤ 48)) (fun _ i _ => N - (intOf i).toNat)
  case atStart => exact ⟨0, [], s1, Nat.zero_le _, rfl, HL0.out, h1.out, World.ownsRow_nil _ _ _ _, by simp⟩
  case round =>
    obtain ⟨k, acc, s', hk, rfl, hI⟩ := hrel
    have HS : Hid (Calls Try.prog 78 #[.pointer (some ⟨r, 0, none⟩)] wr fun e w' => e = .returned (.tuple #[]) ∧ Hid (Red wr w' r v l none)) := stop_r hI.out.2.1.1
    by_cases hkn : k < N
    · have hki : (k : Int) < (N : Int) := by omega
      obtain ⟨a, st, hr⟩ := hI.out.2.1.1
      obtain ⟨-, -, c2, -⟩ := hr.cells
      have hst : st = true ↔ s' = none := by
        rcases hr.state with ⟨e, e2, _⟩ | ⟨e, e2, _⟩
        · simp [e, e2]
        · simp [e, e2]
      have hstep : listG entP (N - k) acc s' = if s' = none ∨ acc.length = 48 then ([], none) else listG entP (N - (k + 1)) (acc ++ [(entP s').1]) (entP s').2 := by
        rw [show N - k = (N - (k + 1)) + 1 by omega]; rfl
      rw [hI.out.1] at hstep
      obtain ⟨av, cv, hu⟩ := owns_len hI.out.2.2.1
      subst hu
      clear hr
      cases st with
      | true =>
        rw [if_pos (.inl (hst.1 rfl))] at hstep
        have HE : Hid (LN = ([], none)) := hstep
        clear hstep hst
        go_wp2
        go_step3
        refine fwd_goto (l := 0) ?_
        go_wp2_with (go_at_call 78; refine HS.out.mono ?_; rintro e w2 ⟨rfl, h2⟩)
        rw [Exit.noGoto_ret]
        go_ret
        rw [HE.out]
        exact ⟨_, rfl, hI.out.2.1.on h2.out, World.ownsRow_nil _ _ _ _, by simp⟩
      | false =>
        have hsn : ¬ s' = none := fun e => by have := hst.2 e; cases this
        by_cases h48 : acc.length = 48
        · rw [if_pos (.inr h48)] at hstep
          have HE : Hid (LN = ([], none)) := hstep
          have h48b : ((acc.length : Int) == 48) = true := by rw [h48]; rfl
          clear hstep hst hsn h48
          go_wp2
          go_step3
          refine fwd_goto (l := 0) ?_
          go_wp2_with (go_at_call 78; refine HS.out.mono ?_; rintro e w2 ⟨rfl, h2⟩)
          rw [Exit.noGoto_ret]
          go_ret
          rw [HE.out]
          exact ⟨_, rfl, hI.out.2.1.on h2.out, World.ownsRow_nil _ _ _ _, by simp⟩
        · rw [if_neg (fun h => h.elim hsn h48)] at hstep
          have h48b : ((acc.length : Int) == 48) = false := by rw [beq_eq_false_iff_ne]; omega
          have HRd : Hid (Calls Try.prog 48 #[.pointer (some ⟨r, 0, none⟩)] wr fun e w' => RdR wr r v l (entP s').2 ((entP s').1.agg) e w') := entry_r hI.out.2.1.1
          obtain ⟨x, hx⟩ : ∃ x, (entP s').1 = x := ⟨_, rfl⟩
          obtain ⟨s2, hs2⟩ : ∃ x, (entP s').2 = x := ⟨_, rfl⟩
          rw [hx, hs2] at hstep HRd
          have HE : Hid (listG entP (N - (k + 1)) (acc ++ [x]) s2 = LN) := hstep.symm
          have hacc : acc.length ≤ 47 := by have := hI.out.2.2.2; omega
          unfold En.agg at HRd
          clear hstep hst hsn h48 hx hs2
          go_wp2_with (first
            | (at_builtin; refine wpList_append_own_at _ rfl (.tmp 19) (.tmp 22) 27 rfl w.heap.size 44 i1 _ 7 72 Try.underlying27 hi1 hw0 hw1 hw2 rfl (by decide) _ acc.length (ec acc) rfl (World.ownsRow.alloc H2.out.2.1 _) ⟨w2.heap.size, 0, none⟩ 1 1 x.vals rfl rfl (vals_at _ x _) (vals_one x) (by unfold maxLen; omega) (by omega) (by have := H2.out.2.2; simp; omega) ?_; intro v5 w5 hown5 hgrow5 _ _; have H5 : Hid (w5.ownsRow w.heap.size 44 7 v5 (acc.length + 1) (ec acc ++ x.vals) ∧ Red w w5 r v l s2) := ⟨hown5, (H2.out.1.own HG.out (Only.of (S := fun _ => False) (below_alloc w2 _)) (fun k hk => hk.elim)).own HG.out (only_grown hgrow5) (fun q hq => (World.ownsRow.lt H2.out.2.1 q hq).1)⟩; clear hown5 hgrow5)
            | (go_at_call 48; refine HRd.out.mono ?_; rintro e w2 ⟨rfl, h2⟩; have H2 : Hid (Red w w2 r v l s2 ∧ Row7 w2 w.heap.size (.slice av acc.length cv) acc ∧ w.heap.size ≤ w2.heap.size) := ⟨hI.out.2.1.on h2.out, owns_moved hI.out.2.2.1 fun q hq => h2.out.2.block q (Tag.own hI.out.2.2.1 hq).lt (by have := (World.ownsRow.lt hI.out.2.2.1 q hq).1; omega), Nat.le_trans hI.out.2.1.2.size h2.out.2.size⟩; clear h2))
          refine ⟨⟨k + 1, acc ++ [x], s2, by omega, by simp, HE.out, H5.out.2, ?_, by rw [List.length_append]; simp; omega⟩, by simp [intOf]; omega⟩
          show World.ownsRow _ _ _ _ _ _ _
          rw [List.length_append, ec_app1]
          exact H5.out.1
    · have hki : ¬ (k : Int) < (N : Int) := by omega
      have hk0 : N - k = 0 := by omega
      have HE : Hid (LN = (acc, s')) := by have := hI.out.1; rw [hk0] at this; exact this.symm
      clear hk0
      go_wp2
      refine fwd_ret ?_
      go_ret
      rw [HE.out]
      exact ⟨_, rfl, hI.out.2.1, hI.out.2.2.1, hI.out.2.2.2⟩

set_option maxRecDepth 20000 in
set_option maxHeartbeats 8000000 in
theorem listK_r {w : World} {r : Nat} {v : Value} {l : List Int} {s : St} (h : Rg w r v l s) : Calls Try.prog 49 #[.pointer (some ⟨r, 0, none⟩), .func (.func 50) #[.pointer (some ⟨r, 0, none⟩)] #[]] w fun e w' => ∃ u, e = .returned u ∧ Hid (Red w w' r v l (listP keyP s).2 ∧ RowK w' w.heap.size u (listP keyP s).1 ∧ (listP keyP s).1.length ≤ 48) := by
  obtain ⟨i1, hi1, hw0, hw1, hw2⟩ := info_parts Try.infoKy
  have HG : Hid (Rg w r v l s) := h
  have HNm : Hid (Calls Try.prog 44 #[.pointer (some ⟨r, 0, none⟩)] w fun e w' => RdR w r v l (numP s).2 (.int .i64 (numP s).1) e w') := number_r h
  have hin := numP_in h.lft
  obtain ⟨LN, hLN⟩ : ∃ x, listP keyP s = x := ⟨_, rfl⟩
  rw [hLN]
  unfold listP at hLN
  obtain ⟨N, hN⟩ : ∃ n : Nat, (numP s).1 = (n : Int) := ⟨(numP s).1.toNat, by omega⟩
  obtain ⟨s1, hs1⟩ : ∃ x, (numP s).2 = x := ⟨_, rfl⟩
  rw [hN, hs1] at HNm hLN
  rw [hN] at hin
  simp only [Int.toNat_natCast] at hLN
  have HL0 : Hid (listG keyP N [] s1 = LN) := hLN
  have hrl := h.lt
  clear h hLN hN hs1
  go_enter Try.func49, Try.ntmps49
  go_wp2
  refine wp_scope_once 0 (by rfl) ?_
  go_wp2_with (go_at_call 44; refine HNm.out.mono ?_; rintro e w1 ⟨rfl, h1⟩)
  go_loopw [5, 8] (fun u i wr => ∃ (k : Nat) (acc : List Ky) (s' : St), k ≤ N ∧ i = .int .i64 k ∧ Hid (listG keyP (N - k) acc s' = LN ∧ Red w wr r v l s' ∧ RowK wr w.heap.size u acc ∧ acc.length ≤ 48)) (fun _ i _ => N - (intOf i).toNat)
  case atStart => exact ⟨0, [], s1, Nat.zero_le _, rfl, HL0.out, h1.out, World.ownsRow_nil _ _ _ _, by simp⟩
  case round =>
    obtain ⟨k, acc, s', hk, rfl, hI⟩ := hrel
    have HS : Hid (Calls Try.prog 78 #[.pointer (some ⟨r, 0, none⟩)] wr fun e w' => e = .returned (.tuple #[]) ∧ Hid (Red wr w' r v l none)) := stop_r hI.out.2.1.1
    by_cases hkn : k < N
    · have hki : (k : Int) < (N : Int) := by omega
      obtain ⟨a, st, hr⟩ := hI.out.2.1.1
      obtain ⟨-, -, c2, -⟩ := hr.cells
      have hst : st = true ↔ s' = none := by
        rcases hr.state with ⟨e, e2, _⟩ | ⟨e, e2, _⟩
        · simp [e, e2]
        · simp [e, e2]
      have hstep : listG keyP (N - k) acc s' = if s' = none ∨ acc.length = 48 then ([], none) else listG keyP (N - (k + 1)) (acc ++ [(keyP s').1]) (keyP s').2 := by
        rw [show N - k = (N - (k + 1)) + 1 by omega]; rfl
      rw [hI.out.1] at hstep
      obtain ⟨av, cv, hu⟩ := owns_len hI.out.2.2.1
      subst hu
      clear hr
      cases st with
      | true =>
        rw [if_pos (.inl (hst.1 rfl))] at hstep
        have HE : Hid (LN = ([], none)) := hstep
        clear hstep hst
        go_wp2
        go_step3
        refine fwd_goto (l := 0) ?_
        go_wp2_with (go_at_call 78; refine HS.out.mono ?_; rintro e w2 ⟨rfl, h2⟩)
        rw [Exit.noGoto_ret]
        go_ret
        rw [HE.out]
        exact ⟨_, rfl, hI.out.2.1.on h2.out, World.ownsRow_nil _ _ _ _, by simp⟩
      | false =>
        have hsn : ¬ s' = none := fun e => by have := hst.2 e; cases this
        by_cases h48 : acc.length = 48
        · rw [if_pos (.inr h48)] at hstep
          have HE : Hid (LN = ([], none)) := hstep
          have h48b : ((acc.length : Int) == 48) = true := by rw [h48]; rfl
          clear hstep hst hsn h48
          go_wp2
          go_step3
          refine fwd_goto (l := 0) ?_
          go_wp2_with (go_at_call 78; refine HS.out.mono ?_; rintro e w2 ⟨rfl, h2⟩)
          rw [Exit.noGoto_ret]
          go_ret
          rw [HE.out]
          exact ⟨_, rfl, hI.out.2.1.on h2.out, World.ownsRow_nil _ _ _ _, by simp⟩
        · rw [if_neg (fun h => h.elim hsn h48)] at hstep
          have h48b : ((acc.length : Int) == 48) = false := by rw [beq_eq_false_iff_ne]; omega
          have HRd : Hid (Calls Try.prog 50 #[.pointer (some ⟨r, 0, none⟩)] wr fun e w' => RdR wr r v l (keyP s').2 (.agg #[.int .i64 (keyP s').1.d, .string (keyP s').1.nm]) e w') := key_r hI.out.2.1.1
          obtain ⟨x, hx⟩ : ∃ x, (keyP s').1 = x := ⟨_, rfl⟩
          obtain ⟨s2, hs2⟩ : ∃ x, (keyP s').2 = x := ⟨_, rfl⟩
          rw [hx, hs2] at hstep HRd
          have HE : Hid (listG keyP (N - (k + 1)) (acc ++ [x]) s2 = LN) := hstep.symm
          have hacc : acc.length ≤ 47 := by have := hI.out.2.2.2; omega
          have _u := 0
          clear hstep hst hsn h48 hx hs2
          go_wp2_with (first
            | (at_builtin; refine wpList_append_own_at _ rfl (.tmp 19) (.tmp 22) 28 rfl w.heap.size 40 i1 _ 2 24 Try.underlying28 hi1 hw0 hw1 hw2 rfl (by decide) _ acc.length (kc acc) rfl (World.ownsRow.alloc H2.out.2.1 _) ⟨w2.heap.size, 0, none⟩ 1 1 [.int .i64 x.d, .string x.nm] rfl rfl (two_at _ _ _ _) (two_cells x) (by unfold maxLen; omega) (by omega) (by have := H2.out.2.2; simp; omega) ?_; intro v5 w5 hown5 hgrow5 _ _; have H5 : Hid (w5.ownsRow w.heap.size 40 2 v5 (acc.length + 1) (kc acc ++ [.int .i64 x.d, .string x.nm]) ∧ Red w w5 r v l s2) := ⟨hown5, (H2.out.1.own HG.out (Only.of (S := fun _ => False) (below_alloc w2 _)) (fun k hk => hk.elim)).own HG.out (only_grown hgrow5) (fun q hq => (World.ownsRow.lt H2.out.2.1 q hq).1)⟩; clear hown5 hgrow5)
            | (go_at_call 50; refine HRd.out.mono ?_; rintro e w2 ⟨rfl, h2⟩; have H2 : Hid (Red w w2 r v l s2 ∧ RowK w2 w.heap.size (.slice av acc.length cv) acc ∧ w.heap.size ≤ w2.heap.size) := ⟨hI.out.2.1.on h2.out, owns_moved hI.out.2.2.1 fun q hq => h2.out.2.block q (Tag.own hI.out.2.2.1 hq).lt (by have := (World.ownsRow.lt hI.out.2.2.1 q hq).1; omega), Nat.le_trans hI.out.2.1.2.size h2.out.2.size⟩; clear h2))
          refine ⟨⟨k + 1, acc ++ [x], s2, by omega, by simp, HE.out, H5.out.2, ?_, by rw [List.length_append]; simp; omega⟩, by simp [intOf]; omega⟩
          show World.ownsRow _ _ _ _ _ _ _
          rw [List.length_append, kc_app1]
          exact H5.out.1
    · have hki : ¬ (k : Int) < (N : Int) := by omega
      have hk0 : N - k = 0 := by omega
      have HE : Hid (LN = (acc, s')) := by have := hI.out.1; rw [hk0] at this; exact this.symm
      clear hk0
      go_wp2
      refine fwd_ret ?_
      go_ret
      rw [HE.out]
      exact ⟨_, rfl, hI.out.2.1, hI.out.2.2.1, hI.out.2.2.2⟩
end
end Go.Proofs.Ytekonakanieeaaa
