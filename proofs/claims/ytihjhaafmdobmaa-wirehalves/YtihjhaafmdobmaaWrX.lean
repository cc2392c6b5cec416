/- The reader in memory: entry. -/
import Derived.Test.YtihjhaafmdobmaaWrW
namespace Go.Proofs.Ytihjhaafmdobmaa
open Go.RowKit Go.Lib

set_option maxRecDepth 20000 in
set_option maxHeartbeats 8000000 in
theorem entry_r {w : World} {r : Nat} {v : Value} {l : List Int} {s : St} (h : Rg w r v l s) : Calls Try.prog 123 #[.pointer (some ⟨r, 0, none⟩)] w fun e w' => RdR w r v l (entP s).2 (entP s).1.agg e w' := by
  have HG : Hid (Rg w r v l s) := h
  have hrl := h.lt
  obtain ⟨W, hW⟩ : ∃ W, w.alloc (.cells #[.int .i64 0, .string ⟨#[]⟩, .bool false, .int .i64 0, .int .i64 0, .int .i64 0, .string ⟨#[]⟩] 77) = W := ⟨_, rfl⟩
  have hb := boxB hW
  have HB : Hid (W.heap[w.heap.size]? = some (.cells #[.int .i64 0, .string ⟨#[]⟩, .bool false, .int .i64 0, .int .i64 0, .int .i64 0, .string ⟨#[]⟩] 77 (0, 0)) ∧ Below w.heap.size w W) := hb
  have HK : Hid (Calls Try.prog 125 #[.pointer (some ⟨r, 0, none⟩)] W fun e w' => RdR W r v l (keyP s).2 (.agg #[.int .i64 (keyP s).1.d, .string (keyP s).1.nm]) e w') := key_r (h.below hb.2)
  obtain ⟨E, hE⟩ : ∃ E, entP s = E := ⟨_, rfl⟩
  have hE2 := hE
  unfold entP at hE2
  simp only [] at hE2
  rw [hE]
  obtain ⟨K, hK⟩ : ∃ K, (keyP s).1 = K := ⟨_, rfl⟩
  obtain ⟨s1, hs1⟩ : ∃ K, (keyP s).2 = K := ⟨_, rfl⟩
  rw [hK, hs1] at hE2
  rw [hK, hs1] at HK
  obtain ⟨f, hf⟩ : ∃ f, (octP s1).1 = f := ⟨_, rfl⟩
  obtain ⟨s2, hs2⟩ : ∃ f, (octP s1).2 = f := ⟨_, rfl⟩
  rw [hf, hs2] at hE2
  have HO : Hid (∀ W2, Rg W2 r v l s1 → Calls Try.prog 118 #[.pointer (some ⟨r, 0, none⟩)] W2 fun e w' => RdR W2 r v l s2 (.int .i64 f) e w') := fun W2 h2 => by rw [← hf, ← hs2]; exact octet_r h2
  clear h hb hE hK hs1 hf hs2
  go_enter Try.func123, Try.ntmps123
  go_wp2
  refine wp_scope_once 0 (by rfl) ?_
  clear hW
  go_upto_region 2 with (go_at_call 125; refine HK.out.mono ?_; rintro e w1 ⟨rfl, h1⟩)
  obtain ⟨W1, hW1⟩ : ∃ W1, w1.alloc (.cells #[.int .i64 K.d, .string K.nm, .bool false, .int .i64 0, .int .i64 0, .int .i64 0, .string ⟨#[]⟩] 77) = W1 := ⟨_, rfl⟩
  have hb1 := boxB hW1
  have H1 : Hid (W1.heap[w1.heap.size]? = some (.cells #[.int .i64 K.d, .string K.nm, .bool false, .int .i64 0, .int .i64 0, .int .i64 0, .string ⟨#[]⟩] 77 (0, 0)) ∧ W1.heap[w.heap.size]? = some (.cells #[.int .i64 0, .string ⟨#[]⟩, .bool false, .int .i64 0, .int .i64 0, .int .i64 0, .string ⟨#[]⟩] 77 (0, 0)) ∧ Red w W1 r v l s1 ∧ w.heap.size < w1.heap.size) := by
    have hlt := (Array.getElem?_eq_some_iff.1 HB.out.1).1
    have hk := (h1.out.2.block _ hlt (by omega)).trans HB.out.1
    exact ⟨hb1.1, hkeep hk hb1.2, ⟨h1.out.1.below hb1.2, ((Only.of HB.out.2).trans h1.out.2).trans (Only.of hb1.2)⟩, Nat.lt_of_lt_of_le hlt h1.out.2.size⟩
  rw [hW1]
  clear hW1 hb1 h1 HK
  go_upto_region 3 with (go_at_call 118; refine (HO.out _ H1.out.2.2.1.1).mono ?_; rintro e w2 ⟨rfl, h2⟩)
  have H2 : Hid (w2.heap[w1.heap.size]? = some (.cells #[.int .i64 K.d, .string K.nm, .bool false, .int .i64 0, .int .i64 0, .int .i64 0, .string ⟨#[]⟩] 77 (0, 0)) ∧ w2.heap[w.heap.size]? = some (.cells #[.int .i64 0, .string ⟨#[]⟩, .bool false, .int .i64 0, .int .i64 0, .int .i64 0, .string ⟨#[]⟩] 77 (0, 0)) ∧ Red w w2 r v l s2) := by
    have e1 := H1.out.1
    have e2 := H1.out.2.1
    have := H1.out.2.2.2
    exact ⟨(h2.out.2.block _ (Array.getElem?_eq_some_iff.1 e1).1 (by omega)).trans e1, (h2.out.2.block _ (Array.getElem?_eq_some_iff.1 e2).1 (by omega)).trans e2, H1.out.2.2.1.on h2.out⟩
  have hlt1 := H1.out.2.2.2
  clear h2 HO
  by_cases hf0 : f = 0
  · subst hf0
    rw [if_pos rfl] at hE2
    obtain ⟨N, hN⟩ : ∃ N, (nodeP s2).1 = N := ⟨_, rfl⟩
    obtain ⟨s3, hs3⟩ : ∃ N, (nodeP s2).2 = N := ⟨_, rfl⟩
    rw [hN, hs3] at hE2
    have HP : Hid (E = (⟨K.d, K.nm, false, N.id, N.kind, N.mode, N.tg⟩, s3)) := hE2.symm
    have HN : Hid (Calls Try.prog 160 #[.pointer (some ⟨r, 0, none⟩)] w2 fun e w' => RdR w2 r v l s3 (.agg #[.int .i64 N.id, .int .i64 N.kind, .int .i64 N.mode, .string N.tg]) e w') := by rw [← hN, ← hs3]; exact node_r H2.out.2.2.1
    clear hE2 hN hs3
    go_upto_region 7 with (go_at_call 160; refine HN.out.mono ?_; rintro e w3 ⟨rfl, h3⟩; have e1 : w3.heap[w1.heap.size]? = some (.cells #[.int .i64 K.d, .string K.nm, .bool false, .int .i64 0, .int .i64 0, .int .i64 0, .string ⟨#[]⟩] 77 (0, 0)) := (h3.out.2.block _ (Array.getElem?_eq_some_iff.1 H2.out.1).1 (by omega)).trans H2.out.1; have e2 : w3.heap[w.heap.size]? = some (.cells #[.int .i64 0, .string ⟨#[]⟩, .bool false, .int .i64 0, .int .i64 0, .int .i64 0, .string ⟨#[]⟩] 77 (0, 0)) := (h3.out.2.block _ (Array.getElem?_eq_some_iff.1 H2.out.2.1).1 (by omega)).trans H2.out.2.1; have H3 : Hid (w3.heap[w1.heap.size]? = some (.cells #[.int .i64 K.d, .string K.nm, .bool false, .int .i64 0, .int .i64 0, .int .i64 0, .string ⟨#[]⟩] 77 (0, 0)) ∧ w3.heap[w.heap.size]? = some (.cells #[.int .i64 0, .string ⟨#[]⟩, .bool false, .int .i64 0, .int .i64 0, .int .i64 0, .string ⟨#[]⟩] 77 (0, 0)) ∧ Red w w3 r v l s3) := ⟨e1, e2, H2.out.2.2.on h3.out⟩; have ef := free_of e1; have d3 := cell_of e1 3; have d4 := cell_of e1 4; have d5 := cell_of e1 5; have d6 := cell_of e1 6; simp at d3 d4 d5 d6; clear e1 e2 h3)
    obtain ⟨W4, hW4⟩ : ∃ W4, (((w3.setCell ⟨w1.heap.size, 3, none⟩ (.int .i64 N.id)).setCell ⟨w1.heap.size, 4, none⟩ (.int .i64 N.kind)).setCell ⟨w1.heap.size, 5, none⟩ (.int .i64 N.mode)).setCell ⟨w1.heap.size, 6, none⟩ (.string N.tg) = W4 := ⟨_, rfl⟩
    have HE1 : Hid (W4.heap[w1.heap.size]? = some (.cells #[.int .i64 K.d, .string K.nm, .bool false, .int .i64 N.id, .int .i64 N.kind, .int .i64 N.mode, .string N.tg] 77 (0, 0))) := by
      have k := heap_set (heap_set (heap_set (heap_set H3.out.1 3 (.int .i64 N.id)) 4 (.int .i64 N.kind)) 5 (.int .i64 N.mode)) 6 (.string N.tg)
      simp only [List.setIfInBounds_toArray, List.set_cons_zero, List.set_cons_succ] at k
      rw [← hW4]; exact k
    have hO4 : Only (· = w1.heap.size) w3 W4 := by rw [← hW4]; exact (((only1 _ w1.heap.size 3 _).trans (only1 _ w1.heap.size 4 _)).trans (only1 _ w1.heap.size 5 _)).trans (only1 _ w1.heap.size 6 _)
    have HZ : Hid (W4.heap[w.heap.size]? = some (.cells #[.int .i64 0, .string ⟨#[]⟩, .bool false, .int .i64 0, .int .i64 0, .int .i64 0, .string ⟨#[]⟩] 77 (0, 0))) := (hO4.block _ (Array.getElem?_eq_some_iff.1 H3.out.2.1).1 (by omega)).trans H3.out.2.1
    have HR4 : Hid (Red w W4 r v l s3) := H3.out.2.2.box HG.out hO4 (by omega)
    rw [hW4]
    clear hW4 hO4 ef d3 d4 d5 d6
    have p0 := cell_of HE1.out 0
    have p1 := cell_of HE1.out 1
    have p2 := cell_of HE1.out 2
    have p3 := cell_of HE1.out 3
    have p4 := cell_of HE1.out 4
    have p5 := cell_of HE1.out 5
    have p6 := cell_of HE1.out 6
    simp at p0 p1 p2 p3 p4 p5 p6
    have q0 := cell_of HZ.out 0
    have q1 := cell_of HZ.out 1
    have q2 := cell_of HZ.out 2
    have q3 := cell_of HZ.out 3
    have q4 := cell_of HZ.out 4
    have q5 := cell_of HZ.out 5
    have q6 := cell_of HZ.out 6
    simp at q0 q1 q2 q3 q4 q5 q6
    have qf := free_of HZ.out
    go_wp2
    have hfin := heap_set (heap_set (heap_set (heap_set (heap_set (heap_set (heap_set (HZ.out) 0 (.int .i64 K.d)) 1 (.string K.nm)) 2 (.bool false)) 3 (.int .i64 N.id)) 4 (.int .i64 N.kind)) 5 (.int .i64 N.mode)) 6 (.string N.tg)
    simp only [List.setIfInBounds_toArray, List.set_cons_zero, List.set_cons_succ] at hfin
    refine fwd_ret ?_
    refine bodyPost_ret (results_cell_row rfl _ _ w.heap.size _ _ _ _ rfl hfin Try.underlying77 rfl Try.sizeE) rfl ?_
    rw [HP.out]
    exact ⟨rfl, HR4.out.box HG.out (((((((only1 _ w.heap.size 0 _).trans (only1 _ w.heap.size 1 _)).trans (only1 _ w.heap.size 2 _)).trans (only1 _ w.heap.size 3 _)).trans (only1 _ w.heap.size 4 _)).trans (only1 _ w.heap.size 5 _)).trans (only1 _ w.heap.size 6 _)) (Nat.le_refl _)⟩
  · have hf0b : (f == 0) = false := by simpa using hf0
    rw [if_neg hf0] at hE2
    by_cases hf1 : f = 1
    · subst hf1
      rw [if_pos rfl] at hE2
      have HP : Hid (E = (⟨K.d, K.nm, true, 0, 0, 0, ⟨#[]⟩⟩, s2)) := hE2.symm
      have ef := free_of H2.out.1
      have d2 := cell_of H2.out.1 2
      simp at d2
      clear hE2
      go_upto_region 7 with fail
      obtain ⟨W4, hW4⟩ : ∃ W4, w2.setCell ⟨w1.heap.size, 2, none⟩ (.bool true) = W4 := ⟨_, rfl⟩
      have HE1 : Hid (W4.heap[w1.heap.size]? = some (.cells #[.int .i64 K.d, .string K.nm, .bool true, .int .i64 0, .int .i64 0, .int .i64 0, .string ⟨#[]⟩] 77 (0, 0))) := by
        have k := heap_set H2.out.1 2 (.bool true)
        simp only [List.setIfInBounds_toArray, List.set_cons_zero, List.set_cons_succ] at k
        rw [← hW4]; exact k
      have hO4 : Only (· = w1.heap.size) w2 W4 := by rw [← hW4]; exact only1 _ w1.heap.size 2 _
      have HZ : Hid (W4.heap[w.heap.size]? = some (.cells #[.int .i64 0, .string ⟨#[]⟩, .bool false, .int .i64 0, .int .i64 0, .int .i64 0, .string ⟨#[]⟩] 77 (0, 0))) := (hO4.block _ (Array.getElem?_eq_some_iff.1 H2.out.2.1).1 (by omega)).trans H2.out.2.1
      have HR4 : Hid (Red w W4 r v l s2) := H2.out.2.2.box HG.out hO4 (by omega)
      rw [hW4]
      clear hW4 hO4 ef d2
      have p0 := cell_of HE1.out 0
      have p1 := cell_of HE1.out 1
      have p2 := cell_of HE1.out 2
      have p3 := cell_of HE1.out 3
      have p4 := cell_of HE1.out 4
      have p5 := cell_of HE1.out 5
      have p6 := cell_of HE1.out 6
      simp at p0 p1 p2 p3 p4 p5 p6
      have q0 := cell_of HZ.out 0
      have q1 := cell_of HZ.out 1
      have q2 := cell_of HZ.out 2
      have q3 := cell_of HZ.out 3
      have q4 := cell_of HZ.out 4
      have q5 := cell_of HZ.out 5
      have q6 := cell_of HZ.out 6
      simp at q0 q1 q2 q3 q4 q5 q6
      have qf := free_of HZ.out
      go_wp2
      have hfin := heap_set (heap_set (heap_set (heap_set (heap_set (heap_set (heap_set (HZ.out) 0 (.int .i64 K.d)) 1 (.string K.nm)) 2 (.bool true)) 3 (.int .i64 0)) 4 (.int .i64 0)) 5 (.int .i64 0)) 6 (.string ⟨#[]⟩)
      simp only [List.setIfInBounds_toArray, List.set_cons_zero, List.set_cons_succ] at hfin
      refine fwd_ret ?_
      refine bodyPost_ret (results_cell_row rfl _ _ w.heap.size _ _ _ _ rfl hfin Try.underlying77 rfl Try.sizeE) rfl ?_
      rw [HP.out]
      exact ⟨rfl, HR4.out.box HG.out (((((((only1 _ w.heap.size 0 _).trans (only1 _ w.heap.size 1 _)).trans (only1 _ w.heap.size 2 _)).trans (only1 _ w.heap.size 3 _)).trans (only1 _ w.heap.size 4 _)).trans (only1 _ w.heap.size 5 _)).trans (only1 _ w.heap.size 6 _)) (Nat.le_refl _)⟩
    · have hf1b : (f == 1) = false := by simpa using hf1
      rw [if_neg hf1] at hE2
      have HP : Hid (E = (⟨0, ⟨#[]⟩, false, 0, 0, 0, ⟨#[]⟩⟩, none)) := hE2.symm
      have HS : Hid (Calls Try.prog 157 #[.pointer (some ⟨r, 0, none⟩)] w2 fun e w' => e = .returned (.tuple #[]) ∧ Hid (Red w2 w' r v l none)) := stop_r H2.out.2.2.1
      clear hE2 hf0 hf1
      go_wp2
      go_step3
      refine fwd_goto (l := 0) ?_
      go_wp2_with (go_at_call 157; refine HS.out.mono ?_; rintro e w3 ⟨rfl, h3⟩; have hbx : w3.heap[w.heap.size]? = some (.cells #[.int .i64 0, .string ⟨#[]⟩, .bool false, .int .i64 0, .int .i64 0, .int .i64 0, .string ⟨#[]⟩] 77 (0, 0)) := (h3.out.2.block _ (Array.getElem?_eq_some_iff.1 H2.out.2.1).1 (by omega)).trans H2.out.2.1; have HZ : Hid (w3.heap[w.heap.size]? = some (.cells #[.int .i64 0, .string ⟨#[]⟩, .bool false, .int .i64 0, .int .i64 0, .int .i64 0, .string ⟨#[]⟩] 77 (0, 0)) ∧ Red w w3 r v l none) := ⟨hbx, H2.out.2.2.on h3.out⟩; have qf := free_of hbx; have q0 := cell_of hbx 0; have q1 := cell_of hbx 1; have q2 := cell_of hbx 2; have q3 := cell_of hbx 3; have q4 := cell_of hbx 4; have q5 := cell_of hbx 5; have q6 := cell_of hbx 6; simp at q0 q1 q2 q3 q4 q5 q6; clear hbx h3)
      have hfin := heap_set (heap_set (heap_set (heap_set (heap_set (heap_set (heap_set HZ.out.1 0 (.int .i64 0)) 1 (.string ⟨#[]⟩)) 2 (.bool false)) 3 (.int .i64 0)) 4 (.int .i64 0)) 5 (.int .i64 0)) 6 (.string ⟨#[]⟩)
      simp only [List.setIfInBounds_toArray, List.set_cons_zero, List.set_cons_succ] at hfin
      rw [Exit.noGoto_ret]
      refine bodyPost_ret (results_cell_row rfl _ _ w.heap.size _ _ _ _ rfl hfin Try.underlying77 rfl Try.sizeE) rfl ?_
      rw [HP.out]
      exact ⟨rfl, HZ.out.2.box HG.out (((((((only1 _ w.heap.size 0 _).trans (only1 _ w.heap.size 1 _)).trans (only1 _ w.heap.size 2 _)).trans (only1 _ w.heap.size 3 _)).trans (only1 _ w.heap.size 4 _)).trans (only1 _ w.heap.size 5 _)).trans (only1 _ w.heap.size 6 _)) (Nat.le_refl _)⟩
end Go.Proofs.Ytihjhaafmdobmaa
