/- The program's tree: Load. -/
import Derived.Test.YtjkgafbknjpjbabTqM
namespace Go.Proofs.Ytjkgafbknjpjbab
open Go.RowKit Go.Sort
attribute [local go_sem high] eqK' neqK' eqE neqE eqN neqN guardK guardE guardN

def Sound (es : List En) (e : En) : Prop := e.neg = false ∧ Mn.chk e.nm = 0 ∧ rightE Mn e.kind e.mode e.tg = 0 ∧ dirE es e.d = 0 ∧ insideF es (es.length + 1) e.d 1 = true
set_option maxRecDepth 20000 in
set_option maxHeartbeats 8000000 in
theorem whole_p (t : Nat) (s : Tr) (w : World) (h : IsP w t s) : Calls Try.prog 32 #[.pointer (some ⟨t, 0, none⟩)] w fun x w' => TellsB (∀ e ∈ s.es, Sound s.es e) w w' x := by
  have H : Hid (IsP w t s) := h
  obtain ⟨c0, _, _, _⟩ := h.cells
  obtain ⟨a, cap, e⟩ := owns_len h.row
  rw [e] at c0
  obtain ⟨n, hn⟩ : ∃ n, s.es.length = n := ⟨_, rfl⟩
  rw [hn] at c0 e
  have hlim := h.lim
  rw [hn] at hlim
  have HV : Hid (s.v = .slice a n cap ∧ s.es.length = n) := ⟨e, hn⟩
  clear h e hn
  go_enter Try.func32, Try.ntmps32
  go_wp2
  go_loopw [11] (fun i wr => ∃ k : Nat, k ≤ n ∧ i = .int .i64 k ∧ (∀ j e, j < k → s.es[j]? = some e → Sound s.es e) ∧ Below w.heap.size w wr) (fun i _ => n - (intOf i).toNat)
  case atStart => exact ⟨0, Nat.zero_le _, rfl, fun j _ hj => by omega, Below.refl _ _⟩
  case round =>
    obtain ⟨k, hk, rfl, hR, hb⟩ := hrel
    have HB : Hid (Below w.heap.size w wr) := hb
    clear hb
    by_cases hkn : k < n
    · obtain ⟨e, he⟩ : ∃ x, s.es[k]? = some x := ⟨_, List.getElem?_eq_getElem (by rw [HV.out.2]; omega)⟩
      have hrow := (H.out.below HB.out).row
      rw [HV.out.1] at hrow
      obtain ⟨g, hg, -, -, -, hce, -⟩ := owns_entry hrow he
      subst hg
      have hki : (k : Int) < (n : Int) := by omega
      have hem := List.mem_of_getElem? he
      obtain ⟨C, hC⟩ : ∃ x, Mn.chk e.nm = x := ⟨_, rfl⟩
      obtain ⟨R, hRi⟩ : ∃ x, rightE Mn e.kind e.mode e.tg = x := ⟨_, rfl⟩
      obtain ⟨D, hD⟩ : ∃ x, dirE s.es e.d = x := ⟨_, rfl⟩
      obtain ⟨I, hI⟩ : ∃ x, insideF s.es (s.es.length + 1) e.d 1 = x := ⟨_, rfl⟩
      have HC : Hid (∀ w, Calls Try.prog 45 #[.string e.nm] w fun x w' => x = .returned (.int .i64 C) ∧ Below w.heap.size w w') := fun w => by rw [← hC]; exact check_any e.nm w
      have HRi : Hid (∀ w, Calls Try.prog 47 #[.agg #[.int .i64 e.id, .int .i64 e.kind, .int .i64 e.mode, .string e.tg]] w fun x w' => x = .returned (.int .i64 R) ∧ Below w.heap.size w w') := fun w => by rw [← hRi]; exact right_p Mn nmsP e.id e.kind e.mode e.tg w
      have HD : Hid (∀ w, IsP w t s → Calls Try.prog 33 #[.pointer (some ⟨t, 0, none⟩), .int .i64 e.d] w fun x w' => x = .returned (.int .i64 D) ∧ Below w.heap.size w w') := fun w h => by rw [← hD]; exact directory_p t s e.d w h
      have HI : Hid (∀ w, IsP w t s → Calls Try.prog 48 #[.pointer (some ⟨t, 0, none⟩), .int .i64 e.d, .int .i64 1] w fun x w' => x = .returned (.bool I) ∧ Below w.heap.size w w') := fun w h => by rw [← hI]; exact inside_p t s e.d 1 w h
      have HS : Hid (Sound s.es e ↔ e.neg = false ∧ C = 0 ∧ R = 0 ∧ D = 0 ∧ I = true) := by show _ ↔ _; unfold Sound; rw [hC, hRi, hD, hI]
      have HE : Hid (e ∈ s.es ∧ s.es[k]? = some e ∧ (∀ j e, j < k → s.es[j]? = some e → Sound s.es e)) := ⟨hem, he, hR⟩
      have HW : Hid (∀ o, Below w.heap.size w (wr.alloc o)) := fun o => chainB HB.out (below_alloc _ _)
      have x0 := hce.c0
      have x1 := hce.c1
      have x2 := hce.c2
      have x3 := hce.c3
      have x4 := hce.c4
      have x5 := hce.c5
      have x6 := hce.c6
      clear hce hrow he hR hem hC hRi hD hI
      go_upto_region 4 with fail
      obtain ⟨w1, hw1⟩ : ∃ x, wr.alloc (.cells #[.int .i64 e.d, .string e.nm, .bool e.neg, .int .i64 e.id, .int .i64 e.kind, .int .i64 e.mode, .string e.tg] 39) = x := ⟨_, rfl⟩
      have hb1 : Below w.heap.size w w1 := by rw [← hw1]; exact HW.out _
      have hx1 : w1.heap[wr.heap.size]? = some (.cells #[.int .i64 e.d, .string e.nm, .bool e.neg, .int .i64 e.id, .int .i64 e.kind, .int .i64 e.mode, .string e.tg] 39 (0, 0)) := by rw [← hw1]; exact heap_new _ _
      rw [hw1]
      have d0 := cell_of hx1 0
      have d1 := cell_of hx1 1
      have d2 := cell_of hx1 2
      simp at d0 d1 d2
      have H1 : Hid (Below w.heap.size w w1 ∧ w1.heap[wr.heap.size]? = some (.cells #[.int .i64 e.d, .string e.nm, .bool e.neg, .int .i64 e.id, .int .i64 e.kind, .int .i64 e.mode, .string e.tg] 39 (0, 0))) := ⟨hb1, hx1⟩
      clear hw1 hb1 hx1 x0 x1 x2 x3 x4 x5 x6 HW
      obtain ⟨N, hN⟩ : ∃ N, e.neg = N := ⟨_, rfl⟩
      have HNg : Hid (e.neg = N) := hN
      rw [hN] at d2
      clear hN
      cases N with
      | true =>
        go_wp2
        go_ret
        exact ⟨false, rfl, ⟨fun h => (by cases h), fun h => (by have := (HS.out.1 (h e HE.out.1)).1; rw [HNg.out] at this; cases this)⟩, H1.out.1⟩
      | false =>
        by_cases hC0 : C = 0
        · subst hC0
          by_cases hR0 : R = 0
          · subst hR0
            by_cases hD0 : D = 0
            · subst hD0
              cases I with
              | true =>
                have HT : Hid (∀ j e, j < k + 1 → s.es[j]? = some e → Sound s.es e) := by
                  intro j f hj hf
                  by_cases hjk : j < k
                  · exact HE.out.2.2 j f hjk hf
                  · have : j = k := by omega
                    subst this
                    cases HE.out.2.1.symm.trans hf
                    exact HS.out.2 ⟨HNg.out, rfl, rfl, rfl, rfl⟩
                go_wp2_with (first
                  | (go_at_call 45; refine (HC.out _).mono ?_; rintro x w2 ⟨rfl, hb2⟩; have hx2 := hkeep H1.out.2 hb2; have f3 := cell_of hx2 3; have f4 := cell_of hx2 4; have f5 := cell_of hx2 5; have f6 := cell_of hx2 6; simp at f3 f4 f5 f6)
                  | (go_at_call 47; refine (HRi.out _).mono ?_; rintro x w3 ⟨rfl, hb3⟩)
                  | (go_at_call 33; refine (HD.out _ (H.out.below (chainB (chainB H1.out.1 hb2) hb3))).mono ?_; rintro x w4 ⟨rfl, hb4⟩)
                  | (go_at_call 48; refine (HI.out _ (H.out.below (chainB (chainB (chainB H1.out.1 hb2) hb3) hb4))).mono ?_; rintro x w5 ⟨rfl, hb5⟩))
                exact ⟨⟨k + 1, by omega, by simp, HT.out, chainB (chainB (chainB (chainB H1.out.1 hb2) hb3) hb4) hb5⟩, by simp [intOf]; omega⟩
              | false =>
                go_wp2_with (first
                  | (go_at_call 45; refine (HC.out _).mono ?_; rintro x w2 ⟨rfl, hb2⟩; have hx2 := hkeep H1.out.2 hb2; have f3 := cell_of hx2 3; have f4 := cell_of hx2 4; have f5 := cell_of hx2 5; have f6 := cell_of hx2 6; simp at f3 f4 f5 f6)
                  | (go_at_call 47; refine (HRi.out _).mono ?_; rintro x w3 ⟨rfl, hb3⟩)
                  | (go_at_call 33; refine (HD.out _ (H.out.below (chainB (chainB H1.out.1 hb2) hb3))).mono ?_; rintro x w4 ⟨rfl, hb4⟩)
                  | (go_at_call 48; refine (HI.out _ (H.out.below (chainB (chainB (chainB H1.out.1 hb2) hb3) hb4))).mono ?_; rintro x w5 ⟨rfl, hb5⟩))
                go_ret
                exact ⟨false, rfl, ⟨fun h => (by cases h), fun h => (by have := (HS.out.1 (h e HE.out.1)).2.2.2.2; cases this)⟩, chainB (chainB (chainB (chainB H1.out.1 hb2) hb3) hb4) hb5⟩
            · have hDb : (D != 0) = true := by simpa using hD0
              have HZ : Hid (¬ ∀ e ∈ s.es, Sound s.es e) := fun h => hD0 (HS.out.1 (h e HE.out.1)).2.2.2.1
              clear hD0
              go_wp2_with (first
                | (go_at_call 45; refine (HC.out _).mono ?_; rintro x w2 ⟨rfl, hb2⟩; have hx2 := hkeep H1.out.2 hb2; have f3 := cell_of hx2 3; have f4 := cell_of hx2 4; have f5 := cell_of hx2 5; have f6 := cell_of hx2 6; simp at f3 f4 f5 f6)
                | (go_at_call 47; refine (HRi.out _).mono ?_; rintro x w3 ⟨rfl, hb3⟩)
                | (go_at_call 33; refine (HD.out _ (H.out.below (chainB (chainB H1.out.1 hb2) hb3))).mono ?_; rintro x w4 ⟨rfl, hb4⟩))
              go_ret
              exact ⟨false, rfl, ⟨fun h => (by cases h), fun h => absurd h HZ.out⟩, chainB (chainB (chainB H1.out.1 hb2) hb3) hb4⟩
          · have hRb : (R != 0) = true := by simpa using hR0
            have HZ : Hid (¬ ∀ e ∈ s.es, Sound s.es e) := fun h => hR0 (HS.out.1 (h e HE.out.1)).2.2.1
            clear hR0
            go_wp2_with (first
              | (go_at_call 45; refine (HC.out _).mono ?_; rintro x w2 ⟨rfl, hb2⟩; have hx2 := hkeep H1.out.2 hb2; have f3 := cell_of hx2 3; have f4 := cell_of hx2 4; have f5 := cell_of hx2 5; have f6 := cell_of hx2 6; simp at f3 f4 f5 f6)
              | (go_at_call 47; refine (HRi.out _).mono ?_; rintro x w3 ⟨rfl, hb3⟩))
            go_ret
            exact ⟨false, rfl, ⟨fun h => (by cases h), fun h => absurd h HZ.out⟩, chainB (chainB H1.out.1 hb2) hb3⟩
        · have hCb : (C != 0) = true := by simpa using hC0
          have HZ : Hid (¬ ∀ e ∈ s.es, Sound s.es e) := fun h => hC0 (HS.out.1 (h e HE.out.1)).2.1
          clear hC0
          go_wp2_with (go_at_call 45; refine (HC.out _).mono ?_; rintro x w2 ⟨rfl, hb2⟩)
          go_ret
          exact ⟨false, rfl, ⟨fun h => (by cases h), fun h => absurd h HZ.out⟩, chainB H1.out.1 hb2⟩
    · have hki : ¬ (k : Int) < (n : Int) := by omega
      have HP : Hid (∀ e ∈ s.es, Sound s.es e) := by
        intro e he
        obtain ⟨j, hj⟩ := List.mem_iff_getElem?.1 he
        exact hR j e (by have := (List.getElem?_eq_some_iff.1 hj).1; rw [HV.out.2] at this; omega) hj
      clear hR
      go_wp2
      go_ret
      exact ⟨true, rfl, ⟨fun _ => HP.out, fun _ => rfl⟩, HB.out⟩
end Go.Proofs.Ytjkgafbknjpjbab
