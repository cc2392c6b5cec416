/- The program's tree: Load, its other tests. -/
import Derived.Test.YtjkgafbknjpjbabTqL
namespace Go.Proofs.Ytjkgafbknjpjbab
open Go.RowKit Go.Sort
attribute [local go_sem high] eqK' neqK' eqE neqE eqN neqN guardK guardE guardN

set_option maxRecDepth 20000 in
set_option maxHeartbeats 8000000 in
theorem unlike_p (t : Nat) (s : Tr) (w : World) (h : IsP w t s) (hk : Keyed s.es) : Calls Try.prog 31 #[.pointer (some ⟨t, 0, none⟩)] w fun x w' => TellsB ((∀ e ∈ s.es, 2 ≤ e.id ∧ e.id < s.next) ∧ Ided s.es) w w' x := by
  have H : Hid (IsP w t s ∧ Keyed s.es) := ⟨h, hk⟩
  obtain ⟨c0, _, c2, _⟩ := h.cells
  obtain ⟨a, cap, e⟩ := owns_len h.row
  rw [e] at c0
  obtain ⟨n, hn⟩ : ∃ n, s.es.length = n := ⟨_, rfl⟩
  rw [hn] at c0 e
  have hlim := h.lim
  rw [hn] at hlim
  have hlt := h.tt.lt
  have HV : Hid (s.v = .slice a n cap ∧ s.es.length = n ∧ w.cell? ⟨t, 2, none⟩ = some (.int .i64 s.next)) := ⟨e, hn, c2⟩
  clear h e hn hk
  go_enter Try.func31, Try.ntmps31
  go_wp2
  go_loopw [13] (fun i wr => ∃ k : Nat, k ≤ n ∧ i = .int .i64 k ∧ (∀ j e, j < k → s.es[j]? = some e → (2 ≤ e.id ∧ e.id < s.next) ∧ nodeE s.es e.id = some e) ∧ Below w.heap.size w wr) (fun i _ => n - (intOf i).toNat)
  case atStart => exact ⟨0, Nat.zero_le _, rfl, fun j _ hj => by omega, Below.refl _ _⟩
  case round =>
    obtain ⟨k, hk, rfl, hR, hb⟩ := hrel
    have HB : Hid (Below w.heap.size w wr) := hb
    clear hb
    by_cases hkn : k < n
    · obtain ⟨e, he⟩ : ∃ x, s.es[k]? = some x := ⟨_, List.getElem?_eq_getElem (by rw [HV.out.2.1]; omega)⟩
      have hrow := (H.out.1.below HB.out).row
      rw [HV.out.1] at hrow
      obtain ⟨g, hg, -, -, -, hce, -⟩ := owns_entry hrow he
      subst hg
      have hki : (k : Int) < (n : Int) := by omega
      have x0 := hce.c0
      have x1 := hce.c1
      have x2 := hce.c2
      have x3 := hce.c3
      have x4 := hce.c4
      have x5 := hce.c5
      have x6 := hce.c6
      have hem := List.mem_of_getElem? he
      have HE : Hid (e ∈ s.es ∧ s.es[k]? = some e ∧ (∀ j e, j < k → s.es[j]? = some e → (2 ≤ e.id ∧ e.id < s.next) ∧ nodeE s.es e.id = some e)) := ⟨hem, he, hR⟩
      clear hce hrow he hR hem
      go_upto_region 4 with fail
      obtain ⟨w1, hw1⟩ : ∃ x, wr.alloc (.cells #[.int .i64 e.d, .string e.nm, .bool e.neg, .int .i64 e.id, .int .i64 e.kind, .int .i64 e.mode, .string e.tg] 39) = x := ⟨_, rfl⟩
      have hb1 : Below w.heap.size w w1 := by rw [← hw1]; exact chainB HB.out (below_alloc _ _)
      have hx1 : w1.heap[wr.heap.size]? = some (.cells #[.int .i64 e.d, .string e.nm, .bool e.neg, .int .i64 e.id, .int .i64 e.kind, .int .i64 e.mode, .string e.tg] 39 (0, 0)) := by rw [← hw1]; exact heap_new _ _
      rw [hw1]
      have d3 := cell_of hx1 3
      simp at d3
      have n1 := (hb1.cell (p := ⟨t, 2, none⟩) hlt).trans HV.out.2.2
      have H1 : Hid (Below w.heap.size w w1 ∧ w1.heap[wr.heap.size]? = some (.cells #[.int .i64 e.d, .string e.nm, .bool e.neg, .int .i64 e.id, .int .i64 e.kind, .int .i64 e.mode, .string e.tg] 39 (0, 0))) := ⟨hb1, hx1⟩
      clear hw1 hb1 hx1 x0 x1 x2 x3 x4 x5 x6
      by_cases hi1 : e.id ≤ 1
      · go_wp2
        go_ret
        exact ⟨false, rfl, ⟨fun h => (by cases h), fun h => absurd (h.1 e HE.out.1).1 (by omega)⟩, H1.out.1⟩
      · by_cases hi2 : s.next ≤ e.id
        · go_wp2
          go_ret
          exact ⟨false, rfl, ⟨fun h => (by cases h), fun h => absurd (h.1 e HE.out.1).2 (by omega)⟩, H1.out.1⟩
        · obtain ⟨x, hx⟩ : ∃ x, nodeE s.es e.id = some x := by
            cases hq : nodeE s.es e.id with
            | some x => exact ⟨x, rfl⟩
            | none => exact absurd rfl ((nodeE_none_iff s.es (by omega)).1 hq e HE.out.1)
          have hxm := nodeE_mem (by omega) hx
          have HF : Hid (∀ W, IsP W t s → Calls Try.prog 23 #[.pointer (some ⟨t, 0, none⟩), .int .i64 e.id] W fun y w' => y = .returned (.tuple #[.agg #[.int .i64 x.d, .string x.nm, .bool x.neg, .int .i64 x.id, .int .i64 x.kind, .int .i64 x.mode, .string x.tg], .int .i64 0]) ∧ Below W.heap.size W w') := fun W h => by have := find_p t s e.id W h; unfold findV at this; rw [if_neg (by omega), hx] at this; exact this
          have HX : Hid (nodeE s.es e.id = some x ∧ x ∈ s.es ∧ x.id = e.id ∧ 2 ≤ e.id ∧ e.id < s.next) := ⟨hx, hxm.1, hxm.2, by omega, by omega⟩
          clear hx hxm
          go_upto_region 8 with (go_at_call 23; refine (HF.out _ (H.out.1.below H1.out.1)).mono ?_; rintro y w2 ⟨rfl, hb2⟩)
          obtain ⟨w3, hw3⟩ : ∃ y, w2.alloc (.cells #[.int .i64 x.d, .string x.nm, .bool x.neg, .int .i64 x.id, .int .i64 x.kind, .int .i64 x.mode, .string x.tg] 39) = y := ⟨_, rfl⟩
          have hb3 : Below w1.heap.size w1 w3 := by rw [← hw3]; exact chainB hb2 (below_alloc _ _)
          have hx3 : w3.heap[w2.heap.size]? = some (.cells #[.int .i64 x.d, .string x.nm, .bool x.neg, .int .i64 x.id, .int .i64 x.kind, .int .i64 x.mode, .string x.tg] 39 (0, 0)) := by rw [← hw3]; exact heap_new _ _
          have hy3 := hkeep H1.out.2 hb3
          rw [hw3]
          have f0 := cell_of hx3 0
          have f1 := cell_of hx3 1
          have g0 := cell_of hy3 0
          have g1 := cell_of hy3 1
          simp at f0 f1 g0 g1
          have H3 : Hid (Below w.heap.size w w3) := chainB H1.out.1 hb3
          clear hw3 hb3 hx3 hy3 hb2 d3 n1
          obtain ⟨q, hq⟩ : ∃ q, eqKy x.d x.nm e.d e.nm = q := ⟨_, rfl⟩
          cases q with
          | true =>
            have HT : Hid (∀ j e, j < k + 1 → s.es[j]? = some e → (2 ≤ e.id ∧ e.id < s.next) ∧ nodeE s.es e.id = some e) := by
              intro j f hj hf
              by_cases hjk : j < k
              · exact HE.out.2.2 j f hjk hf
              · have : j = k := by omega
                subst this
                cases HE.out.2.1.symm.trans hf
                have hxe : x = e := by
                  have hq' : x.d = e.d ∧ x.nm = e.nm := by unfold eqKy at hq; exact of_decide_eq_true hq
                  exact H.out.2 x HX.out.2.1 e HE.out.1 hq'.1 hq'.2
                exact ⟨HX.out.2.2.2, by rw [← hxe]; rw [hxe]; exact HX.out.1.trans (by rw [hxe])⟩
            go_wp2
            exact ⟨⟨k + 1, by omega, by simp, HT.out, H3.out⟩, by simp [intOf]; omega⟩
          | false =>
            have HN : Hid (¬ Ided s.es) := fun h => by
              have hxe := h x HX.out.2.1 e HE.out.1 HX.out.2.2.1
              rw [hxe] at hq
              simp [eqKy] at hq
            go_wp2
            go_ret
            exact ⟨false, rfl, ⟨fun h => (by cases h), fun h => absurd h.2 HN.out⟩, H3.out⟩
    · have hki : ¬ (k : Int) < (n : Int) := by omega
      have HP : Hid ((∀ e ∈ s.es, 2 ≤ e.id ∧ e.id < s.next) ∧ Ided s.es) := by
        have key : ∀ e ∈ s.es, (2 ≤ e.id ∧ e.id < s.next) ∧ nodeE s.es e.id = some e := fun e he => by
          obtain ⟨j, hj⟩ := List.mem_iff_getElem?.1 he
          exact hR j e (by have := (List.getElem?_eq_some_iff.1 hj).1; rw [HV.out.2.1] at this; omega) hj
        exact ⟨fun e he => (key e he).1, fun e he f hf hid => by
          have h1 := (key e he).2
          rw [hid, (key f hf).2] at h1
          exact (Option.some.inj h1).symm⟩
      clear hR
      go_wp2
      go_ret
      exact ⟨true, rfl, ⟨fun _ => HP.out, fun _ => rfl⟩, HB.out⟩
end Go.Proofs.Ytjkgafbknjpjbab
