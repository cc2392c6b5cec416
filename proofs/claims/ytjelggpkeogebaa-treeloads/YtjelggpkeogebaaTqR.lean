/- The program's tree: Load. -/
import Derived.Test.YtjelggpkeogebaaTqD
namespace Go.Proofs.Ytjelggpkeogebaa
section
open Go.RowKit Go.Sort
attribute [local go_sem high] eqK' neqK' eqE neqE eqN neqN guardK guardE guardN

/-- a yes or no that tells whether P -/
def TellsB (P : Prop) (w w' : World) (x : Ending) : Prop := ∃ b, x = .returned (.bool b) ∧ (b = true ↔ P) ∧ Below w.heap.size w w'
theorem risV_lt (e f : En) : risV e f < 0 ↔ lessE e f := by
  have := ris_lt e f
  unfold ltOf at this
  unfold lessE
  rw [← this, decide_eq_true_iff]
theorem below_grow (w : World) (os : Array Obj) : Below w.heap.size w (grow w os) :=
  ⟨rfl, rfl, rfl, by unfold grow; simp, fun k hk => by unfold grow; simp only; rw [Array.getElem?_append_left hk]⟩
theorem rising_b (e f : En) (w : World) : Calls Try.prog 38 #[e.agg, f.agg] w fun x w' => x = .returned (.int .i64 (risV e f)) ∧ Below w.heap.size w w' :=
  (rising_p e f w).mono fun _ _ ⟨h1, q, os', h2⟩ => ⟨h1, by rw [h2]; exact below_drewN (Below.refl _ _) q |>.trans (below_grow (w.drewN q) os')⟩
theorem two_keep {W0 W W' : World} {t g i j : Nat} {L : Value} {e f : En} (h : W.cell? ⟨t, 0, none⟩ = some L ∧ W.cell? ⟨g, i, none⟩ = some (.int .i64 e.d) ∧ W.cell? ⟨g, i + 1, none⟩ = some (.string e.nm) ∧ W.cell? ⟨g, i + 2, none⟩ = some (.bool e.neg) ∧ W.cell? ⟨g, i + 3, none⟩ = some (.int .i64 e.id) ∧ W.cell? ⟨g, i + 4, none⟩ = some (.int .i64 e.kind) ∧ W.cell? ⟨g, i + 5, none⟩ = some (.int .i64 e.mode) ∧ W.cell? ⟨g, i + 6, none⟩ = some (.string e.tg) ∧ W.cell? ⟨g, j, none⟩ = some (.int .i64 f.d) ∧ W.cell? ⟨g, j + 1, none⟩ = some (.string f.nm) ∧ W.cell? ⟨g, j + 2, none⟩ = some (.bool f.neg) ∧ W.cell? ⟨g, j + 3, none⟩ = some (.int .i64 f.id) ∧ W.cell? ⟨g, j + 4, none⟩ = some (.int .i64 f.kind) ∧ W.cell? ⟨g, j + 5, none⟩ = some (.int .i64 f.mode) ∧ W.cell? ⟨g, j + 6, none⟩ = some (.string f.tg) ∧ Below W0.heap.size W0 W) (hb : Below W.heap.size W W') :
    W'.cell? ⟨t, 0, none⟩ = some L ∧ W'.cell? ⟨g, i, none⟩ = some (.int .i64 e.d) ∧ W'.cell? ⟨g, i + 1, none⟩ = some (.string e.nm) ∧ W'.cell? ⟨g, i + 2, none⟩ = some (.bool e.neg) ∧ W'.cell? ⟨g, i + 3, none⟩ = some (.int .i64 e.id) ∧ W'.cell? ⟨g, i + 4, none⟩ = some (.int .i64 e.kind) ∧ W'.cell? ⟨g, i + 5, none⟩ = some (.int .i64 e.mode) ∧ W'.cell? ⟨g, i + 6, none⟩ = some (.string e.tg) ∧ W'.cell? ⟨g, j, none⟩ = some (.int .i64 f.d) ∧ W'.cell? ⟨g, j + 1, none⟩ = some (.string f.nm) ∧ W'.cell? ⟨g, j + 2, none⟩ = some (.bool f.neg) ∧ W'.cell? ⟨g, j + 3, none⟩ = some (.int .i64 f.id) ∧ W'.cell? ⟨g, j + 4, none⟩ = some (.int .i64 f.kind) ∧ W'.cell? ⟨g, j + 5, none⟩ = some (.int .i64 f.mode) ∧ W'.cell? ⟨g, j + 6, none⟩ = some (.string f.tg) ∧ Below W0.heap.size W0 W' :=
  ⟨(hb.cell (cellLt h.1)).trans h.1, (hb.cell (cellLt h.2.1)).trans h.2.1, (hb.cell (cellLt h.2.2.1)).trans h.2.2.1, (hb.cell (cellLt h.2.2.2.1)).trans h.2.2.2.1, (hb.cell (cellLt h.2.2.2.2.1)).trans h.2.2.2.2.1, (hb.cell (cellLt h.2.2.2.2.2.1)).trans h.2.2.2.2.2.1, (hb.cell (cellLt h.2.2.2.2.2.2.1)).trans h.2.2.2.2.2.2.1, (hb.cell (cellLt h.2.2.2.2.2.2.2.1)).trans h.2.2.2.2.2.2.2.1, (hb.cell (cellLt h.2.2.2.2.2.2.2.2.1)).trans h.2.2.2.2.2.2.2.2.1, (hb.cell (cellLt h.2.2.2.2.2.2.2.2.2.1)).trans h.2.2.2.2.2.2.2.2.2.1, (hb.cell (cellLt h.2.2.2.2.2.2.2.2.2.2.1)).trans h.2.2.2.2.2.2.2.2.2.2.1, (hb.cell (cellLt h.2.2.2.2.2.2.2.2.2.2.2.1)).trans h.2.2.2.2.2.2.2.2.2.2.2.1, (hb.cell (cellLt h.2.2.2.2.2.2.2.2.2.2.2.2.1)).trans h.2.2.2.2.2.2.2.2.2.2.2.2.1, (hb.cell (cellLt h.2.2.2.2.2.2.2.2.2.2.2.2.2.1)).trans h.2.2.2.2.2.2.2.2.2.2.2.2.2.1, (hb.cell (cellLt h.2.2.2.2.2.2.2.2.2.2.2.2.2.2.1)).trans h.2.2.2.2.2.2.2.2.2.2.2.2.2.2.1, chainB h.2.2.2.2.2.2.2.2.2.2.2.2.2.2.2 hb⟩
def RisesTo (es : List En) (k : Nat) : Prop := ∀ i, i + 1 < k → ∀ e f, es[i]? = some e → es[i + 1]? = some f → lessE e f
theorem rises_of {es : List En} (h : RisesTo es es.length) : Rises es := by
  refine List.pairwise_iff_getElem.2 ?_
  intro i j hi hj hij
  obtain ⟨d, rfl⟩ : ∃ d, j = i + d + 1 := ⟨j - i - 1, by omega⟩
  induction d with
  | zero => exact h i hj _ _ (List.getElem?_eq_getElem hi) (List.getElem?_eq_getElem hj)
  | succ d ih => exact lessE_trans (ih (by omega) (by omega)) (h (i + d + 1) (by omega) _ _ (List.getElem?_eq_getElem (by omega)) (List.getElem?_eq_getElem hj))
theorem Rises.to {es : List En} (h : Rises es) (k : Nat) : RisesTo es k := by
  intro i _ e f he hf
  obtain ⟨h1, h2⟩ := List.getElem?_eq_some_iff.1 he
  obtain ⟨h3, h4⟩ := List.getElem?_eq_some_iff.1 hf
  have := List.pairwise_iff_getElem.1 h i (i + 1) h1 h3 (by omega)
  rw [h2, h4] at this
  exact this
set_option maxRecDepth 20000 in
set_option maxHeartbeats 4000000 in
theorem risen_p (t : Nat) (s : Tr) (w : World) (h : IsP w t s) : Calls Try.prog 21 #[.pointer (some ⟨t, 0, none⟩)] w fun x w' => TellsB (Rises s.es) w w' x := by
  have H : Hid (IsP w t s) := h
  obtain ⟨c0, _, _, _⟩ := h.cells
  obtain ⟨a, cap, e⟩ := owns_len h.row
  rw [e] at c0
  obtain ⟨n, hn⟩ : ∃ n, s.es.length = n := ⟨_, rfl⟩
  rw [hn] at c0 e
  have hlim := h.lim
  rw [hn] at hlim
  have hlt := h.tt.lt
  have HV : Hid (s.v = .slice a n cap ∧ s.es.length = n ∧ w.cell? ⟨t, 0, none⟩ = some (.slice a n cap)) := ⟨e, hn, c0⟩
  clear h e hn
  go_enter Try.func21, Try.ntmps21
  go_wp2
  go_loopw [3] (fun i wr => ∃ k : Nat, 1 ≤ k ∧ (k ≤ n ∨ k = 1) ∧ i = .int .i64 k ∧ RisesTo s.es k ∧ Below w.heap.size w wr) (fun i _ => n - (intOf i).toNat)
  case atStart => exact ⟨1, Nat.le_refl _, .inr rfl, rfl, fun i hi => by omega, Below.refl _ _⟩
  case round =>
    obtain ⟨k, hk1, hk, rfl, hR, hb⟩ := hrel
    have d0 := (hb.cell (p := ⟨t, 0, none⟩) hlt).trans c0
    have HB : Hid (Below w.heap.size w wr) := hb
    clear hb
    by_cases hkn : k < n
    · obtain ⟨p, hkp⟩ : ∃ p, k = p + 1 := ⟨k - 1, by omega⟩
      obtain ⟨e, he⟩ : ∃ x, s.es[p]? = some x := ⟨_, List.getElem?_eq_getElem (by rw [HV.out.2.1]; omega)⟩
      obtain ⟨f, hf⟩ : ∃ x, s.es[k]? = some x := ⟨_, List.getElem?_eq_getElem (by rw [HV.out.2.1]; omega)⟩
      have hrow := (H.out.below HB.out).row
      rw [HV.out.1] at hrow
      obtain ⟨g, hg, -, -, -, hce, -⟩ := owns_entry hrow he
      subst hg
      obtain ⟨g', hg', -, -, -, hcf, -⟩ := owns_entry hrow hf
      cases hg'
      have hki : (k : Int) < (n : Int) := by omega
      have hpi : (p : Int) < (n : Int) := by omega
      have hw1 : IntKind.i64.wrap ((k : Int) - 1) = (p : Int) := (IntWalk.i64_in _ (by omega)).trans (by omega)
      have hp0 : (0 : Int) ≤ (p : Int) := by omega
      have hs0 : (0 : Int) ≤ (k : Int) - 1 := by omega
      have hs1 : ((k : Int) - 1).toNat = p := by omega
      have hs2 : (k : Int) - 1 < (n : Int) := by omega
      have x0 := hce.c0
      have x1 := hce.c1
      have x2 := hce.c2
      have x3 := hce.c3
      have x4 := hce.c4
      have x5 := hce.c5
      have x6 := hce.c6
      have y0 := hcf.c0
      have y1 := hcf.c1
      have y2 := hcf.c2
      have y3 := hcf.c3
      have y4 := hcf.c4
      have y5 := hcf.c5
      have y6 := hcf.c6
      go_upto_region 4 with fail
      have k0 : wr.drew.cell? ⟨t, 0, none⟩ = some (.slice (some ⟨g, 0, none⟩) n cap) ∧ wr.drew.cell? ⟨g, p * 7, none⟩ = some (.int .i64 e.d) ∧ wr.drew.cell? ⟨g, p * 7 + 1, none⟩ = some (.string e.nm) ∧ wr.drew.cell? ⟨g, p * 7 + 2, none⟩ = some (.bool e.neg) ∧ wr.drew.cell? ⟨g, p * 7 + 3, none⟩ = some (.int .i64 e.id) ∧ wr.drew.cell? ⟨g, p * 7 + 4, none⟩ = some (.int .i64 e.kind) ∧ wr.drew.cell? ⟨g, p * 7 + 5, none⟩ = some (.int .i64 e.mode) ∧ wr.drew.cell? ⟨g, p * 7 + 6, none⟩ = some (.string e.tg) ∧ wr.drew.cell? ⟨g, k * 7, none⟩ = some (.int .i64 f.d) ∧ wr.drew.cell? ⟨g, k * 7 + 1, none⟩ = some (.string f.nm) ∧ wr.drew.cell? ⟨g, k * 7 + 2, none⟩ = some (.bool f.neg) ∧ wr.drew.cell? ⟨g, k * 7 + 3, none⟩ = some (.int .i64 f.id) ∧ wr.drew.cell? ⟨g, k * 7 + 4, none⟩ = some (.int .i64 f.kind) ∧ wr.drew.cell? ⟨g, k * 7 + 5, none⟩ = some (.int .i64 f.mode) ∧ wr.drew.cell? ⟨g, k * 7 + 6, none⟩ = some (.string f.tg) ∧ Below w.heap.size w wr.drew := ⟨d0, x0, x1, x2, x3, x4, x5, x6, y0, y1, y2, y3, y4, y5, y6, HB.out.drew⟩
      obtain ⟨R, hRq⟩ : ∃ R, risV e f = R := ⟨_, rfl⟩
      have HRi : Hid (∀ W, Calls Try.prog 38 #[.agg #[.int .i64 e.d, .string e.nm, .bool e.neg, .int .i64 e.id, .int .i64 e.kind, .int .i64 e.mode, .string e.tg], .agg #[.int .i64 f.d, .string f.nm, .bool f.neg, .int .i64 f.id, .int .i64 f.kind, .int .i64 f.mode, .string f.tg]] W fun x w' => x = .returned (.int .i64 R) ∧ Below W.heap.size W w') := fun W => by rw [← hRq]; exact rising_b e f W
      have HL : Hid (R < 0 ↔ lessE e f) := by have := risV_lt e f; rw [hRq] at this; exact this
      have HE : Hid (s.es[p]? = some e ∧ s.es[k]? = some f ∧ RisesTo s.es k ∧ k = p + 1) := ⟨he, hf, hR, hkp⟩
      clear hce hcf hrow he hf hR hRq hkp
      go_region_held3 (fun w' => w'.cell? ⟨t, 0, none⟩ = some (.slice (some ⟨g, 0, none⟩) n cap) ∧ w'.cell? ⟨g, p * 7, none⟩ = some (.int .i64 e.d) ∧ w'.cell? ⟨g, p * 7 + 1, none⟩ = some (.string e.nm) ∧ w'.cell? ⟨g, p * 7 + 2, none⟩ = some (.bool e.neg) ∧ w'.cell? ⟨g, p * 7 + 3, none⟩ = some (.int .i64 e.id) ∧ w'.cell? ⟨g, p * 7 + 4, none⟩ = some (.int .i64 e.kind) ∧ w'.cell? ⟨g, p * 7 + 5, none⟩ = some (.int .i64 e.mode) ∧ w'.cell? ⟨g, p * 7 + 6, none⟩ = some (.string e.tg) ∧ w'.cell? ⟨g, k * 7, none⟩ = some (.int .i64 f.d) ∧ w'.cell? ⟨g, k * 7 + 1, none⟩ = some (.string f.nm) ∧ w'.cell? ⟨g, k * 7 + 2, none⟩ = some (.bool f.neg) ∧ w'.cell? ⟨g, k * 7 + 3, none⟩ = some (.int .i64 f.id) ∧ w'.cell? ⟨g, k * 7 + 4, none⟩ = some (.int .i64 f.kind) ∧ w'.cell? ⟨g, k * 7 + 5, none⟩ = some (.int .i64 f.mode) ∧ w'.cell? ⟨g, k * 7 + 6, none⟩ = some (.string f.tg) ∧ Below w.heap.size w w')
        (with_reducible first | exact k0 | exact hK)
        (first | (go_at_call 38; refine (HRi.out _).mono ?_; rintro x w12 ⟨rfl, hb12⟩; have hK := two_keep k0 hb12))
      have HK : Hid (Below w.heap.size w w12) := hK.2.2.2.2.2.2.2.2.2.2.2.2.2.2.2
      clear k0 hK hb12 x0 x1 x2 x3 x4 x5 x6 y0 y1 y2 y3 y4 y5 y6
      by_cases hR0 : R < 0
      · have hR1 : ¬ (0 : Int) ≤ R := by omega
        have HT : Hid (RisesTo s.es (k + 1)) := by
          intro i hi e' f' he' hf'
          by_cases hik : i + 1 < k
          · exact HE.out.2.2.1 i hik e' f' he' hf'
          · have : i = p := by have := HE.out.2.2.2; omega
            subst this
            have hkp := HE.out.2.2.2
            rw [← hkp] at hf'
            cases HE.out.1.symm.trans he'
            cases HE.out.2.1.symm.trans hf'
            exact HL.out.1 hR0
        clear hR0
        go_wp2
        exact ⟨⟨k + 1, by omega, .inl (by omega), by simp, HT.out, HK.out⟩, by simp [intOf]; omega⟩
      · have hR1 : (0 : Int) ≤ R := by omega
        have HN : Hid (¬ Rises s.es) := fun h => hR0 (HL.out.2 (h.to (k + 1) p (by have := HE.out.2.2.2; omega) e f HE.out.1 (by rw [← HE.out.2.2.2]; exact HE.out.2.1)))
        clear hR0
        go_wp2
        go_ret
        exact ⟨false, rfl, ⟨fun h => (by cases h), fun h => absurd h HN.out⟩, HK.out⟩
    · have hke : k = n ∨ n ≤ 1 := by omega
      have hki : ¬ (k : Int) < (n : Int) := by omega
      have HP : Hid (Rises s.es) := rises_of (by
        rw [HV.out.2.1]
        rcases hke with rfl | h
        · exact hR
        · intro i hi; omega)
      clear hR
      go_wp2
      go_ret
      exact ⟨true, rfl, ⟨fun _ => HP.out, fun _ => rfl⟩, HB.out⟩
end
section
open Go.RowKit Go.Sort
attribute [local go_sem high] eqK' neqK' eqE neqE eqN neqN guardK guardE guardN

set_option maxRecDepth 20000 in
set_option maxHeartbeats 8000000 in
theorem unlike_p (t : Nat) (s : Tr) (w : World) (h : IsP w t s) (hk : Keyed s.es) : Calls Try.prog 22 #[.pointer (some ⟨t, 0, none⟩)] w fun x w' => TellsB ((∀ e ∈ s.es, 2 ≤ e.id ∧ e.id < s.next) ∧ Ided s.es) w w' x := by
  have H : Hid (IsP w t s ∧ Keyed s.es) := ⟨h, hk⟩
  obtain ⟨c0, _, c2, _⟩ := h.cells
  obtain ⟨a, cap, e⟩ := owns_len h.row
  rw [e] at c0
  obtain ⟨n, hn⟩ : ∃ n, s.es.length = n := ⟨_, rfl⟩
  rw [hn] at c0 e
  have hlim := h.lim
  rw [hn] at hlim
  have hlt := h.tt.lt
  have HV : Hid (s.v = .slice a n cap ∧ s.es.length = n ∧ w.cell? ⟨t, 2, none⟩ = some (.int .i64 s.next)) := ⟨e, hn, c2⟩
  clear h e hn hk
  go_enter Try.func22, Try.ntmps22
  go_wp2
  go_loopw [13] (fun i wr => ∃ k : Nat, k ≤ n ∧ i = .int .i64 k ∧ (∀ j e, j < k → s.es[j]? = some e → (2 ≤ e.id ∧ e.id < s.next) ∧ nodeE s.es e.id = some e) ∧ Below w.heap.size w wr) (fun i _ => n - (intOf i).toNat)
  case atStart => exact ⟨0, Nat.zero_le _, rfl, fun j _ hj => by omega, Below.refl _ _⟩
  case round =>
    obtain ⟨k, hk, rfl, hR, hb⟩ := hrel
    have HB : Hid (Below w.heap.size w wr) := hb
    clear hb
    by_cases hkn : k < n
    · obtain ⟨e, he⟩ : ∃ x, s.es[k]? = some x := ⟨_, List.getElem?_eq_getElem (by rw [HV.out.2.1]; omega)⟩
      have hrow := (H.out.1.below HB.out).row
      rw [HV.out.1] at hrow
      obtain ⟨g, hg, -, -, -, hce, -⟩ := owns_entry hrow he
      subst hg
      have hki : (k : Int) < (n : Int) := by omega
      have x0 := hce.c0
      have x1 := hce.c1
      have x2 := hce.c2
      have x3 := hce.c3
      have x4 := hce.c4
      have x5 := hce.c5
      have x6 := hce.c6
      have hem := List.mem_of_getElem? he
      have HE : Hid (e ∈ s.es ∧ s.es[k]? = some e ∧ (∀ j e, j < k → s.es[j]? = some e → (2 ≤ e.id ∧ e.id < s.next) ∧ nodeE s.es e.id = some e)) := ⟨hem, he, hR⟩
      clear hce hrow he hR hem
      go_upto_region 4 with fail
      obtain ⟨w1, hw1⟩ : ∃ x, wr.alloc (.cells #[.int .i64 e.d, .string e.nm, .bool e.neg, .int .i64 e.id, .int .i64 e.kind, .int .i64 e.mode, .string e.tg] 56) = x := ⟨_, rfl⟩
      have hb1 : Below w.heap.size w w1 := by rw [← hw1]; exact chainB HB.out (below_alloc _ _)
      have hx1 : w1.heap[wr.heap.size]? = some (.cells #[.int .i64 e.d, .string e.nm, .bool e.neg, .int .i64 e.id, .int .i64 e.kind, .int .i64 e.mode, .string e.tg] 56 (0, 0)) := by rw [← hw1]; exact heap_new _ _
      rw [hw1]
      have d3 := cell_of hx1 3
      simp at d3
      have n1 := (hb1.cell (p := ⟨t, 2, none⟩) hlt).trans HV.out.2.2
      have H1 : Hid (Below w.heap.size w w1 ∧ w1.heap[wr.heap.size]? = some (.cells #[.int .i64 e.d, .string e.nm, .bool e.neg, .int .i64 e.id, .int .i64 e.kind, .int .i64 e.mode, .string e.tg] 56 (0, 0))) := ⟨hb1, hx1⟩
      clear hw1 hb1 hx1 x0 x1 x2 x3 x4 x5 x6
      by_cases hi1 : e.id ≤ 1
      · go_wp2
        go_ret
        exact ⟨false, rfl, ⟨fun h => (by cases h), fun h => absurd (h.1 e HE.out.1).1 (by omega)⟩, H1.out.1⟩
      · by_cases hi2 : s.next ≤ e.id
        · go_wp2
          go_ret
          exact ⟨false, rfl, ⟨fun h => (by cases h), fun h => absurd (h.1 e HE.out.1).2 (by omega)⟩, H1.out.1⟩
        · obtain ⟨x, hx⟩ : ∃ x, nodeE s.es e.id = some x := by
            cases hq : nodeE s.es e.id with
            | some x => exact ⟨x, rfl⟩
            | none => exact absurd rfl ((nodeE_none_iff s.es (by omega)).1 hq e HE.out.1)
          have hxm := nodeE_mem (by omega) hx
          have HF : Hid (∀ W, IsP W t s → Calls Try.prog 39 #[.pointer (some ⟨t, 0, none⟩), .int .i64 e.id] W fun y w' => y = .returned (.tuple #[.agg #[.int .i64 x.d, .string x.nm, .bool x.neg, .int .i64 x.id, .int .i64 x.kind, .int .i64 x.mode, .string x.tg], .int .i64 0]) ∧ Below W.heap.size W w') := fun W h => by have := find_p t s e.id W h; unfold findV at this; rw [if_neg (by omega), hx] at this; exact this
          have HX : Hid (nodeE s.es e.id = some x ∧ x ∈ s.es ∧ x.id = e.id ∧ 2 ≤ e.id ∧ e.id < s.next) := ⟨hx, hxm.1, hxm.2, by omega, by omega⟩
          clear hx hxm
          go_upto_region 8 with (go_at_call 39; refine (HF.out _ (H.out.1.below H1.out.1)).mono ?_; rintro y w2 ⟨rfl, hb2⟩)
          obtain ⟨w3, hw3⟩ : ∃ y, w2.alloc (.cells #[.int .i64 x.d, .string x.nm, .bool x.neg, .int .i64 x.id, .int .i64 x.kind, .int .i64 x.mode, .string x.tg] 56) = y := ⟨_, rfl⟩
          have hb3 : Below w1.heap.size w1 w3 := by rw [← hw3]; exact chainB hb2 (below_alloc _ _)
          have hx3 : w3.heap[w2.heap.size]? = some (.cells #[.int .i64 x.d, .string x.nm, .bool x.neg, .int .i64 x.id, .int .i64 x.kind, .int .i64 x.mode, .string x.tg] 56 (0, 0)) := by rw [← hw3]; exact heap_new _ _
          have hy3 := hkeep H1.out.2 hb3
          rw [hw3]
          have f0 := cell_of hx3 0
          have f1 := cell_of hx3 1
          have g0 := cell_of hy3 0
          have g1 := cell_of hy3 1
          simp at f0 f1 g0 g1
          have H3 : Hid (Below w.heap.size w w3) := chainB H1.out.1 hb3
          clear hw3 hb3 hx3 hy3 hb2 d3 n1
          obtain ⟨q, hq⟩ : ∃ q, eqKy x.d x.nm e.d e.nm = q := ⟨_, rfl⟩
          cases q with
          | true =>
            have HT : Hid (∀ j e, j < k + 1 → s.es[j]? = some e → (2 ≤ e.id ∧ e.id < s.next) ∧ nodeE s.es e.id = some e) := by
              intro j f hj hf
              by_cases hjk : j < k
              · exact HE.out.2.2 j f hjk hf
              · have : j = k := by omega
                subst this
                cases HE.out.2.1.symm.trans hf
                have hxe : x = e := by
                  have hq' : x.d = e.d ∧ x.nm = e.nm := by unfold eqKy at hq; exact of_decide_eq_true hq
                  exact H.out.2 x HX.out.2.1 e HE.out.1 hq'.1 hq'.2
                exact ⟨HX.out.2.2.2, by rw [← hxe]; rw [hxe]; exact HX.out.1.trans (by rw [hxe])⟩
            go_wp2
            exact ⟨⟨k + 1, by omega, by simp, HT.out, H3.out⟩, by simp [intOf]; omega⟩
          | false =>
            have HN : Hid (¬ Ided s.es) := fun h => by
              have hxe := h x HX.out.2.1 e HE.out.1 HX.out.2.2.1
              rw [hxe] at hq
              simp [eqKy] at hq
            go_wp2
            go_ret
            exact ⟨false, rfl, ⟨fun h => (by cases h), fun h => absurd h.2 HN.out⟩, H3.out⟩
    · have hki : ¬ (k : Int) < (n : Int) := by omega
      have HP : Hid ((∀ e ∈ s.es, 2 ≤ e.id ∧ e.id < s.next) ∧ Ided s.es) := by
        have key : ∀ e ∈ s.es, (2 ≤ e.id ∧ e.id < s.next) ∧ nodeE s.es e.id = some e := fun e he => by
          obtain ⟨j, hj⟩ := List.mem_iff_getElem?.1 he
          exact hR j e (by have := (List.getElem?_eq_some_iff.1 hj).1; rw [HV.out.2.1] at this; omega) hj
        exact ⟨fun e he => (key e he).1, fun e he f hf hid => by
          have h1 := (key e he).2
          rw [hid, (key f hf).2] at h1
          exact (Option.some.inj h1).symm⟩
      clear hR
      go_wp2
      go_ret
      exact ⟨true, rfl, ⟨fun _ => HP.out, fun _ => rfl⟩, HB.out⟩
end
section
open Go.RowKit Go.Sort
attribute [local go_sem high] eqK' neqK' eqE neqE eqN neqN guardK guardE guardN

def Sound (es : List En) (e : En) : Prop := e.neg = false ∧ Mn.chk e.nm = 0 ∧ rightE Mn e.kind e.mode e.tg = 0 ∧ dirE es e.d = 0 ∧ insideF es (es.length + 1) e.d 1 = true
set_option maxRecDepth 20000 in
set_option maxHeartbeats 8000000 in
theorem whole_p (t : Nat) (s : Tr) (w : World) (h : IsP w t s) : Calls Try.prog 23 #[.pointer (some ⟨t, 0, none⟩)] w fun x w' => TellsB (∀ e ∈ s.es, Sound s.es e) w w' x := by
  have H : Hid (IsP w t s) := h
  obtain ⟨c0, _, _, _⟩ := h.cells
  obtain ⟨a, cap, e⟩ := owns_len h.row
  rw [e] at c0
  obtain ⟨n, hn⟩ : ∃ n, s.es.length = n := ⟨_, rfl⟩
  rw [hn] at c0 e
  have hlim := h.lim
  rw [hn] at hlim
  have HV : Hid (s.v = .slice a n cap ∧ s.es.length = n) := ⟨e, hn⟩
  clear h e hn
  go_enter Try.func23, Try.ntmps23
  go_wp2
  go_loopw [11] (fun i wr => ∃ k : Nat, k ≤ n ∧ i = .int .i64 k ∧ (∀ j e, j < k → s.es[j]? = some e → Sound s.es e) ∧ Below w.heap.size w wr) (fun i _ => n - (intOf i).toNat)
  case atStart => exact ⟨0, Nat.zero_le _, rfl, fun j _ hj => by omega, Below.refl _ _⟩
  case round =>
    obtain ⟨k, hk, rfl, hR, hb⟩ := hrel
    have HB : Hid (Below w.heap.size w wr) := hb
    clear hb
    by_cases hkn : k < n
    · obtain ⟨e, he⟩ : ∃ x, s.es[k]? = some x := ⟨_, List.getElem?_eq_getElem (by rw [HV.out.2]; omega)⟩
      have hrow := (H.out.below HB.out).row
      rw [HV.out.1] at hrow
      obtain ⟨g, hg, -, -, -, hce, -⟩ := owns_entry hrow he
      subst hg
      have hki : (k : Int) < (n : Int) := by omega
      have hem := List.mem_of_getElem? he
      obtain ⟨C, hC⟩ : ∃ x, Mn.chk e.nm = x := ⟨_, rfl⟩
      obtain ⟨R, hRi⟩ : ∃ x, rightE Mn e.kind e.mode e.tg = x := ⟨_, rfl⟩
      obtain ⟨D, hD⟩ : ∃ x, dirE s.es e.d = x := ⟨_, rfl⟩
      obtain ⟨I, hI⟩ : ∃ x, insideF s.es (s.es.length + 1) e.d 1 = x := ⟨_, rfl⟩
      have HC : Hid (∀ w, Calls Try.prog 40 #[.string e.nm] w fun x w' => x = .returned (.int .i64 C) ∧ Below w.heap.size w w') := fun w => by rw [← hC]; exact check_any e.nm w
      have HRi : Hid (∀ w, Calls Try.prog 41 #[.agg #[.int .i64 e.id, .int .i64 e.kind, .int .i64 e.mode, .string e.tg]] w fun x w' => x = .returned (.int .i64 R) ∧ Below w.heap.size w w') := fun w => by rw [← hRi]; exact right_p Mn nmsP e.id e.kind e.mode e.tg w
      have HD : Hid (∀ w, IsP w t s → Calls Try.prog 42 #[.pointer (some ⟨t, 0, none⟩), .int .i64 e.d] w fun x w' => x = .returned (.int .i64 D) ∧ Below w.heap.size w w') := fun w h => by rw [← hD]; exact directory_p t s e.d w h
      have HI : Hid (∀ w, IsP w t s → Calls Try.prog 43 #[.pointer (some ⟨t, 0, none⟩), .int .i64 e.d, .int .i64 1] w fun x w' => x = .returned (.bool I) ∧ Below w.heap.size w w') := fun w h => by rw [← hI]; exact inside_p t s e.d 1 w h
      have HS : Hid (Sound s.es e ↔ e.neg = false ∧ C = 0 ∧ R = 0 ∧ D = 0 ∧ I = true) := by show _ ↔ _; unfold Sound; rw [hC, hRi, hD, hI]
      have HE : Hid (e ∈ s.es ∧ s.es[k]? = some e ∧ (∀ j e, j < k → s.es[j]? = some e → Sound s.es e)) := ⟨hem, he, hR⟩
      have HW : Hid (∀ o, Below w.heap.size w (wr.alloc o)) := fun o => chainB HB.out (below_alloc _ _)
      have x0 := hce.c0
      have x1 := hce.c1
      have x2 := hce.c2
      have x3 := hce.c3
      have x4 := hce.c4
      have x5 := hce.c5
      have x6 := hce.c6
      clear hce hrow he hR hem hC hRi hD hI
      go_upto_region 4 with fail
      obtain ⟨w1, hw1⟩ : ∃ x, wr.alloc (.cells #[.int .i64 e.d, .string e.nm, .bool e.neg, .int .i64 e.id, .int .i64 e.kind, .int .i64 e.mode, .string e.tg] 56) = x := ⟨_, rfl⟩
      have hb1 : Below w.heap.size w w1 := by rw [← hw1]; exact HW.out _
      have hx1 : w1.heap[wr.heap.size]? = some (.cells #[.int .i64 e.d, .string e.nm, .bool e.neg, .int .i64 e.id, .int .i64 e.kind, .int .i64 e.mode, .string e.tg] 56 (0, 0)) := by rw [← hw1]; exact heap_new _ _
      rw [hw1]
      have d0 := cell_of hx1 0
      have d1 := cell_of hx1 1
      have d2 := cell_of hx1 2
      simp at d0 d1 d2
      have H1 : Hid (Below w.heap.size w w1 ∧ w1.heap[wr.heap.size]? = some (.cells #[.int .i64 e.d, .string e.nm, .bool e.neg, .int .i64 e.id, .int .i64 e.kind, .int .i64 e.mode, .string e.tg] 56 (0, 0))) := ⟨hb1, hx1⟩
      clear hw1 hb1 hx1 x0 x1 x2 x3 x4 x5 x6 HW
      obtain ⟨N, hN⟩ : ∃ N, e.neg = N := ⟨_, rfl⟩
      have HNg : Hid (e.neg = N) := hN
      rw [hN] at d2
      clear hN
      cases N with
      | true =>
        go_wp2
        go_ret
        exact ⟨false, rfl, ⟨fun h => (by cases h), fun h => (by have := (HS.out.1 (h e HE.out.1)).1; rw [HNg.out] at this; cases this)⟩, H1.out.1⟩
      | false =>
        by_cases hC0 : C = 0
        · subst hC0
          by_cases hR0 : R = 0
          · subst hR0
            by_cases hD0 : D = 0
            · subst hD0
              cases I with
              | true =>
                have HT : Hid (∀ j e, j < k + 1 → s.es[j]? = some e → Sound s.es e) := by
                  intro j f hj hf
                  by_cases hjk : j < k
                  · exact HE.out.2.2 j f hjk hf
                  · have : j = k := by omega
                    subst this
                    cases HE.out.2.1.symm.trans hf
                    exact HS.out.2 ⟨HNg.out, rfl, rfl, rfl, rfl⟩
                go_wp2_with (first
                  | (go_at_call 40; refine (HC.out _).mono ?_; rintro x w2 ⟨rfl, hb2⟩; have hx2 := hkeep H1.out.2 hb2; have f3 := cell_of hx2 3; have f4 := cell_of hx2 4; have f5 := cell_of hx2 5; have f6 := cell_of hx2 6; simp at f3 f4 f5 f6)
                  | (go_at_call 41; refine (HRi.out _).mono ?_; rintro x w3 ⟨rfl, hb3⟩)
                  | (go_at_call 42; refine (HD.out _ (H.out.below (chainB (chainB H1.out.1 hb2) hb3))).mono ?_; rintro x w4 ⟨rfl, hb4⟩)
                  | (go_at_call 43; refine (HI.out _ (H.out.below (chainB (chainB (chainB H1.out.1 hb2) hb3) hb4))).mono ?_; rintro x w5 ⟨rfl, hb5⟩))
                exact ⟨⟨k + 1, by omega, by simp, HT.out, chainB (chainB (chainB (chainB H1.out.1 hb2) hb3) hb4) hb5⟩, by simp [intOf]; omega⟩
              | false =>
                go_wp2_with (first
                  | (go_at_call 40; refine (HC.out _).mono ?_; rintro x w2 ⟨rfl, hb2⟩; have hx2 := hkeep H1.out.2 hb2; have f3 := cell_of hx2 3; have f4 := cell_of hx2 4; have f5 := cell_of hx2 5; have f6 := cell_of hx2 6; simp at f3 f4 f5 f6)
                  | (go_at_call 41; refine (HRi.out _).mono ?_; rintro x w3 ⟨rfl, hb3⟩)
                  | (go_at_call 42; refine (HD.out _ (H.out.below (chainB (chainB H1.out.1 hb2) hb3))).mono ?_; rintro x w4 ⟨rfl, hb4⟩)
                  | (go_at_call 43; refine (HI.out _ (H.out.below (chainB (chainB (chainB H1.out.1 hb2) hb3) hb4))).mono ?_; rintro x w5 ⟨rfl, hb5⟩))
                go_ret
                exact ⟨false, rfl, ⟨fun h => (by cases h), fun h => (by have := (HS.out.1 (h e HE.out.1)).2.2.2.2; cases this)⟩, chainB (chainB (chainB (chainB H1.out.1 hb2) hb3) hb4) hb5⟩
            · have hDb : (D != 0) = true := by simpa using hD0
              have HZ : Hid (¬ ∀ e ∈ s.es, Sound s.es e) := fun h => hD0 (HS.out.1 (h e HE.out.1)).2.2.2.1
              clear hD0
              go_wp2_with (first
                | (go_at_call 40; refine (HC.out _).mono ?_; rintro x w2 ⟨rfl, hb2⟩; have hx2 := hkeep H1.out.2 hb2; have f3 := cell_of hx2 3; have f4 := cell_of hx2 4; have f5 := cell_of hx2 5; have f6 := cell_of hx2 6; simp at f3 f4 f5 f6)
                | (go_at_call 41; refine (HRi.out _).mono ?_; rintro x w3 ⟨rfl, hb3⟩)
                | (go_at_call 42; refine (HD.out _ (H.out.below (chainB (chainB H1.out.1 hb2) hb3))).mono ?_; rintro x w4 ⟨rfl, hb4⟩))
              go_ret
              exact ⟨false, rfl, ⟨fun h => (by cases h), fun h => absurd h HZ.out⟩, chainB (chainB (chainB H1.out.1 hb2) hb3) hb4⟩
          · have hRb : (R != 0) = true := by simpa using hR0
            have HZ : Hid (¬ ∀ e ∈ s.es, Sound s.es e) := fun h => hR0 (HS.out.1 (h e HE.out.1)).2.2.1
            clear hR0
            go_wp2_with (first
              | (go_at_call 40; refine (HC.out _).mono ?_; rintro x w2 ⟨rfl, hb2⟩; have hx2 := hkeep H1.out.2 hb2; have f3 := cell_of hx2 3; have f4 := cell_of hx2 4; have f5 := cell_of hx2 5; have f6 := cell_of hx2 6; simp at f3 f4 f5 f6)
              | (go_at_call 41; refine (HRi.out _).mono ?_; rintro x w3 ⟨rfl, hb3⟩))
            go_ret
            exact ⟨false, rfl, ⟨fun h => (by cases h), fun h => absurd h HZ.out⟩, chainB (chainB H1.out.1 hb2) hb3⟩
        · have hCb : (C != 0) = true := by simpa using hC0
          have HZ : Hid (¬ ∀ e ∈ s.es, Sound s.es e) := fun h => hC0 (HS.out.1 (h e HE.out.1)).2.1
          clear hC0
          go_wp2_with (go_at_call 40; refine (HC.out _).mono ?_; rintro x w2 ⟨rfl, hb2⟩)
          go_ret
          exact ⟨false, rfl, ⟨fun h => (by cases h), fun h => absurd h HZ.out⟩, chainB H1.out.1 hb2⟩
    · have hki : ¬ (k : Int) < (n : Int) := by omega
      have HP : Hid (∀ e ∈ s.es, Sound s.es e) := by
        intro e he
        obtain ⟨j, hj⟩ := List.mem_iff_getElem?.1 he
        exact hR j e (by have := (List.getElem?_eq_some_iff.1 hj).1; rw [HV.out.2] at this; omega) hj
      clear hR
      go_wp2
      go_ret
      exact ⟨true, rfl, ⟨fun _ => HP.out, fun _ => rfl⟩, HB.out⟩
end
section
open Go.RowKit Go.Sort
attribute [local go_sem high] eqK' neqK' eqE neqE eqN neqN guardK guardE guardN

theorem right_ok (M : Nms) (kind mode : Int) (tg : ByteArray) : rightE M kind mode tg = 0 ↔ (0 ≤ mode ∧ mode ≤ 511) ∧ (kind = 3 ∧ M.tgt tg = 0 ∨ (kind = 1 ∨ kind = 2) ∧ tg = ⟨#[]⟩) := by
  have ht : tg.toList = [] ↔ tg = ⟨#[]⟩ := by rw [← bytes_eq, show (⟨#[]⟩ : ByteArray).toList = [] by unfold ByteArray.toList; unfold ByteArray.toList.loop; rfl]
  unfold rightE
  simp only [ht]
  cases hb : badM mode with
  | true =>
    have hm : ¬ (0 ≤ mode ∧ mode ≤ 511) := by
      unfold badM at hb
      intro h
      simp at hb
      omega
    simp [hm]
  | false =>
    have hm := bad_ok hb
    simp only [Bool.false_eq_true, if_false]
    by_cases h3 : kind = 3
    · subst h3; simp [hm]
    · by_cases h12 : (kind = 1 ∨ kind = 2) ∧ tg = ⟨#[]⟩
      · rw [if_neg h3, if_pos h12]; exact ⟨fun _ => ⟨hm, .inr h12⟩, fun _ => rfl⟩
      · rw [if_neg h3, if_neg h12]; exact ⟨fun h => absurd h (by decide), fun h => (h.2.elim (fun h => absurd h.1 h3) (fun h => absurd h h12))⟩
theorem wf_of {es : List En} {next : Int} (hr : Rises es) (hl : es.length < 48) (hn : 1 < next) (hi : (∀ e ∈ es, 2 ≤ e.id ∧ e.id < next) ∧ Ided es) (hs : ∀ e ∈ es, Sound es e) : WF Mn es next :=
  ⟨hr, by omega, hi.1, hi.2, fun e he => (hs e he).1, fun e he => (hs e he).2.1, fun e he => (right_ok Mn _ _ _).1 (hs e he).2.2.1, fun e he => by
    have h0 : ∀ f ∈ es, f.id ≠ 0 := fun f hf => by have := hi.1 f hf; omega
    have := (hs e he).2.2.2.2
    rw [insideF_within h0 (by decide)] at this
    exact hangs_within (fun f hf => (hs f hf).2.2.2.1) (hs e he).2.2.2.1 this, by omega⟩
theorem WF.sound {es : List En} {next : Int} (w : WF Mn es next) : ∀ e ∈ es, Sound es e := fun e he =>
  ⟨w.neg e he, w.chk e he, (right_ok Mn _ _ _).2 (w.ok e he), (w.hang e he).dir w, by
    rw [insideF_within (fun f hf => by have := w.ids f hf; omega) (by decide)]
    exact w.within (w.hang e he)⟩
/-- what Load answers -/
def LoadR (es : List En) (vers next : Int) (w w' : World) (x : Ending) : Prop :=
  (∃ t s, x = .returned (.tuple #[.pointer (some ⟨t, 0, none⟩), .int .i64 0]) ∧ WF Mn es next ∧ 0 ≤ vers ∧ Own5 w.heap.size w' t s ∧ s.es = es ∧ s.vers = vers ∧ s.next = next ∧ Below w.heap.size w w') ∨
  (x = .returned (.tuple #[.pointer none, .int .i64 1]) ∧ ¬ (WF Mn es next ∧ 0 ≤ vers) ∧ Below w.heap.size w w')
set_option maxRecDepth 20000 in
set_option maxHeartbeats 8000000 in
theorem load_q (v : Value) (es : List En) (base : Nat) (vers next : Int) (w : World) (h : Row7 w base v es) : Calls Try.prog 5 #[v, .int .i64 vers, .int .i64 next] w fun x w' => LoadR es vers next w w' x := by
  obtain ⟨a, cap, e⟩ := owns_len h
  obtain ⟨n, hn⟩ : ∃ n, es.length = n := ⟨_, rfl⟩
  rw [hn] at e
  subst e
  have H : Hid (Row7 w base (.slice a n cap) es ∧ es.length = n) := ⟨h, hn⟩
  clear h hn
  by_cases h1 : n < 48 ∧ 0 ≤ vers ∧ 1 < next
  · have ha : ¬ (48 : Int) ≤ (n : Int) := by omega
    have hb : ¬ vers < 0 := by omega
    have hc : ¬ next ≤ 1 := by omega
    have H1 : Hid (n < 48 ∧ 0 ≤ vers ∧ 1 < next) := h1
    clear h1
    go_enter Try.func5, Try.ntmps5
    go_upto_region 4 with (go_at_call 20; refine (clone_p _ es base _ H.out.1 (by rw [H.out.2]; omega)).mono ?_; rintro x w2 ⟨v2, rfl, hr2, hb2⟩; obtain ⟨a2, c2, hv2⟩ := owns_len hr2; rw [H.out.2] at hv2; subst hv2)
    obtain ⟨w3, hw3⟩ : ∃ x, w2.alloc (.cells #[.slice a2 n c2, .int .i64 vers, .int .i64 next] 58) = x := ⟨_, rfl⟩
    have hb3 : Below w2.heap.size w2 w3 := by rw [← hw3]; exact below_alloc _ _
    have hh3 : w3.heap[w2.heap.size]? = some (.cells #[.slice a2 n c2, .int .i64 vers, .int .i64 next] 58 (0, 0)) := by rw [← hw3]; exact heap_new _ _
    rw [hw3]
    have hI : IsP w3 w2.heap.size ⟨.slice a2 n c2, es, vers, next⟩ := ⟨hh3, owns_le (hr2.below hb3) (Nat.zero_le _), by show es.length ≤ 100; rw [H.out.2]; omega⟩
    have HO : Hid (Own5 w.heap.size w3 w2.heap.size ⟨.slice a2 n c2, es, vers, next⟩ ∧ Below w.heap.size w w3) := ⟨⟨hI, hb2.size, fun q hq => (World.ownsRow.lt hr2 q hq).1⟩, chainB hb2 hb3⟩
    clear hw3 hb3 hh3 hI hr2 hb2
    by_cases hR : Rises es
    · have HRs : Hid (Calls Try.prog 21 #[.pointer (some ⟨w2.heap.size, 0, none⟩)] w3 fun x w' => x = .returned (.bool true) ∧ Below w3.heap.size w3 w') := (risen_p _ _ w3 HO.out.1.is).mono fun x w' ⟨b, hx, hq, hb⟩ => ⟨by rw [hx, hq.2 hR], hb⟩
      have HK : Hid (Rises es) := hR
      by_cases hU : (∀ e ∈ es, 2 ≤ e.id ∧ e.id < next) ∧ Ided es
      · have HU : Hid (∀ W, IsP W w2.heap.size ⟨.slice a2 n c2, es, vers, next⟩ → Calls Try.prog 22 #[.pointer (some ⟨w2.heap.size, 0, none⟩)] W fun x w' => x = .returned (.bool true) ∧ Below W.heap.size W w') := fun W h => (unlike_p _ _ W h HK.out.keyed).mono fun x w' ⟨b, hx, hq, hb⟩ => ⟨by rw [hx, hq.2 hU], hb⟩
        have HUi : Hid ((∀ e ∈ es, 2 ≤ e.id ∧ e.id < next) ∧ Ided es) := hU
        by_cases hS : ∀ e ∈ es, Sound es e
        · have HS : Hid (∀ W, IsP W w2.heap.size ⟨.slice a2 n c2, es, vers, next⟩ → Calls Try.prog 23 #[.pointer (some ⟨w2.heap.size, 0, none⟩)] W fun x w' => x = .returned (.bool true) ∧ Below W.heap.size W w') := fun W h => (whole_p _ _ W h).mono fun x w' ⟨b, hx, hq, hb⟩ => ⟨by rw [hx, hq.2 hS], hb⟩
          have HSi : Hid (∀ e ∈ es, Sound es e) := hS
          clear hR hU hS
          go_wp2_with (first
            | (go_at_call 21; refine HRs.out.mono ?_; rintro x w4 ⟨rfl, hb4⟩)
            | (go_at_call 22; refine (HU.out _ (HO.out.1.is.below hb4)).mono ?_; rintro x w5 ⟨rfl, hb5⟩)
            | (go_at_call 23; refine (HS.out _ (HO.out.1.is.below (chainB hb4 hb5))).mono ?_; rintro x w6 ⟨rfl, hb6⟩))
          go_ret2
          exact .inl ⟨_, _, rfl, wf_of HK.out (by rw [H.out.2]; exact H1.out.1) H1.out.2.2 HUi.out HSi.out, H1.out.2.1, HO.out.1.below (chainB (chainB hb4 hb5) hb6), rfl, rfl, rfl, chainB HO.out.2 (chainB (chainB hb4 hb5) hb6)⟩
        · have HS : Hid (∀ W, IsP W w2.heap.size ⟨.slice a2 n c2, es, vers, next⟩ → Calls Try.prog 23 #[.pointer (some ⟨w2.heap.size, 0, none⟩)] W fun x w' => x = .returned (.bool false) ∧ Below W.heap.size W w') := fun W h => (whole_p _ _ W h).mono fun x w' ⟨b, hx, hq, hb⟩ => ⟨by rw [hx]; cases b with | false => rfl | true => exact absurd (hq.1 rfl) hS, hb⟩
          have HSi : Hid (¬ ∀ e ∈ es, Sound es e) := hS
          clear hR hU hS
          go_wp2_with (first
            | (go_at_call 21; refine HRs.out.mono ?_; rintro x w4 ⟨rfl, hb4⟩)
            | (go_at_call 22; refine (HU.out _ (HO.out.1.is.below hb4)).mono ?_; rintro x w5 ⟨rfl, hb5⟩)
            | (go_at_call 23; refine (HS.out _ (HO.out.1.is.below (chainB hb4 hb5))).mono ?_; rintro x w6 ⟨rfl, hb6⟩))
          go_ret2
          exact .inr ⟨rfl, fun h => HSi.out h.1.sound, chainB HO.out.2 (chainB (chainB hb4 hb5) hb6)⟩
      · have HU : Hid (∀ W, IsP W w2.heap.size ⟨.slice a2 n c2, es, vers, next⟩ → Calls Try.prog 22 #[.pointer (some ⟨w2.heap.size, 0, none⟩)] W fun x w' => x = .returned (.bool false) ∧ Below W.heap.size W w') := fun W h => (unlike_p _ _ W h HK.out.keyed).mono fun x w' ⟨b, hx, hq, hb⟩ => ⟨by rw [hx]; cases b with | false => rfl | true => exact absurd (hq.1 rfl) hU, hb⟩
        have HUi : Hid (¬ ((∀ e ∈ es, 2 ≤ e.id ∧ e.id < next) ∧ Ided es)) := hU
        clear hR hU
        go_wp2_with (first
          | (go_at_call 21; refine HRs.out.mono ?_; rintro x w4 ⟨rfl, hb4⟩)
          | (go_at_call 22; refine (HU.out _ (HO.out.1.is.below hb4)).mono ?_; rintro x w5 ⟨rfl, hb5⟩))
        go_ret2
        exact .inr ⟨rfl, fun h => HUi.out ⟨h.1.ids, h.1.ided⟩, chainB HO.out.2 (chainB hb4 hb5)⟩
    · have HRs : Hid (Calls Try.prog 21 #[.pointer (some ⟨w2.heap.size, 0, none⟩)] w3 fun x w' => x = .returned (.bool false) ∧ Below w3.heap.size w3 w') := (risen_p _ _ w3 HO.out.1.is).mono fun x w' ⟨b, hx, hq, hb⟩ => ⟨by rw [hx]; cases b with | false => rfl | true => exact absurd (hq.1 rfl) hR, hb⟩
      have HK : Hid (¬ Rises es) := hR
      clear hR
      go_wp2_with (go_at_call 21; refine HRs.out.mono ?_; rintro x w4 ⟨rfl, hb4⟩)
      go_ret2
      exact .inr ⟨rfl, fun h => HK.out h.1.rises, chainB HO.out.2 hb4⟩
  · have HN : Hid (¬ (WF Mn es next ∧ 0 ≤ vers)) := fun h => h1 ⟨by have := h.1.len; rw [H.out.2] at this; omega, h.2, by have := h.1.next2; omega⟩
    by_cases ha : (48 : Int) ≤ (n : Int)
    · clear h1
      go_enter Try.func5, Try.ntmps5
      go_wp2
      go_ret2
      exact .inr ⟨rfl, HN.out, Below.refl _ _⟩
    · by_cases hb : vers < 0
      · clear h1
        go_enter Try.func5, Try.ntmps5
        go_wp2
        go_ret2
        exact .inr ⟨rfl, HN.out, Below.refl _ _⟩
      · have hc : next ≤ 1 := by omega
        clear h1
        go_enter Try.func5, Try.ntmps5
        go_wp2
        go_ret2
        exact .inr ⟨rfl, HN.out, Below.refl _ _⟩
theorem load_p (v : Value) (es : List En) (base : Nat) (vers next : Int) (w : World) (h : Row7 w base v es) (_ : es.length ≤ 1000000) : Calls Try.prog 5 #[v, .int .i64 vers, .int .i64 next] w fun x w' => LoadR es vers next w w' x := load_q v es base vers next w h
end
end Go.Proofs.Ytjelggpkeogebaa
