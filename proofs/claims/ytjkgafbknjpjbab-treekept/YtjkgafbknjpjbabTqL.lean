/- The program's tree: Load. -/
import Derived.Test.YtjkgafbknjpjbabTqD
namespace Go.Proofs.Ytjkgafbknjpjbab
open Go.RowKit Go.Sort
attribute [local go_sem high] eqK' neqK' eqE neqE eqN neqN guardK guardE guardN

/-- a yes or no that tells whether P -/
def TellsB (P : Prop) (w w' : World) (x : Ending) : Prop := ∃ b, x = .returned (.bool b) ∧ (b = true ↔ P) ∧ Below w.heap.size w w'
theorem risV_lt (e f : En) : risV e f < 0 ↔ lessE e f := by
  have := ris_lt e f
  unfold ltOf at this
  unfold lessE
  rw [← this, decide_eq_true_iff]
theorem below_grow (w : World) (os : Array Obj) : Below w.heap.size w (grow w os) :=
  ⟨rfl, rfl, rfl, by unfold grow; simp, fun k hk => by unfold grow; simp only; rw [Array.getElem?_append_left hk]⟩
theorem rising_b (e f : En) (w : World) : Calls Try.prog 44 #[e.agg, f.agg] w fun x w' => x = .returned (.int .i64 (risV e f)) ∧ Below w.heap.size w w' :=
  (rising_p e f w).mono fun _ _ ⟨h1, q, os', h2⟩ => ⟨h1, by rw [h2]; exact below_drewN (Below.refl _ _) q |>.trans (below_grow (w.drewN q) os')⟩
theorem two_keep {W0 W W' : World} {t g i j : Nat} {L : Value} {e f : En} (h : W.cell? ⟨t, 0, none⟩ = some L ∧ W.cell? ⟨g, i, none⟩ = some (.int .i64 e.d) ∧ W.cell? ⟨g, i + 1, none⟩ = some (.string e.nm) ∧ W.cell? ⟨g, i + 2, none⟩ = some (.bool e.neg) ∧ W.cell? ⟨g, i + 3, none⟩ = some (.int .i64 e.id) ∧ W.cell? ⟨g, i + 4, none⟩ = some (.int .i64 e.kind) ∧ W.cell? ⟨g, i + 5, none⟩ = some (.int .i64 e.mode) ∧ W.cell? ⟨g, i + 6, none⟩ = some (.string e.tg) ∧ W.cell? ⟨g, j, none⟩ = some (.int .i64 f.d) ∧ W.cell? ⟨g, j + 1, none⟩ = some (.string f.nm) ∧ W.cell? ⟨g, j + 2, none⟩ = some (.bool f.neg) ∧ W.cell? ⟨g, j + 3, none⟩ = some (.int .i64 f.id) ∧ W.cell? ⟨g, j + 4, none⟩ = some (.int .i64 f.kind) ∧ W.cell? ⟨g, j + 5, none⟩ = some (.int .i64 f.mode) ∧ W.cell? ⟨g, j + 6, none⟩ = some (.string f.tg) ∧ Below W0.heap.size W0 W) (hb : Below W.heap.size W W') :
    W'.cell? ⟨t, 0, none⟩ = some L ∧ W'.cell? ⟨g, i, none⟩ = some (.int .i64 e.d) ∧ W'.cell? ⟨g, i + 1, none⟩ = some (.string e.nm) ∧ W'.cell? ⟨g, i + 2, none⟩ = some (.bool e.neg) ∧ W'.cell? ⟨g, i + 3, none⟩ = some (.int .i64 e.id) ∧ W'.cell? ⟨g, i + 4, none⟩ = some (.int .i64 e.kind) ∧ W'.cell? ⟨g, i + 5, none⟩ = some (.int .i64 e.mode) ∧ W'.cell? ⟨g, i + 6, none⟩ = some (.string e.tg) ∧ W'.cell? ⟨g, j, none⟩ = some (.int .i64 f.d) ∧ W'.cell? ⟨g, j + 1, none⟩ = some (.string f.nm) ∧ W'.cell? ⟨g, j + 2, none⟩ = some (.bool f.neg) ∧ W'.cell? ⟨g, j + 3, none⟩ = some (.int .i64 f.id) ∧ W'.cell? ⟨g, j + 4, none⟩ = some (.int .i64 f.kind) ∧ W'.cell? ⟨g, j + 5, none⟩ = some (.int .i64 f.mode) ∧ W'.cell? ⟨g, j + 6, none⟩ = some (.string f.tg) ∧ Below W0.heap.size W0 W' :=
  ⟨(hb.cell (cellLt h.1)).trans h.1, (hb.cell (cellLt h.2.1)).trans h.2.1, (hb.cell (cellLt h.2.2.1)).trans h.2.2.1, (hb.cell (cellLt h.2.2.2.1)).trans h.2.2.2.1, (hb.cell (cellLt h.2.2.2.2.1)).trans h.2.2.2.2.1, (hb.cell (cellLt h.2.2.2.2.2.1)).trans h.2.2.2.2.2.1, (hb.cell (cellLt h.2.2.2.2.2.2.1)).trans h.2.2.2.2.2.2.1, (hb.cell (cellLt h.2.2.2.2.2.2.2.1)).trans h.2.2.2.2.2.2.2.1, (hb.cell (cellLt h.2.2.2.2.2.2.2.2.1)).trans h.2.2.2.2.2.2.2.2.1, (hb.cell (cellLt h.2.2.2.2.2.2.2.2.2.1)).trans h.2.2.2.2.2.2.2.2.2.1, (hb.cell (cellLt h.2.2.2.2.2.2.2.2.2.2.1)).trans h.2.2.2.2.2.2.2.2.2.2.1, (hb.cell (cellLt h.2.2.2.2.2.2.2.2.2.2.2.1)).trans h.2.2.2.2.2.2.2.2.2.2.2.1, (hb.cell (cellLt h.2.2.2.2.2.2.2.2.2.2.2.2.1)).trans h.2.2.2.2.2.2.2.2.2.2.2.2.1, (hb.cell (cellLt h.2.2.2.2.2.2.2.2.2.2.2.2.2.1)).trans h.2.2.2.2.2.2.2.2.2.2.2.2.2.1, (hb.cell (cellLt h.2.2.2.2.2.2.2.2.2.2.2.2.2.2.1)).trans h.2.2.2.2.2.2.2.2.2.2.2.2.2.2.1, chainB h.2.2.2.2.2.2.2.2.2.2.2.2.2.2.2 hb⟩
def RisesTo (es : List En) (k : Nat) : Prop := ∀ i, i + 1 < k → ∀ e f, es[i]? = some e → es[i + 1]? = some f → lessE e f
theorem rises_of {es : List En} (h : RisesTo es es.length) : Rises es := by
  refine List.pairwise_iff_getElem.2 ?_
  intro i j hi hj hij
  obtain ⟨d, rfl⟩ : ∃ d, j = i + d + 1 := ⟨j - i - 1, by omega⟩
  induction d with
  | zero => exact h i hj _ _ (List.getElem?_eq_getElem hi) (List.getElem?_eq_getElem hj)
  | succ d ih => exact lessE_trans (ih (by omega) (by omega)) (h (i + d + 1) (by omega) _ _ (List.getElem?_eq_getElem (by omega)) (List.getElem?_eq_getElem hj))
theorem Rises.to {es : List En} (h : Rises es) (k : Nat) : RisesTo es k := by
  intro i _ e f he hf
  obtain ⟨h1, h2⟩ := List.getElem?_eq_some_iff.1 he
  obtain ⟨h3, h4⟩ := List.getElem?_eq_some_iff.1 hf
  have := List.pairwise_iff_getElem.1 h i (i + 1) h1 h3 (by omega)
  rw [h2, h4] at this
  exact this
set_option maxRecDepth 20000 in
set_option maxHeartbeats 4000000 in
theorem risen_p (t : Nat) (s : Tr) (w : World) (h : IsP w t s) : Calls Try.prog 30 #[.pointer (some ⟨t, 0, none⟩)] w fun x w' => TellsB (Rises s.es) w w' x := by
  have H : Hid (IsP w t s) := h
  obtain ⟨c0, _, _, _⟩ := h.cells
  obtain ⟨a, cap, e⟩ := owns_len h.row
  rw [e] at c0
  obtain ⟨n, hn⟩ : ∃ n, s.es.length = n := ⟨_, rfl⟩
  rw [hn] at c0 e
  have hlim := h.lim
  rw [hn] at hlim
  have hlt := h.tt.lt
  have HV : Hid (s.v = .slice a n cap ∧ s.es.length = n ∧ w.cell? ⟨t, 0, none⟩ = some (.slice a n cap)) := ⟨e, hn, c0⟩
  clear h e hn
  go_enter Try.func30, Try.ntmps30
  go_wp2
  go_loopw [3] (fun i wr => ∃ k : Nat, 1 ≤ k ∧ (k ≤ n ∨ k = 1) ∧ i = .int .i64 k ∧ RisesTo s.es k ∧ Below w.heap.size w wr) (fun i _ => n - (intOf i).toNat)
  case atStart => exact ⟨1, Nat.le_refl _, .inr rfl, rfl, fun i hi => by omega, Below.refl _ _⟩
  case round =>
    obtain ⟨k, hk1, hk, rfl, hR, hb⟩ := hrel
    have d0 := (hb.cell (p := ⟨t, 0, none⟩) hlt).trans c0
    have HB : Hid (Below w.heap.size w wr) := hb
    clear hb
    by_cases hkn : k < n
    · obtain ⟨p, hkp⟩ : ∃ p, k = p + 1 := ⟨k - 1, by omega⟩
      obtain ⟨e, he⟩ : ∃ x, s.es[p]? = some x := ⟨_, List.getElem?_eq_getElem (by rw [HV.out.2.1]; omega)⟩
      obtain ⟨f, hf⟩ : ∃ x, s.es[k]? = some x := ⟨_, List.getElem?_eq_getElem (by rw [HV.out.2.1]; omega)⟩
      have hrow := (H.out.below HB.out).row
      rw [HV.out.1] at hrow
      obtain ⟨g, hg, -, -, -, hce, -⟩ := owns_entry hrow he
      subst hg
      obtain ⟨g', hg', -, -, -, hcf, -⟩ := owns_entry hrow hf
      cases hg'
      have hki : (k : Int) < (n : Int) := by omega
      have hpi : (p : Int) < (n : Int) := by omega
      have hw1 : IntKind.i64.wrap ((k : Int) - 1) = (p : Int) := (IntWalk.i64_in _ (by omega)).trans (by omega)
      have hp0 : (0 : Int) ≤ (p : Int) := by omega
      have hs0 : (0 : Int) ≤ (k : Int) - 1 := by omega
      have hs1 : ((k : Int) - 1).toNat = p := by omega
      have hs2 : (k : Int) - 1 < (n : Int) := by omega
      have x0 := hce.c0
      have x1 := hce.c1
      have x2 := hce.c2
      have x3 := hce.c3
      have x4 := hce.c4
      have x5 := hce.c5
      have x6 := hce.c6
      have y0 := hcf.c0
      have y1 := hcf.c1
      have y2 := hcf.c2
      have y3 := hcf.c3
      have y4 := hcf.c4
      have y5 := hcf.c5
      have y6 := hcf.c6
      go_upto_region 4 with fail
      have k0 : wr.drew.cell? ⟨t, 0, none⟩ = some (.slice (some ⟨g, 0, none⟩) n cap) ∧ wr.drew.cell? ⟨g, p * 7, none⟩ = some (.int .i64 e.d) ∧ wr.drew.cell? ⟨g, p * 7 + 1, none⟩ = some (.string e.nm) ∧ wr.drew.cell? ⟨g, p * 7 + 2, none⟩ = some (.bool e.neg) ∧ wr.drew.cell? ⟨g, p * 7 + 3, none⟩ = some (.int .i64 e.id) ∧ wr.drew.cell? ⟨g, p * 7 + 4, none⟩ = some (.int .i64 e.kind) ∧ wr.drew.cell? ⟨g, p * 7 + 5, none⟩ = some (.int .i64 e.mode) ∧ wr.drew.cell? ⟨g, p * 7 + 6, none⟩ = some (.string e.tg) ∧ wr.drew.cell? ⟨g, k * 7, none⟩ = some (.int .i64 f.d) ∧ wr.drew.cell? ⟨g, k * 7 + 1, none⟩ = some (.string f.nm) ∧ wr.drew.cell? ⟨g, k * 7 + 2, none⟩ = some (.bool f.neg) ∧ wr.drew.cell? ⟨g, k * 7 + 3, none⟩ = some (.int .i64 f.id) ∧ wr.drew.cell? ⟨g, k * 7 + 4, none⟩ = some (.int .i64 f.kind) ∧ wr.drew.cell? ⟨g, k * 7 + 5, none⟩ = some (.int .i64 f.mode) ∧ wr.drew.cell? ⟨g, k * 7 + 6, none⟩ = some (.string f.tg) ∧ Below w.heap.size w wr.drew := ⟨d0, x0, x1, x2, x3, x4, x5, x6, y0, y1, y2, y3, y4, y5, y6, HB.out.drew⟩
      obtain ⟨R, hRq⟩ : ∃ R, risV e f = R := ⟨_, rfl⟩
      have HRi : Hid (∀ W, Calls Try.prog 44 #[.agg #[.int .i64 e.d, .string e.nm, .bool e.neg, .int .i64 e.id, .int .i64 e.kind, .int .i64 e.mode, .string e.tg], .agg #[.int .i64 f.d, .string f.nm, .bool f.neg, .int .i64 f.id, .int .i64 f.kind, .int .i64 f.mode, .string f.tg]] W fun x w' => x = .returned (.int .i64 R) ∧ Below W.heap.size W w') := fun W => by rw [← hRq]; exact rising_b e f W
      have HL : Hid (R < 0 ↔ lessE e f) := by have := risV_lt e f; rw [hRq] at this; exact this
      have HE : Hid (s.es[p]? = some e ∧ s.es[k]? = some f ∧ RisesTo s.es k ∧ k = p + 1) := ⟨he, hf, hR, hkp⟩
      clear hce hcf hrow he hf hR hRq hkp
      go_region_held3 (fun w' => w'.cell? ⟨t, 0, none⟩ = some (.slice (some ⟨g, 0, none⟩) n cap) ∧ w'.cell? ⟨g, p * 7, none⟩ = some (.int .i64 e.d) ∧ w'.cell? ⟨g, p * 7 + 1, none⟩ = some (.string e.nm) ∧ w'.cell? ⟨g, p * 7 + 2, none⟩ = some (.bool e.neg) ∧ w'.cell? ⟨g, p * 7 + 3, none⟩ = some (.int .i64 e.id) ∧ w'.cell? ⟨g, p * 7 + 4, none⟩ = some (.int .i64 e.kind) ∧ w'.cell? ⟨g, p * 7 + 5, none⟩ = some (.int .i64 e.mode) ∧ w'.cell? ⟨g, p * 7 + 6, none⟩ = some (.string e.tg) ∧ w'.cell? ⟨g, k * 7, none⟩ = some (.int .i64 f.d) ∧ w'.cell? ⟨g, k * 7 + 1, none⟩ = some (.string f.nm) ∧ w'.cell? ⟨g, k * 7 + 2, none⟩ = some (.bool f.neg) ∧ w'.cell? ⟨g, k * 7 + 3, none⟩ = some (.int .i64 f.id) ∧ w'.cell? ⟨g, k * 7 + 4, none⟩ = some (.int .i64 f.kind) ∧ w'.cell? ⟨g, k * 7 + 5, none⟩ = some (.int .i64 f.mode) ∧ w'.cell? ⟨g, k * 7 + 6, none⟩ = some (.string f.tg) ∧ Below w.heap.size w w')
        (with_reducible first | exact k0 | exact hK)
        (first | (go_at_call 44; refine (HRi.out _).mono ?_; rintro x w12 ⟨rfl, hb12⟩; have hK := two_keep k0 hb12))
      have HK : Hid (Below w.heap.size w w12) := hK.2.2.2.2.2.2.2.2.2.2.2.2.2.2.2
      clear k0 hK hb12 x0 x1 x2 x3 x4 x5 x6 y0 y1 y2 y3 y4 y5 y6
      by_cases hR0 : R < 0
      · have hR1 : ¬ (0 : Int) ≤ R := by omega
        have HT : Hid (RisesTo s.es (k + 1)) := by
          intro i hi e' f' he' hf'
          by_cases hik : i + 1 < k
          · exact HE.out.2.2.1 i hik e' f' he' hf'
          · have : i = p := by have := HE.out.2.2.2; omega
            subst this
            have hkp := HE.out.2.2.2
            rw [← hkp] at hf'
            cases HE.out.1.symm.trans he'
            cases HE.out.2.1.symm.trans hf'
            exact HL.out.1 hR0
        clear hR0
        go_wp2
        exact ⟨⟨k + 1, by omega, .inl (by omega), by simp, HT.out, HK.out⟩, by simp [intOf]; omega⟩
      · have hR1 : (0 : Int) ≤ R := by omega
        have HN : Hid (¬ Rises s.es) := fun h => hR0 (HL.out.2 (h.to (k + 1) p (by have := HE.out.2.2.2; omega) e f HE.out.1 (by rw [← HE.out.2.2.2]; exact HE.out.2.1)))
        clear hR0
        go_wp2
        go_ret
        exact ⟨false, rfl, ⟨fun h => (by cases h), fun h => absurd h HN.out⟩, HK.out⟩
    · have hke : k = n ∨ n ≤ 1 := by omega
      have hki : ¬ (k : Int) < (n : Int) := by omega
      have HP : Hid (Rises s.es) := rises_of (by
        rw [HV.out.2.1]
        rcases hke with rfl | h
        · exact hR
        · intro i hi; omega)
      clear hR
      go_wp2
      go_ret
      exact ⟨true, rfl, ⟨fun _ => HP.out, fun _ => rfl⟩, HB.out⟩
end Go.Proofs.Ytjkgafbknjpjbab
