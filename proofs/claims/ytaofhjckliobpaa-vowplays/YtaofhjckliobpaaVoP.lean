/- slices.Compact at a list of keys that does not fall. -/
import Derived.Test.YtaofhjckliobpaaVoO
namespace Go.Proofs.Ytaofhjckliobpaa
open Go.RowKit Go.Shelf Go.Sort
attribute [local go_sem high] eqK neqK guardK run_store_complex

theorem Up.get {ks : List Ky} (h : Up ks) {i j : Nat} {x y : Ky} (hi : ks[i]? = some x) (hj : ks[j]? = some y) (hij : i < j) : ltK y x = false := by
  unfold Up at h
  rw [List.pairwise_iff_getElem] at h
  have := h i j (List.getElem?_eq_some_iff.1 hi).1 (List.getElem?_eq_some_iff.1 hj).1 hij
  rw [(List.getElem?_eq_some_iff.1 hi).2, (List.getElem?_eq_some_iff.1 hj).2] at this
  exact this
/-- a key unlike the one ahead of it is above all ahead of it -/
theorem up_new {ks : List Ky} (h : Up ks) {p : Nat} {x y z : Ky} (hx : ks[p + 1]? = some x) (hy : ks[p]? = some y) (hne : x ≠ y) (hz : z ∈ ks.take (p + 1)) : ltK z x = true := by
  obtain ⟨i, hi⟩ := List.getElem?_of_mem hz
  have hip : i < p + 1 := by have := (List.getElem?_eq_some_iff.1 hi).1; simp at this; omega
  rw [List.getElem?_take_of_lt hip] at hi
  have h1 : ltK x z = false := h.get hi hx hip
  rcases ltK_total z x with k | k | k
  · exact k
  · exfalso
    subst k
    have h2 := h.get hy hx (by omega)
    rcases Nat.lt_or_ge i p with hlt | hge
    · have h3 := h.get hi hy hlt
      rcases ltK_total z y with q | q | q
      · rw [h2] at q; cases q
      · exact hne q
      · rw [h3] at q; cases q
    · obtain rfl : i = p := by omega
      rw [hi] at hy
      exact hne (Option.some.inj hy)
  · rw [h1] at k; cases k
theorem Rises.snoc {l : List Ky} {x : Ky} (h : Rises l) (hx : ∀ z ∈ l, ltK z x = true) : Rises (l ++ [x]) :=
  List.pairwise_append.2 ⟨h, List.pairwise_singleton _ _, fun a ha b hb => by rw [List.mem_singleton.1 hb]; exact hx a ha⟩
/-- what Compact has kept so far -/
structure Cpt (ks D : List Ky) (n k j : Nat) : Prop where
  len : D.length = n
  lt : k < j
  jn : j ≤ n
  low : Rises (D.take k)
  mem : ∀ x, x ∈ D.take k ↔ x ∈ ks.take j
  high : ∀ m, k ≤ m → D[m]? = ks[m]?
theorem Cpt.skip {ks D : List Ky} {n k p : Nat} {x : Ky} (h : Cpt ks D n k (p + 1)) (hj : p + 1 < n) (hx : ks[p + 1]? = some x) (hy : ks[p]? = some x) : Cpt ks D n k (p + 1 + 1) :=
  ⟨h.len, by have := h.lt; omega, by omega, h.low, fun z => by
    rw [h.mem, List.take_add_one (i := p + 1), hx]
    constructor
    · exact fun hz => List.mem_append_left _ hz
    · intro hz
      rcases List.mem_append.1 hz with hz | hz
      · exact hz
      · rw [show z = x by simpa using hz]
        exact List.mem_of_getElem? (i := p) (by rw [List.getElem?_take_of_lt (by omega)]; exact hy), h.high⟩
theorem Cpt.keep {ks D : List Ky} {n k p : Nat} {x y : Ky} (h : Cpt ks D n k (p + 1)) (hU : Up ks) (hj : p + 1 < n) (hx : ks[p + 1]? = some x) (hy : ks[p]? = some y) (hne : x ≠ y) : Cpt ks (D.set k x) n (k + 1) (p + 1 + 1) := by
  have hk : k < D.length := by have := h.len; have := h.lt; omega
  have e : (D.set k x).take (k + 1) = D.take k ++ [x] := by
    rw [List.take_add_one, List.take_set_of_le (Nat.le_refl _), List.getElem?_set_self hk]; rfl
  refine ⟨by rw [List.length_set]; exact h.len, by have := h.lt; omega, by omega, ?_, fun z => ?_, fun m hm => ?_⟩
  · rw [e]
    exact h.low.snoc fun z hz => up_new hU hx hy hne ((h.mem z).1 hz)
  · rw [e, List.take_add_one (i := p + 1), hx, List.mem_append, List.mem_append, h.mem]; simp
  · rw [List.getElem?_set_ne (by omega)]; exact h.high m (by omega)
theorem Cpt.done {ks D : List Ky} {n k : Nat} (h : Cpt ks D n k n) (hn : ks.length = n) : D.take k = srtK ks :=
  srtK_of h.low fun x => by rw [h.mem, List.take_of_length_le (by omega)]
set_option maxHeartbeats 4000000 in
set_option maxRecDepth 1000000 in
theorem compact_own (g n cap base : Nat) (ks : List Ky) (w : World) (h : w.ownsRow base 36 2 (.slice (some ⟨g, 0, none⟩) n cap) n (kc ks)) (hn : ks.length = n) (hs : n ≤ 10000000000000) (hU : Up ks) :
    Calls Try.prog 59 #[.slice (some ⟨g, 0, none⟩) n cap] w fun e w' => e = .returned (.slice (some ⟨g, 0, none⟩) (srtK ks).length cap) ∧ RowK w' base (.slice (some ⟨g, 0, none⟩) (srtK ks).length cap) (srtK ks) ∧ Only (· = g) w w' := by
  obtain ⟨-, -, hcap, -, -, hg⟩ := owns_cells h
  have H : Hid (w.ownsRow base 36 2 (.slice (some ⟨g, 0, none⟩) n cap) n (kc ks) ∧ ks.length = n ∧ Up ks) := ⟨h, hn, hU⟩
  by_cases h2 : n < 2
  · have hr : ks = srtK ks := srtK_of (by
      match ks, hn with
      | [], _ => exact List.Pairwise.nil
      | [a], _ => exact List.pairwise_singleton _ _
      | a :: b :: l, hn => simp at hn; omega) fun x => Iff.rfl
    rw [← hr]
    subst hn
    have HH : Hid _ := h
    clear h hU hr
    have h2z : ((ks.length : Nat) : Int) < 2 := by omega
    go_enter Try.func59, Try.ntmps59
    go_wp2
    go_ret
    exact ⟨rfl, HH.out, Only.refl _ _⟩
  · have h2z : ¬ (n : Int) < 2 := by omega
    clear h hU hn
    go_enter Try.func59, Try.ntmps59
    go_wp2
    go_loopw [3] (fun s3 wr => ∃ (P : Nat), s3 = .int .i64 ((P : Int) + 1) ∧ P + 1 ≤ n ∧ Hid (Rises (ks.take (P + 1))) ∧ Hid (wr.ownsRow base 36 2 (.slice (some ⟨g, 0, none⟩) n cap) n (kc ks)) ∧ Hid (Only (· = g) w wr)) (fun s3 _ => n - (intOf s3).toNat)
    case atStart =>
      refine ⟨0, rfl, by omega, ?_, H.out.1, Only.refl _ _⟩
      show Rises _
      cases hk : ks with
      | nil => exact List.Pairwise.nil
      | cons a l => simp [Rises]
    case round =>
      obtain ⟨P, rfl, hPn, HR, HW, HO⟩ := hrel
      by_cases hlt : P + 1 < n
      · obtain ⟨x, hx⟩ : ∃ x, ks[P + 1]? = some x := ⟨_, List.getElem?_eq_getElem (by rw [H.out.2.1]; exact hlt)⟩
        obtain ⟨y, hy⟩ : ∃ x, ks[P]? = some x := ⟨_, List.getElem?_eq_getElem (by rw [H.out.2.1]; omega)⟩
        obtain ⟨wc, wf, -, -, -, wg⟩ := owns_cells HW.out
        obtain ⟨l0, l1⟩ := kc_get ks (P + 1) x hx
        obtain ⟨m0, m1⟩ := kc_get ks P y hy
        have x0 := wc _ _ l0
        have x1 := wc _ _ l1
        have y0 := wc _ _ m0
        have y1 := wc _ _ m1
        have HX : Hid (ks[P + 1]? = some x ∧ ks[P]? = some y) := ⟨hx, hy⟩
        clear wc l0 l1 m0 m1 hx hy
        have hPi : (P : Int) + 1 < (n : Int) := by omega
        have hPi2 : (P : Int) < (n : Int) := by omega
        have hPt : ((P : Int) + 1).toNat = P + 1 := by omega
        have hP1 : (0 : Int) ≤ (P : Int) + 1 := by omega
        have hPw : IntKind.i64.wrap ((P : Int) + 1 - 1) = (P : Int) := by rw [IntWalk.i64_in _ (by omega)]; omega
        have hPw2 : IntKind.i64.wrap (P : Int) = (P : Int) := IntWalk.i64_in _ (by omega)
        have hP0 : (0 : Int) ≤ (P : Int) := by omega
        cases hq : eqKy x y with
        | false =>
          go_upto_region 6 with fail
          go_quiet (fail)
          go_wp2
          refine ⟨⟨P + 1, by simp, by omega, ?_, owns_below HW.out (below_drewN (Below.refl _ _) _), only_below HO.out (below_drewN (Below.refl _ _) _)⟩, by simp [intOf]; omega⟩
          show Rises _
          rw [List.take_add_one, HX.out.1]
          exact HR.out.snoc fun z hz => up_new H.out.2.2 HX.out.1 HX.out.2 (fun e => by subst e; rw [eqKy_self] at hq; cases hq) hz
        | true =>
          have hxy := (eqKy_iff x y).1 hq
          subst hxy
          have HS : Hid (Cpt ks ks n (P + 1) (P + 1 + 1)) := ⟨H.out.2.1, by omega, by omega, HR.out, fun z => by
            rw [List.take_add_one (i := P + 1), HX.out.1]
            constructor
            · exact fun hz => List.mem_append_left _ hz
            · intro hz
              rcases List.mem_append.1 hz with hz | hz
              · exact hz
              · rw [show z = x by simpa using hz]
                exact List.mem_of_getElem? (i := P) (by rw [List.getElem?_take_of_lt (by omega)]; exact HX.out.2), fun _ _ => rfl⟩
          go_upto_region 6 with fail
          go_quiet (fail)
          go_upto_region 7 with fail
          obtain ⟨W1, hW1⟩ : ∃ W1, wr.drewN nq = W1 := ⟨_, rfl⟩
          rw [hW1]
          have hb1 : Below wr.heap.size wr W1 := by rw [← hW1]; exact below_drewN (Below.refl _ _) _
          have HW1 : Hid (W1.ownsRow base 36 2 (.slice (some ⟨g, 0, none⟩) n cap) n (kc ks) ∧ Only (· = g) w W1) := ⟨owns_below HW.out hb1, only_below HO.out hb1⟩
          have hPc : P + 1 < cap := by omega
          clear hW1 hb1 x0 x1 y0 y1 wf wg
          go_wp2
          obtain ⟨M, hM⟩ : ∃ M, n - (P + 1) = M := ⟨_, rfl⟩
          obtain ⟨O, hO2⟩ : ∃ O, (P + 1) * 2 = O := ⟨_, rfl⟩
          obtain ⟨C, hC⟩ : ∃ C, cap - (P + 1) = C := ⟨_, rfl⟩
          rw [hM, hO2, hC]
          have HM : Hid (n - (P + 1) = M ∧ (P + 1) * 2 = O) := ⟨hM, hO2⟩
          have hMn : M ≤ n := by omega
          have hMp : P + 1 + M = n := by omega
          clear hM hO2 hC hPi hPi2 hPt hP1 hPw hPw2 hP0 HX hq
          go_loopw [3, 5] (fun s3 s5 wr => ∃ (k Q : Nat) (D : List Ky), s3 = .int .i64 (k : Nat) ∧ s5 = .int .i64 ((Q : Int) + 1) ∧ k ≤ P + 1 + Q ∧ Q + 1 ≤ M ∧ Hid (Cpt ks D n k (P + 1 + Q + 1)) ∧ Hid (wr.ownsRow base 36 2 (.slice (some ⟨g, 0, none⟩) n cap) n (kc D)) ∧ Hid (Only (· = g) w wr)) (fun _ s5 _ => M - (intOf s5).toNat)
          case atStart => exact ⟨P + 1, 0, ks, by simp, by simp, by omega, by omega, HS, HW1.out.1, HW1.out.2⟩
          case round =>
            obtain ⟨k, Q, D, rfl, rfl, hkj, hQM, HC, HW2, HO2⟩ := hrel
            by_cases hlt2 : Q + 1 < M
            · obtain ⟨x2, hx⟩ : ∃ x, ks[P + 1 + Q + 1]? = some x := ⟨_, List.getElem?_eq_getElem (by rw [H.out.2.1]; omega)⟩
              obtain ⟨y2, hy⟩ : ∃ x, ks[P + 1 + Q]? = some x := ⟨_, List.getElem?_eq_getElem (by rw [H.out.2.1]; omega)⟩
              obtain ⟨z2, hz⟩ : ∃ x, D[k]? = some x := ⟨_, List.getElem?_eq_getElem (by rw [HC.out.len]; omega)⟩
              have hDx : D[P + 1 + Q + 1]? = some x2 := by rw [HC.out.high _ (by omega)]; exact hx
              have hDy : D[P + 1 + Q]? = some y2 := by rw [HC.out.high _ (by omega)]; exact hy
              obtain ⟨wc, wf, -, -, -, wg⟩ := owns_cells HW2.out
              obtain ⟨l0, l1⟩ := kc_get D _ x2 hDx
              obtain ⟨m0, m1⟩ := kc_get D _ y2 hDy
              obtain ⟨n0, n1⟩ := kc_get D _ z2 hz
              have e1 : (P + 1 + Q + 1) * 2 = O + (Q + 1) * 2 := by have := HM.out.2; omega
              have e2 : (P + 1 + Q) * 2 = O + Q * 2 := by have := HM.out.2; omega
              rw [e1] at l0 l1
              rw [e2] at m0 m1
              have x0 := wc _ _ l0
              have x1 := wc _ _ l1
              have y0 := wc _ _ m0
              have y1 := wc _ _ m1
              have z0 := wc _ _ n0
              have z1 := wc _ _ n1
              have HX : Hid (ks[P + 1 + Q + 1]? = some x2 ∧ ks[P + 1 + Q]? = some y2 ∧ D[k]? = some z2) := ⟨hx, hy, hz⟩
              clear wc l0 l1 m0 m1 n0 n1 hx hy hz hDx hDy e1 e2
              have hPi : (Q : Int) + 1 < (M : Int) := by omega
              have hPi2 : (Q : Int) < (M : Int) := by omega
              have hPt : ((Q : Int) + 1).toNat = Q + 1 := by omega
              have hP1 : (0 : Int) ≤ (Q : Int) + 1 := by omega
              have hPw : IntKind.i64.wrap ((Q : Int) + 1 - 1) = (Q : Int) := by rw [IntWalk.i64_in _ (by omega)]; omega
              have hPw2 : IntKind.i64.wrap (Q : Int) = (Q : Int) := IntWalk.i64_in _ (by omega)
              have hP0 : (0 : Int) ≤ (Q : Int) := by omega
              have hkn : (k : Int) < (n : Int) := by omega
              cases hq : eqKy x2 y2 with
              | true =>
                have hxy := (eqKy_iff x2 y2).1 hq
                subst hxy
                go_upto_region 11 with fail
                go_quiet (fail)
                go_wp2
                exact ⟨⟨k, Q + 1, D, rfl, by simp, by omega, by omega, HC.out.skip (by omega) HX.out.1 HX.out.2.1, owns_below HW2.out (below_drewN (Below.refl _ _) _), only_below HO2.out (below_drewN (Below.refl _ _) _)⟩, by simp [intOf]; omega⟩
              | false =>
                go_upto_region 11 with fail
                go_quiet (fail)
                go_wp2
                refine ⟨⟨k + 1, Q + 1, D.set k x2, by simp, by simp, by omega, by omega, HC.out.keep H.out.2.2 (by omega) HX.out.1 HX.out.2.1 (fun e => by subst e; rw [eqKy_self] at hq; cases hq), ?_, ?_⟩, by simp [intOf]; omega⟩
                · exact put2_row (owns_below HW2.out (below_drewN (Below.refl _ _) _)) HX.out.2.2
                · exact (only_below HO2.out (below_drewN (Below.refl _ _) _)).trans (put2_only _ _ _ _)
            · have hQe : Q + 1 = M := by omega
              have hltz : ¬ (Q : Int) + 1 < (M : Int) := by omega
              have hCe : Cpt ks D n k n := by have := HC.out; rw [show P + 1 + Q + 1 = n by omega] at this; exact this
              obtain ⟨w3, hcl, hr3, ho3⟩ := run_clear_own (P := Try.prog) wr 31 36 0 (.agg #[.int .i64 0, .string ⟨#[]⟩]) 2 Try.underlying31 Try.zeroValue36 rfl (by simp [Value.cells, Value.oneCell']) (by omega) g n k (cap - k) cap base (kc D) HW2.out (by omega)
              have hci : k < cap := by omega
              have hkn : k < n := by omega
              rw [kc_take, hCe.done H.out.2.1] at hr3
              have hlen : (srtK ks).length = k := by rw [← hCe.done H.out.2.1, List.length_take, hCe.len]; omega
              have HR3 : Hid (RowK w3 base (.slice (some ⟨g, 0, none⟩) k cap) (srtK ks)) := by
                show World.ownsRow _ _ _ _ _ _ _
                rw [hlen]; exact hr3
              have HL : Hid ((srtK ks).length = k) := hlen
              clear hr3 hlen hCe
              go_wp2
              go_ret
              rw [HL.out]
              exact ⟨rfl, HR3.out, HO2.out.trans ho3⟩
      · have hPe : P + 1 = n := by omega
        have hltz : ¬ (P : Int) + 1 < (n : Int) := by omega
        have HE : Hid (srtK ks = ks) := by
          have := HR.out
          rw [List.take_of_length_le (by rw [H.out.2.1]; omega)] at this
          exact (srtK_of this fun _ => Iff.rfl).symm
        go_wp2
        go_ret
        rw [HE.out, H.out.2.1]
        refine ⟨rfl, ?_, HO.out⟩
        show World.ownsRow _ _ _ _ _ _ _
        rw [H.out.2.1]; exact HW.out
end Go.Proofs.Ytaofhjckliobpaa
