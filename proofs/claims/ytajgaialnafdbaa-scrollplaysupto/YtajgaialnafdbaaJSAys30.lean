/- ScrollReads. -/
import Derived.Test.YtajgaialnafdbaaJSAys22
import Derived.Test.YtajgaialnafdbaaJSAys18
import Derived.Test.YtajgaialnafdbaaJSAys29
namespace Go.Proofs.Ytajgaialnafdbaa
section
open Go.RowKit

theorem pcIn_lens (g r k c : Nat) (b : List Int) : (pcIn g r k c b).length ≤ 53 ∧ (pcIn g r k c b ≠ [] → 1 ≤ c ∧ c ≤ 8) := by
  unfold pcIn
  split
  · rename_i h
    exact ⟨by rw [List.length_take]; have := h.2.2.2.1; omega, fun _ => ⟨h.1, h.2.1⟩⟩
  · exact ⟨by simp, fun h => absurd rfl h⟩
theorem rdP_lens {g r c : Nat} : ∀ (bs : List (List Int)) (k : Nat) (p : List Int), rdP g r c k bs = some p → p.length ≤ 53 * (c - k) + 53 ∧ c ≤ 8
  | [], k, p, h => by cases h
  | b :: bs, k, p, h => by
    unfold rdP at h
    obtain ⟨h1, h2⟩ := pcIn_lens g r k c b
    split at h
    · cases h
    · rename_i e
      split at h
      · rename_i hlt
        cases hq : rdP g r c (k + 1) bs with
        | none => rw [hq] at h; cases h
        | some q =>
          rw [hq] at h
          cases h
          have := (rdP_lens bs (k + 1) q hq).1
          exact ⟨by rw [List.length_append]; omega, (h2 e).2⟩
      · cases h
        exact ⟨by omega, (h2 e).2⟩
theorem rdOne_lens {g r : Nat} {bs : List (List Int)} {p : List Int} {c : Nat} (h : rdOne g r bs = some (p, c)) : p.length ≤ 477 := by
  unfold rdOne at h
  match bs, h with
  | b :: bs, h =>
    replace h : (rdP g r (gB b 9) 0 (b :: bs)).map (fun p => (p, gB b 9)) = some (p, c) := h
    cases hq : rdP g r (gB b 9) 0 (b :: bs) with
    | none => rw [hq] at h; cases h
    | some q =>
      rw [hq] at h
      cases h
      have := rdP_lens _ _ _ hq
      omega
theorem Pre.lens {g : Nat} {bs R : List (List Int)} {u : Nat} (h : Pre g bs R u) : ∀ l ∈ R, l.length ≤ 1000000 := by
  induction h with
  | nil => intro l hl; cases hl
  | snoc _ h ih =>
    intro l hl
    rcases List.mem_append.1 hl with hl | hl
    · exact ih l hl
    · rw [List.mem_singleton.1 hl]; have := rdOne_lens h; omega
theorem halfL_lens (cs : List (List Int)) (h : Nat) : (halfL cs h).length ≤ cs.length := by
  unfold halfL; rw [List.length_take, List.length_drop]; omega
/-- Open of any disk, as far as it is asked twice -/
theorem open_any (b g : Nat) (s : Dsk) (h1 : 1 ≤ s.cs.length) (hb : BytC s.cs) (hf : s.cs.length ≤ 1024) : ∃ (E : Int) (R : List (List Int)), (∀ l ∈ R, l.length ≤ 1000000) ∧ R.length ≤ 1024 ∧ ∀ w, IsD w b g s →
    Calls Try.prog 29 #[.pointer (some ⟨b, 0, none⟩)] w fun e w' => ∃ p vR, e = .returned (.tuple #[p, vR, .int .i64 E]) ∧ Rs w' vR R ∧ Below w.heap.size w w' := by
  by_cases h0 : hS s.cs = 0
  · exact ⟨60, [], by simp, by simp, fun w h => (open_no b g s w h h1 hb (.inl h0)).mono fun e w' q => ⟨_, _, q.1, (OwnR.nil w' 0 0).rs, q.2⟩⟩
  · cases hd : hdrOf ((s.cs[0]?).getD []) with
    | none => exact ⟨60, [], by simp, by simp, fun w h => (open_no b g s w h h1 hb (.inr hd)).mono fun e w' q => ⟨_, _, q.1, (OwnR.nil w' 0 0).rs, q.2⟩⟩
    | some x =>
      obtain ⟨G, Hh⟩ := x
      by_cases hT : ∃ R u, Told G (halfL s.cs Hh) R u
      · obtain ⟨R, u, hT⟩ := hT
        refine ⟨0, R, hT.1.lens, by have := hT.1.le; have := halfL_lens s.cs Hh; omega, fun w h => (open_yes b g s w h h1 hb G Hh h0 hd).mono ?_⟩
        rintro e w' ⟨sb, vR, R', u', rfl, hT', h2, h3, h4, h5, h6⟩
        obtain ⟨rfl, rfl⟩ := hT.one hT'
        exact ⟨_, _, rfl, h5.rs, h6⟩
      · refine ⟨0, [], by simp, by simp, fun w h => (open_yes b g s w h h1 hb G Hh h0 hd).mono ?_⟩
        rintro e w' ⟨sb, vR, R', u', rfl, hT', h2⟩
        exact absurd ⟨_, _, hT'⟩ hT
end
section
open Go.RowKit Go.Lib

theorem Dk.bk {w0 w : World} {b g r : Nat} {s : Dsk} {R : Rf} {N k : Nat} (h : Dk w0 w b g r s R N k) (h1 : 1 ≤ N) (h2 : N ≤ 1024) (hk : k * 32 ≤ 140737488355328) : Bk R s.cs := by
  refine ⟨h.sim.n, h.sim.cs, fun l hl => ?_, h.byt, by rw [h.n]; exact h1, by rw [h.n]; exact h2, by have := h.few; omega⟩
  obtain ⟨i, hi, e⟩ := List.getElem_of_mem hl
  exact h.dk.each l hl
/-- both scrolls, or none -/
def Scs (w0 w : World) (b r M : Nat) (vs vt : Value) : Prop :=
  (vs = .pointer none ∧ vt = .pointer none) ∨
  ∃ sb q G H n u, vs = .pointer (some ⟨sb, 0, none⟩) ∧ vt = .pointer (some ⟨q, 0, none⟩) ∧ IsS w sb b G H n u ∧ IsT w q r G H u n ∧ G ≤ 1073741824 ∧ H ≤ 1 ∧ u ≤ M ∧ n ≤ u ∧ w0.heap.size ≤ sb ∧ w0.heap.size ≤ q
theorem Scs.below {w0 w w' : World} {b r M : Nat} {vs vt : Value} (h : Scs w0 w b r M vs vt) (hb : Below w.heap.size w w') : Scs w0 w' b r M vs vt := by
  rcases h with h | ⟨sb, q, G, H, n, u, e1, e2, h1, h2, h3⟩
  · exact .inl h
  · exact .inr ⟨sb, q, G, H, n, u, e1, e2, h1.below hb, h2.below hb, h3⟩
theorem told_lens {G : Nat} {bs L : List (List Int)} {u : Nat} (h : Told G bs L u) : (∀ l ∈ L, l.length ≤ 1000000) ∧ u ≤ bs.length ∧ L.length ≤ u := ⟨h.1.lens, h.1.le.1, h.1.le.2⟩
set_option maxRecDepth 100000 in
set_option maxHeartbeats 8000000 in
theorem opened_any (b g r : Nat) (s : Dsk) (R : Rf) (N k : Nat) (w0 w : World) (h : Dk w0 w b g r s R N k) (h1 : 1 ≤ N) (h2 : N ≤ 1024) (hk : k * 32 ≤ 140737488355328) :
    Calls Try.prog 6 #[.pointer (some ⟨b, 0, none⟩), .pointer (some ⟨r, 0, none⟩)] w fun e w' => ∃ vs vt, e = .returned (.tuple #[vs, vt, .bool true]) ∧ Below w.heap.size w w' ∧ Scs w0 w' b r (hS s.cs) vs vt := by
  have hbk := h.bk h1 h2 hk
  have hlen : 1 ≤ s.cs.length := by rw [h.sim.n, h.n]; exact h1
  by_cases hno : hS s.cs = 0 ∨ hdrOf ((s.cs[0]?).getD []) = none
  · have HP : Hid (Calls Try.prog 29 #[.pointer (some ⟨b, 0, none⟩)] w fun e w' => e = .returned (.tuple #[.pointer none, .slice none 0 0, .int .i64 60]) ∧ Below w.heap.size w w') := open_no b g s w h.dk hlen h.byt hno
    have HD : Hid (∀ W, Below w.heap.size w W → Calls Try.prog 32 #[.pointer (some ⟨r, 0, none⟩)] W fun e w' => e = .returned (.tuple #[.pointer none, .slice none 0 0, .int .i64 60]) ∧ Below W.heap.size W w') := fun W hb => open_noD r R s.cs W hbk (h.rf.below hb) (by
      rcases hno with e | e
      · left
        rw [hbk.hs] at e
        have := hbk.lo
        omega
      · exact .inr e)
    have HSm : Hid (∀ W, Calls Try.prog 33 #[.slice none 0 0, .slice none 0 0] W fun e w' => e = .returned (.bool true) ∧ Below W.heap.size W w') := fun W => by
      have := sameRows_any (.slice none 0 0) (.slice none 0 0) [] [] W (OwnR.nil W 0 0).rs (OwnR.nil W 0 0).rs (by simp) (by simp) (by simp) (by simp)
      rw [decide_eq_true rfl] at this
      exact this
    clear h hbk hlen hno
    go_enter Try.func6, Try.ntmps6
    go_wp2_with (first
      | (go_at_call 33; refine (HSm.out _).mono ?_; rintro e w3 ⟨rfl, hb⟩; have H3 : Hid (Below w.heap.size w w3) := chainB H2.out hb; clear hb)
      | (go_at_call 32; refine (HD.out _ H1.out).mono ?_; rintro e w2 ⟨rfl, hb⟩; have H2 : Hid (Below w.heap.size w w2) := chainB H1.out hb; clear hb)
      | (go_at_call 29; refine HP.out.mono ?_; rintro e w1 ⟨rfl, hb⟩; have H1 : Hid (Below w.heap.size w w1) := hb; clear hb))
    go_ret3
    exact ⟨_, _, rfl, H3.out, .inl ⟨rfl, rfl⟩⟩
  · have h0 : hS s.cs ≠ 0 := fun e => hno (.inl e)
    obtain ⟨⟨G, H⟩, hd⟩ : ∃ x, hdrOf ((s.cs[0]?).getD []) = some x := by
      cases hd : hdrOf ((s.cs[0]?).getD []) with
      | none => exact absurd (.inr hd) hno
      | some x => exact ⟨x, rfl⟩
    obtain ⟨hg1, hg2, hh, _⟩ := hdrOf_some hd
    have h3 : 3 ≤ R.n := by rw [hbk.hs] at h0; omega
    have HP : Hid (Calls Try.prog 29 #[.pointer (some ⟨b, 0, none⟩)] w fun e w' => ∃ sb vR L u, e = .returned (.tuple #[.pointer (some ⟨sb, 0, none⟩), vR, .int .i64 0]) ∧ Told G (halfL s.cs H) L u ∧ w.heap.size ≤ sb ∧ IsD w' b g s ∧ IsS w' sb b G H L.length u ∧ OwnR w' w.heap.size w'.heap.size vR L ∧ Below w.heap.size w w') := open_yes b g s w h.dk hlen h.byt G H h0 hd
    have HD : Hid (∀ W, Below w.heap.size w W → Calls Try.prog 32 #[.pointer (some ⟨r, 0, none⟩)] W fun e w' => ∃ q vL L u, e = .returned (.tuple #[.pointer (some ⟨q, 0, none⟩), vL, .int .i64 0]) ∧ Told G (halfL s.cs H) L u ∧ W.heap.size ≤ q ∧ IsT w' q r G H u L.length ∧ OwnR w' W.heap.size w'.heap.size vL L ∧ Below W.heap.size W w') := fun W hb => open_yesD r R s.cs W hbk (h.rf.below hb) h3 G H hd
    obtain ⟨M, hM⟩ : ∃ M, hS s.cs = M := ⟨_, rfl⟩
    have HK : Hid (Dk w0 w b g r s R N k ∧ Bk R s.cs ∧ 1 ≤ s.cs.length ∧ hS s.cs = M ∧ (halfL s.cs H).length = M ∧ G ≤ 1073741824 ∧ H ≤ 1 ∧ M ≤ 1024) := ⟨h, hbk, hlen, hM, by rw [halfL_len _ _ hh]; exact hM, hg2, hh, by rw [← hM, hbk.hs, h.n]; omega⟩
    rw [hM]
    clear h hbk hlen hno h0 hd hg1 hg2 hh h3 hM
    go_enter Try.func6, Try.ntmps6
    go_upto_region 7 with (first
      | (go_at_call 33; refine HSm.out.mono ?_; rintro e w3 ⟨rfl, hb⟩; have H3 : Hid (Below w2.heap.size w2 w3) := hb; clear hb)
      | (go_at_call 32; refine (HD.out _ H1.out.2.2.2.2.2).mono ?_; rintro e w2 ⟨q, vL, L2, u2, rfl, hT2, hq, ht, hl, hb⟩; obtain ⟨e1, e2⟩ := H1.out.1.one hT2; subst e1; subst e2; have H2 : Hid (w1.heap.size ≤ q ∧ IsT w2 q r G H u L.length ∧ Below w1.heap.size w1 w2) := ⟨hq, ht, hb⟩; have HSm : Hid (Calls Try.prog 33 #[vR, vL] w2 fun e w' => e = .returned (.bool true) ∧ Below w2.heap.size w2 w') := (by have t := told_lens H1.out.1; have := sameRows_any vR vL L L w2 (H1.out.2.2.2.2.1.below hb).rs hl.rs (by have := HK.out.2.2.2.2.1; have := HK.out.2.2.2.2.2.2.2; omega) (by have := HK.out.2.2.2.2.1; have := HK.out.2.2.2.2.2.2.2; omega) t.1 t.1; rw [decide_eq_true rfl] at this; exact this); clear hT2 hq ht hl hb)
      | (go_at_call 29; refine HP.out.mono ?_; rintro e w1 ⟨sb, vR, L, u, rfl, hT, hs, hd, hi, hl, hb⟩; have H1 : Hid (Told G (halfL s.cs H) L u ∧ w.heap.size ≤ sb ∧ IsD w1 b g s ∧ IsS w1 sb b G H L.length u ∧ OwnR w1 w.heap.size w1.heap.size vR L ∧ Below w.heap.size w w1) := ⟨hT, hs, hd, hi, hl, hb⟩; clear hT hs hd hi hl hb))
    have H4 : Hid (Below w.heap.size w w3 ∧ Dk w0 w3 b g r s R N k ∧ IsS w3 sb b G H L.length u ∧ IsT w3 q r G H u L.length ∧ u ≤ M ∧ L.length ≤ u) := by
      have hb := chainB H2.out.2.2 H3.out
      have t := told_lens H1.out.1
      exact ⟨chainB H1.out.2.2.2.2.2 hb, HK.out.1.below (chainB H1.out.2.2.2.2.2 hb), H1.out.2.2.2.1.below hb, H2.out.2.1.below H3.out, by rw [← HK.out.2.2.2.2.1]; exact t.2.1, t.2.2⟩
    have hsq : w0.heap.size ≤ sb ∧ w0.heap.size ≤ q := by
      have := HK.out.1.bel.size
      have := H1.out.2.1
      have := H1.out.2.2.2.2.2.size
      have := H2.out.1
      omega
    have HQ : Hid (w0.heap.size ≤ sb ∧ w0.heap.size ≤ q) := hsq
    obtain ⟨X, hX⟩ : ∃ X, M - u = X := ⟨_, rfl⟩
    have HRp : Hid (∀ W, Below w3.heap.size w3 W → Calls Try.prog 21 #[.pointer (some ⟨sb, 0, none⟩)] W fun e w' => e = .returned (.int .i64 (X : Nat)) ∧ Below w3.heap.size w3 w') := fun W hb => by
      rw [← hX, ← HK.out.2.2.2.1]
      exact (room_any sb b G H L.length u g s W (H4.out.2.2.1.below hb) (H4.out.2.1.dk.below hb) HK.out.2.2.1 (by rw [HK.out.2.2.2.1]; exact H4.out.2.2.2.2.1)).mono fun e w2 hq => ⟨hq.1, chainB hb hq.2.below⟩
    have HHd : Hid (∀ W, Below w3.heap.size w3 W → Calls Try.prog 35 #[.pointer (some ⟨r, 0, none⟩)] W fun e w' => e = .returned (.int .i64 (M : Nat)) ∧ W = w') := fun W hb => by
      have := HK.out.2.1.half (H4.out.2.1.rf.below hb)
      rw [HK.out.2.2.2.1] at this
      exact this
    have HRd : Hid (∀ W, Below w3.heap.size w3 W → Calls Try.prog 22 #[.pointer (some ⟨q, 0, none⟩)] W fun e w' => e = .returned (.int .i64 (X : Nat)) ∧ Below w3.heap.size w3 w') := fun W hb => by
      rw [← hX]
      exact (room_d q r G H u L.length M W (H4.out.2.2.2.1.below hb) HK.out.2.2.2.2.2.2.2 H4.out.2.2.2.2.1 (fun W2 hb2 => HHd.out W2 (chainB hb hb2))).mono fun e w2 hq => ⟨hq.1, chainB hb hq.2⟩
    have HGp : Hid (∀ W, Below w3.heap.size w3 W → Calls Try.prog 23 #[.pointer (some ⟨sb, 0, none⟩)] W fun e w' => e = .returned (.int .i64 (G : Nat)) ∧ Below w3.heap.size w3 w') := fun W hb => (gen_any sb b G H L.length u W (H4.out.2.2.1.below hb)).mono fun e w2 hq => ⟨hq.1, hq.2 ▸ hb⟩
    have HHp : Hid (∀ W, Below w3.heap.size w3 W → Calls Try.prog 34 #[.pointer (some ⟨sb, 0, none⟩)] W fun e w' => e = .returned (.int .i64 (M : Nat)) ∧ Below w3.heap.size w3 w') := fun W hb => by
      rw [← HK.out.2.2.2.1]
      exact (half_any sb b G H L.length u g s W (H4.out.2.2.1.below hb) (H4.out.2.1.dk.below hb) HK.out.2.2.1).mono fun e w2 hq => ⟨hq.1, hq.2 ▸ hb⟩
    have HHe : Hid (∀ W, Below w3.heap.size w3 W → Calls Try.prog 35 #[.pointer (some ⟨r, 0, none⟩)] W fun e w' => e = .returned (.int .i64 (M : Nat)) ∧ Below w3.heap.size w3 w') := fun W hb => (HHd.out W hb).mono fun e w2 hq => ⟨hq.1, hq.2 ▸ hb⟩
    have HS : Hid (∀ W, Below w3.heap.size w3 W → W.cell? ⟨q, 1, none⟩ = some (.int .i64 G)) := fun W hb => (H4.out.2.2.2.1.below hb).cells.2.1
    have HD0 : Hid (Below w3.heap.size w3 w3.drew) := below_drewN (Below.refl _ _) 1
    clear hX hsq HHd HSm
    go_region_held3 (fun W => W.cell? ⟨q, 1, none⟩ = some (.int .i64 G))
      (first | exact HS.out _ (Hid.out (by assumption)) | fail)
      (first
        | (go_at_call 21; refine (HRp.out _ (Hid.out (by assumption))).mono ?_; rintro e w8 ⟨rfl, hb⟩; have H8 : Hid (Below w3.heap.size w3 w8) := hb; clear hb)
        | (go_at_call 22; refine (HRd.out _ (Hid.out (by assumption))).mono ?_; rintro e w8 ⟨rfl, hb⟩; have H8 : Hid (Below w3.heap.size w3 w8) := hb; clear hb)
        | (go_at_call 23; refine (HGp.out _ (Hid.out (by assumption))).mono ?_; rintro e w8 ⟨rfl, hb⟩; have H8 : Hid (Below w3.heap.size w3 w8) := hb; clear hb)
        | (go_at_call 34; refine (HHp.out _ (Hid.out (by assumption))).mono ?_; rintro e w8 ⟨rfl, hb⟩; have H8 : Hid (Below w3.heap.size w3 w8) := hb; clear hb)
        | (go_at_call 35; refine (HHe.out _ (Hid.out (by assumption))).mono ?_; rintro e w8 ⟨rfl, hb⟩; have H8 : Hid (Below w3.heap.size w3 w8) := hb; clear hb)
        | fail)
    all_goals (
      go_wp2
      go_ret3
      have hb8 := H8.out
      exact ⟨_, _, rfl, chainB H4.out.1 hb8, .inr ⟨sb, q, G, H, L.length, u, rfl, rfl, H4.out.2.2.1.below hb8, H4.out.2.2.2.1.below hb8, HK.out.2.2.2.2.2.1, HK.out.2.2.2.2.2.2.1, H4.out.2.2.2.2.1, H4.out.2.2.2.2.2, HQ.out.1, HQ.out.2⟩⟩)
end
end Go.Proofs.Ytajgaialnafdbaa
