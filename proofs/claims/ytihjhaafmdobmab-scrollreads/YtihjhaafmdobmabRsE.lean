/- ScrollReads. -/
import Derived.Test.YtihjhaafmdobmabRsD
import Derived.Test.YtihjhaafmdobmabSaW
namespace Go.Proofs.Ytihjhaafmdobmab
open Go.RowKit

theorem pcIn_lens (g r k c : Nat) (b : List Int) : (pcIn g r k c b).length ≤ 53 ∧ (pcIn g r k c b ≠ [] → 1 ≤ c ∧ c ≤ 8) := by
  unfold pcIn
  split
  · rename_i h
    exact ⟨by rw [List.length_take]; have := h.2.2.2.1; omega, fun _ => ⟨h.1, h.2.1⟩⟩
  · exact ⟨by simp, fun h => absurd rfl h⟩
theorem rdP_lens {g r c : Nat} : ∀ (bs : List (List Int)) (k : Nat) (p : List Int), rdP g r c k bs = some p → p.length ≤ 53 * (c - k) + 53 ∧ c ≤ 8
  | [], k, p, h => by cases h
  | b :: bs, k, p, h => by
    unfold rdP at h
    obtain ⟨h1, h2⟩ := pcIn_lens g r k c b
    split at h
    · cases h
    · rename_i e
      split at h
      · rename_i hlt
        cases hq : rdP g r c (k + 1) bs with
        | none => rw [hq] at h; cases h
        | some q =>
          rw [hq] at h
          cases h
          have := (rdP_lens bs (k + 1) q hq).1
          exact ⟨by rw [List.length_append]; omega, (h2 e).2⟩
      · cases h
        exact ⟨by omega, (h2 e).2⟩
theorem rdOne_lens {g r : Nat} {bs : List (List Int)} {p : List Int} {c : Nat} (h : rdOne g r bs = some (p, c)) : p.length ≤ 477 := by
  unfold rdOne at h
  match bs, h with
  | b :: bs, h =>
    replace h : (rdP g r (gB b 9) 0 (b :: bs)).map (fun p => (p, gB b 9)) = some (p, c) := h
    cases hq : rdP g r (gB b 9) 0 (b :: bs) with
    | none => rw [hq] at h; cases h
    | some q =>
      rw [hq] at h
      cases h
      have := rdP_lens _ _ _ hq
      omega
theorem Pre.lens {g : Nat} {bs R : List (List Int)} {u : Nat} (h : Pre g bs R u) : ∀ l ∈ R, l.length ≤ 1000000 := by
  induction h with
  | nil => intro l hl; cases hl
  | snoc _ h ih =>
    intro l hl
    rcases List.mem_append.1 hl with hl | hl
    · exact ih l hl
    · rw [List.mem_singleton.1 hl]; have := rdOne_lens h; omega
theorem halfL_lens (cs : List (List Int)) (h : Nat) : (halfL cs h).length ≤ cs.length := by
  unfold halfL; rw [List.length_take, List.length_drop]; omega
/-- Open of any disk, as far as it is asked twice -/
theorem open_any (b g : Nat) (s : Dsk) (h1 : 1 ≤ s.cs.length) (hb : BytC s.cs) (hf : s.cs.length ≤ 1024) : ∃ (E : Int) (R : List (List Int)), (∀ l ∈ R, l.length ≤ 1000000) ∧ R.length ≤ 1024 ∧ ∀ w, IsD w b g s →
    Calls Try.prog 43 #[.pointer (some ⟨b, 0, none⟩)] w fun e w' => ∃ p vR, e = .returned (.tuple #[p, vR, .int .i64 E]) ∧ Rs w' vR R ∧ Below w.heap.size w w' := by
  by_cases h0 : hS s.cs = 0
  · exact ⟨60, [], by simp, by simp, fun w h => (open_no b g s w h h1 hb (.inl h0)).mono fun e w' q => ⟨_, _, q.1, (OwnR.nil w' 0 0).rs, q.2⟩⟩
  · cases hd : hdrOf ((s.cs[0]?).getD []) with
    | none => exact ⟨60, [], by simp, by simp, fun w h => (open_no b g s w h h1 hb (.inr hd)).mono fun e w' q => ⟨_, _, q.1, (OwnR.nil w' 0 0).rs, q.2⟩⟩
    | some x =>
      obtain ⟨G, Hh⟩ := x
      by_cases hT : ∃ R u, Told G (halfL s.cs Hh) R u
      · obtain ⟨R, u, hT⟩ := hT
        refine ⟨0, R, hT.1.lens, by have := hT.1.le; have := halfL_lens s.cs Hh; omega, fun w h => (open_yes b g s w h h1 hb G Hh h0 hd).mono ?_⟩
        rintro e w' ⟨sb, vR, R', u', rfl, hT', h2, h3, h4, h5, h6⟩
        obtain ⟨rfl, rfl⟩ := hT.one hT'
        exact ⟨_, _, rfl, h5.rs, h6⟩
      · refine ⟨0, [], by simp, by simp, fun w h => (open_yes b g s w h h1 hb G Hh h0 hd).mono ?_⟩
        rintro e w' ⟨sb, vR, R', u', rfl, hT', h2⟩
        exact absurd ⟨_, _, hT'⟩ hT
set_option maxRecDepth 100000 in
set_option maxHeartbeats 4000000 in
theorem walk_ScrollReads (n : Int) (a : Option Addr) (len cap : Nat) (l : List Int) (w : World) (_ : (Lit.int .i64 n).wf = true) (row : RC w (.slice a len cap) l) (hlen : l.length ≤ LB) (hbyt : Byt l) :
    Calls Try.prog 8 #[.int .i64 n, .slice a len cap] w fun e w' => e = .returned (.bool true) ∧ Below w.heap.size w w' := by
  have HA : Hid (∀ w, Calls Try.prog 25 #[] w fun e w' => e = .returned (.bool true) ∧ Below w.heap.size w w') := awake_any
  by_cases hn : n < 1 ∨ 1024 < n
  · have HD : Hid (Calls Try.prog 24 #[.int .i64 n, .slice a len cap] w fun e w' => e = .returned (.tuple #[.pointer none, .pointer none, .bool false]) ∧ w' = w) := disks_no n a len cap w hn
    clear row hlen hbyt
    rcases hn with hn | hn
    · have d1 : decide (n < 1) = true := decide_eq_true hn
      go_enter Try.func8, Try.ntmps8
      go_wp2_with (first
        | (go_at_call 24; refine HD.out.mono ?_; rintro e w' ⟨rfl, rfl⟩)
        | (go_at_call 25; refine (HA.out _).mono ?_; rintro e w2 ⟨rfl, hb2⟩))
      go_ret
      exact ⟨rfl, hb2⟩
    · have d1 : decide (n < 1) = false := decide_eq_false (by omega)
      have d2 : decide (1024 < n) = true := decide_eq_true hn
      go_enter Try.func8, Try.ntmps8
      go_wp2_with (first
        | (go_at_call 24; refine HD.out.mono ?_; rintro e w' ⟨rfl, rfl⟩)
        | (go_at_call 25; refine (HA.out _).mono ?_; rintro e w2 ⟨rfl, hb2⟩))
      go_ret
      exact ⟨rfl, hb2⟩
  · obtain ⟨N, rfl⟩ := Int.eq_ofNat_of_zero_le (show 0 ≤ n by omega)
    have hN : 1 ≤ N ∧ N ≤ 1024 := by omega
    have HD : Hid (Calls Try.prog 24 #[.int .i64 N, .slice a len cap] w fun e w' => ∃ b g r s R, e = .returned (.tuple #[.pointer (some ⟨b, 0, none⟩), .pointer (some ⟨r, 0, none⟩), .bool true]) ∧ Dk w w' b g r s R N N ∧ s.on = true ∧ s.burns = false) := disks_yes N a len cap l w hN.1 hN.2 row hlen hbyt
    clear row hlen hbyt hn
    go_enter Try.func8, Try.ntmps8
    go_wp2_with (first
      | (go_at_call 24; refine HD.out.mono ?_; rintro e w1 ⟨b, g, r, s, R, rfl, hK, -, -⟩; have HK : Hid (Dk w w1 b g r s R N N) := hK; obtain ⟨E, RR, o1, o2, o3⟩ := open_any b g s (by rw [hK.sim.n, hK.n]; exact hN.1) hK.byt (by rw [hK.sim.n, hK.n]; exact hN.2); have HO : Hid ((∀ l ∈ RR, l.length ≤ 1000000) ∧ RR.length ≤ 1024 ∧ ∀ w, IsD w b g s → Calls Try.prog 43 #[.pointer (some ⟨b, 0, none⟩)] w fun e w' => ∃ p vR, e = .returned (.tuple #[p, vR, .int .i64 E]) ∧ Rs w' vR RR ∧ Below w.heap.size w w') := ⟨o1, o2, o3⟩; clear o1 o2 o3 hK)
      | (go_at_call 43; refine (HO.out.2.2 _ (HK.out.below hb2).dk).mono ?_; rintro e w3 ⟨p3, v3, rfl, hs3, hb3⟩)
      | (go_at_call 43; refine (HO.out.2.2 _ HK.out.dk).mono ?_; rintro e w2 ⟨p2, v2, rfl, hs2, hb2⟩)
      | (go_at_call 44; refine (sameRows_any v2 v3 RR RR _ (hs2.below hb3) hs3 (by have := HO.out.2.1; omega) (by have := HO.out.2.1; omega) HO.out.1 HO.out.1).mono ?_; rintro e w4 ⟨rfl, hb4⟩; rw [decide_eq_true rfl]; have hK4 := ((HK.out.below hb2).below hb3).below hb4; have HK4 : Hid (Dk w w4 b g r s R N N) := hK4; clear hK4)
      | (go_at_call 39; refine (like_any b g r s R _ HK4.out.dk HK4.out.rf HK4.out.sim (by rw [HK4.out.n]; exact hN.2) (by have := HK4.out.few; omega)).mono ?_; rintro e w5 ⟨rfl, hb5⟩)
      | (go_at_call 25; refine (HA.out _).mono ?_; rintro e w6 ⟨rfl, hb6⟩))
    go_ret
    exact ⟨rfl, chainB (chainB HK4.out.bel hb5) hb6⟩
end Go.Proofs.Ytihjhaafmdobmab
