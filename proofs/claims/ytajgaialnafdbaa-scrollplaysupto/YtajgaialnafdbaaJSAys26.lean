/- The document's own scroll: a record is read. -/
import Derived.Test.YtajgaialnafdbaaJSAys25
import Derived.Test.YtajgaialnafdbaaJSAys22
namespace Go.Proofs.Ytajgaialnafdbaa
section
open Go.RowKit Go.Lib

structure RecR (w w' : World) (e : Ending) (o : Option (List Int × Nat)) : Prop where
  no : o = none → e = .returned (.tuple #[.slice none 0 0, .bool false])
  yes : ∀ p c, o = some (p, c) → ∃ v, e = .returned (.tuple #[v, .bool true]) ∧ OwnB w' w.heap.size v p
  bel : Below w.heap.size w w'
/-- the loop's state: so many pieces, or all of them -/
structure Rq (w wr : World) (g n u j nn : Nat) (bs : List (List Int)) (v : Value) (p : List Int) : Prop where
  own : OwnB wr w.heap.size v p
  bel : Below w.heap.size w wr
  len : p.length ≤ 53 * j
  st : (j < nn ∧ ∃ c, Part g bs n u j c p ∧ (j = 0 → nn = 1) ∧ (0 < j → nn = c)) ∨ (j = nn ∧ rdOne g n (bs.drop u) = some (p, nn))
theorem Rq.next {w wr w' : World} {g n u j nn D : Nat} {bs : List (List Int)} {v v' : Value} {p l : List Int} (h : Rq w wr g n u j nn bs v p) (hj : j < nn) (hl : bs[u + j]? = some l) (hD : D = if j = 0 then gB l 9 else nn) (hp : pcIn g n j D l = (l.drop 11).take (gB l 10)) (hne : pcIn g n j D l ≠ []) (ho : OwnB w' w.heap.size v' (p ++ (l.drop 11).take (gB l 10))) (hb : Below w.heap.size w w') : Rq w w' g n u (j + 1) D bs v' (p ++ (l.drop 11).take (gB l 10)) := by
  rcases h.st with ⟨_, c, hP, h0, h1⟩ | ⟨e, _⟩
  · have hc : cnt j c l = D := by
      unfold cnt
      rw [hD]
      by_cases hz : j = 0
      · rw [if_pos hz, if_pos hz]
      · rw [if_neg hz, if_neg hz, h1 (by omega)]
    have hle := h.len
    have hpl := pcIn_len (g := g) (r := n) (k := j) (c := D) (b := l)
    subst hc
    have hjl := hP.lt hne
    rw [hp] at hpl
    refine ⟨ho, hb, by rw [List.length_append]; omega, ?_⟩
    by_cases hm : j + 1 < cnt j c l
    · have := hP.more hl hne hm
      rw [hp] at this
      exact .inl ⟨hm, _, this, fun e => by omega, fun _ => rfl⟩
    · have := hP.done hl hne hm
      rw [hp] at this
      exact .inr ⟨this.2.symm, this.1⟩
  · omega
theorem Rq.fails {w wr : World} {g n u j nn D : Nat} {bs : List (List Int)} {v : Value} {p l : List Int} (h : Rq w wr g n u j nn bs v p) (hj : j < nn) (hl : bs[u + j]? = some l) (hD : D = if j = 0 then gB l 9 else nn) (hp : pcIn g n j D l = []) : rdOne g n (bs.drop u) = none := by
  rcases h.st with ⟨_, c, hP, h0, h1⟩ | ⟨e, _⟩
  · have hc : cnt j c l = D := by
      unfold cnt
      rw [hD]
      by_cases hz : j = 0
      · rw [if_pos hz, if_pos hz]
      · rw [if_neg hz, if_neg hz, h1 (by omega)]
    exact hP.none hl (by rw [hc]; exact hp)
  · omega
theorem Rq.out {w wr : World} {g n u j nn : Nat} {bs : List (List Int)} {v : Value} {p : List Int} (h : Rq w wr g n u j nn bs v p) (hj : j < nn) (hl : bs[u + j]? = none) : rdOne g n (bs.drop u) = none := by
  rcases h.st with ⟨_, c, hP, _, _⟩ | ⟨e, _⟩
  · exact hP.stop hl
  · omega
theorem Rq.done {w wr : World} {g n u j nn : Nat} {bs : List (List Int)} {v : Value} {p : List Int} (h : Rq w wr g n u j nn bs v p) (hj : ¬ j < nn) : rdOne g n (bs.drop u) = some (p, nn) := by
  rcases h.st with ⟨e, _⟩ | ⟨_, e⟩
  · exact absurd e hj
  · exact e
set_option maxRecDepth 100000 in
set_option maxHeartbeats 16000000 in
theorem record_d (r M Z g h u n : Nat) (bs : List (List Int)) (w : World) (hM : M ≤ 1024) (hh : h ≤ 1) (hZ : h * M = Z) (hg : g < 4294967296) (hn : n < 4294967296) (hu : u ≤ M) (hbs : bs.length = M ∧ ∀ l ∈ bs, Byt l ∧ l.length = 64)
    (HH : Hid (∀ w', Below w.heap.size w w' → Calls Try.prog 35 #[.pointer (some ⟨r, 0, none⟩)] w' fun e w2 => e = .returned (.int .i64 (M : Nat)) ∧ w' = w2))
    (HR : Hid (∀ (k : Nat) (l : List Int), bs[k]? = some l → ∀ w', Below w.heap.size w w' → Calls Try.prog 50 #[.pointer (some ⟨r, 0, none⟩), .int .i64 (1 + (Z : Int) + (k : Int))] w' fun e w2 => ∃ k cap, e = .returned (.tuple #[.slice (some ⟨k, 0, none⟩) 64 cap, .int .i64 0]) ∧ 64 ≤ cap ∧ OwnB w2 w'.heap.size (.slice (some ⟨k, 0, none⟩) 64 cap) l ∧ (k < w2.heap.size ∧ ∀ i x, l[i]? = some x → w2.cell? ⟨k, i, none⟩ = some (.int .u8 x)) ∧ Below w'.heap.size w' w2)) :
    Calls Try.prog 56 #[.pointer (some ⟨r, 0, none⟩), .int .i64 g, .int .i64 h, .int .i64 u, .int .i64 n] w fun e w' => RecR w w' e (rdOne g n (bs.drop u)) := by
  have hZ' : (h : Int) * (M : Int) = (Z : Int) := by rw [← hZ]; exact (Int.natCast_mul _ _).symm
  have hZ2 : Z ≤ M := by rw [← hZ]; exact Nat.le_trans (Nat.mul_le_mul_right M hh) (by omega)
  have HB : Hid ((bs.length = M ∧ ∀ l ∈ bs, Byt l ∧ l.length = 64) ∧ g < 4294967296 ∧ n < 4294967296) := ⟨hbs, hg, hn⟩
  clear hbs hZ
  go_enter Try.func56, Try.ntmps56
  go_wp2
  go_loopw [12, 13, 14] (fun rv nv kv wr => ∃ (j nn : Nat) (v : Value), rv = v ∧ nv = .int .i64 nn ∧ kv = .int .i64 j ∧ j ≤ nn ∧ nn ≤ 8 ∧ Hid (∃ p, Rq w wr g n u j nn bs v p)) (fun _ _ kv _ => 9 - (RowKit.intOf kv).toNat)
  case atStart => exact ⟨0, 1, _, rfl, rfl, rfl, by omega, by omega, [], OwnB.nil _ _, Below.refl _ _, Nat.le_refl _, .inl ⟨by omega, 0, Part.start _ _ _ _, fun _ => rfl, fun h => absurd h (by omega)⟩⟩
  case round =>
    obtain ⟨j, nn, v, hv, rfl, rfl, hjn, hn8, HI⟩ := hrel
    replace hv := hv.symm
    subst hv
    obtain ⟨p, hp⟩ := HI.out
    have HP : Hid (Rq w wr g n u j nn bs v p) := hp
    clear hp HI
    by_cases hlt : j < nn
    · have hlt' : (j : Int) < (nn : Int) := by omega
      have HJ : Hid (Calls Try.prog 35 #[.pointer (some ⟨r, 0, none⟩)] wr fun e w2 => e = .returned (.int .i64 (M : Nat)) ∧ wr = w2) := HH.out wr HP.out.bel
      by_cases hin : u + j < M
      · have hin' : ¬ (M : Int) ≤ (u : Int) + (j : Int) := by omega
        obtain ⟨l, hl⟩ : ∃ l, bs[u + j]? = some l := ⟨_, List.getElem?_eq_getElem (by rw [HB.out.1.1]; exact hin)⟩
        have HL : Hid (bs[u + j]? = some l ∧ Byt l ∧ l.length = 64) := ⟨hl, HB.out.1.2 l (List.mem_of_getElem? hl)⟩
        have HQ : Hid (Calls Try.prog 50 #[.pointer (some ⟨r, 0, none⟩), .int .i64 (1 + (Z : Int) + (u : Int) + (j : Int))] wr fun e w2 => ∃ k cap, e = .returned (.tuple #[.slice (some ⟨k, 0, none⟩) 64 cap, .int .i64 0]) ∧ 64 ≤ cap ∧ OwnB w2 wr.heap.size (.slice (some ⟨k, 0, none⟩) 64 cap) l ∧ (k < w2.heap.size ∧ ∀ i x, l[i]? = some x → w2.cell? ⟨k, i, none⟩ = some (.int .u8 x)) ∧ Below wr.heap.size wr w2) := by
          have := HR.out (u + j) l hl wr HP.out.bel
          have e : (1 + (Z : Int) + ((u + j : Nat) : Int)) = 1 + (Z : Int) + (u : Int) + (j : Int) := by omega
          rw [e] at this
          exact this
        obtain ⟨A, hA⟩ : ∃ A, le4 (l.drop 0) = A := ⟨_, rfl⟩
        obtain ⟨N, hN⟩ : ∃ A, le4 (l.drop 4) = A := ⟨_, rfl⟩
        obtain ⟨X, hX⟩ : ∃ X, gB l 8 = X := ⟨_, rfl⟩
        obtain ⟨C, hC⟩ : ∃ X, gB l 9 = X := ⟨_, rfl⟩
        obtain ⟨S, hS⟩ : ∃ X, gB l 10 = X := ⟨_, rfl⟩
        have hA2 : A < 4294967296 := by rw [← hA]; exact le4_lt (byt_drop HL.out.2.1 0)
        have hN2 : N < 4294967296 := by rw [← hN]; exact le4_lt (byt_drop HL.out.2.1 4)
        have hX2 : X < 256 := by rw [← hX]; exact gB_lt HL.out.2.1 8
        have hC2 : C < 256 := by rw [← hC]; exact gB_lt HL.out.2.1 9
        have hS2 : S < 256 := by rw [← hS]; exact gB_lt HL.out.2.1 10
        have HG : Hid (le4 (l.drop 0) = A ∧ le4 (l.drop 4) = N ∧ gB l 8 = X ∧ gB l 9 = C ∧ gB l 10 = S) := ⟨hA, hN, hX, hC, hS⟩
        clear hl hA hN hX hC hS
        by_cases hj0 : j = 0
        · subst hj0
          have HQ0 : Hid (Calls Try.prog 50 #[.pointer (some ⟨r, 0, none⟩), .int .i64 (1 + (Z : Int) + (u : Int))] wr fun e w2 => ∃ k cap, e = .returned (.tuple #[.slice (some ⟨k, 0, none⟩) 64 cap, .int .i64 0]) ∧ 64 ≤ cap ∧ OwnB w2 wr.heap.size (.slice (some ⟨k, 0, none⟩) 64 cap) l ∧ (k < w2.heap.size ∧ ∀ i x, l[i]? = some x → w2.cell? ⟨k, i, none⟩ = some (.int .u8 x)) ∧ Below wr.heap.size wr w2) := by
            have := HQ.out
            have e : (1 + (Z : Int) + (u : Int) + ((0 : Nat) : Int)) = 1 + (Z : Int) + (u : Int) := by omega
            rw [e] at this
            exact this
          clear HQ
          obtain ⟨D, hDC⟩ : ∃ D, C = D := ⟨_, rfl⟩
          have HD : Hid (D = if 0 = 0 then gB l 9 else nn) := by show D = _; rw [if_pos rfl, HG.out.2.2.2.1, hDC]
          go_upto_region 12 with (first
            | (go_at_call 35; refine HJ.out.mono ?_; rintro e w' ⟨rfl, rfl⟩)
            | (go_at_call 50; refine HQ0.out.mono ?_; rintro e w1 ⟨q, cap, rfl, hcap, ho, ⟨hk, hcl⟩, hb1⟩; have HO : Hid (OwnB w1 wr.heap.size (.slice (some ⟨q, 0, none⟩) 64 cap) l) := ho; have hcp2 : (8 : Int) ≤ (cap : Int) := (by omega); have hcp : ¬ (cap = 4) := (by omega); have hcp3 : (4 : Int) ≤ (cap : Int) := (by omega); have HC : Hid (q < w1.heap.size ∧ ∀ i, i < 64 → w1.cell? ⟨q, i, none⟩ = some (.int .u8 (gB l i : Nat))) := (⟨hk, fun i hi => (by have hq : l[i]? = some (l[i]'(by rw [HL.out.2.2]; exact hi)) := List.getElem?_eq_getElem _; rw [hcl i _ hq, gB_get hq (HL.out.2.1 _ (List.mem_of_getElem? hq)).1])⟩); have y9 := HC.out.2 9 (by omega); have y10 := HC.out.2 10 (by omega); rw [HG.out.2.2.2.1] at y9; rw [HG.out.2.2.2.2] at y10; clear hcl ho hk))
          have HX : Hid (Below w.heap.size w w1) := chainB HP.out.bel hb1
          by_cases b0 : ¬ (A = g)
          · have e0 : ((A : Int) != (g : Int)) = true := by simp; omega
            have HE : Hid (rdOne g n (bs.drop u) = none) := HP.out.fails hlt HL.out.1 HD.out (pc_no (by omega) HB.out.2.1 HB.out.2.2 fun h => b0 (by have := h.1; rw [HG.out.1] at this; omega))
            go_wp2_with (first
            | (go_at_call 65; have _q := hb3; refine (four_at HO.out HL.out.2.2 HL.out.2.1 4 4 (cap - 4) (by omega) (by omega) _ hb3).mono ?_; rintro e w4 ⟨rfl, hb4⟩; rw [HG.out.2.1]; have z8 := ((chainB hb3 hb4).cell (p := ⟨q, 8, none⟩) HC.out.1).trans (HC.out.2 8 (by omega)); have z9 := ((chainB hb3 hb4).cell (p := ⟨q, 9, none⟩) HC.out.1).trans (HC.out.2 9 (by omega)); rw [HG.out.2.2.1] at z8; rw [HG.out.2.2.2.1] at z9)
            | (go_at_call 65; refine (four_at HO.out HL.out.2.2 HL.out.2.1 0 4 cap (by omega) (by omega) _ (Below.refl _ _)).mono ?_; rintro e w3 ⟨rfl, hb3⟩; rw [HG.out.1]))
            go_ret2
            exact ⟨fun _ => rfl, fun p c e => by rw [HE.out] at e; (cases e), chainB HP.out.bel (chainB hb1 (hb3))⟩
          have e0 : ((A : Int) != (g : Int)) = false := by simp; omega
          by_cases b1 : ¬ (N = n)
          · have e1 : ((N : Int) != (n : Int)) = true := by simp; omega
            have HE : Hid (rdOne g n (bs.drop u) = none) := HP.out.fails hlt HL.out.1 HD.out (pc_no (by omega) HB.out.2.1 HB.out.2.2 fun h => b1 (by have := h.2.1; rw [HG.out.2.1] at this; omega))
            go_wp2_with (first
            | (go_at_call 65; have _q := hb3; refine (four_at HO.out HL.out.2.2 HL.out.2.1 4 4 (cap - 4) (by omega) (by omega) _ hb3).mono ?_; rintro e w4 ⟨rfl, hb4⟩; rw [HG.out.2.1]; have z8 := ((chainB hb3 hb4).cell (p := ⟨q, 8, none⟩) HC.out.1).trans (HC.out.2 8 (by omega)); have z9 := ((chainB hb3 hb4).cell (p := ⟨q, 9, none⟩) HC.out.1).trans (HC.out.2 9 (by omega)); rw [HG.out.2.2.1] at z8; rw [HG.out.2.2.2.1] at z9)
            | (go_at_call 65; refine (four_at HO.out HL.out.2.2 HL.out.2.1 0 4 cap (by omega) (by omega) _ (Below.refl _ _)).mono ?_; rintro e w3 ⟨rfl, hb3⟩; rw [HG.out.1]))
            go_ret2
            exact ⟨fun _ => rfl, fun p c e => by rw [HE.out] at e; (cases e), chainB HP.out.bel (chainB hb1 (chainB hb3 hb4))⟩
          have e1 : ((N : Int) != (n : Int)) = false := by simp; omega
          by_cases b2 : ¬ (X = 0)
          · have e2 : ((X : Int) != (0 : Int)) = true := by simp; omega
            have HE : Hid (rdOne g n (bs.drop u) = none) := HP.out.fails hlt HL.out.1 HD.out (pc_no (by omega) HB.out.2.1 HB.out.2.2 fun h => b2 (by have := h.2.2.1; rw [HG.out.2.2.1] at this; omega))
            go_wp2_with (first
            | (go_at_call 65; have _q := hb3; refine (four_at HO.out HL.out.2.2 HL.out.2.1 4 4 (cap - 4) (by omega) (by omega) _ hb3).mono ?_; rintro e w4 ⟨rfl, hb4⟩; rw [HG.out.2.1]; have z8 := ((chainB hb3 hb4).cell (p := ⟨q, 8, none⟩) HC.out.1).trans (HC.out.2 8 (by omega)); have z9 := ((chainB hb3 hb4).cell (p := ⟨q, 9, none⟩) HC.out.1).trans (HC.out.2 9 (by omega)); rw [HG.out.2.2.1] at z8; rw [HG.out.2.2.2.1] at z9)
            | (go_at_call 65; refine (four_at HO.out HL.out.2.2 HL.out.2.1 0 4 cap (by omega) (by omega) _ (Below.refl _ _)).mono ?_; rintro e w3 ⟨rfl, hb3⟩; rw [HG.out.1]))
            go_ret2
            exact ⟨fun _ => rfl, fun p c e => by rw [HE.out] at e; (cases e), chainB HP.out.bel (chainB hb1 (chainB hb3 hb4))⟩
          have e2 : ((X : Int) != (0 : Int)) = false := by simp; omega
          by_cases b3 : ¬ (1 ≤ C)
          · have e3 : ((C : Int) < 1) := by omega
            have HE : Hid (rdOne g n (bs.drop u) = none) := HP.out.fails hlt HL.out.1 HD.out (pc_no (by omega) HB.out.2.1 HB.out.2.2 fun h => b3 (by have := h.2.2.2.2.1; omega))
            go_wp2_with (first
            | (go_at_call 65; have _q := hb3; refine (four_at HO.out HL.out.2.2 HL.out.2.1 4 4 (cap - 4) (by omega) (by omega) _ hb3).mono ?_; rintro e w4 ⟨rfl, hb4⟩; rw [HG.out.2.1]; have z8 := ((chainB hb3 hb4).cell (p := ⟨q, 8, none⟩) HC.out.1).trans (HC.out.2 8 (by omega)); have z9 := ((chainB hb3 hb4).cell (p := ⟨q, 9, none⟩) HC.out.1).trans (HC.out.2 9 (by omega)); rw [HG.out.2.2.1] at z8; rw [HG.out.2.2.2.1] at z9)
            | (go_at_call 65; refine (four_at HO.out HL.out.2.2 HL.out.2.1 0 4 cap (by omega) (by omega) _ (Below.refl _ _)).mono ?_; rintro e w3 ⟨rfl, hb3⟩; rw [HG.out.1]))
            go_ret2
            exact ⟨fun _ => rfl, fun p c e => by rw [HE.out] at e; (cases e), chainB HP.out.bel (chainB hb1 (chainB hb3 hb4))⟩
          have e3 : ¬ ((C : Int) < 1) := by omega
          by_cases b4 : ¬ (C ≤ 8)
          · have e4 : ((8 : Int) < (C : Int)) := by omega
            have HE : Hid (rdOne g n (bs.drop u) = none) := HP.out.fails hlt HL.out.1 HD.out (pc_no (by omega) HB.out.2.1 HB.out.2.2 fun h => b4 (by have := h.2.2.2.2.2.1; omega))
            go_wp2_with (first
            | (go_at_call 65; have _q := hb3; refine (four_at HO.out HL.out.2.2 HL.out.2.1 4 4 (cap - 4) (by omega) (by omega) _ hb3).mono ?_; rintro e w4 ⟨rfl, hb4⟩; rw [HG.out.2.1]; have z8 := ((chainB hb3 hb4).cell (p := ⟨q, 8, none⟩) HC.out.1).trans (HC.out.2 8 (by omega)); have z9 := ((chainB hb3 hb4).cell (p := ⟨q, 9, none⟩) HC.out.1).trans (HC.out.2 9 (by omega)); rw [HG.out.2.2.1] at z8; rw [HG.out.2.2.2.1] at z9)
            | (go_at_call 65; refine (four_at HO.out HL.out.2.2 HL.out.2.1 0 4 cap (by omega) (by omega) _ (Below.refl _ _)).mono ?_; rintro e w3 ⟨rfl, hb3⟩; rw [HG.out.1]))
            go_ret2
            exact ⟨fun _ => rfl, fun p c e => by rw [HE.out] at e; (cases e), chainB HP.out.bel (chainB hb1 (chainB hb3 hb4))⟩
          have e4 : ¬ ((8 : Int) < (C : Int)) := by omega
          by_cases b5 : ¬ (1 ≤ S)
          · have e5 : ((S : Int) < 1) := by omega
            have HE : Hid (rdOne g n (bs.drop u) = none) := HP.out.fails hlt HL.out.1 HD.out (pc_no (by omega) HB.out.2.1 HB.out.2.2 fun h => b5 (by have := h.2.2.2.2.2.2.1; rw [HG.out.2.2.2.2] at this; omega))
            go_wp2_with (first
            | (go_at_call 65; have _q := hb3; refine (four_at HO.out HL.out.2.2 HL.out.2.1 4 4 (cap - 4) (by omega) (by omega) _ hb3).mono ?_; rintro e w4 ⟨rfl, hb4⟩; rw [HG.out.2.1]; have z8 := ((chainB hb3 hb4).cell (p := ⟨q, 8, none⟩) HC.out.1).trans (HC.out.2 8 (by omega)); have z9 := ((chainB hb3 hb4).cell (p := ⟨q, 9, none⟩) HC.out.1).trans (HC.out.2 9 (by omega)); rw [HG.out.2.2.1] at z8; rw [HG.out.2.2.2.1] at z9)
            | (go_at_call 65; refine (four_at HO.out HL.out.2.2 HL.out.2.1 0 4 cap (by omega) (by omega) _ (Below.refl _ _)).mono ?_; rintro e w3 ⟨rfl, hb3⟩; rw [HG.out.1]))
            go_ret2
            exact ⟨fun _ => rfl, fun p c e => by rw [HE.out] at e; (cases e), chainB HP.out.bel (chainB hb1 (chainB hb3 hb4))⟩
          have e5 : ¬ ((S : Int) < 1) := by omega
          by_cases b6 : ¬ (S ≤ 53)
          · have e6 : ((53 : Int) < (S : Int)) := by omega
            have HE : Hid (rdOne g n (bs.drop u) = none) := HP.out.fails hlt HL.out.1 HD.out (pc_no (by omega) HB.out.2.1 HB.out.2.2 fun h => b6 (by have := h.2.2.2.2.2.2.2.1; rw [HG.out.2.2.2.2] at this; omega))
            go_wp2_with (first
            | (go_at_call 65; have _q := hb3; refine (four_at HO.out HL.out.2.2 HL.out.2.1 4 4 (cap - 4) (by omega) (by omega) _ hb3).mono ?_; rintro e w4 ⟨rfl, hb4⟩; rw [HG.out.2.1]; have z8 := ((chainB hb3 hb4).cell (p := ⟨q, 8, none⟩) HC.out.1).trans (HC.out.2 8 (by omega)); have z9 := ((chainB hb3 hb4).cell (p := ⟨q, 9, none⟩) HC.out.1).trans (HC.out.2 9 (by omega)); rw [HG.out.2.2.1] at z8; rw [HG.out.2.2.2.1] at z9)
            | (go_at_call 65; refine (four_at HO.out HL.out.2.2 HL.out.2.1 0 4 cap (by omega) (by omega) _ (Below.refl _ _)).mono ?_; rintro e w3 ⟨rfl, hb3⟩; rw [HG.out.1]))
            go_ret2
            exact ⟨fun _ => rfl, fun p c e => by rw [HE.out] at e; (cases e), chainB HP.out.bel (chainB hb1 (chainB hb3 hb4))⟩
          have e6 : ¬ ((53 : Int) < (S : Int)) := by omega
          by_cases b8 : ¬ (0 + 1 < C → S = 53)
          · have e8 : (0 : Int) < (C : Int) - 1 := by omega
            have e9 : ((S : Int) != 53) = true := by simp; omega
            have HE : Hid (rdOne g n (bs.drop u) = none) := HP.out.fails hlt HL.out.1 HD.out (pc_no (by omega) HB.out.2.1 HB.out.2.2 fun h => b8 (by have := h.2.2.2.2.2.2.2.2; rw [HG.out.2.2.2.2] at this; omega))
            go_wp2_with (first
            | (go_at_call 65; have _q := hb3; refine (four_at HO.out HL.out.2.2 HL.out.2.1 4 4 (cap - 4) (by omega) (by omega) _ hb3).mono ?_; rintro e w4 ⟨rfl, hb4⟩; rw [HG.out.2.1]; have z8 := ((chainB hb3 hb4).cell (p := ⟨q, 8, none⟩) HC.out.1).trans (HC.out.2 8 (by omega)); have z9 := ((chainB hb3 hb4).cell (p := ⟨q, 9, none⟩) HC.out.1).trans (HC.out.2 9 (by omega)); rw [HG.out.2.2.1] at z8; rw [HG.out.2.2.2.1] at z9)
            | (go_at_call 65; refine (four_at HO.out HL.out.2.2 HL.out.2.1 0 4 cap (by omega) (by omega) _ (Below.refl _ _)).mono ?_; rintro e w3 ⟨rfl, hb3⟩; rw [HG.out.1]))
            go_ret2
            exact ⟨fun _ => rfl, fun p c e => by rw [HE.out] at e; (cases e), chainB HP.out.bel (chainB hb1 (chainB hb3 hb4))⟩
          have HY : Hid (pcIn g n 0 D l = (l.drop 11).take (gB l 10) ∧ pcIn g n 0 D l ≠ []) := pc_yes HL.out.2.1 HL.out.2.2 (by omega) ⟨by rw [HG.out.1]; omega, by rw [HG.out.2.1]; omega, by rw [HG.out.2.2.1]; omega, by rw [HG.out.2.2.2.1]; omega, by omega, by omega, by rw [HG.out.2.2.2.2]; omega, by rw [HG.out.2.2.2.2]; omega, by rw [HG.out.2.2.2.2]; omega⟩
          have hS53 : 1 ≤ S ∧ S ≤ 53 := by omega
          have f1 : (11 : Int) + (S : Int) ≤ (cap : Int) := by omega
          have f2 : (0 : Int) ≤ (11 : Int) + (S : Int) := by omega
          have f3 : (11 : Int) ≤ (11 : Int) + (S : Int) := by omega
          have HA : Hid (∀ W c', Below w1.heap.size w1 W → RB W (.slice (some ⟨q, 11, none⟩) S c') ((l.drop 11).take (gB l 10))) := fun W c' hW => by
            have := rb_part (OwnB.below HO.out hW) 11 S c' (by rw [HL.out.2.2]; omega)
            rw [HG.out.2.2.2.2]
            exact this
          by_cases b9 : 0 + 1 < C
          · have e8 : (0 : Int) < (C : Int) - 1 := by omega
            have e9 : ((S : Int) != 53) = false := by simp; omega
            go_wp2_with (first
              | (at_builtin; refine wpList_apy rfl _ _ rfl w.heap.size _ p rfl (HP.out.own.below (chainB hb1 (chainB hb3 hb4))) _ ((l.drop 11).take (gB l 10)) rfl (by simp [Act.eval]; exact HA.out _ _ (chainB hb3 hb4)) (by have := HP.out.len; rw [List.length_take, List.length_drop, HL.out.2.2]; omega) (chainB HP.out.bel (chainB hb1 (chainB hb3 hb4))).size ?_; intro v5 w5 ho5 hb5 _)
              | (first
            | (go_at_call 65; have _q := hb3; refine (four_at HO.out HL.out.2.2 HL.out.2.1 4 4 (cap - 4) (by omega) (by omega) _ hb3).mono ?_; rintro e w4 ⟨rfl, hb4⟩; rw [HG.out.2.1]; have z8 := ((chainB hb3 hb4).cell (p := ⟨q, 8, none⟩) HC.out.1).trans (HC.out.2 8 (by omega)); have z9 := ((chainB hb3 hb4).cell (p := ⟨q, 9, none⟩) HC.out.1).trans (HC.out.2 9 (by omega)); rw [HG.out.2.2.1] at z8; rw [HG.out.2.2.2.1] at z9)
            | (go_at_call 65; refine (four_at HO.out HL.out.2.2 HL.out.2.1 0 4 cap (by omega) (by omega) _ (Below.refl _ _)).mono ?_; rintro e w3 ⟨rfl, hb3⟩; rw [HG.out.1])))
            go_round
            case rel => exact ⟨0 + 1, C, v5, rfl, by first | rfl | rw [hDC], by go_num, by omega, by omega, _, HP.out.next hlt HL.out.1 (hDC ▸ HD.out) (hDC ▸ HY.out.1) (hDC ▸ HY.out.2) ho5 ((chainB HP.out.bel (chainB hb1 (chainB hb3 hb4))).trans hb5)⟩
            case measure => simp [RowKit.intOf] <;> omega
          · have e8 : ¬ (0 : Int) < (C : Int) - 1 := by omega
            go_wp2_with (first
              | (at_builtin; refine wpList_apy rfl _ _ rfl w.heap.size _ p rfl (HP.out.own.below (chainB hb1 (chainB hb3 hb4))) _ ((l.drop 11).take (gB l 10)) rfl (by simp [Act.eval]; exact HA.out _ _ (chainB hb3 hb4)) (by have := HP.out.len; rw [List.length_take, List.length_drop, HL.out.2.2]; omega) (chainB HP.out.bel (chainB hb1 (chainB hb3 hb4))).size ?_; intro v5 w5 ho5 hb5 _)
              | (first
            | (go_at_call 65; have _q := hb3; refine (four_at HO.out HL.out.2.2 HL.out.2.1 4 4 (cap - 4) (by omega) (by omega) _ hb3).mono ?_; rintro e w4 ⟨rfl, hb4⟩; rw [HG.out.2.1]; have z8 := ((chainB hb3 hb4).cell (p := ⟨q, 8, none⟩) HC.out.1).trans (HC.out.2 8 (by omega)); have z9 := ((chainB hb3 hb4).cell (p := ⟨q, 9, none⟩) HC.out.1).trans (HC.out.2 9 (by omega)); rw [HG.out.2.2.1] at z8; rw [HG.out.2.2.2.1] at z9)
            | (go_at_call 65; refine (four_at HO.out HL.out.2.2 HL.out.2.1 0 4 cap (by omega) (by omega) _ (Below.refl _ _)).mono ?_; rintro e w3 ⟨rfl, hb3⟩; rw [HG.out.1])))
            go_round
            case rel => exact ⟨0 + 1, C, v5, rfl, by first | rfl | rw [hDC], by go_num, by omega, by omega, _, HP.out.next hlt HL.out.1 (hDC ▸ HD.out) (hDC ▸ HY.out.1) (hDC ▸ HY.out.2) ho5 ((chainB HP.out.bel (chainB hb1 (chainB hb3 hb4))).trans hb5)⟩
            case measure => simp [RowKit.intOf] <;> omega
        · obtain ⟨D, hDC⟩ : ∃ D, nn = D := ⟨_, rfl⟩
          have HD : Hid (D = if j = 0 then gB l 9 else nn) := by show D = _; rw [if_neg hj0, hDC]
          have e00 : ((j : Int) == 0) = false := by simp; omega
          go_upto_region 12 with (first
            | (go_at_call 35; refine HJ.out.mono ?_; rintro e w' ⟨rfl, rfl⟩)
            | (go_at_call 50; refine HQ.out.mono ?_; rintro e w1 ⟨q, cap, rfl, hcap, ho, ⟨hk, hcl⟩, hb1⟩; have HO : Hid (OwnB w1 wr.heap.size (.slice (some ⟨q, 0, none⟩) 64 cap) l) := ho; have hcp2 : (8 : Int) ≤ (cap : Int) := (by omega); have hcp : ¬ (cap = 4) := (by omega); have hcp3 : (4 : Int) ≤ (cap : Int) := (by omega); have HC : Hid (q < w1.heap.size ∧ ∀ i, i < 64 → w1.cell? ⟨q, i, none⟩ = some (.int .u8 (gB l i : Nat))) := (⟨hk, fun i hi => (by have hq : l[i]? = some (l[i]'(by rw [HL.out.2.2]; exact hi)) := List.getElem?_eq_getElem _; rw [hcl i _ hq, gB_get hq (HL.out.2.1 _ (List.mem_of_getElem? hq)).1])⟩); have y9 := HC.out.2 9 (by omega); have y10 := HC.out.2 10 (by omega); rw [HG.out.2.2.2.1] at y9; rw [HG.out.2.2.2.2] at y10; clear hcl ho hk))
          have HX : Hid (Below w.heap.size w w1) := chainB HP.out.bel hb1
          by_cases b0 : ¬ (A = g)
          · have e0 : ((A : Int) != (g : Int)) = true := by simp; omega
            have HE : Hid (rdOne g n (bs.drop u) = none) := HP.out.fails hlt HL.out.1 HD.out (pc_no (by omega) HB.out.2.1 HB.out.2.2 fun h => b0 (by have := h.1; rw [HG.out.1] at this; omega))
            go_wp2_with (first
            | (go_at_call 65; have _q := hb3; refine (four_at HO.out HL.out.2.2 HL.out.2.1 4 4 (cap - 4) (by omega) (by omega) _ hb3).mono ?_; rintro e w4 ⟨rfl, hb4⟩; rw [HG.out.2.1]; have z8 := ((chainB hb3 hb4).cell (p := ⟨q, 8, none⟩) HC.out.1).trans (HC.out.2 8 (by omega)); have z9 := ((chainB hb3 hb4).cell (p := ⟨q, 9, none⟩) HC.out.1).trans (HC.out.2 9 (by omega)); rw [HG.out.2.2.1] at z8; rw [HG.out.2.2.2.1] at z9)
            | (go_at_call 65; refine (four_at HO.out HL.out.2.2 HL.out.2.1 0 4 cap (by omega) (by omega) _ (Below.refl _ _)).mono ?_; rintro e w3 ⟨rfl, hb3⟩; rw [HG.out.1]))
            go_ret2
            exact ⟨fun _ => rfl, fun p c e => by rw [HE.out] at e; (cases e), chainB HP.out.bel (chainB hb1 (hb3))⟩
          have e0 : ((A : Int) != (g : Int)) = false := by simp; omega
          by_cases b1 : ¬ (N = n)
          · have e1 : ((N : Int) != (n : Int)) = true := by simp; omega
            have HE : Hid (rdOne g n (bs.drop u) = none) := HP.out.fails hlt HL.out.1 HD.out (pc_no (by omega) HB.out.2.1 HB.out.2.2 fun h => b1 (by have := h.2.1; rw [HG.out.2.1] at this; omega))
            go_wp2_with (first
            | (go_at_call 65; have _q := hb3; refine (four_at HO.out HL.out.2.2 HL.out.2.1 4 4 (cap - 4) (by omega) (by omega) _ hb3).mono ?_; rintro e w4 ⟨rfl, hb4⟩; rw [HG.out.2.1]; have z8 := ((chainB hb3 hb4).cell (p := ⟨q, 8, none⟩) HC.out.1).trans (HC.out.2 8 (by omega)); have z9 := ((chainB hb3 hb4).cell (p := ⟨q, 9, none⟩) HC.out.1).trans (HC.out.2 9 (by omega)); rw [HG.out.2.2.1] at z8; rw [HG.out.2.2.2.1] at z9)
            | (go_at_call 65; refine (four_at HO.out HL.out.2.2 HL.out.2.1 0 4 cap (by omega) (by omega) _ (Below.refl _ _)).mono ?_; rintro e w3 ⟨rfl, hb3⟩; rw [HG.out.1]))
            go_ret2
            exact ⟨fun _ => rfl, fun p c e => by rw [HE.out] at e; (cases e), chainB HP.out.bel (chainB hb1 (chainB hb3 hb4))⟩
          have e1 : ((N : Int) != (n : Int)) = false := by simp; omega
          by_cases b2 : ¬ (X = j)
          · have e2 : ((X : Int) != (j : Int)) = true := by simp; omega
            have HE : Hid (rdOne g n (bs.drop u) = none) := HP.out.fails hlt HL.out.1 HD.out (pc_no (by omega) HB.out.2.1 HB.out.2.2 fun h => b2 (by have := h.2.2.1; rw [HG.out.2.2.1] at this; omega))
            go_wp2_with (first
            | (go_at_call 65; have _q := hb3; refine (four_at HO.out HL.out.2.2 HL.out.2.1 4 4 (cap - 4) (by omega) (by omega) _ hb3).mono ?_; rintro e w4 ⟨rfl, hb4⟩; rw [HG.out.2.1]; have z8 := ((chainB hb3 hb4).cell (p := ⟨q, 8, none⟩) HC.out.1).trans (HC.out.2 8 (by omega)); have z9 := ((chainB hb3 hb4).cell (p := ⟨q, 9, none⟩) HC.out.1).trans (HC.out.2 9 (by omega)); rw [HG.out.2.2.1] at z8; rw [HG.out.2.2.2.1] at z9)
            | (go_at_call 65; refine (four_at HO.out HL.out.2.2 HL.out.2.1 0 4 cap (by omega) (by omega) _ (Below.refl _ _)).mono ?_; rintro e w3 ⟨rfl, hb3⟩; rw [HG.out.1]))
            go_ret2
            exact ⟨fun _ => rfl, fun p c e => by rw [HE.out] at e; (cases e), chainB HP.out.bel (chainB hb1 (chainB hb3 hb4))⟩
          have e2 : ((X : Int) != (j : Int)) = false := by simp; omega
          by_cases b3 : ¬ (C = nn)
          · have e3 : ((C : Int) != (nn : Int)) = true := by simp; omega
            have HE : Hid (rdOne g n (bs.drop u) = none) := HP.out.fails hlt HL.out.1 HD.out (pc_no (by omega) HB.out.2.1 HB.out.2.2 fun h => b3 (by have := h.2.2.2.1; rw [HG.out.2.2.2.1] at this; omega))
            go_wp2_with (first
            | (go_at_call 65; have _q := hb3; refine (four_at HO.out HL.out.2.2 HL.out.2.1 4 4 (cap - 4) (by omega) (by omega) _ hb3).mono ?_; rintro e w4 ⟨rfl, hb4⟩; rw [HG.out.2.1]; have z8 := ((chainB hb3 hb4).cell (p := ⟨q, 8, none⟩) HC.out.1).trans (HC.out.2 8 (by omega)); have z9 := ((chainB hb3 hb4).cell (p := ⟨q, 9, none⟩) HC.out.1).trans (HC.out.2 9 (by omega)); rw [HG.out.2.2.1] at z8; rw [HG.out.2.2.2.1] at z9)
            | (go_at_call 65; refine (four_at HO.out HL.out.2.2 HL.out.2.1 0 4 cap (by omega) (by omega) _ (Below.refl _ _)).mono ?_; rintro e w3 ⟨rfl, hb3⟩; rw [HG.out.1]))
            go_ret2
            exact ⟨fun _ => rfl, fun p c e => by rw [HE.out] at e; (cases e), chainB HP.out.bel (chainB hb1 (chainB hb3 hb4))⟩
          have e3 : ((C : Int) != (nn : Int)) = false := by simp; omega
          have e4 : ¬ ((nn : Int) < 1) := by omega
          have e5 : ¬ ((8 : Int) < (nn : Int)) := by omega
          by_cases b6 : ¬ (1 ≤ S)
          · have e6 : ((S : Int) < 1) := by omega
            have HE : Hid (rdOne g n (bs.drop u) = none) := HP.out.fails hlt HL.out.1 HD.out (pc_no (by omega) HB.out.2.1 HB.out.2.2 fun h => b6 (by have := h.2.2.2.2.2.2.1; rw [HG.out.2.2.2.2] at this; omega))
            go_wp2_with (first
            | (go_at_call 65; have _q := hb3; refine (four_at HO.out HL.out.2.2 HL.out.2.1 4 4 (cap - 4) (by omega) (by omega) _ hb3).mono ?_; rintro e w4 ⟨rfl, hb4⟩; rw [HG.out.2.1]; have z8 := ((chainB hb3 hb4).cell (p := ⟨q, 8, none⟩) HC.out.1).trans (HC.out.2 8 (by omega)); have z9 := ((chainB hb3 hb4).cell (p := ⟨q, 9, none⟩) HC.out.1).trans (HC.out.2 9 (by omega)); rw [HG.out.2.2.1] at z8; rw [HG.out.2.2.2.1] at z9)
            | (go_at_call 65; refine (four_at HO.out HL.out.2.2 HL.out.2.1 0 4 cap (by omega) (by omega) _ (Below.refl _ _)).mono ?_; rintro e w3 ⟨rfl, hb3⟩; rw [HG.out.1]))
            go_ret2
            exact ⟨fun _ => rfl, fun p c e => by rw [HE.out] at e; (cases e), chainB HP.out.bel (chainB hb1 (chainB hb3 hb4))⟩
          have e6 : ¬ ((S : Int) < 1) := by omega
          by_cases b7 : ¬ (S ≤ 53)
          · have e7 : ((53 : Int) < (S : Int)) := by omega
            have HE : Hid (rdOne g n (bs.drop u) = none) := HP.out.fails hlt HL.out.1 HD.out (pc_no (by omega) HB.out.2.1 HB.out.2.2 fun h => b7 (by have := h.2.2.2.2.2.2.2.1; rw [HG.out.2.2.2.2] at this; omega))
            go_wp2_with (first
            | (go_at_call 65; have _q := hb3; refine (four_at HO.out HL.out.2.2 HL.out.2.1 4 4 (cap - 4) (by omega) (by omega) _ hb3).mono ?_; rintro e w4 ⟨rfl, hb4⟩; rw [HG.out.2.1]; have z8 := ((chainB hb3 hb4).cell (p := ⟨q, 8, none⟩) HC.out.1).trans (HC.out.2 8 (by omega)); have z9 := ((chainB hb3 hb4).cell (p := ⟨q, 9, none⟩) HC.out.1).trans (HC.out.2 9 (by omega)); rw [HG.out.2.2.1] at z8; rw [HG.out.2.2.2.1] at z9)
            | (go_at_call 65; refine (four_at HO.out HL.out.2.2 HL.out.2.1 0 4 cap (by omega) (by omega) _ (Below.refl _ _)).mono ?_; rintro e w3 ⟨rfl, hb3⟩; rw [HG.out.1]))
            go_ret2
            exact ⟨fun _ => rfl, fun p c e => by rw [HE.out] at e; (cases e), chainB HP.out.bel (chainB hb1 (chainB hb3 hb4))⟩
          have e7 : ¬ ((53 : Int) < (S : Int)) := by omega
          by_cases b8 : ¬ (j + 1 < nn → S = 53)
          · have e8 : (j : Int) < (nn : Int) - 1 := by omega
            have e9 : ((S : Int) != 53) = true := by simp; omega
            have HE : Hid (rdOne g n (bs.drop u) = none) := HP.out.fails hlt HL.out.1 HD.out (pc_no (by omega) HB.out.2.1 HB.out.2.2 fun h => b8 (by have := h.2.2.2.2.2.2.2.2; rw [HG.out.2.2.2.2] at this; omega))
            go_wp2_with (first
            | (go_at_call 65; have _q := hb3; refine (four_at HO.out HL.out.2.2 HL.out.2.1 4 4 (cap - 4) (by omega) (by omega) _ hb3).mono ?_; rintro e w4 ⟨rfl, hb4⟩; rw [HG.out.2.1]; have z8 := ((chainB hb3 hb4).cell (p := ⟨q, 8, none⟩) HC.out.1).trans (HC.out.2 8 (by omega)); have z9 := ((chainB hb3 hb4).cell (p := ⟨q, 9, none⟩) HC.out.1).trans (HC.out.2 9 (by omega)); rw [HG.out.2.2.1] at z8; rw [HG.out.2.2.2.1] at z9)
            | (go_at_call 65; refine (four_at HO.out HL.out.2.2 HL.out.2.1 0 4 cap (by omega) (by omega) _ (Below.refl _ _)).mono ?_; rintro e w3 ⟨rfl, hb3⟩; rw [HG.out.1]))
            go_ret2
            exact ⟨fun _ => rfl, fun p c e => by rw [HE.out] at e; (cases e), chainB HP.out.bel (chainB hb1 (chainB hb3 hb4))⟩
          have HY : Hid (pcIn g n j D l = (l.drop 11).take (gB l 10) ∧ pcIn g n j D l ≠ []) := pc_yes HL.out.2.1 HL.out.2.2 (by omega) ⟨by rw [HG.out.1]; omega, by rw [HG.out.2.1]; omega, by rw [HG.out.2.2.1]; omega, by rw [HG.out.2.2.2.1]; omega, by omega, by omega, by rw [HG.out.2.2.2.2]; omega, by rw [HG.out.2.2.2.2]; omega, by rw [HG.out.2.2.2.2]; omega⟩
          have hS53 : 1 ≤ S ∧ S ≤ 53 := by omega
          have f1 : (11 : Int) + (S : Int) ≤ (cap : Int) := by omega
          have f2 : (0 : Int) ≤ (11 : Int) + (S : Int) := by omega
          have f3 : (11 : Int) ≤ (11 : Int) + (S : Int) := by omega
          have HA : Hid (∀ W c', Below w1.heap.size w1 W → RB W (.slice (some ⟨q, 11, none⟩) S c') ((l.drop 11).take (gB l 10))) := fun W c' hW => by
            have := rb_part (OwnB.below HO.out hW) 11 S c' (by rw [HL.out.2.2]; omega)
            rw [HG.out.2.2.2.2]
            exact this
          by_cases b9 : j + 1 < nn
          · have e8 : (j : Int) < (nn : Int) - 1 := by omega
            have e9 : ((S : Int) != 53) = false := by simp; omega
            go_wp2_with (first
              | (at_builtin; refine wpList_apy rfl _ _ rfl w.heap.size _ p rfl (HP.out.own.below (chainB hb1 (chainB hb3 hb4))) _ ((l.drop 11).take (gB l 10)) rfl (by simp [Act.eval]; exact HA.out _ _ (chainB hb3 hb4)) (by have := HP.out.len; rw [List.length_take, List.length_drop, HL.out.2.2]; omega) (chainB HP.out.bel (chainB hb1 (chainB hb3 hb4))).size ?_; intro v5 w5 ho5 hb5 _)
              | (first
            | (go_at_call 65; have _q := hb3; refine (four_at HO.out HL.out.2.2 HL.out.2.1 4 4 (cap - 4) (by omega) (by omega) _ hb3).mono ?_; rintro e w4 ⟨rfl, hb4⟩; rw [HG.out.2.1]; have z8 := ((chainB hb3 hb4).cell (p := ⟨q, 8, none⟩) HC.out.1).trans (HC.out.2 8 (by omega)); have z9 := ((chainB hb3 hb4).cell (p := ⟨q, 9, none⟩) HC.out.1).trans (HC.out.2 9 (by omega)); rw [HG.out.2.2.1] at z8; rw [HG.out.2.2.2.1] at z9)
            | (go_at_call 65; refine (four_at HO.out HL.out.2.2 HL.out.2.1 0 4 cap (by omega) (by omega) _ (Below.refl _ _)).mono ?_; rintro e w3 ⟨rfl, hb3⟩; rw [HG.out.1])))
            go_round
            case rel => exact ⟨j + 1, nn, v5, rfl, by first | rfl | rw [hDC], by go_num, by omega, by omega, _, HP.out.next hlt HL.out.1 (hDC ▸ HD.out) (hDC ▸ HY.out.1) (hDC ▸ HY.out.2) ho5 ((chainB HP.out.bel (chainB hb1 (chainB hb3 hb4))).trans hb5)⟩
            case measure => simp [RowKit.intOf] <;> omega
          · have e8 : ¬ (j : Int) < (nn : Int) - 1 := by omega
            go_wp2_with (first
              | (at_builtin; refine wpList_apy rfl _ _ rfl w.heap.size _ p rfl (HP.out.own.below (chainB hb1 (chainB hb3 hb4))) _ ((l.drop 11).take (gB l 10)) rfl (by simp [Act.eval]; exact HA.out _ _ (chainB hb3 hb4)) (by have := HP.out.len; rw [List.length_take, List.length_drop, HL.out.2.2]; omega) (chainB HP.out.bel (chainB hb1 (chainB hb3 hb4))).size ?_; intro v5 w5 ho5 hb5 _)
              | (first
            | (go_at_call 65; have _q := hb3; refine (four_at HO.out HL.out.2.2 HL.out.2.1 4 4 (cap - 4) (by omega) (by omega) _ hb3).mono ?_; rintro e w4 ⟨rfl, hb4⟩; rw [HG.out.2.1]; have z8 := ((chainB hb3 hb4).cell (p := ⟨q, 8, none⟩) HC.out.1).trans (HC.out.2 8 (by omega)); have z9 := ((chainB hb3 hb4).cell (p := ⟨q, 9, none⟩) HC.out.1).trans (HC.out.2 9 (by omega)); rw [HG.out.2.2.1] at z8; rw [HG.out.2.2.2.1] at z9)
            | (go_at_call 65; refine (four_at HO.out HL.out.2.2 HL.out.2.1 0 4 cap (by omega) (by omega) _ (Below.refl _ _)).mono ?_; rintro e w3 ⟨rfl, hb3⟩; rw [HG.out.1])))
            go_round
            case rel => exact ⟨j + 1, nn, v5, rfl, by first | rfl | rw [hDC], by go_num, by omega, by omega, _, HP.out.next hlt HL.out.1 (hDC ▸ HD.out) (hDC ▸ HY.out.1) (hDC ▸ HY.out.2) ho5 ((chainB HP.out.bel (chainB hb1 (chainB hb3 hb4))).trans hb5)⟩
            case measure => simp [RowKit.intOf] <;> omega
      · have hin' : (M : Int) ≤ (u : Int) + (j : Int) := by omega
        have HE : Hid (rdOne g n (bs.drop u) = none ∧ Below w.heap.size w wr) := ⟨HP.out.out hlt (List.getElem?_eq_none (by rw [HB.out.1.1]; omega)), HP.out.bel⟩
        go_wp2_with (go_at_call 35; refine HJ.out.mono ?_; rintro e w' ⟨rfl, rfl⟩)
        go_ret2
        exact ⟨fun _ => rfl, fun p c e => by rw [HE.out.1] at e; (cases e), HE.out.2⟩
    · have hlt' : ¬ (j : Int) < (nn : Int) := by omega
      have HE : Hid (rdOne g n (bs.drop u) = some (p, nn) ∧ Below w.heap.size w wr ∧ OwnB wr w.heap.size v p) := ⟨HP.out.done hlt, HP.out.bel, HP.out.own⟩
      go_wp2
      go_ret2
      exact ⟨fun e => by rw [HE.out.1] at e; (cases e), fun p c e => by rw [HE.out.1] at e; cases e; exact ⟨v, rfl, HE.out.2.2⟩, HE.out.2.1⟩
end
end Go.Proofs.Ytajgaialnafdbaa
