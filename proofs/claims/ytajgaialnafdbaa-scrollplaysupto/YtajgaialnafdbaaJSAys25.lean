/- The document's own scroll: Format. -/
import Derived.Test.YtajgaialnafdbaaJSAys24
import Derived.Test.YtajgaialnafdbaaJSAys11
namespace Go.Proofs.Ytajgaialnafdbaa
section
open Go.RowKit Go.Lib

def Rf.fmtE (R : Rf) (cs : List (List Int)) : Int := if R.n < 3 then 1 else if nextG cs ≤ 1073741824 then R.rwE 0 64 else 60
def Rf.fmtA (R R' : Rf) (cs : List (List Int)) : Prop := if R.n < 3 then R' = R else if nextG cs ≤ 1073741824 then R.After R' 0 (hdrB (nextG cs) (nextH cs)) else R' = R
theorem nextG_lt {cs : List (List Int)} (hb : BytC cs) : nextG cs ≤ 4294967296 := by
  unfold nextG
  refine Nat.succ_le_of_lt (gmax_lt ?_ fun l hl => le4_lt (hb l (half_mem hl)))
  cases ho : hdrOf ((cs[0]?).getD []) with
  | none => decide
  | some p => obtain ⟨g, x⟩ := p; have := (hdrOf_some ho).2.1; show g < _; omega
set_option maxRecDepth 100000 in
set_option maxHeartbeats 1000000 in
theorem rformat_d (r : Nat) (R : Rf) (cs : List (List Int)) (w : World) (h : Bk R cs) (hr : IsRf w r R) (hz2 : -1 ≤ R.fz ∧ R.fz ≤ 9223372036854775807) (hbig : (R.did.length + 1) * 32 ≤ 140737488355328) :
    Calls Try.prog 19 #[.pointer (some ⟨r, 0, none⟩)] w fun e w' => e = .returned (.int .i64 (R.fmtE cs)) ∧ ∃ R', IsRf w' r R' ∧ R.fmtA R' cs ∧ Only (fun x => x = r ∨ R.v.ownBlock = some x) w w' ∧ (R'.v.ownBlock = R.v.ownBlock ∨ ∀ q, R'.v.ownBlock = some q → w.heap.size ≤ q) := by
  obtain ⟨c0, _⟩ := hr.cells
  have HR : Hid (IsRf w r R ∧ Bk R cs) := ⟨hr, h⟩
  have HZ : Hid ((-1 ≤ R.fz ∧ R.fz ≤ 9223372036854775807) ∧ (R.did.length + 1) * 32 ≤ 140737488355328) := ⟨hz2, hbig⟩
  have HX : Hid (Calls Try.prog 45 #[.pointer (some ⟨r, 0, none⟩)] w fun e w' => e = .returned (.tuple #[.int .i64 (nextG cs : Nat), .int .i64 (nextH cs : Nat)]) ∧ Below w.heap.size w w') := h.next hr
  have hG2 := nextG_lt h.byt
  unfold Rf.fmtE Rf.fmtA
  obtain ⟨N, hN⟩ : ∃ N, R.n = N := ⟨_, rfl⟩
  obtain ⟨G, hG⟩ : ∃ G, nextG cs = G := ⟨_, rfl⟩
  obtain ⟨Y, hY⟩ : ∃ Y, nextH cs = Y := ⟨_, rfl⟩
  have hN2 : N ≤ 1024 := by rw [← hN]; exact h.hi
  have HN : Hid (R.n = N) := hN
  rw [hN] at c0 ⊢
  rw [hG] at HX hG2 ⊢
  rw [hY] at HX ⊢
  clear h hr hz2 hbig hN hG hY
  by_cases b1 : N < 3
  · have e1 : decide ((N : Int) < 3) = true := decide_eq_true (by omega)
    rw [if_pos b1]
    simp only [if_pos b1]
    go_enter Try.func19, Try.ntmps19
    go_wp2
    go_ret
    exact ⟨rfl, R, HR.out.1, rfl, Only.refl _ _, .inl rfl⟩
  have e1 : decide ((N : Int) < 3) = false := decide_eq_false (by omega)
  rw [if_neg b1]
  simp only [if_neg b1]
  by_cases b2 : G ≤ 1073741824
  · have e2 : decide ((1073741824 : Int) < (G : Int)) = false := decide_eq_false (by omega)
    rw [if_pos b2]
    simp only [if_pos b2]
    go_enter Try.func19, Try.ntmps19
    go_wp2_with (first
      | (go_at_call 45; refine HX.out.mono ?_; rintro e w1 ⟨rfl, hb1⟩)
      | (go_at_call 46; refine (head_d G Y w1 (by omega)).mono ?_; rintro e w2 ⟨v2, rfl, ho2, hb2⟩; have HB2 : Hid (Below w.heap.size w w2) := chainB hb1 hb2)
      | (go_at_call 28; refine (rwrite_any r R 0 v2 _ _ w2 (HR.out.1.below HB2.out) ho2 (by rw [HN.out]; exact hN2) HZ.out.1 HZ.out.2).mono ?_; rintro e w3 ⟨rfl, R3, hR3, hA3, hO3, hv3⟩))
    go_ret
    rw [hdrB_len]
    refine ⟨rfl, R3, hR3, hA3, ?_, ?_⟩
    · exact (Only.of HB2.out).trans hO3
    · exact hv3.imp id fun hq q e => Nat.le_trans HB2.out.size (hq q e)
  · have e2 : decide ((1073741824 : Int) < (G : Int)) = true := decide_eq_true (by omega)
    rw [if_neg b2]
    simp only [if_neg b2]
    go_enter Try.func19, Try.ntmps19
    go_wp2_with (go_at_call 45; refine HX.out.mono ?_; rintro e w1 ⟨rfl, hb1⟩)
    go_ret
    exact ⟨rfl, R, HR.out.1.below hb1, rfl, Only.of hb1, .inl rfl⟩
end
section
open Go.RowKit Go.Lib

/-- the document's disk, j pieces laid -/
structure Ly (w wr : World) (r : Nat) (R0 : Rf) (T : Dsk) (N j : Nat) (R : Rf) : Prop where
  rf : IsRf wr r R
  sim : Sim T R
  n : R.n = N
  few : R.did.length ≤ R0.did.length + j
  only : Only (fun x => x = r ∨ R0.v.ownBlock = some x) w wr
  own : R.v.ownBlock = R0.v.ownBlock ∨ ∀ q, R.v.ownBlock = some q → w.heap.size ≤ q
theorem Ly.below {w wr w' : World} {r : Nat} {R0 : Rf} {T : Dsk} {N j : Nat} {R : Rf} (h : Ly w wr r R0 T N j R) (hb : Below wr.heap.size wr w') : Ly w w' r R0 T N j R :=
  ⟨h.rf.below hb, h.sim, h.n, h.few, h.only.trans (Only.of hb), h.own⟩
theorem Ly.write {w wr w' : World} {r : Nat} {R0 : Rf} {T : Dsk} {N j : Nat} {R R' : Rf} (h : Ly w wr r R0 T N j R) (i : Int) (l : List Int) (hR : IsRf w' r R') (hA : R.After R' i l) (hO : Only (fun x => x = r ∨ R.v.ownBlock = some x) wr w') (hv : R'.v.ownBlock = R.v.ownBlock ∨ ∀ q, R'.v.ownBlock = some q → wr.heap.size ≤ q) : Ly w w' r R0 (T.wr i l) N (j + 1) R' := by
  obtain ⟨a1, a2, a3⟩ := h.sim.write i l hA
  refine ⟨hR, a1, a2.trans h.n, by have := h.few; omega, ?_, ?_⟩
  · refine ⟨hO.os.trans h.only.os, hO.tape.trans h.only.tape, hO.output.trans h.only.output, Nat.le_trans h.only.size hO.size, fun k hk hn => ?_⟩
    rw [hO.block k (Nat.lt_of_lt_of_le hk h.only.size) ?_]
    · exact h.only.block k hk hn
    · rintro (e | e)
      · exact hn (.inl e)
      · rcases h.own with e2 | e2
        · exact hn (.inr (e2 ▸ e))
        · have := e2 k e; omega
  · rcases hv with e | e
    · rw [e]; exact h.own
    · exact .inr fun q hq => Nat.le_trans h.only.size (e q hq)
set_option maxRecDepth 100000 in
set_option maxHeartbeats 2000000 in
theorem lay_d (r : Nat) (R0 : Rf) (s : Dsk) (K : Int) (hok : s.ok K) (w : World) (N A Z g h u n C : Nat) (v : Value) (l : List Int) (h1 : 1 ≤ l.length) (h2 : l.length ≤ 424) (hC : nb l.length = C) (hg : g < 4294967296) (hn : n < 4294967296) (hh : h ≤ 1)
    (hZ : h * hS s.cs = Z) (hA : 1 + Z + u = A) (hu : u + C ≤ hS s.cs) (hN : 1 ≤ N) (hN2 : N ≤ 1024) (hbig : (R0.did.length + 9) * 32 ≤ 140737488355328)
    (HV : Hid (∀ w', Only (fun x => x = r ∨ R0.v.ownBlock = some x) w w' → RC w' v l)) (HI : Hid (Ly w w r R0 s N 0 R0)) :
    Calls Try.prog 41 #[.pointer (some ⟨r, 0, none⟩), .int .i64 g, .int .i64 h, .int .i64 u, .int .i64 n, v] w fun e w' => ∃ T R', T = layD s A g n C l C ∧ e = .returned (.int .i64 (pwE T.on)) ∧ Ly w w' r R0 T N C R' := by
  have hC1 : 1 ≤ C := by rw [← hC]; exact nb_pos h1
  have hC2 : C ≤ 8 := by rw [← hC]; exact nb_le h2
  have hcs : s.cs.length = N := by rw [HI.out.sim.n, HI.out.n]
  have hS' : hS s.cs = (N - 1) / 2 := by unfold hS; rw [hcs]
  obtain ⟨M, hM⟩ : ∃ M, hS s.cs = M := ⟨_, rfl⟩
  rw [hM] at hS' hu hZ
  have hZ' : (h : Int) * (M : Int) = (Z : Int) := by rw [← hZ]; exact (Int.natCast_mul _ _).symm
  have hZ2 : Z ≤ M := by rw [← hZ]; exact Nat.le_trans (Nat.mul_le_mul_right M hh) (by omega)
  have HC : Hid (s.cs.length = N ∧ nb l.length = C ∧ s.ok K) := ⟨hcs, hC, hok⟩
  have HB : Hid (∀ w' a c, Calls Try.prog 40 #[.slice a l.length c] w' fun e w2 => e = .returned (.int .i64 (C : Nat)) ∧ w' = w2) := fun w' a c => by
    have := rblocks_d a l.length c w' (by omega)
    rw [hC] at this
    exact this
  obtain ⟨a, cap, hv, _⟩ := HV.out w (Only.refl _ _)
  rw [hv] at HV ⊢
  obtain ⟨L, hL⟩ : ∃ L, l.length = L := ⟨_, rfl⟩
  have HL : Hid (l.length = L) := hL
  rw [hL] at HV HB h1 h2 ⊢
  have HS : Hid (M = (N - 1) / 2) := hS'
  have hMN : 1 + 2 * M ≤ N := by omega
  clear hok hC hM hZ hcs hv hL hS'
  go_enter Try.func41, Try.ntmps41
  go_wp2
  go_loopw [13] (fun k wr => ∃ j : Nat, j ≤ C ∧ k = .int .i64 j ∧ Hid (∃ R, Ly w wr r R0 (layD s A g n C l j) N j R) ∧ Hid (j = 0 ∨ (layD s A g n C l j).on = true)) (fun k _ => C - (RowKit.intOf k).toNat)
  case atStart => exact ⟨0, Nat.zero_le _, rfl, ⟨R0, HI.out⟩, .inl rfl⟩
  case round =>
    obtain ⟨j, hj, rfl, HJ, HO⟩ := hrel
    obtain ⟨R, hR⟩ := HJ.out
    have HR : Hid (Ly w wr r R0 (layD s A g n C l j) N j R) := hR
    clear hR HJ
    by_cases hjC : j < C
    · have hd : decide ((j : Int) < (C : Int)) = true := decide_eq_true (by omega)
      obtain ⟨T, hT⟩ : ∃ T, layD s A g n C l (j + 1) = T := ⟨_, rfl⟩
      have HT : Hid ((layD s A g n C l j).wr ((A + j : Nat) : Int) (pieceB g n j C (cutP l j)) = T) := hT
      have HT2 : Hid (layD s A g n C l (j + 1) = T) := hT
      obtain ⟨E, hE⟩ : ∃ E, R.rwE (1 + (Z : Int) + (u : Int) + (j : Int)) 64 = E := ⟨_, rfl⟩
      have HE : Hid (R.rwE (1 + (Z : Int) + (u : Int) + (j : Int)) 64 = E ∧ (1 + (Z : Int) + (u : Int) + (j : Int)) = ((A + j : Nat) : Int)) := ⟨hE, by omega⟩
      have hin : A + j < N := by omega
      have hEv : E = pwE T.on := by
        have e1 := HR.out.sim.wrE ((A + j : Nat) : Int) 64
        rw [wrE_in (by rw [layD_len, HC.out.1]; exact hin)] at e1
        rw [← hE, HE.out.2, ← e1, ← HT.out, wr_on (by rw [layD_len, HC.out.1]; exact hin) (pieceB_len (cutP_len _ _))]
        rfl
      clear hT hE
      have HH : Hid (Calls Try.prog 35 #[.pointer (some ⟨r, 0, none⟩)] wr fun e w' => e = .returned (.int .i64 (M : Nat)) ∧ wr = w') := by
        have := rhalf_d r R wr HR.out.rf (by rw [HR.out.n]; exact hN) (by rw [HR.out.n]; exact hN2)
        rw [HR.out.n, ← HS.out] at this
        exact this
      have HP : Hid (Calls Try.prog 61 #[.int .i64 g, .int .i64 n, .int .i64 j, .slice a L cap] wr fun e w' => ∃ v', e = .returned v' ∧ OwnB w' wr.heap.size v' (pieceB g n j C (cutP l j)) ∧ Below wr.heap.size wr w') := by
        have := piece_d g n j (.slice a L cap) l wr (HV.out wr HR.out.only) (by rw [HL.out]; exact h1) (by rw [HL.out]; exact h2) (by rw [HC.out.2.1]; exact hjC) hg hn
        rw [HC.out.2.1] at this
        exact this
      have HW : Hid (∀ v2 w2, OwnB w2 wr.heap.size v2 (pieceB g n j C (cutP l j)) → Below wr.heap.size wr w2 → Calls Try.prog 28 #[.pointer (some ⟨r, 0, none⟩), .int .i64 (1 + (Z : Int) + (u : Int) + (j : Int)), v2] w2 fun e w' => e = .returned (.int .i64 E) ∧ ∃ R', Ly w w' r R0 T N (j + 1) R') := by
        intro v2 w2 ho2 hb2
        have hR2 := HR.out.below hb2
        refine (rwrite_any r R (1 + (Z : Int) + (u : Int) + (j : Int)) v2 _ _ w2 hR2.rf ho2 (by rw [hR2.n]; exact hN2) hR2.sim.fzb (by have := hR2.few; omega)).mono ?_
        rintro e w3 ⟨rfl, R3, hR3, hA3, hO3, hv3⟩
        rw [pieceB_len (cutP_len _ _), HE.out.1]
        refine ⟨rfl, R3, ?_⟩
        have := hR2.write _ _ hR3 hA3 hO3 hv3
        rw [HE.out.2, HT.out] at this
        exact this
      cases hon : T.on with
      | true =>
        have hE0 : E = 0 := by rw [hEv, hon]; rfl
        subst hE0
        go_wp2_with (first
          | (go_at_call 40; refine (HB.out wr a cap).mono ?_; rintro e w' ⟨rfl, rfl⟩)
          | (go_at_call 35; refine HH.out.mono ?_; rintro e w' ⟨rfl, rfl⟩)
          | (go_at_call 61; refine HP.out.mono ?_; rintro e w2 ⟨v2, rfl, ho2, hb2⟩)
          | (go_at_call 28; refine (HW.out v2 w2 ho2 hb2).mono ?_; rintro e w3 ⟨rfl, R3, hL3⟩))
        go_round
        case rel => exact ⟨j + 1, by omega, by go_num, ⟨R3, by rw [HT2.out]; exact hL3⟩, .inr (by rw [HT2.out]; exact hon)⟩
        case measure => simp [RowKit.intOf]; omega
      | false =>
        have hE0 : E = 21 := by rw [hEv, hon]; rfl
        subst hE0
        go_wp2_with (first
          | (go_at_call 40; refine (HB.out wr a cap).mono ?_; rintro e w' ⟨rfl, rfl⟩)
          | (go_at_call 35; refine HH.out.mono ?_; rintro e w' ⟨rfl, rfl⟩)
          | (go_at_call 61; refine HP.out.mono ?_; rintro e w2 ⟨v2, rfl, ho2, hb2⟩)
          | (go_at_call 28; refine (HW.out v2 w2 ho2 hb2).mono ?_; rintro e w3 ⟨rfl, R3, hL3⟩))
        go_ret
        have hst := layD_stop HC.out.2.2 A g n C l (j := j + 1) (m := C) (by rw [HT2.out]; exact hon) (by omega)
        rw [HT2.out] at hst
        exact ⟨T, R3, hst.symm, by rw [hon]; rfl, hL3.rf, hL3.sim, hL3.n, by have := hL3.few; omega, hL3.only, hL3.own⟩
    · have hd : decide ((j : Int) < (C : Int)) = false := decide_eq_false (by omega)
      have hjc : j = C := by omega
      have HF : Hid ((layD s A g n C l C).on = true ∧ Ly w wr r R0 (layD s A g n C l C) N C R) := by
        refine ⟨?_, hjc ▸ HR.out⟩
        rcases HO.out with e | e
        · omega
        · exact hjc ▸ e
      go_wp2_with (go_at_call 40; refine (HB.out wr a cap).mono ?_; rintro e w' ⟨rfl, rfl⟩)
      go_ret
      exact ⟨_, R, rfl, by rw [HF.out.1]; rfl, HF.out.2⟩
end
section
open Go.RowKit Go.Lib

/-- the document's scroll in memory -/
def IsT (w : World) (q r G H u n : Nat) : Prop := w.heap[q]? = some (.cells #[.pointer (some ⟨r, 0, none⟩), .int .i64 G, .int .i64 H, .int .i64 u, .int .i64 n] 51 (0, 0))
theorem IsT.lt {w : World} {q r G H u n : Nat} (h : IsT w q r G H u n) : q < w.heap.size := (Array.getElem?_eq_some_iff.1 h).1
theorem IsT.below {w w' : World} {q r G H u n : Nat} (h : IsT w q r G H u n) (hb : Below w.heap.size w w') : IsT w' q r G H u n := (hb.block q h.lt).trans h
theorem IsT.only {S : Nat → Prop} {w w' : World} {q r G H u n : Nat} (h : IsT w q r G H u n) (ho : Only S w w') (hq : ¬ S q) : IsT w' q r G H u n := (ho.block q h.lt hq).trans h
theorem IsT.cells {w : World} {q r G H u n : Nat} (h : IsT w q r G H u n) : w.cell? ⟨q, 0, none⟩ = some (.pointer (some ⟨r, 0, none⟩)) ∧ w.cell? ⟨q, 1, none⟩ = some (.int .i64 G) ∧ w.cell? ⟨q, 2, none⟩ = some (.int .i64 H) ∧ w.cell? ⟨q, 3, none⟩ = some (.int .i64 u) ∧ w.cell? ⟨q, 4, none⟩ = some (.int .i64 n) :=
  ⟨by rw [cell_of h]; rfl, by rw [cell_of h]; rfl, by rw [cell_of h]; rfl, by rw [cell_of h]; rfl, by rw [cell_of h]; rfl⟩
theorem room_d (q r G H u n M : Nat) (w : World) (h : IsT w q r G H u n) (hM : M ≤ 1024) (hu : u ≤ M) (HH : Hid (∀ W, Below w.heap.size w W → Calls Try.prog 35 #[.pointer (some ⟨r, 0, none⟩)] W fun e w' => e = .returned (.int .i64 (M : Nat)) ∧ W = w')) :
    Calls Try.prog 22 #[.pointer (some ⟨q, 0, none⟩)] w fun e w' => e = .returned (.int .i64 ((M - u : Nat) : Int)) ∧ Below w.heap.size w w' := by
  obtain ⟨c0, _, _, c3, _⟩ := h.cells
  have e : ((M - u : Nat) : Int) = (M : Int) - (u : Int) := by omega
  rw [e]
  have hwr : IntKind.i64.wrap ((M : Int) - (u : Int)) = (M : Int) - (u : Int) := IntWalk.i64_in _ (by omega)
  clear h e
  go_enter Try.func22, Try.ntmps22
  go_upto_region 1 with fail
  go_region_law (go_simp; go_at_call 35; refine (HH.out _ (by first | exact Below.refl _ _ | exact (Below.refl _ _).drew)).mono ?_; rintro e w' ⟨rfl, rfl⟩)
  all_goals
    go_wp2
    go_ret
    exact ⟨by simp <;> rfl, by first | exact Below.refl _ _ | exact (Below.refl _ _).drew⟩
end
section
open Go.RowKit Go.Lib

/-- what record asks of a block -/
def isPc (g n k c : Nat) (l : List Int) : Prop := le4 (l.drop 0) = g ∧ le4 (l.drop 4) = n ∧ gB l 8 = k ∧ gB l 9 = c ∧ 1 ≤ c ∧ c ≤ 8 ∧ 1 ≤ gB l 10 ∧ gB l 10 ≤ 53 ∧ (k + 1 < c → gB l 10 = 53)
theorem head_eq {g n k c : Nat} {l : List Int} (hb : Byt l) (hl : l.length = 64) (h1 : le4 (l.drop 0) = g) (h2 : le4 (l.drop 4) = n) (h3 : gB l 8 = k) (h4 : gB l 9 = c) : l.take 10 = headL g n k c := by
  have b0 := gB_lt hb 0
  have b1 := gB_lt hb 1
  have b2 := gB_lt hb 2
  have b3 := gB_lt hb 3
  have b4 := gB_lt hb 4
  have b5 := gB_lt hb 5
  have b6 := gB_lt hb 6
  have b7 := gB_lt hb 7
  have b8 := gB_lt hb 8
  have b9 := gB_lt hb 9
  have e0 : le4 (l.drop 0) = gB l 0 + 256 * gB l 1 + 65536 * gB l 2 + 16777216 * gB l 3 := by unfold le4; simp only [gB_drop]
  have e4 : le4 (l.drop 4) = gB l 4 + 256 * gB l 5 + 65536 * gB l 6 + 16777216 * gB l 7 := by unfold le4; simp only [gB_drop]
  rw [e0] at h1
  rw [e4] at h2
  clear e0 e4
  apply List.ext_getElem
  · rw [List.length_take, hl, headL_len]; rfl
  · intro i hi hi2
    rw [List.getElem_take, gB_getE hb (by rw [List.length_take, hl] at hi; rw [hl]; omega)]
    rw [headL_len] at hi2
    match i, hi2 with
    | 0, _ => show (gB l 0 : Int) = ((g % 256 : Nat) : Int); omega
    | 1, _ => show (gB l 1 : Int) = ((g / 256 % 256 : Nat) : Int); omega
    | 2, _ => show (gB l 2 : Int) = ((g / 65536 % 256 : Nat) : Int); omega
    | 3, _ => show (gB l 3 : Int) = ((g / 16777216 % 256 : Nat) : Int); omega
    | 4, _ => show (gB l 4 : Int) = ((n % 256 : Nat) : Int); omega
    | 5, _ => show (gB l 5 : Int) = ((n / 256 % 256 : Nat) : Int); omega
    | 6, _ => show (gB l 6 : Int) = ((n / 65536 % 256 : Nat) : Int); omega
    | 7, _ => show (gB l 7 : Int) = ((n / 16777216 % 256 : Nat) : Int); omega
    | 8, _ => show (gB l 8 : Int) = ((k % 256 : Nat) : Int); omega
    | 9, _ => show (gB l 9 : Int) = ((c % 256 : Nat) : Int); omega
theorem pc_yes {g n k c : Nat} {l : List Int} (hb : Byt l) (hl : l.length = 64) (hk : k < c) (h : isPc g n k c l) : pcIn g n k c l = (l.drop 11).take (gB l 10) ∧ pcIn g n k c l ≠ [] := by
  obtain ⟨h1, h2, h3, h4, h5, h6, h7, h8, h9⟩ := h
  have e := pcIn_yes (b := l) ⟨h5, h6, head_eq hb hl h1 h2 h3 h4, h8, fun hx => by
    by_cases hq : k + 1 < c
    · have := h9 hq; omega
    · omega⟩
  refine ⟨e, ?_⟩
  rw [e]
  intro hn
  have := congrArg List.length hn
  rw [List.length_take, List.length_drop, hl] at this
  simp at this
  omega
theorem pc_no {g n k c : Nat} {l : List Int} (hk : k < 256) (hg : g < 4294967296) (hn : n < 4294967296) (h : ¬ isPc g n k c l) : pcIn g n k c l = [] := by
  by_cases hq : 1 ≤ c ∧ c ≤ 8 ∧ l.take 10 = headL g n k c ∧ gB l 10 ≤ 53 ∧ (gB l 10 < 53 → k + 1 = c)
  · rw [pcIn_yes hq]
    obtain ⟨q1, q2, q3, q4, q5⟩ := hq
    by_cases hz : gB l 10 = 0
    · rw [hz, List.take_zero]
    · obtain ⟨t1, t2, t3⟩ := take_head q3 hg
      refine absurd ⟨t1, ?_, by omega, by omega, q1, q2, by omega, q4, fun hx => by
        by_cases h53 : gB l 10 < 53
        · have := q5 h53; omega
        · omega⟩ h
      have hgB : ∀ i, i < 10 → gB l i = gB (headL g n k c) i := fun i hi => by rw [← q3, gB_take hi]
      have e4 : le4 (l.drop 4) = gB l 4 + 256 * gB l 5 + 65536 * gB l 6 + 16777216 * gB l 7 := by unfold le4; simp only [gB_drop]
      have a4 : gB (headL g n k c) 4 = n % 256 := rfl
      have a5 : gB (headL g n k c) 5 = n / 256 % 256 := rfl
      have a6 : gB (headL g n k c) 6 = n / 65536 % 256 := rfl
      have a7 : gB (headL g n k c) 7 = n / 16777216 % 256 := rfl
      rw [e4, hgB 4 (by omega), hgB 5 (by omega), hgB 6 (by omega), hgB 7 (by omega), a4, a5, a6, a7]
      omega
  · exact pcIn_no hq
/-- part of a block's bytes -/
theorem rb_part {w : World} {base g c : Nat} {l : List Int} (h : OwnB w base (.slice (some ⟨g, 0, none⟩) 64 c) l) (o n c' : Nat) (hn : o + n ≤ l.length) : RB w (.slice (some ⟨g, o, none⟩) n c') ((l.drop o).take n) := by
  rcases h.form with ⟨e, _⟩ | ⟨g', c2, e, _, hg, _, hc, _⟩
  · cases e
  · obtain ⟨e1, _, _⟩ := Value.slice.inj e
    injection e1 with e1
    injection e1 with e1 _ _
    subst e1
    refine ⟨_, _, by rw [List.length_take, List.length_drop, Nat.min_eq_left (by omega)], .inr ⟨g, o, rfl, hg, fun i x hx => ?_⟩⟩
    rw [List.getElem?_take] at hx
    split at hx
    · rw [List.getElem?_drop] at hx
      exact hc (o + i) x hx
    · cases hx
end
end Go.Proofs.Ytajgaialnafdbaa
