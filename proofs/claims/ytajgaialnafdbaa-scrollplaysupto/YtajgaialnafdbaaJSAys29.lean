/- The document's own scroll: Turn. -/
import Derived.Test.YtajgaialnafdbaaJSAys28
namespace Go.Proofs.Ytajgaialnafdbaa
section
open Go.RowKit Go.Lib

/-- rows of bytes that stay, whatever is written elsewhere -/
def RrF (w : World) (S : Nat → Prop) (a : Option Addr) (L : List (List Int)) : Prop := ∀ (i : Nat) (l : List Int), L[i]? = some l → ∃ g off x, a = some ⟨g, off, none⟩ ∧ ∀ w', Only S w w' → w'.cell? ⟨g, off + i, none⟩ = some x ∧ RC w' x l
theorem RrF.rrl {w w' : World} {S : Nat → Prop} {a : Option Addr} {L : List (List Int)} (h : RrF w S a L) (hO : Only S w w') : RrL w' a L := fun i l hl => by
  obtain ⟨g, off, x, e, hx⟩ := h i l hl
  exact ⟨g, off, x, e, hx w' hO⟩
theorem Ly.only2 {w wq w' : World} {r N j : Nat} {R0 R1 : Rf} {T : Dsk} (h : Ly w wq r R0 T N j R1) (hO : Only (fun x => x = r ∨ R1.v.ownBlock = some x) wq w') : Only (fun x => x = r ∨ R0.v.ownBlock = some x) w w' := by
  refine ⟨hO.os.trans h.only.os, hO.tape.trans h.only.tape, hO.output.trans h.only.output, Nat.le_trans h.only.size hO.size, fun b hb hn => ?_⟩
  rw [hO.block b (Nat.lt_of_lt_of_le hb h.only.size) ?_]
  · exact h.only.block b hb hn
  · rintro (e | e)
    · exact hn (.inl e)
    · rcases h.own with e2 | e2
      · exact hn (.inr (e2 ▸ e))
      · have := e2 b e; omega
/-- what Turn leaves -/
def TuR (w w' : World) (q r N : Nat) (R0 : Rf) (s : Dsk) (G H u n : Nat) (L : List (List Int)) (e : Ending) : Prop :=
  ((∃ l ∈ L, ¬ okR l) ∧ e = .returned (.int .i64 61) ∧ Below w.heap.size w w') ∨
  ((∀ l ∈ L, okR l) ∧ hS s.cs < tot L ∧ e = .returned (.int .i64 2) ∧ Below w.heap.size w w') ∨
  ((∀ l ∈ L, okR l) ∧ tot L ≤ hS s.cs ∧ ¬ nextG s.cs ≤ 1073741824 ∧ e = .returned (.int .i64 60) ∧ Below w.heap.size w w') ∨
  ((∀ l ∈ L, okR l) ∧ tot L ≤ hS s.cs ∧ nextG s.cs ≤ 1073741824 ∧ ∃ T R', T = (laysD s (1 + nextH s.cs * hS s.cs) (nextG s.cs) 0 0 L).wr 0 (hdrB (nextG s.cs) (nextH s.cs)) ∧ e = .returned (.int .i64 (pwE T.on)) ∧ Dl w w' q r N R0 T (tot L + 1) R' ∧ (if T.on then IsT w' q r (nextG s.cs) (nextH s.cs) (tot L) L.length else IsT w' q r G H u n))
set_option maxRecDepth 100000 in
set_option maxHeartbeats 8000000 in
theorem turn_d (q r G H u n N : Nat) (R0 : Rf) (s : Dsk) (K : Int) (hok : s.ok K) (a : Option Addr) (cap m : Nat) (L : List (List Int)) (w : World) (ht : IsT w q r G H u n) (HI : Hid (Ly w w r R0 s N 0 R0)) (hbk : Bk R0 s.cs) (HV : Hid (RrF w (fun x => x = r ∨ R0.v.ownBlock = some x) a L)) (hm : L.length = m) (hL : m ≤ 1000) (hLl : ∀ l ∈ L, l.length ≤ 1000000) (hbig : (R0.did.length + 8010) * 32 ≤ 140737488355328) :
    Calls Try.prog 13 #[.pointer (some ⟨q, 0, none⟩), .slice a m cap] w fun e w' => TuR w w' q r N R0 s G H u n L e := by
  have HL : Hid (L.length = m ∧ (∀ l ∈ L, l.length ≤ 1000000)) := ⟨hm, hLl⟩
  have HTc : Hid (∀ W, Below w.heap.size w W → IsT W q r G H u n) := fun W hb => ht.below hb
  have H0 : Hid (Ly w w r R0 s N 0 R0 ∧ Bk R0 s.cs ∧ s.ok K ∧ (R0.did.length + 8010) * 32 ≤ 140737488355328 ∧ IsT w q r G H u n) := ⟨HI.out, hbk, hok, hbig, ht⟩
  clear hm hLl ht HI hbk hok hbig
  go_enter Try.func13, Try.ntmps13
  go_wp2
  go_loopw [5] (fun i wr => ∃ k : Nat, k ≤ m ∧ i = .int .i64 k ∧ w = wr ∧ ∀ j l, j < k → L[j]? = some l → okR l) (fun i _ => m - (RowKit.intOf i).toNat)
  case atStart => exact ⟨0, Nat.zero_le _, rfl, rfl, fun j l h => by omega⟩
  case round =>
    obtain ⟨k, hk, rfl, rfl, hokk⟩ := hrel
    have HOk : Hid (∀ j l, j < k → L[j]? = some l → okR l) := hokk
    clear hokk
    by_cases hlt : k < m
    · obtain ⟨l, hl⟩ : ∃ l, L[k]? = some l := ⟨_, List.getElem?_eq_getElem (by rw [HL.out.1]; omega)⟩
      obtain ⟨g', off, x, rfl, hx, hrc⟩ := HV.out.rrl (Only.refl _ _) k l hl
      obtain ⟨ax, cx, rfl, _⟩ := hrc
      have hkn : (k : Int) < (m : Int) := by omega
      have hW := rwrong_d ax l.length cx w
      have HLk : Hid (L[k]? = some l) := hl
      by_cases hg : 1 ≤ l.length ∧ l.length ≤ 424
      · rw [decide_eq_true hg] at hW
        have HW : Hid (Calls Try.prog 39 #[.slice ax l.length cx] w fun e w' => e = .returned (.bool false) ∧ w = w') := hW
        have HG : Hid (okR l) := hg
        clear hW hl hg
        go_wp2_with (go_at_call 39; refine HW.out.mono ?_; rintro e w3 ⟨rfl, rfl⟩)
        go_roundw
        case rel =>
          refine ⟨k + 1, by omega, by go_num, trivial, fun j l' hj hl' => ?_⟩
          by_cases e : j = k
          · subst e
            rw [HLk.out] at hl'
            cases hl'
            exact HG.out
          · exact HOk.out j l' (by omega) hl'
        case measure => simp [RowKit.intOf]; omega
      · rw [decide_eq_false hg] at hW
        have HW : Hid (Calls Try.prog 39 #[.slice ax l.length cx] w fun e w' => e = .returned (.bool true) ∧ w = w') := hW
        have HG : Hid (¬ okR l) := hg
        clear hW hl hg
        go_wp2_with (go_at_call 39; refine HW.out.mono ?_; rintro e w3 ⟨rfl, rfl⟩)
        go_ret
        exact .inl ⟨⟨l, List.mem_of_getElem? HLk.out, HG.out⟩, rfl, Below.refl _ _⟩
    · obtain rfl : m = k := by omega
      have hall : ∀ l ∈ L, okR l := fun l hl => by
        obtain ⟨i, hi, e⟩ := List.getElem_of_mem hl
        exact HOk.out i l (by rw [← HL.out.1]; exact hi) (by rw [List.getElem?_eq_getElem hi, e])
      have hTL : tot L ≤ 8000 := by
        have : ∀ ls : List (List Int), (∀ l ∈ ls, okR l) → tot ls ≤ 8 * ls.length := by
          intro ls
          induction ls with
          | nil => intro _; simp [tot_nil]
          | cons a ls ih =>
            intro hq
            have h2 := ih (fun l hl => hq l (by simp [hl]))
            have h3 := (nb_le424 (hq a (by simp))).2
            have : tot (a :: ls) = nb a.length + tot ls := by unfold tot; simp
            rw [this, List.length_cons]; omega
        have := this L hall
        rw [HL.out.1] at this
        omega
      have HAl : Hid ((∀ l ∈ L, okR l) ∧ tot L ≤ 8000) := ⟨hall, hTL⟩
      obtain ⟨PT, hPT⟩ : ∃ P, tot L = P := ⟨_, rfl⟩
      obtain ⟨M, hM⟩ : ∃ M, hS s.cs = M := ⟨_, rfl⟩
      have HPM : Hid (tot L = PT ∧ hS s.cs = M) := ⟨hPT, hM⟩
      have HP : Hid (∀ W, Below w.heap.size w W → Calls Try.prog 44 #[.slice a m cap] W fun e w' => e = .returned (.int .i64 (PT : Nat)) ∧ W = w') := fun W hb => by
        have := pieces_d a m cap L W (HV.out.rrl (Only.of hb)) HL.out.1 HAl.out.1 hL HAl.out.2
        rw [HPM.out.1] at this
        exact this
      have HH : Hid (∀ W, Below w.heap.size w W → Calls Try.prog 35 #[.pointer (some ⟨r, 0, none⟩)] W fun e w' => e = .returned (.int .i64 (M : Nat)) ∧ W = w') := fun W hb => by
        have := H0.out.2.1.half (H0.out.1.rf.below hb)
        rw [HPM.out.2] at this
        exact this
      obtain ⟨A, hA⟩ : ∃ A, nextG s.cs = A := ⟨_, rfl⟩
      obtain ⟨B, hB⟩ : ∃ B, nextH s.cs = B := ⟨_, rfl⟩
      have HAB : Hid (nextG s.cs = A ∧ nextH s.cs = B) := ⟨hA, hB⟩
      have HN : Hid (∀ W, Below w.heap.size w W → Calls Try.prog 45 #[.pointer (some ⟨r, 0, none⟩)] W fun e w' => e = .returned (.tuple #[.int .i64 (A : Nat), .int .i64 (B : Nat)]) ∧ Below W.heap.size W w') := fun W hb => by
        have := H0.out.2.1.next (H0.out.1.rf.below hb)
        rw [HAB.out.1, HAB.out.2] at this
        exact this
      clear hall hTL hlt hPT hM hA hB
      have hD : Below w.heap.size w w.drew := below_drewN (Below.refl _ _) 1
      have HD : Hid (Below w.heap.size w w.drew) := hD
      have f0 := (HTc.out _ hD).cells.1
      clear hD
      go_upto_region 6 with fail
      go_region_held3 (fun W => W.cell? ⟨q, 0, none⟩ = some (.pointer (some ⟨r, 0, none⟩)))
        (with_reducible first | exact f0)
        (first
          | (go_at_call 44; refine (HP.out _ HD.out).mono ?_; rintro e w3 ⟨rfl, rfl⟩)
          | (go_at_call 35; refine (HH.out _ HD.out).mono ?_; rintro e w3 ⟨rfl, rfl⟩)
          | fail)
      by_cases hf : M < PT
      · have hfz : (M : Int) < (PT : Int) := by omega
        clear f0
        go_wp2
        go_ret
        exact .inr (.inl ⟨HAl.out.1, by rw [HPM.out.1, HPM.out.2]; exact hf, rfl, HD.out⟩)
      · have hfz : ¬ (M : Int) < (PT : Int) := by omega
        go_upto_region 9 with (go_at_call 45; refine (HN.out _ HD.out).mono ?_; rintro e w3 ⟨rfl, hb3⟩; have HB3 : Hid (Below w.heap.size w w3) := chainB HD.out hb3; clear hb3)
        by_cases hx : A ≤ 1073741824
        · have hxz : ¬ (1073741824 : Int) < (A : Int) := by omega
          have HI3 : Hid (Ly w w3 r R0 (laysD s (1 + B * M) A 0 0 (L.take 0)) N (tot (L.take 0)) R0) := H0.out.1.below HB3.out
          clear f0 HP HH HN
          go_wp2
          obtain ⟨Z, hZ⟩ : ∃ Z, B * M = Z := ⟨_, rfl⟩
          obtain ⟨A0, hA0⟩ : ∃ A0, 1 + Z = A0 := ⟨_, rfl⟩
          have hB1 : B ≤ 1 := by have := nextH_le s.cs; rw [HAB.out.2] at this; exact this
          have hM2 : M ≤ 1024 := by rw [← HPM.out.2, H0.out.2.1.hs]; have := H0.out.2.1.hi; omega
          rw [hZ, hA0] at HI3
          have HZ : Hid (B * M = Z ∧ 1 + Z = A0 ∧ B ≤ 1 ∧ s.cs.length = N ∧ A ≤ 1073741824 ∧ PT ≤ M) := ⟨hZ, hA0, hB1, by rw [H0.out.2.1.len, H0.out.1.n], hx, by omega⟩
          clear hZ hA0 hx hf
          go_loopw [8, 9, 10] (fun s8 s9 _ wr => ∃ j : Nat, j ≤ m ∧ s9 = .int .i64 j ∧ s8 = .int .i64 (tot (L.take j) : Nat) ∧ Hid (∃ R1, Ly w wr r R0 (laysD s A0 A 0 0 (L.take j)) N (tot (L.take j)) R1) ∧ (j = 0 ∨ (laysD s A0 A 0 0 (L.take j)).on = true)) (fun _ s9 _ _ => m - (RowKit.intOf s9).toNat)
          case atStart => exact ⟨0, Nat.zero_le _, rfl, rfl, ⟨R0, HI3.out⟩, .inl rfl⟩
          case round =>
            clear HI3
            obtain ⟨j, hj, rfl, rfl, HJ, hon⟩ := hrel
            obtain ⟨R1, hL1⟩ := HJ.out
            have htS : IsT wr q r G H u n := sc_rf H0.out.2.2.2.2 H0.out.1.rf hL1.only
            have HJ1 : Hid (Ly w wr r R0 (laysD s A0 A 0 0 (L.take j)) N (tot (L.take j)) R1 ∧ IsT wr q r G H u n ∧ (j = 0 ∨ (laysD s A0 A 0 0 (L.take j)).on = true)) := ⟨hL1, htS, hon⟩
            have hDr : Below wr.heap.size wr wr.drew := below_drewN (Below.refl _ _) 1
            have HDr : Hid (Below wr.heap.size wr wr.drew) := hDr
            clear HJ hL1 hon
            by_cases hlt : j < m
            · obtain ⟨l, hl⟩ : ∃ l, L[j]? = some l := ⟨_, List.getElem?_eq_getElem (by rw [HL.out.1]; exact hlt)⟩
              obtain ⟨g', off, x, rfl, hxs⟩ := HV.out j l hl
              have hlb := HAl.out.1 l (List.mem_of_getElem? hl)
              obtain ⟨ax, cx, hxv, _⟩ := (hxs w (Only.refl _ _)).2
              subst hxv
              have hjm : (j : Int) < (m : Int) := by omega
              obtain ⟨P, hP⟩ : ∃ P, tot (L.take j) = P := ⟨_, rfl⟩
              obtain ⟨C, hC⟩ : ∃ C, nb l.length = C := ⟨_, rfl⟩
              obtain ⟨D, hD⟩ : ∃ D, laysD s A0 A 0 0 (L.take j) = D := ⟨_, rfl⟩
              have ht1 := tot_take hl
              have ht2 := tot_le L (j + 1)
              rw [hP, hC] at ht1
              rw [ht1, HPM.out.1] at ht2
              have hn2 := (nb_le424 hlb).2
              rw [hC] at hn2
              have hDok : D.ok (K + P) := by rw [← hD, ← hP]; exact laysD_ok H0.out.2.2.1 ..
              have hDl : D.cs.length = s.cs.length := by rw [← hD]; exact laysD_len ..
              have hDS : hS D.cs = M := by rw [← HPM.out.2]; unfold hS; rw [hDl]
              have hjl : (L.take j).length = j := by rw [List.length_take, HL.out.1]; omega
              have hstep : laysD s A0 A 0 0 (L.take (j + 1)) = layD D (A0 + P) A j C l C := by
                rw [take_snoc' hl, laysD_snoc, hD, hP, Nat.zero_add, Nat.zero_add, hjl, hC]
              obtain ⟨nl, hnl⟩ : ∃ n, l.length = n := ⟨_, rfl⟩
              have HLay : Hid (Calls Try.prog 41 #[.pointer (some ⟨r, 0, none⟩), .int .i64 A, .int .i64 B, .int .i64 P, .int .i64 j, .slice ax nl cx] wr.drew fun e w' => ∃ T R', T = laysD s A0 A 0 0 (L.take (j + 1)) ∧ e = .returned (.int .i64 (pwE T.on)) ∧ Ly w w' r R0 T N (P + C) R') := by
                have hly := HJ1.out.1
                rw [hD, hP] at hly
                have hly2 := hly.below HDr.out
                have := lay_d r R1 D (K + P) hDok wr.drew N (A0 + P) Z A B P j C (.slice ax l.length cx) l hlb.1 hlb.2 hC (by have := HZ.out.2.2.2.2.1; omega) (by omega) HZ.out.2.2.1 (by rw [hDS]; exact HZ.out.1) (by rw [← HZ.out.2.1]) (by rw [hDS]; have := HZ.out.2.2.2.2.2; omega) (by have := H0.out.2.1.lo; rw [H0.out.1.n] at this; exact this) (by have := H0.out.2.1.hi; rw [H0.out.1.n] at this; exact this) (by have := hly.few; have := H0.out.2.2.2.1; have := HAl.out.2; rw [HPM.out.1] at this; omega) (fun w' hO => (hxs w' (hly2.only2 hO)).2) hly2.again
                rw [hnl] at this
                refine this.mono ?_
                rintro e w' ⟨T, R', hT, he, hL2⟩
                exact ⟨T, R', hT.trans hstep.symm, he, hly2.trans hL2⟩
              have HBl : Hid (∀ W, Calls Try.prog 40 #[.slice ax nl cx] W fun e w' => e = .returned (.int .i64 (C : Nat)) ∧ W = w') := fun W => by
                have := rblocks_d ax nl cx W (by have := hlb.2; omega)
                rw [← hnl, hC] at this
                rw [← hnl]
                exact this
              have HXs : Hid (∀ w', Only (fun x => x = r ∨ R0.v.ownBlock = some x) w w' → w'.cell? ⟨g', off + j, none⟩ = some (.slice ax nl cx)) := fun w' hO => by rw [← hnl]; exact (hxs w' hO).1
              have HTt : Hid (tot (L.take (j + 1)) = P + C ∧ P + C ≤ PT) := ⟨ht1, ht2⟩
              have f0 : wr.drew.cell? ⟨q, 0, none⟩ = some (.pointer (some ⟨r, 0, none⟩)) ∧ wr.drew.cell? ⟨g', off + j, none⟩ = some (.slice ax nl cx) := ⟨(HJ1.out.2.1.below hDr).cells.1, HXs.out _ (HJ1.out.1.only.trans (Only.of hDr))⟩
              rw [hP]
              have hwP : IntKind.i64.wrap ((P : Int) + (C : Int)) = ((P + C : Nat) : Int) := by
                rw [show ((P + C : Nat) : Int) = (P : Int) + (C : Int) by omega]; exact IntWalk.i64_in _ (by omega)
              have hwj : IntKind.i64.wrap ((j : Int) + 1) = ((j + 1 : Nat) : Int) := by
                rw [show ((j + 1 : Nat) : Int) = (j : Int) + 1 by omega]; exact IntWalk.i64_in _ (by omega)
              clear hP hC hD hDok hDl hDS hjl hstep hnl ht1 ht2 hl hlb hxs hDr htS hn2
              go_upto_region 15 with fail
              go_region_held3 (fun W => W.cell? ⟨q, 0, none⟩ = some (.pointer (some ⟨r, 0, none⟩)) ∧ W.cell? ⟨g', off + j, none⟩ = some (.slice ax nl cx))
                (with_reducible first | exact f0 | exact f1)
                (first | (go_at_call 41; refine HLay.out.mono ?_; rintro e w5 ⟨T, R', hT, rfl, hL5⟩; obtain ⟨E, hE⟩ : ∃ E, pwE T.on = E := ⟨_, rfl⟩; rw [hE]; have H5 : Hid (T = laysD s A0 A 0 0 (L.take (j + 1)) ∧ pwE T.on = E ∧ Ly w w5 r R0 T N (P + C) R' ∧ IsT w5 q r G H u n) := ⟨hT, hE, hL5, sc_rf H0.out.2.2.2.2 H0.out.1.rf hL5.only⟩; have f1 : w5.cell? ⟨q, 0, none⟩ = some (.pointer (some ⟨r, 0, none⟩)) ∧ w5.cell? ⟨g', off + j, none⟩ = some (.slice ax nl cx) := ⟨H5.out.2.2.2.cells.1, HXs.out _ hL5.only⟩; clear hT hE hL5) | fail)
              cases hTo : T.on with
              | true =>
                have hE0 : E = 0 := by rw [← H5.out.2.1, hTo]; rfl
                subst hE0
                have HF : Hid (T.on = true) := hTo
                obtain ⟨f10, f11⟩ := f1
                clear f0 HLay
                go_wp2_with (go_at_call 40; refine (HBl.out _).mono ?_; rintro e w6 ⟨rfl, rfl⟩)
                go_roundw
                case rel => exact ⟨j + 1, by omega, by first | rfl | go_num, by rw [HTt.out.1, Int.natCast_add], ⟨R', by rw [HTt.out.1, ← H5.out.1]; exact H5.out.2.2.1⟩, .inr (by rw [← H5.out.1]; exact HF.out)⟩
                case measure => simp [RowKit.intOf]; omega
              | false =>
                have hE0 : E = 21 := by rw [← H5.out.2.1, hTo]; rfl
                subst hE0
                have HF : Hid (T.on = false) := hTo
                clear f0 f1 HLay
                go_wp2
                go_ret
                have hall : laysD s A0 A 0 0 L = T := by rw [H5.out.1]; exact laysD_stop H0.out.2.2.1 _ _ _ _ (by rw [← H5.out.1]; exact HF.out)
                have hdd : T.burns = false := by
                  have := (laysD_ok H0.out.2.2.1 A0 A 0 0 (L.take (j + 1))).dead
                  rw [← H5.out.1] at this
                  exact this HF.out
                have hw : T.wr 0 (hdrB A B) = T := wr_dead HF.out hdd _ _
                have hd := Dl.of (q := q) (Below.refl _ w) H5.out.2.2.1
                refine .inr (.inr (.inr ⟨HAl.out.1, by rw [HPM.out.1, HPM.out.2]; exact HZ.out.2.2.2.2.2, by rw [HAB.out.1]; exact HZ.out.2.2.2.2.1, T, R', ?_, by rw [HF.out]; rfl, ⟨hd.rf, hd.sim, hd.n, by have := hd.few; have := HTt.out.2; rw [HPM.out.1]; omega, hd.only, hd.own⟩, ?_⟩))
                · rw [HAB.out.1, HAB.out.2, HPM.out.2, HZ.out.1, HZ.out.2.1, hall, hw]
                · rw [HF.out]; exact H5.out.2.2.2
            · obtain rfl : m = j := by omega
              have hall : L.take m = L := List.take_of_length_le (by rw [HL.out.1]; exact Nat.le_refl _)
              have hly := HJ1.out.1
              rw [hall] at hly
              have hPm : tot (L.take m) = PT := by rw [hall]; exact HPM.out.1
              obtain ⟨D, hD⟩ : ∃ D, laysD s A0 A 0 0 L = D := ⟨_, rfl⟩
              rw [hD, HPM.out.1] at hly
              have hDl : D.cs.length = s.cs.length := by rw [← hD]; exact laysD_len ..
              have hlen1 : 1 ≤ s.cs.length := by rw [H0.out.2.1.len]; exact H0.out.2.1.lo
              have hE := wrE_in (s := D) (i := 0) (by omega)
              have hO := wr_on (s := D) (i := 0) (by omega) (hdrB_len A B)
              obtain ⟨T, hT⟩ : ∃ T, D.wr 0 (hdrB A B) = T := ⟨_, rfl⟩
              have hO : T.on = D.spend.on := by rw [← hT]; exact hO
              have hE : D.wrE 0 64 = pwE T.on := by rw [hO]; exact hE
              obtain ⟨E, hEE⟩ : ∃ E, pwE T.on = E := ⟨_, rfl⟩
              rw [hEE] at hE
              have HT : Hid (T = (laysD s A0 A 0 0 L).wr 0 (hdrB A B) ∧ pwE T.on = E) := ⟨by rw [hD]; exact hT.symm, hEE⟩
              have hwE : R1.rwE 0 64 = E := by rw [← hE]; exact (hly.sim.wrE 0 64).symm
              have HHd : Hid (Calls Try.prog 46 #[.int .i64 A, .int .i64 B] wr.drew fun e w' => ∃ v, e = .returned v ∧ OwnB w' wr.drew.heap.size v (hdrB A B) ∧ Below wr.drew.heap.size wr.drew w') := head_d A B wr.drew (by have := HZ.out.2.2.2.2.1; omega)
              have HWr : Hid (∀ v W, OwnB W wr.drew.heap.size v (hdrB A B) → Below wr.drew.heap.size wr.drew W → Calls Try.prog 28 #[.pointer (some ⟨r, 0, none⟩), .int .i64 0, v] W fun e w' => e = .returned (.int .i64 E) ∧ ∃ R', Ly w w' r R0 T N (PT + 1) R') := fun v W ho hb => by
                have hl2 := (hly.below HDr.out).below hb
                refine (rwrite_any r R1 0 v _ _ W hl2.rf ho (by rw [hl2.n]; have := H0.out.2.1.hi; rw [H0.out.1.n] at this; exact this) hl2.sim.fzb (by have := hly.few; have := H0.out.2.2.2.1; have := HAl.out.2; rw [HPM.out.1] at this; omega)).mono ?_
                rintro e w' ⟨rfl, R3, hR3, hA3, hO3, hv3⟩
                rw [hdrB_len, hwE]
                have := hl2.write _ _ hR3 hA3 hO3 hv3
                rw [hT] at this
                exact ⟨rfl, R3, this⟩
              have f0 : wr.drew.cell? ⟨q, 0, none⟩ = some (.pointer (some ⟨r, 0, none⟩)) := (HJ1.out.2.1.below hDr).cells.1
              have HQ : Hid (∀ W, Below wr.drew.heap.size wr.drew W → W.cell? ⟨q, 0, none⟩ = some (.pointer (some ⟨r, 0, none⟩))) := fun W hb => (HJ1.out.2.1.below (chainB HDr.out hb)).cells.1
              rw [hPm]
              clear hall hly hPm hD hDl hlen1 hE hO hT hEE hwE hlt hDr htS
              go_upto_region 19 with fail
              go_region_held3 (fun W => W.cell? ⟨q, 0, none⟩ = some (.pointer (some ⟨r, 0, none⟩)))
                (with_reducible first | exact f0 | exact f1 | exact f2)
                (first
                  | (go_at_call 28; refine (HWr.out _ _ H4.out.1 H4.out.2).mono ?_; rintro e w5 ⟨rfl, R', hL5⟩; have H5 : Hid (Ly w w5 r R0 T N (PT + 1) R' ∧ IsT w5 q r G H u n) := ⟨hL5, sc_rf H0.out.2.2.2.2 H0.out.1.rf hL5.only⟩; have f2 := H5.out.2.cells.1; clear hL5)
                  | (go_at_call 46; refine HHd.out.mono ?_; rintro e w4 ⟨v4, rfl, ho4, hb4⟩; have H4 : Hid (OwnB w4 wr.drew.heap.size v4 (hdrB A B) ∧ Below wr.drew.heap.size wr.drew w4) := ⟨ho4, hb4⟩; have f1 := HQ.out w4 hb4; clear ho4 hb4)
                  | fail)
              cases hTo : T.on with
              | true =>
                have hE0 : E = 0 := by rw [← HT.out.2, hTo]; rfl
                subst hE0
                have HF : Hid (T.on = true) := hTo
                obtain ⟨z0, z1, z2, z3, z4⟩ := H5.out.2.cells
                have zf := free_of H5.out.2
                have hO : Only (fun x => x = q) w5 ((((w5.setCell ⟨q, 1, none⟩ (.int .i64 A)).setCell ⟨q, 2, none⟩ (.int .i64 B)).setCell ⟨q, 3, none⟩ (.int .i64 PT)).setCell ⟨q, 4, none⟩ (.int .i64 m)) := (((only1 _ q 1 _).trans (only1 _ q 2 _)).trans (only1 _ q 3 _)).trans (only1 _ q 4 _)
                have HFi : Hid (Dl w ((((w5.setCell ⟨q, 1, none⟩ (.int .i64 A)).setCell ⟨q, 2, none⟩ (.int .i64 B)).setCell ⟨q, 3, none⟩ (.int .i64 PT)).setCell ⟨q, 4, none⟩ (.int .i64 m)) q r N R0 T (PT + 1) R' ∧ IsT ((((w5.setCell ⟨q, 1, none⟩ (.int .i64 A)).setCell ⟨q, 2, none⟩ (.int .i64 B)).setCell ⟨q, 3, none⟩ (.int .i64 PT)).setCell ⟨q, 4, none⟩ (.int .i64 m)) q r A B PT m) := ⟨(Dl.of (Below.refl _ w) H5.out.1).sc H5.out.2 hO, (heap_set (heap_set (heap_set (heap_set H5.out.2 1 _) 2 _) 3 _) 4 _).trans rfl⟩
                clear hO f0 f1 f2 hTo
                go_wp2
                go_ret
                refine .inr (.inr (.inr ⟨HAl.out.1, by rw [HPM.out.1, HPM.out.2]; exact HZ.out.2.2.2.2.2, by rw [HAB.out.1]; exact HZ.out.2.2.2.2.1, T, R', ?_, by rw [HF.out]; rfl, ?_, ?_⟩))
                · rw [HAB.out.1, HAB.out.2, HPM.out.2, HZ.out.1, HZ.out.2.1]; exact HT.out.1
                · rw [HPM.out.1]; exact HFi.out.1
                · rw [HF.out, HAB.out.1, HAB.out.2, HPM.out.1, HL.out.1]; exact HFi.out.2
              | false =>
                have hE0 : E = 21 := by rw [← HT.out.2, hTo]; rfl
                subst hE0
                have HF : Hid (T.on = false) := hTo
                clear f0 f1 f2 hTo
                go_wp2
                go_ret
                refine .inr (.inr (.inr ⟨HAl.out.1, by rw [HPM.out.1, HPM.out.2]; exact HZ.out.2.2.2.2.2, by rw [HAB.out.1]; exact HZ.out.2.2.2.2.1, T, R', ?_, by rw [HF.out]; rfl, ?_, ?_⟩))
                · rw [HAB.out.1, HAB.out.2, HPM.out.2, HZ.out.1, HZ.out.2.1]; exact HT.out.1
                · rw [HPM.out.1]; exact Dl.of (Below.refl _ w) H5.out.1
                · rw [HF.out]; exact H5.out.2
        · have hxz : (1073741824 : Int) < (A : Int) := by omega
          clear f0
          go_wp2
          go_ret
          exact .inr (.inr (.inl ⟨HAl.out.1, by rw [HPM.out.1, HPM.out.2]; omega, by rw [HAB.out.1]; exact hx, rfl, HB3.out⟩))
end
end Go.Proofs.Ytajgaialnafdbaa
