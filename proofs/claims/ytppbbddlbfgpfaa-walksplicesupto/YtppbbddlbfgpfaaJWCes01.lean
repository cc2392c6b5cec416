/- WalkSplices. -/
import Derived.Test.YtppbbddlbfgpfaaJWCes00
namespace Go.Proofs.Ytppbbddlbfgpfaa
section
open Go.RowKit
theorem ndGuardS (w : World) (op : BinOp) (p q : Operand) (n m : Nd) : (eqGuard op 31 p q n.agg m.agg).run Try.prog w = .ok () w := guardN w op p q _ _
theorem ouNdS {w : World} {g : Nat} {o : Ou} {uv : Value} (h : w.heap[g]? = some (.cells (ouVals o uv).toArray 34 (0, 0))) : w.cell? ⟨g, 0, none⟩ = some (.bool o.need) ∧ w.cell? ⟨g, 3, none⟩ = some (.int .i64 o.err) ∧ w.cell? ⟨g, 4, none⟩ = some (.int .i64 o.node.id) ∧ w.cell? ⟨g, 5, none⟩ = some (.int .i64 o.node.kind) ∧ w.cell? ⟨g, 6, none⟩ = some (.int .i64 o.node.mode) ∧ w.cell? ⟨g, 7, none⟩ = some (.string o.node.tg) ∧ w.cell? ⟨g, 8, none⟩ = some uv :=
  ⟨by rw [cell_of h]; rfl, by rw [cell_of h]; rfl, by rw [cell_of h]; rfl, by rw [cell_of h]; rfl, by rw [cell_of h]; rfl, by rw [cell_of h]; rfl, by rw [cell_of h]; rfl⟩
attribute [local go_sem ↓ high] loadEn storeEn storeOu builden
attribute [local go_sem high] eqN neqN guardN eqK neqK guardK

set_option maxRecDepth 100000 in
set_option maxHeartbeats 16000000 in
theorem walk_WalkSplices (a : Option Addr) (cap : Nat) (ops : List Opn) (ar : Option Addr) (R : List ByteArray) (capr : Nat) (which : Int) (w : World) (row : RowOps w a ops) (hlen : ops.length ≤ 1048576) (rowR : RowS w ar R) (hR : R.length ≤ capr ∧ R.length ≤ 1048576) (_ : (Lit.int .i64 which).wf = true) :
    Calls Try.prog 6 #[.slice a ops.length cap, .slice ar R.length capr, .int .i64 which] w fun x w' => x = .returned (.bool true) ∧ Below w.heap.size w w' := by
  have HFi : Hid (Calls Try.prog 7 #[.slice a ops.length cap] w fun e w' => FilR ops w w' e) := filled_p a cap ops w row (by omega)
  have HA : Hid (∀ w, Calls Try.prog 10 #[] w fun x w' => x = .returned (.bool true) ∧ Below w.heap.size w w') := awake14_p
  obtain ⟨n, hn⟩ : ∃ n, ops.length = n := ⟨_, rfl⟩
  obtain ⟨lr, hlr⟩ : ∃ n, R.length = n := ⟨_, rfl⟩
  have HRr : Hid (RowS w ar R ∧ R.length = lr ∧ lr ≤ capr ∧ lr ≤ 1048576) := ⟨rowR, hlr, by omega, by omega⟩
  rw [hn] at HFi ⊢
  rw [hlr]
  clear row hlen rowR hR hlr hn
  go_enter Try.func6, Try.ntmps6
  go_upto_region 4 with (go_at_call 7; refine HFi.out.mono ?_; rintro r w1 hF; obtain ⟨p, t, s, rfl, -, hfl⟩ := hF.fl; have H1 : Hid (Flw w w1 t s p ops.length) := hfl; clear hF hfl)
  obtain ⟨M, hM⟩ : ∃ M, listL s.es 1 = M := ⟨_, rfl⟩
  obtain ⟨m, hm⟩ : ∃ m, M.length = m := ⟨_, rfl⟩
  have hm47 : m ≤ 47 := by
    rw [← hm, ← hM]
    exact Nat.le_trans (listL_le _ _) H1.out.wf.len
  have HM : Hid (M.length = m ∧ (∀ e ∈ M, e ∈ s.es ∧ e.d = 1) ∧ WF Mn s.es s.next) := ⟨hm, fun e he => by rw [← hM] at he; exact listL_mem.1 he, H1.out.wf⟩
  have HLs : Hid (Calls Try.prog 18 #[.pointer (some ⟨t, 0, none⟩), .int .i64 1] w1 fun e w' => ∃ a c, e = .returned (.tuple #[.slice a m c, .int .i64 0]) ∧ Row7 w' w1.heap.size (.slice a m c) M ∧ Below w1.heap.size w1 w') := by
    have hd : dirE s.es 1 = 0 := by unfold dirE nodeE; simp [rootEn]
    refine (list_p t s 1 w1 (H1.out.law w1 (Below.refl _ _)).own.is).mono ?_
    rintro e w' ⟨v, rfl, hr, hb⟩
    rw [hd]
    unfold listR at hr
    rw [if_pos hd, hM] at hr
    obtain ⟨a, c, rfl⟩ := owns_len hr
    rw [hm] at hr ⊢
    exact ⟨a, c, rfl, hr, hb⟩
  have HLd : Hid (∀ W, Below w1.heap.size w1 W → Ld w W p (fillS s.es) 47 (TB t s)) := fun W hb => H1.out.ld W hb
  have HZb : Hid (∀ W, Below w1.heap.size w1 W → Below w.heap.size w W) := fun W hb => H1.out.below W hb
  clear hM hm
  go_wp2_with (go_at_call 18; refine HLs.out.mono ?_; rintro r w2 ⟨a2, c2, rfl, hr, hb⟩; have H2 : Hid (Row7 w2 w1.heap.size (.slice a2 m c2) M ∧ Below w1.heap.size w1 w2) := ⟨hr, hb⟩; clear hr hb)
  go_loopw [12, 13] (fun s12 s13 wr => ∃ (i f c : Nat) (au : Option Addr), i ≤ m ∧ s13 = .int .i64 (i : Int) ∧ s12 = .slice au f c ∧ Hid ((linkL (M.take i)).length = f ∧ Row7 wr w2.heap.size (.slice au f c) (linkL (M.take i)) ∧ Below w2.heap.size w2 wr)) (fun _ s13 _ => m - (intOf s13).toNat)
  case atStart => exact ⟨0, 0, 0, none, Nat.zero_le _, rfl, rfl, rfl, World.ownsRow_nil _ _ _ _, Below.refl _ _⟩
  case round =>
    obtain ⟨i, f, c, au, hi, rfl, rfl, HJ⟩ := hrel
    by_cases hlt : i < m
    · have hltz : (i : Int) < (m : Int) := by omega
      obtain ⟨e, he⟩ : ∃ e, M[i]? = some e := ⟨_, List.getElem?_eq_getElem (by rw [HM.out.1]; exact hlt)⟩
      obtain ⟨g, rfl, -, -, -, hc, -⟩ := owns_entry (H2.out.1.below HJ.out.2.2) he
      have c4 := hc.c4
      have lE := enLd_at hc
      have htk := linkL_take he
      have hw1 : IntKind.i64.wrap ((i : Int) + 1) = ((i + 1 : Nat) : Int) := by
        rw [show ((i + 1 : Nat) : Int) = (i : Int) + 1 by omega]; exact IntWalk.i64_in _ (by omega)
      by_cases hk : e.kind = 3
      · rw [hk] at c4
        rw [if_pos hk] at htk
        obtain ⟨a6, N6, c6, Z, r6, row6, o6⟩ := keep_moreS e HJ.out.2.1 HJ.out.2.2.size (by have := linkL_len (M.take i); rw [List.length_take] at this; omega)
        rw [← htk] at row6
        have hN : (linkL (M.take (i + 1))).length = N6 := by
          obtain ⟨_, _, e1⟩ := owns_len row6
          injection e1 with _ e2 _
          exact e2.symm
        have onee := enOne_of e wr
        have HJ2 : Hid ((linkL (M.take (i + 1))).length = N6 ∧ Row7 Z w2.heap.size (.slice a6 N6 c6) (linkL (M.take (i + 1))) ∧ Below w2.heap.size w2 Z) := ⟨hN, row6, o6.below HJ.out.2.2 HJ.out.2.2.size fun q hq => (World.ownsRow.lt HJ.out.2.1 q hq).1⟩
        clear he hc htk hk row6 o6 hN HJ
        go_wp2_with (at_builtin; refine wpList_apR rfl (.tmp 47) (.tmp 52) 48 rfl _ _ (.slice a6 N6 c6) Z (by simp [Act.eval]) (by simp [Act.eval]) r6 ?_)
        go_roundw
        case rel => exact ⟨i + 1, N6, c6, a6, by omega, rfl, rfl, HJ2.out⟩
        case measure => simp [intOf]; omega
      · have hkb : (e.kind == 3) = false := by simpa using hk
        rw [if_neg hk, List.append_nil] at htk
        have HJ2 : Hid ((linkL (M.take (i + 1))).length = f ∧ Row7 wr w2.heap.size (.slice au f c) (linkL (M.take (i + 1))) ∧ Below w2.heap.size w2 wr) := by rw [htk]; exact HJ.out
        clear he hc htk hk HJ
        go_wp2
        go_roundw
        case rel => exact ⟨i + 1, f, c, au, by omega, rfl, rfl, HJ2.out⟩
        case measure => simp [intOf]; omega
    · obtain rfl : i = m := by omega
      have hltz : ¬ (i : Int) < (i : Int) := by omega
      obtain ⟨FL, hFL⟩ : ∃ F, linkL M = F := ⟨_, rfl⟩
      have HF : Hid (FL.length = f ∧ Row7 wr w2.heap.size (.slice au f c) FL ∧ Below w2.heap.size w2 wr ∧ (∀ e ∈ FL, e ∈ s.es ∧ e.d = 1 ∧ e.kind = 3) ∧ f ≤ 47) := by
        have hj := HJ.out
        rw [List.take_of_length_le (by rw [HM.out.1]; exact Nat.le_refl _), hFL] at hj
        refine ⟨hj.1, hj.2.1, hj.2.2, fun e he => ?_, ?_⟩
        · rw [← hFL] at he
          have h1 := linkL_mem he
          have h2 := HM.out.2.1 e h1.1
          exact ⟨h2.1, h2.2, h1.2⟩
        · have := linkL_len M
          rw [hFL] at this
          have := HM.out.1
          omega
      have HB : Hid (Below w1.heap.size w1 wr) := chainB H2.out.2 HJ.out.2.2
      clear HJ hFL hlt hi
      by_cases hf0 : f = 0
      · subst hf0
        go_wp2_with (go_at_call 10; refine (HA.out _).mono ?_; rintro r wZ ⟨rfl, hb⟩; have HZ : Hid (Below w.heap.size w wZ) := HZb.out _ (chainB HB.out hb); clear hb)
        go_ret
        exact ⟨rfl, HZ.out⟩
      · have hfb : ((f : Int) == 0) = false := by simp; omega
        by_cases hr0 : lr = 0
        · subst hr0
          clear hf0
          go_wp2_with (go_at_call 10; refine (HA.out _).mono ?_; rintro r wZ ⟨rfl, hb⟩; have HZ : Hid (Below w.heap.size w wZ) := HZb.out _ (chainB HB.out hb); clear hb)
          go_ret
          exact ⟨rfl, HZ.out⟩
        · have hrb : ((lr : Int) == 0) = false := by simp; omega
          have hf47 : f ≤ 47 := HF.out.2.2.2.2
          obtain ⟨j, hj⟩ : ∃ j : Nat, placeV which f = (j : Int) := ⟨(placeV which f).toNat, by have := placeV_bd which f (by omega); omega⟩
          have hjf : j < f := by have := placeV_bd which f (by omega); omega
          have hjz : (j : Int) < (f : Int) := by omega
          have HPl : Hid (∀ W, Calls Try.prog 19 #[.int .i64 which, .int .i64 f] W fun x w' => x = .returned (.int .i64 j) ∧ W = w') := fun W => by
            refine (place_any which f W (by omega) (by omega)).mono ?_
            rintro x w' ⟨rfl, rfl⟩
            rw [hj]
            exact ⟨rfl, rfl⟩
          obtain ⟨e, he⟩ : ∃ e, FL[j]? = some e := ⟨_, List.getElem?_eq_getElem (by rw [HF.out.1]; exact hjf)⟩
          obtain ⟨g, rfl, -, -, -, hc, -⟩ := owns_entry HF.out.2.1 he
          have lE := enLd_at hc
          obtain ⟨V, hV⟩ : ∃ V, wr.alloc (.cells e.vals.toArray 42) = V := ⟨_, rfl⟩
          have bV := boxO hV
          have bx7 := box7 wr e
          rw [hV] at bx7
          obtain ⟨he1, he2, he3⟩ := HF.out.2.2.2.1 e (List.mem_of_getElem? he)
          have HE : Hid (e ∈ s.es ∧ e.d = 1 ∧ e.kind = 3 ∧ 0 < lr) := ⟨he1, he2, he3, by omega⟩
          have HV : Hid (Below w1.heap.size w1 V ∧ V.heap[wr.heap.size]? = some (.cells e.vals.toArray 42 (0, 0))) := ⟨chainB HB.out bV.2.1, bV.1⟩
          have v6 := (cells7_of bV.1).c6
          simp only [Nat.zero_add] at v6
          have htc : cutE e.tg (fullB e.tg) = 0 := by
            rcases (HM.out.2.2.ok e he1).2 with h | h
            · exact h.2
            · omega
          obtain ⟨TG, hTG⟩ : ∃ T, cutL e.tg (fullB e.tg) = T := ⟨_, rfl⟩
          obtain ⟨lt, hlt⟩ : ∃ l, TG.length = l := ⟨_, rfl⟩
          have hlt97 : lt ≤ 97 := by rw [← hlt, ← hTG]; exact cutL_len _ _
          have HTg : Hid (∀ W, Calls Try.prog 20 #[.string e.tg] W fun x w' => ∃ a c b1 b2, x = .returned (.tuple #[.slice a lt c, .bool b1, .bool b2, .int .i64 0]) ∧ Own w' W.heap.size (.slice a lt c) TG ∧ Below W.heap.size W w') := fun W => by
            refine (target_any e.tg W).mono ?_
            rintro x w' ⟨v, rfl, ho, hb⟩
            rw [htc]
            rw [hTG] at ho
            obtain ⟨a, c, rfl⟩ := owns_len ho
            rw [hlt] at ho ⊢
            exact ⟨a, c, _, _, rfl, ho, hb⟩
          -- the two outcomes
          obtain ⟨Q, hQ⟩ : ∃ Q, stepsO (knC (fillS s.es)) (TG ++ R) false true 4 = Q := ⟨_, rfl⟩
          have hP : stepsO (knC (fillS s.es)) (e.nm :: R) false true 5 = Q.pre [⟨1, e.nm⟩] := by
            rw [← hQ, ← hTG]
            unfold stepsO
            have hkn := kn_mem HM.out.2.2 he1
            rw [he2] at hkn
            exact goW_splice hkn (HM.out.2.2.neg e he1) he3 htc (chk_dot1 (HM.out.2.2.chk e he1)) (chk_dot2 (HM.out.2.2.chk e he1)) (by have := HRr.out.2.1; omega) 4
          obtain ⟨lq, hlq⟩ : ∃ l, Q.used.length = l := ⟨_, rfl⟩
          have hlqb : lq ≤ 1100000 := by
            rw [← hlq, ← hQ]
            unfold stepsO
            have h1 := goW_len (knC (fillS s.es)) true (linksN 4) (TG ++ R) (startW false)
            have h2 := linksN_le 4
            have e1 : (startW false).used.length = 0 := rfl
            have := HRr.out
            rw [List.length_append] at h1
            omega
          have HQ : Hid (stepsO (knC (fillS s.es)) (TG ++ R) false true 4 = Q ∧ stepsO (knC (fillS s.es)) (e.nm :: R) false true 5 = Q.pre [⟨1, e.nm⟩] ∧ Q.used.length = lq ∧ TG.length = lt) := ⟨hQ, hP, hlq, hlt⟩
          have hV1 := (cells7_of bV.1).c1
          simp only [Nat.zero_add] at hV1
          have HRa : Hid (∀ W, Below w1.heap.size w1 W → RowS W ar R) := fun W hb => HRr.out.1.below (HZb.out W hb)
          clear hj he hc he1 he2 he3 htc hTG hlt hQ hP hlq bV hf0 hr0
          go_upto_region 17 with (first
            | (go_at_call 20; refine (HTg.out _).mono ?_; rintro r w4 ⟨a4, c4, b1, b2, rfl, ho, hb⟩; have H4 : Hid (Own w4 V.heap.size (.slice a4 lt c4) TG ∧ Below V.heap.size V w4) := ⟨ho, hb⟩; have u1 := (hb.cell (cellLt hV1)).trans hV1; clear ho hb)
            | (go_at_call 19; refine (HPl.out _).mono ?_; rintro r w3 ⟨rfl, e9⟩; subst e9))
          obtain ⟨a5, c5, Z5, r5, o5, k5⟩ := ups_appB (W := w4.alloc (.cells #[.string e.nm] 9)) (cc := capr) (own_one w4 e.nm) rfl (HRa.out _ (chainB HV.out.1 (chainB H4.out.2 (below_alloc _ _)))) (below_alloc w4 (.cells #[.string e.nm] 9)).size (by have := HRr.out; simp only [List.length_cons, List.length_nil]; omega)
          rw [HRr.out.2.1] at r5 o5
          obtain ⟨l5, hl5⟩ : ∃ l, 1 + lr = l := ⟨_, rfl⟩
          rw [hl5] at r5 o5
          have b5 : Below w4.heap.size w4 Z5 := only_below (below_alloc w4 _) (below_alloc w4 _).size k5 (Nat.le_refl _)
          have HB4 : Hid (Below w1.heap.size w1 w4) := chainB HV.out.1 H4.out.2
          obtain ⟨lp, hlp⟩ : ∃ l, lq + 1 = l := ⟨_, rfl⟩
          have HS5 : Hid (Calls Try.prog 15 #[.pointer (some ⟨p, 0, none⟩), .slice none 0 0, .slice a5 l5 c5, .bool false, .bool true, .int .i64 5] Z5 fun r w' => ∃ a c, r = .returned (ouAgg (Q.pre [⟨1, e.nm⟩]) (.slice a lp c)) ∧ RowK w' Z5.heap.size (.slice a lp c) (⟨1, e.nm⟩ :: Q.used) ∧ Below Z5.heap.size Z5 w') := by
            refine (ld_steps (HLd.out Z5 (chainB HB4.out b5)) o5 (by have := HRr.out; omega) false true 5).mono ?_
            intro r w' hr
            rw [show ([e.nm] ++ R) = e.nm :: R from rfl, HQ.out.2.1] at hr
            have h5 := hr.fx
            have e1 : (Q.pre [⟨1, e.nm⟩]).used = ⟨1, e.nm⟩ :: Q.used := rfl
            have e2 : (Q.pre [⟨1, e.nm⟩]).used.length = lp := by rw [e1, List.length_cons, HQ.out.2.2.1]; exact hlp
            rw [e2, e1] at h5
            exact h5
          have HCt : Hid (∀ W, Below w4.heap.size w4 W → Calls Try.prog 17 #[.slice a4 lt c4] W fun e w' => ∃ aA cA, e = .returned (.slice aA lt cA) ∧ Own w' W.heap.size (.slice aA lt cA) TG ∧ Below W.heap.size W w') := fun W hb => by
            refine (copyT_any _ _ _ W (H4.out.1.below hb) (by rw [HQ.out.2.2.2]; omega)).mono ?_
            rintro e w' ⟨v', rfl, ho, hb'⟩
            obtain ⟨aA, cA, rfl⟩ := owns_len ho
            rw [HQ.out.2.2.2] at ho ⊢
            exact ⟨aA, cA, rfl, ho, hb'⟩
          obtain ⟨l7, hl7⟩ : ∃ l, lt + lr = l := ⟨_, rfl⟩
          have HAp : Hid (∀ W w6 aA cA, Below w4.heap.size w4 W → Below W.heap.size W w6 → Own w6 W.heap.size (.slice aA lt cA) TG → ∃ a7 c7 Z7, (∀ ty, (Builtin.append_ #[36, 36] ty #[.slice aA lt cA, .slice ar lr capr]).run Try.prog w6 = .ok (.slice a7 l7 c7) Z7) ∧ Own Z7 W.heap.size (.slice a7 l7 c7) (TG ++ R) ∧ Below W.heap.size W Z7) := fun W w6 aA cA h0 hb ho => by
            obtain ⟨a7, c7, Z7, r7, o7, k7⟩ := ups_appB (cc := capr) ho HQ.out.2.2.2 (HRa.out _ (chainB HB4.out (chainB h0 hb))) hb.size (by have := HRr.out; have := HQ.out.2.2.2; omega)
            rw [HRr.out.2.1, hl7] at r7 o7
            exact ⟨a7, c7, Z7, r7, o7, only_below hb hb.size k7 (Nat.le_refl _)⟩
          have HS7 : Hid (∀ W B a7 c7, Below w4.heap.size w4 W → Own W B (.slice a7 l7 c7) (TG ++ R) → Calls Try.prog 15 #[.pointer (some ⟨p, 0, none⟩), .slice none 0 0, .slice a7 l7 c7, .bool false, .bool true, .int .i64 4] W fun r w' => ∃ a c, r = .returned (ouAgg Q (.slice a lq c)) ∧ RowK w' W.heap.size (.slice a lq c) Q.used ∧ Below W.heap.size W w') := fun W B a7 c7 hb ho => by
            refine (ld_steps (HLd.out W (chainB HB4.out hb)) ho (by have := HRr.out; omega) false true 4).mono ?_
            intro r w' hr
            rw [HQ.out.1] at hr
            have h5 := hr.fx
            rw [HQ.out.2.2.1] at h5
            exact h5
          have Hb5 : Hid (Below w4.heap.size w4 Z5) := b5
          have HL : Hid (lq + 1 = lp ∧ 1 + lr = l5 ∧ lt + lr = l7) := ⟨hlp, hl5, hl7⟩
          have bx := box9
          clear o5 k5 b5 hlp hl5 hl7 hV1 v6 bx7 lE hV
          go_upto_region 19 with (first
            | (at_builtin; first
              | (with_reducible refine wpList_apR rfl (.tmp 91) (.tmp 92) 36 rfl _ _ (.slice a7 l7 c7) Z7 (by simp [Act.eval]) (by simp [Act.eval]) r7 ?_)
              | (with_reducible refine wpList_apR rfl (.tmp 85) (.tmp 86) 36 rfl _ _ (.slice a5 l5 c5) Z5 (by simp [Act.eval]) (by simp [Act.eval]) r5 ?_))
            | (go_at_call 17; refine (HCt.out V5 H5.out.2.2).mono ?_; rintro r w6 ⟨a6, c6, rfl, ho, hb⟩; obtain ⟨a7, c7, Z7, r7, o7, b7⟩ := HAp.out V5 w6 a6 c6 H5.out.2.2 hb ho; have H7 : Hid (Own Z7 V5.heap.size (.slice a7 l7 c7) (TG ++ R) ∧ Below V5.heap.size V5 Z7) := ⟨o7, b7⟩; clear ho hb o7 b7)
            | (go_at_call 15; first
              | ((with_reducible refine (HS7.out Z7 _ a7 c7 (chainB H5.out.2.2 H7.out.2) H7.out.1).mono ?_); rintro r w8 ⟨a8, c8, rfl, hr, hb⟩; obtain ⟨V8, hV8⟩ : ∃ V, w8.alloc (.cells (ouVals Q (.slice a8 lq c8)).toArray 34) = V := ⟨_, rfl⟩; have bV8 := boxO hV8; have H8 : Hid (V8.heap[w8.heap.size]? = some (.cells (ouVals Q (.slice a8 lq c8)).toArray 34 (0, 0)) ∧ RowK V8 Z7.heap.size (.slice a8 lq c8) Q.used ∧ Below V5.heap.size V5 V8) := ⟨bV8.1, hr.below bV8.2.1, chainB H7.out.2 (chainB hb bV8.2.1)⟩; clear hr hb bV8)
              | ((with_reducible refine HS5.out.mono ?_); rintro r w5 ⟨a9, c9, rfl, hr, hb⟩; obtain ⟨V5, hV5⟩ : ∃ V, w5.alloc (.cells (ouVals (Q.pre [⟨1, e.nm⟩]) (.slice a9 lp c9)).toArray 34) = V := ⟨_, rfl⟩; have bV5 := boxO hV5; have H5 : Hid (V5.heap[w5.heap.size]? = some (.cells (ouVals (Q.pre [⟨1, e.nm⟩]) (.slice a9 lp c9)).toArray 34 (0, 0)) ∧ RowK V5 Z5.heap.size (.slice a9 lp c9) (⟨1, e.nm⟩ :: Q.used) ∧ Below w4.heap.size w4 V5) := ⟨bV5.1, hr.below bV5.2.1, chainB Hb5.out (chainB hb bV5.2.1)⟩; clear hr hb bV5)))
          obtain ⟨qn, hqn⟩ : ∃ b, Q.need = b := ⟨_, rfl⟩
          obtain ⟨qe, hqe⟩ : ∃ b, Q.err = b := ⟨_, rfl⟩
          obtain ⟨n0, hn0⟩ : ∃ b, Q.node.id = b := ⟨_, rfl⟩
          obtain ⟨n1, hn1⟩ : ∃ b, Q.node.kind = b := ⟨_, rfl⟩
          obtain ⟨n2, hn2⟩ : ∃ b, Q.node.mode = b := ⟨_, rfl⟩
          obtain ⟨n3, hn3⟩ : ∃ b, Q.node.tg = b := ⟨_, rfl⟩
          obtain ⟨g9, hg9, -, -, -, -, -⟩ := RowK.key (i := 0) (p := ⟨1, e.nm⟩) H5.out.2.1 rfl
          subst hg9
          obtain ⟨nm, hnm⟩ : ∃ x, e.nm = x := ⟨_, rfl⟩
          have HX8 : Hid (∀ W, Below V8.heap.size V8 W → (((W.cell? ⟨w5.heap.size, 0, none⟩ = some (.bool qn) ∧ W.cell? ⟨w5.heap.size, 3, none⟩ = some (.int .i64 qe) ∧ W.cell? ⟨w5.heap.size, 4, none⟩ = some (.int .i64 n0) ∧ W.cell? ⟨w5.heap.size, 5, none⟩ = some (.int .i64 n1) ∧ W.cell? ⟨w5.heap.size, 6, none⟩ = some (.int .i64 n2) ∧ W.cell? ⟨w5.heap.size, 7, none⟩ = some (.string n3) ∧ W.cell? ⟨w5.heap.size, 8, none⟩ = some (.slice (some ⟨g9, 0, none⟩) lp c9)) ∧ (W.cell? ⟨w8.heap.size, 0, none⟩ = some (.bool qn) ∧ W.cell? ⟨w8.heap.size, 3, none⟩ = some (.int .i64 qe) ∧ W.cell? ⟨w8.heap.size, 4, none⟩ = some (.int .i64 n0) ∧ W.cell? ⟨w8.heap.size, 5, none⟩ = some (.int .i64 n1) ∧ W.cell? ⟨w8.heap.size, 6, none⟩ = some (.int .i64 n2) ∧ W.cell? ⟨w8.heap.size, 7, none⟩ = some (.string n3) ∧ W.cell? ⟨w8.heap.size, 8, none⟩ = some (.slice a8 lq c8))) ∧ (W.cell? ⟨g9, 0, none⟩ = some (.int .i64 1) ∧ W.cell? ⟨g9, 1, none⟩ = some (.string nm) ∧ W.cell? ⟨wr.heap.size, 0, none⟩ = some (.int .i64 1) ∧ W.cell? ⟨wr.heap.size, 1, none⟩ = some (.string nm)))) := fun W hb => by
            have q5 := ouNdS (hkeep (hkeep H5.out.1 H8.out.2.2) hb)
            have q8 := ouNdS (hkeep H8.out.1 hb)
            have qx := cells7_of (hkeep HV.out.2 (chainB H4.out.2 (chainB H5.out.2.2 (chainB H8.out.2.2 hb))))
            have x0 := qx.c0
            have x1 := qx.c1
            rw [HE.out.2.1] at x0
            rw [hnm] at x1
            simp only [Nat.zero_add] at x0 x1
            obtain ⟨g', hg', -, -, k0, k1, -⟩ := RowK.key (i := 0) (p := ⟨1, e.nm⟩) ((H5.out.2.1.below H8.out.2.2).below hb) rfl
            cases hg'
            rw [hnm] at k1
            have e1 : (Q.pre [⟨1, e.nm⟩]).need = Q.need := rfl
            have e2 : (Q.pre [⟨1, e.nm⟩]).err = Q.err := rfl
            have e3 : (Q.pre [⟨1, e.nm⟩]).node = Q.node := rfl
            rw [e1, e2, e3] at q5
            rw [hqn, hqe, hn0, hn1, hn2, hn3] at q5 q8
            exact ⟨⟨q5, q8⟩, k0, k1, x0, x1⟩
          have HRw : Hid (∀ W o c', Below V8.heap.size V8 W → (o = 2 ∨ lq = 0) → Calls Try.prog 21 #[.slice (some ⟨g9, o, none⟩) (lp - 1) c', .slice a8 lq c8] W fun r w' => r = .returned (.bool true) ∧ Below W.heap.size W w') := fun W o c' hb ho => by
            have hl := HL.out.1
            have h1 : RdK W (.slice (some ⟨g9, o, none⟩) lq c') Q.used (fun _ => False) := by
              have hr := (H5.out.2.1.below H8.out.2.2).below hb
              rw [← hl] at hr
              exact key_tail hr HQ.out.2.2.1 (ho.imp id fun h => List.length_eq_zero_iff.1 (by rw [HQ.out.2.2.1]; exact h))
            rw [show lp - 1 = lq by omega]
            exact sameK_rd _ _ Q.used W h1 ((H8.out.2.1.below hb).rd (fun _ _ h => h)) (by rw [HQ.out.2.2.1]; omega)
          have HZ8 : Hid (∀ W, Below V8.heap.size V8 W → Below w.heap.size w W) := fun W hb => HZb.out W (chainB HB4.out (chainB H5.out.2.2 (chainB H8.out.2.2 hb)))
          have hD := below_drewN (Below.refl V8.heap.size V8) 1
          have HD0 : Hid (Below V8.heap.size V8 V8.drew) := hD
          have kk0 := HX8.out V8.drew hD
          have hcap : lp ≤ c9 := by
            rcases H5.out.2.1.2 with ⟨h0, -⟩ | ⟨_, _, _, e9, -, -, h3, -, -, -⟩
            · cases h0
            · injection e9 with _ e10 e11
              have := H5.out.2.1.1
              have := HL.out.1
              have := HQ.out.2.2.1
              simp only [List.length_cons] at h3
              omega
          have hwl : IntKind.i64.wrap ((lq : Int) + 1) = (lp : Int) := by
            rw [← HL.out.1, Int.natCast_add]; exact IntWalk.i64_in _ (by omega)
          have hp0 : (0 : Int) < (lp : Int) := by have := HL.out.1; omega
          have hp0n : 0 < lp := by have := HL.out.1; omega
          have hp1 : (1 : Int) ≤ (lp : Int) := by have := HL.out.1; omega
          have hpc : (lp : Int) ≤ (c9 : Int) := by omega
          clear hqn hqe hn0 hn1 hn2 hn3 hnm hD u1 r5 r7 hlt97 hlqb hrb hfb hjz hjf hf47 hltz
          by_cases hc1 : c9 = 1
          · have hq0 : lq = 0 := by have := HL.out.1; omega
            have HQ0 : Hid (lq = 0) := hq0
            clear hq0
            go_region_held3 (fun W => (((W.cell? ⟨w5.heap.size, 0, none⟩ = some (.bool qn) ∧ W.cell? ⟨w5.heap.size, 3, none⟩ = some (.int .i64 qe) ∧ W.cell? ⟨w5.heap.size, 4, none⟩ = some (.int .i64 n0) ∧ W.cell? ⟨w5.heap.size, 5, none⟩ = some (.int .i64 n1) ∧ W.cell? ⟨w5.heap.size, 6, none⟩ = some (.int .i64 n2) ∧ W.cell? ⟨w5.heap.size, 7, none⟩ = some (.string n3) ∧ W.cell? ⟨w5.heap.size, 8, none⟩ = some (.slice (some ⟨g9, 0, none⟩) lp c9)) ∧ (W.cell? ⟨w8.heap.size, 0, none⟩ = some (.bool qn) ∧ W.cell? ⟨w8.heap.size, 3, none⟩ = some (.int .i64 qe) ∧ W.cell? ⟨w8.heap.size, 4, none⟩ = some (.int .i64 n0) ∧ W.cell? ⟨w8.heap.size, 5, none⟩ = some (.int .i64 n1) ∧ W.cell? ⟨w8.heap.size, 6, none⟩ = some (.int .i64 n2) ∧ W.cell? ⟨w8.heap.size, 7, none⟩ = some (.string n3) ∧ W.cell? ⟨w8.heap.size, 8, none⟩ = some (.slice a8 lq c8))) ∧ (W.cell? ⟨g9, 0, none⟩ = some (.int .i64 1) ∧ W.cell? ⟨g9, 1, none⟩ = some (.string nm) ∧ W.cell? ⟨wr.heap.size, 0, none⟩ = some (.int .i64 1) ∧ W.cell? ⟨wr.heap.size, 1, none⟩ = some (.string nm))))
              (with_reducible first | exact kk0 | exact kk9 | exact kkA)
              (first
                | (go_at_call 10; refine (HA.out _).mono ?_; rintro r wA ⟨rfl, hb⟩; have kkA := HX8.out wA (chainB H9.out hb); have HZ : Hid (Below w.heap.size w wA) := HZ8.out _ (chainB H9.out hb); clear hb)
                | (go_at_call 21; refine (HRw.out _ 0 _ HD0.out (.inr HQ0.out)).mono ?_; rintro r w9 ⟨rfl, hb⟩; have kk9 := HX8.out w9 (chainB HD0.out hb); have H9 : Hid (Below V8.heap.size V8 w9) := chainB HD0.out hb; clear hb))
            all_goals (
              go_wp2
              go_ret
              exact ⟨rfl, HZ.out⟩)
          · have hc2 : ¬ c9 = 1 := hc1
            go_region_held3 (fun W => (((W.cell? ⟨w5.heap.size, 0, none⟩ = some (.bool qn) ∧ W.cell? ⟨w5.heap.size, 3, none⟩ = some (.int .i64 qe) ∧ W.cell? ⟨w5.heap.size, 4, none⟩ = some (.int .i64 n0) ∧ W.cell? ⟨w5.heap.size, 5, none⟩ = some (.int .i64 n1) ∧ W.cell? ⟨w5.heap.size, 6, none⟩ = some (.int .i64 n2) ∧ W.cell? ⟨w5.heap.size, 7, none⟩ = some (.string n3) ∧ W.cell? ⟨w5.heap.size, 8, none⟩ = some (.slice (some ⟨g9, 0, none⟩) lp c9)) ∧ (W.cell? ⟨w8.heap.size, 0, none⟩ = some (.bool qn) ∧ W.cell? ⟨w8.heap.size, 3, none⟩ = some (.int .i64 qe) ∧ W.cell? ⟨w8.heap.size, 4, none⟩ = some (.int .i64 n0) ∧ W.cell? ⟨w8.heap.size, 5, none⟩ = some (.int .i64 n1) ∧ W.cell? ⟨w8.heap.size, 6, none⟩ = some (.int .i64 n2) ∧ W.cell? ⟨w8.heap.size, 7, none⟩ = some (.string n3) ∧ W.cell? ⟨w8.heap.size, 8, none⟩ = some (.slice a8 lq c8))) ∧ (W.cell? ⟨g9, 0, none⟩ = some (.int .i64 1) ∧ W.cell? ⟨g9, 1, none⟩ = some (.string nm) ∧ W.cell? ⟨wr.heap.size, 0, none⟩ = some (.int .i64 1) ∧ W.cell? ⟨wr.heap.size, 1, none⟩ = some (.string nm))))
              (with_reducible first | exact kk0 | exact kk9 | exact kkA)
              (first
                | (go_at_call 10; refine (HA.out _).mono ?_; rintro r wA ⟨rfl, hb⟩; have kkA := HX8.out wA (chainB H9.out hb); have HZ : Hid (Below w.heap.size w wA) := HZ8.out _ (chainB H9.out hb); clear hb)
                | (go_at_call 21; refine (HRw.out _ 2 _ HD0.out (.inl rfl)).mono ?_; rintro r w9 ⟨rfl, hb⟩; have kk9 := HX8.out w9 (chainB HD0.out hb); have H9 : Hid (Below V8.heap.size V8 w9) := chainB HD0.out hb; clear hb))
            all_goals (
              go_wp2
              go_ret
              exact ⟨rfl, HZ.out⟩)
end
end Go.Proofs.Ytppbbddlbfgpfaa
