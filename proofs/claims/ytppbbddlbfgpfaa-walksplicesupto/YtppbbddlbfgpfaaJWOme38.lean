/- WalkHome. -/
import Derived.Test.YtppbbddlbfgpfaaJWOme37
namespace Go.Proofs.Ytppbbddlbfgpfaa
section
open Go.RowKit
theorem ndGuardH (w : World) (op : BinOp) (p q : Operand) (n m : Nd) : (eqGuard op 31 p q n.agg m.agg).run Try.prog w = .ok () w := guardN w op p q _ _
theorem ndEqH (w : World) (n : Nd) : (binOp .eql 31 n.agg n.agg).run Try.prog w = .ok (.bool true) w := by
  refine (eqN w n.id n.kind n.mode n.id n.kind n.mode n.tg n.tg).trans ?_
  simp
theorem ouNdH {w : World} {g : Nat} {o : Ou} {uv : Value} (h : w.heap[g]? = some (.cells (ouVals o uv).toArray 34 (0, 0))) : Cells4 w g 4 o.node :=
  ⟨by rw [cell_of h]; rfl, by rw [cell_of h]; rfl, by rw [cell_of h]; rfl, by rw [cell_of h]; rfl⟩
theorem last_of {up : List Nd} {v : Nat} {y a : Nd} (h : up[v]? = some y) (hl : up.length = v + 1) : up.getLast?.getD a = y := by
  rw [List.getLast?_eq_getElem?, hl, Nat.add_sub_cancel, h]; rfl
theorem below_setRow {n : Nat} {w w' : World} (h : Below n w w') {g : Nat} (hg : n ≤ g) (cs : Array Value) : Below n w (w'.setRow g cs) :=
  ⟨h.os, h.tape, h.output, by
    have : (w'.setRow g cs).heap.size = w'.heap.size := by unfold World.setRow; simp
    rw [this]; exact h.size, fun k hk => (setRow_other w' g k cs (by omega)).trans (h.block k hk)⟩
attribute [local go_sem high] ndEqH ndGuardH
attribute [local go_sem ↓ high] loadEn storeEn storeOu loadNd storeNd buildNd

set_option maxRecDepth 100000 in
set_option maxHeartbeats 16000000 in
theorem walk_WalkHome (a : Option Addr) (cap : Nat) (ops : List Opn) (path : ByteArray) (fol : Bool) (links : Int) (w : World) (row : RowOps w a ops) (hlen : ops.length ≤ 3000000000000) (_ : (Lit.int .i64 links).wf = true) :
    Calls Try.prog 3 #[.slice a ops.length cap, .string path, .bool fol, .int .i64 links] w fun x w' => x = .returned (.bool true) ∧ Below w.heap.size w w' := by
  have HFi : Hid (Calls Try.prog 7 #[.slice a ops.length cap] w fun e w' => FilR ops w w' e) := filled_p a cap ops w row hlen
  have HA : Hid (∀ w, Calls Try.prog 10 #[] w fun x w' => x = .returned (.bool true) ∧ Below w.heap.size w w') := awake14_p
  obtain ⟨n, hn⟩ : ∃ n, ops.length = n := ⟨_, rfl⟩
  rw [hn] at HFi ⊢
  obtain ⟨E, hE⟩ : ∃ E, cutE path (rootB path) = E := ⟨_, rfl⟩
  obtain ⟨D, hD⟩ : ∃ D, cutD path (rootB path) = D := ⟨_, rfl⟩
  obtain ⟨L, hL⟩ : ∃ L, cutL path (rootB path) = L := ⟨_, rfl⟩
  obtain ⟨k, hk⟩ : ∃ k, L.length = k := ⟨_, rfl⟩
  have hk97 : k ≤ 97 := by rw [← hk, ← hL]; exact cutL_len _ _
  have HSp : Hid (∀ W, Calls Try.prog 9 #[.string path] W fun x w' => ∃ a cc, x = .returned (.tuple #[.slice a k cc, .bool D, .int .i64 E]) ∧ Own w' W.heap.size (.slice a k cc) L ∧ Below W.heap.size W w') := fun W => by
    refine (split_any path W).mono ?_
    rintro r w' ⟨vv, rfl, ho, hb⟩
    rw [hE, hD]
    rw [hL] at ho
    obtain ⟨a, cc, rfl⟩ := owns_len ho
    rw [hk] at ho ⊢
    exact ⟨a, cc, rfl, ho, hb⟩
  have HK : Hid (L.length = k ∧ k ≤ 97) := ⟨hk, hk97⟩
  have HWk : Hid (∀ es O, walkO (knC (fillS es)) path fol links = O → (E ≠ 0 → O = ⟨false, zeroKy, E, zeroNd, []⟩) ∧ (E = 0 → goW (knC (fillS es)) fol (linksN links) L (startW D) = O)) := fun es O hO => by
    unfold walkO at hO
    rw [hE, hD, hL] at hO
    constructor
    · intro h; rw [if_neg h] at hO; exact hO.symm
    · intro h; rw [if_pos h] at hO; exact hO
  clear hE hD hL hk hk97 row hlen
  have bx := box9
  go_enter Try.func3, Try.ntmps3
  go_upto_region 4 with (first
    | (go_at_call 7; refine HFi.out.mono ?_; rintro r w1 hF; obtain ⟨p, t, s, rfl, -, hfl⟩ := hF.fl; have H1 : Hid (Flw w w1 t s p ops.length) := hfl; clear hF hfl))
  obtain ⟨O, hO⟩ : ∃ O, walkO (knC (fillS s.es)) path fol links = O := ⟨_, rfl⟩
  obtain ⟨lo, hlo⟩ : ∃ lo, O.used.length = lo := ⟨_, rfl⟩
  have HS1 : Hid (Calls Try.prog 8 #[.pointer (some ⟨p, 0, none⟩), .slice none 0 0, .string path, .bool fol, .int .i64 links] w1 fun r w' => ∃ a c, r = .returned (ouAgg O (.slice a lo c)) ∧ Below w1.heap.size w1 w') := by
    refine (ld_walk (H1.out.ld w1 (Below.refl _ _)) path fol links).mono ?_
    intro r w' hr
    rw [hO] at hr
    have := hr.fx
    rw [hlo] at this
    obtain ⟨a, c, h1, -, h3⟩ := this
    exact ⟨a, c, h1, h3⟩
  have hneed : O.need = false := by rw [← hO]; exact walkO_full H1.out.wf path fol links
  have HO : Hid (O.used.length = lo ∧ (E ≠ 0 → O = ⟨false, zeroKy, E, zeroNd, []⟩) ∧ (E = 0 → goW (knC (fillS s.es)) fol (linksN links) L (startW D) = O) ∧ WF Mn s.es s.next) := ⟨hlo, (HWk.out s.es O hO).1, (HWk.out s.es O hO).2, H1.out.wf⟩
  have HLw : Hid (∀ W, Below w1.heap.size w1 W → IsP W t s) := fun W hb => (H1.out.law W hb).own.is
  have HZb : Hid (∀ W, Below w1.heap.size w1 W → Below w.heap.size w W) := fun W hb => H1.out.below W hb
  clear hO hlo HWk
  go_upto_region 5 with (go_at_call 8; refine HS1.out.mono ?_; rintro r w3 ⟨a3, c3, rfl, hb⟩; obtain ⟨V3, hV3⟩ : ∃ V, w3.alloc (.cells (ouVals O (.slice a3 lo c3)).toArray 34) = V := ⟨_, rfl⟩; have bV3 := boxO hV3; have H3 : Hid (V3.heap[w3.heap.size]? = some (.cells (ouVals O (.slice a3 lo c3)).toArray 34 (0, 0)) ∧ Below w1.heap.size w1 V3) := ⟨bV3.1, chainB hb bV3.2.1⟩; clear hb bV3)
  have o0 := (ouCells H3.out.1).1
  rw [hneed] at o0
  clear hV3 hneed
  have HBx : Hid (∀ W, Below V3.heap.size V3 W → W.heap[w3.heap.size]? = some (.cells (ouVals O (.slice a3 lo c3)).toArray 34 (0, 0)) ∧ Below w1.heap.size w1 W) := fun W hb => ⟨hkeep H3.out.1 hb, chainB H3.out.2 hb⟩
  by_cases hE0 : E = 0
  case neg =>
    have hEb : (E != 0) = true := by simpa using hE0
    have hOe := HO.out.2.1 hE0
    subst hOe
    obtain rfl : lo = 0 := HO.out.1.symm
    go_wp2_with (first
      | (go_at_call 10; refine (HA.out _).mono ?_; rintro r wZ ⟨rfl, hb⟩; have HZ : Hid (Below w.heap.size w wZ) := HZb.out _ (chainB H4.out hb); clear hb)
      | (go_at_call 9; refine (HSp.out _).mono ?_; rintro r w2 ⟨a2, c2, rfl, ho, hb⟩; have H4 : Hid (Below w1.heap.size w1 w2) := chainB H3.out.2 hb; have q := ouCells (HBx.out w2 hb).1; have o3 := q.2.2.2.1; have o8 := q.2.2.2.2.2; clear ho hb q))
    go_ret
    exact ⟨rfl, HZ.out⟩
  case pos =>
    subst hE0
    have HG := HO.out.2.2.1 rfl
    have HM0 : Hid (Hm2 s.es fol (linksN links) D L O 0 rootN []) := hm_start HG
    clear HG
    go_upto_region 10 with (go_at_call 9; refine (HSp.out _).mono ?_; rintro r w2 ⟨a2, c2, rfl, ho, hb⟩; have H4 : Hid (Own w2 V3.heap.size (.slice a2 k c2) L ∧ Below V3.heap.size V3 w2) := ⟨ho, hb⟩; clear ho hb)
    have bxr : (ndSt (.pointer (some ⟨w2.heap.size, 0, none⟩)) (.agg #[.int .i64 1, .int .i64 1, .int .i64 0, .string ⟨#[]⟩])).run Try.prog (w2.alloc (.cells #[.int .i64 0, .int .i64 0, .int .i64 0, .string ⟨#[]⟩] 31)) = .ok () (w2.alloc (.cells rootN.vals.toArray 31)) := box4 w2 rootN
    have HRow : Hid (∀ i x W, L[i]? = some x → Below w2.heap.size w2 W → ∃ b o, a2 = some ⟨b, o, none⟩ ∧ W.cell? ⟨b, o + i, none⟩ = some (.string x)) := fun i x W hx hb => by
      obtain ⟨a', c', e, hr⟩ := Own.row (H4.out.1.below hb)
      injection e with e1 e2 e3
      subst e1
      rcases hr with h0 | ⟨b, off, e, -, hc⟩
      · rw [h0] at hx; simp at hx
      · exact ⟨b, off, e, hc i x hx⟩
    go_wp2
    obtain ⟨W0, hW0⟩ : ∃ W, w2.alloc (.cells rootN.vals.toArray 31) = W := ⟨_, rfl⟩
    have bW0 := boxO hW0
    have HS0 : Hid (Hs w2 W0 rootN (.slice none 0 0) []) := ⟨bW0.2.1, bW0.1, World.ownsRow_nil _ _ _ _⟩
    (try rw [hW0])
    clear bW0 hW0 bxr bx
    go_loopw [17, 18, 19, 20] (fun s17 s18 _ _ wr => ∃ (i : Nat) (at' : Nd) (up : List Nd) (au : Option Addr) (u c : Nat), i ≤ k ∧ s18 = .int .i64 (i : Int) ∧ s17 = .slice au u c ∧ Hid (up.length = u ∧ u ≤ i ∧ Hs w2 wr at' (.slice au u c) up ∧ Hm2 s.es fol (linksN links) D L O i at' up)) (fun _ s18 _ _ _ => k - (intOf s18).toNat)
    case atStart => exact ⟨0, rootN, [], none, 0, 0, Nat.zero_le _, rfl, rfl, rfl, Nat.le_refl _, HS0.out, HM0.out⟩
    case round =>
      obtain ⟨i, at', up, au, u, c, hi, rfl, rfl, HJ⟩ := hrel
      clear HS0 HM0
      obtain ⟨hu, hui, hs, hm⟩ := HJ.out
      have HBo := HBx.out wr (chainB H4.out.2 hs.bel)
      have o3 := (ouCells HBo.1).2.2.2.1
      have HWr : Hid (Below w1.heap.size w1 wr) := HBo.2
      have a1 := hs.cell4.c1
      simp only [Nat.zero_add] at a1
      have hw1 : IntKind.i64.wrap ((i : Int) + 1) = ((i + 1 : Nat) : Int) := by
        rw [show ((i + 1 : Nat) : Int) = (i : Int) + 1 by omega]; exact IntWalk.i64_in _ (by have := HK.out.2; omega)
      by_cases hlt : i < k
      · have hltz : (i : Int) < (k : Int) := by omega
        obtain ⟨x, hx⟩ : ∃ x, L[i]? = some x := ⟨_, List.getElem?_eq_getElem (by rw [HK.out.1]; exact hlt)⟩
        obtain ⟨b, o, hab, hcx⟩ := HRow.out i x wr hx hs.bel
        subst hab
        by_cases hkd : at'.kind = 1
        · rw [hkd] at a1
          have t1 := str_eq x [46] dot1 dot1_list
          have t2 := str_eq x [46, 46] dot2 (by kernel_rfl)
          by_cases d1 : x = dot1
          · rw [decide_eq_true d1] at t1
            have HM' : Hid (Hm2 s.es fol (linksN links) D L O (i + 1) at' up) := hm_dot hm (by rw [← d1]; exact hx) hkd
            have HJ2 : Hid (up.length = u ∧ u ≤ i ∧ Hs w2 wr at' (.slice au u c) up) := ⟨hu, hui, hs⟩
            clear HJ hu hui hs hm HBo hx hkd t2 d1 o3
            go_wp2
            go_roundw
            case rel => exact ⟨i + 1, at', up, au, u, c, by omega, rfl, rfl, HJ2.out.1, by have := HJ2.out.2.1; omega, HJ2.out.2.2, HM'.out⟩
            case measure => simp [intOf]; omega
          · rw [decide_eq_false d1] at t1
            by_cases d2 : x = dot2
            · rw [decide_eq_true d2] at t2
              have hm' := hm_up hm (by rw [← d2]; exact hx) hkd
              by_cases hu0 : u = 0
              · subst hu0
                have hup : up = [] := List.length_eq_zero_iff.1 hu
                subst hup
                have HM' : Hid (Hm2 s.es fol (linksN links) D L O (i + 1) at' []) := hm'
                have HJ2 : Hid (Hs w2 wr at' (.slice au 0 c) []) := hs
                clear HJ hu hui hs hm HBo hx hkd d1 d2 o3 hm'
                go_wp2
                go_roundw
                case rel => exact ⟨i + 1, at', [], au, 0, c, by omega, rfl, rfl, rfl, by omega, HJ2.out, HM'.out⟩
                case measure => simp [intOf]; omega
              · obtain ⟨v, hv⟩ : ∃ v, u = v + 1 := ⟨u - 1, by omega⟩
                obtain ⟨y, hy⟩ : ∃ y, up[v]? = some y := ⟨_, List.getElem?_eq_getElem (by omega)⟩
                obtain ⟨g, hg, -, hcap, -, -, hc4⟩ := RowN.get hs.row hy
                subst hg
                have ly := ndLd_at hc4
                obtain ⟨W, hst, hs', -, -⟩ := hs.set y
                have hs2 := hs'.pop rfl
                rw [show up.length - 1 = v by omega] at hs2
                rw [last_of hy (by omega)] at hm'
                have HJ2 : Hid (up.dropLast.length = v ∧ v ≤ i ∧ Hs w2 W y (.slice (some ⟨g, 0, none⟩) v c) up.dropLast ∧ Hm2 s.es fol (linksN links) D L O (i + 1) y up.dropLast) := ⟨by rw [List.length_dropLast]; omega, by omega, hs2, hm'⟩
                have hv0 : (0 : Int) < (u : Int) := by omega
                have hwv : IntKind.i64.wrap ((u : Int) - 1) = (v : Int) := by
                  rw [show (u : Int) - 1 = (v : Int) by omega]; exact IntWalk.i64_in _ (by have := HK.out.2; omega)
                have hvu : (v : Int) < (u : Int) := by omega
                have hv1 : (0 : Int) ≤ (v : Int) := by omega
                have hvc : (v : Int) ≤ (c : Int) := by omega
                clear HJ hu hui hs hm HBo hx hkd d1 d2 o3 hm' hy hc4 hs' hs2 hv hu0 hcap
                go_wp2
                go_roundw
                case rel => exact ⟨i + 1, y, up.dropLast, _, v, c, by omega, rfl, rfl, HJ2.out.1, by have := HJ2.out.2.1; omega, HJ2.out.2.2.1, HJ2.out.2.2.2⟩
                case measure => simp [intOf]; omega
            · rw [decide_eq_false d2] at t2
              obtain ⟨e, F, hF, hnow, HLo⟩ := Look_q Mn nmsP t s at'.id x
              have HE : Hid (F = namedE Mn s.es at'.id x ∧ (F = 0 → e = nowE s.es at'.id x)) := ⟨hF, hnow⟩
              have HD : Hid (x ≠ dot1 ∧ x ≠ dot2 ∧ L[i]? = some x) := ⟨d1, d2, hx⟩
              have hsz : wr.heap.size ≤ (wr.alloc (.cells #[.int .i64 0, .string ⟨#[]⟩, .bool false, .int .i64 0, .int .i64 0, .int .i64 0, .string ⟨#[]⟩] 42)).drew.heap.size := (below_drewN (below_alloc wr (.cells #[.int .i64 0, .string ⟨#[]⟩, .bool false, .int .i64 0, .int .i64 0, .int .i64 0, .string ⟨#[]⟩] 42)) 1).size
              have HBd : Hid (Below wr.heap.size wr wr.drew ∧ Below wr.heap.size wr (wr.alloc (.cells #[.int .i64 0, .string ⟨#[]⟩, .bool false, .int .i64 0, .int .i64 0, .int .i64 0, .string ⟨#[]⟩] 42)).drew) := ⟨below_drewN (Below.refl _ _) 1, below_drewN (below_alloc _ _) 1⟩
              have HS : Hid (∀ W, Below wr.heap.size wr W → W.cell? ⟨w2.heap.size, 0, none⟩ = some (.int .i64 at'.id) ∧ W.cell? ⟨b, o + i, none⟩ = some (.string x)) := fun W hb => ⟨(hb.cell (cellLt hs.cell4.c0)).trans hs.cell4.c0, (hb.cell (cellLt hcx)).trans hcx⟩
              have s0 := HS.out _ HBd.out.1
              have s1 := HS.out _ HBd.out.2
              have i0 : Hid (IsP wr.drew t s ∧ IsP (wr.alloc (.cells #[.int .i64 0, .string ⟨#[]⟩, .bool false, .int .i64 0, .int .i64 0, .int .i64 0, .string ⟨#[]⟩] 42)).drew t s) := ⟨HLw.out _ (chainB HWr.out HBd.out.1), HLw.out _ (chainB HWr.out HBd.out.2)⟩
              have hnew : Hid ((wr.alloc (.cells #[.int .i64 0, .string ⟨#[]⟩, .bool false, .int .i64 0, .int .i64 0, .int .i64 0, .string ⟨#[]⟩] 42)).drew.heap[wr.heap.size]? = some (.cells #[.int .i64 0, .string ⟨#[]⟩, .bool false, .int .i64 0, .int .i64 0, .int .i64 0, .string ⟨#[]⟩] 42 (0, 0))) := heap_new wr _
              clear hu hui hs hm HBo hx hF hnow d1 d2 o3 hsz
              go_upto_region 22 with fail
              clear hcx t1 t2
              go_region_held3 (fun W => W.cell? ⟨w2.heap.size, 0, none⟩ = some (.int .i64 at'.id) ∧ W.cell? ⟨b, o + i, none⟩ = some (.string x))
                (with_reducible first | exact s0 | exact s1 | exact s2 | exact s3 | exact s4)
                (first | (go_at_call 11; first
                  | ((with_reducible refine (HLo.out wr.drew i0.out.1).mono ?_); rintro r w6 ⟨rfl, hb⟩; have hbb : Below wr.heap.size wr w6 := chainB HBd.out.1 hb; have s2 := HS.out _ hbb; have s3 := HS.out _ (chainB hbb (below_alloc w6 (.cells #[.int .i64 0, .string ⟨#[]⟩, .bool false, .int .i64 0, .int .i64 0, .int .i64 0, .string ⟨#[]⟩] 42))); obtain ⟨X6, hX6⟩ : ∃ X, w6.alloc (.cells e.vals.toArray 42) = X := ⟨_, rfl⟩; have bX6 := boxO hX6; obtain ⟨gE, hgE⟩ : ∃ g, w6.heap.size = g := ⟨_, rfl⟩; have H6 : Hid (Below wr.heap.size wr X6 ∧ X6.heap[gE]? = some (.cells e.vals.toArray 42 (0, 0)) ∧ wr.heap.size ≤ gE) := ⟨chainB hbb bX6.2.1, (by rw [← hgE]; exact bX6.1), (by rw [← hgE]; exact hbb.size)⟩; have s4 := HS.out _ H6.out.1; have hst6 : (enSt (.pointer (some ⟨gE, 0, none⟩)) (.agg #[.int .i64 e.d, .string e.nm, .bool e.neg, .int .i64 e.id, .int .i64 e.kind, .int .i64 e.mode, .string e.tg])).run Try.prog (w6.alloc (.cells #[.int .i64 0, .string ⟨#[]⟩, .bool false, .int .i64 0, .int .i64 0, .int .i64 0, .string ⟨#[]⟩] 42)) = .ok () X6 := (by rw [← hgE, ← hX6]; exact box7 w6 e); clear bX6 hbb hb hX6)
                  | ((with_reducible refine (HLo.out _ i0.out.2).mono ?_); rintro r w6 ⟨rfl, hb⟩; have hbb : Below wr.heap.size wr w6 := chainB HBd.out.2 hb; have s2 := HS.out _ hbb; obtain ⟨gE, hgE⟩ : ∃ g, wr.heap.size = g := ⟨_, rfl⟩; obtain ⟨X6, hX6⟩ : ∃ X, w6.setRow gE e.vals.toArray = X := ⟨_, rfl⟩; have hq6 := hkeep hnew.out hb; have H6 : Hid (Below wr.heap.size wr X6 ∧ X6.heap[gE]? = some (.cells e.vals.toArray 42 (0, 0)) ∧ wr.heap.size ≤ gE) := ⟨(by rw [← hX6]; exact below_setRow hbb (by rw [hgE]; exact Nat.le_refl _) _), (by rw [← hX6, ← hgE]; exact setRow_heap w6 _ _ _ _ _ hq6), (by rw [hgE]; exact Nat.le_refl _)⟩; have s4 := HS.out _ H6.out.1; have hst6 : (enSt (.pointer (some ⟨gE, 0, none⟩)) (.agg #[.int .i64 e.d, .string e.nm, .bool e.neg, .int .i64 e.id, .int .i64 e.kind, .int .i64 e.mode, .string e.tg])).run Try.prog w6 = .ok () X6 := (by rw [← hgE] at hX6 ⊢; exact enSt_of hq6 rfl hX6); clear hbb hb hX6 hq6)))
              all_goals (
                clear hgE s0 s1 s2 s4
                (try clear s3)
                have HW6 : Hid (Below w1.heap.size w1 X6) := chainB HWr.out H6.out.1
                have hs6 := HJ.out.2.2.1.on H6.out.1
                have c7 := cells7_of H6.out.2.1
                have c2 := c7.c2
                have c4 := c7.c4
                simp only [Nat.zero_add] at c2 c4
                have o3 := (ouCells (HBx.out X6 (chainB (chainB H4.out.2 HJ.out.2.2.1.bel) H6.out.1)).1).2.2.2.1
                clear c7
                by_cases hF0 : F = 0
                · subst hF0
                  have hen : nowE s.es at'.id x = e := (HE.out.2 rfl).symm
                  obtain ⟨ng, hng⟩ : ∃ b, e.neg = b := ⟨_, rfl⟩
                  rw [hng] at c2
                  cases ng with
                  | true =>
                    have he := hm_miss HO.out.2.2.2 HJ.out.2.2.2 HD.out.2.2 hkd HD.out.1 HD.out.2.1 (by rw [hen]; exact hng)
                    rw [he] at o3
                    clear he hng hen hs6
                    go_wp2_with (go_at_call 10; refine (HA.out _).mono ?_; rintro r wZ ⟨rfl, hb⟩; have HZ : Hid (Below w.heap.size w wZ) := HZb.out _ (chainB HW6.out hb); clear hb)
                    go_ret
                    exact ⟨rfl, HZ.out⟩
                  | false =>
                    have HN : Hid (nowE s.es at'.id x = e ∧ e.neg = false) := ⟨hen, hng⟩
                    clear hng hen
                    obtain ⟨kz, hkz⟩ : ∃ z : Int, (k : Int) - 1 = z := ⟨_, rfl⟩
                    have hwk : IntKind.i64.wrap ((k : Int) - 1) = kz := by rw [hkz]; exact IntWalk.i64_in _ (by have := HK.out.2; omega)
                    have hlk : (i : Int) < kz ↔ i + 1 < k := by omega
                    have HlK : Hid (i + 1 < L.length ↔ i + 1 < k) := by rw [HK.out.1]; exact Iff.rfl
                    clear hkz
                    by_cases h3 : e.kind = 3
                    · by_cases g1 : i + 1 < k
                      · have g1z : (i : Int) < kz := hlk.2 g1
                        clear hlk
                        have HLk : Hid (O.err ≠ 0 ∨ 0 < linksN links) := hm_link HO.out.2.2.2 HJ.out.2.2.2 HD.out.2.2 hkd HD.out.1 HD.out.2.1 (by rw [HN.out.1]; exact HN.out.2) (by rw [HN.out.1]; exact h3) (.inl (HlK.out.2 g1))
                        rw [h3] at c4
                        clear h3
                        go_upto_region 26 with fail
                        by_cases he0 : O.err = 0
                        · rw [he0] at o3
                          have hl0 : (0 : Int) < links := by
                            rcases HLk.out with h | h
                            · exact absurd he0 h
                            · unfold linksN at h; omega
                          clear he0
                          go_wp2_with (go_at_call 10; refine (HA.out _).mono ?_; rintro r wZ ⟨rfl, hb⟩; have HZ : Hid (Below w.heap.size w wZ) := HZb.out _ (chainB HW6.out hb); clear hb)
                          go_ret
                          exact ⟨rfl, HZ.out⟩
                        · have hob : (O.err != 0) = true := by simpa using he0
                          clear he0
                          go_wp2_with (go_at_call 10; refine (HA.out _).mono ?_; rintro r wZ ⟨rfl, hb⟩; have HZ : Hid (Below w.heap.size w wZ) := HZb.out _ (chainB HW6.out hb); clear hb)
                          go_ret
                          exact ⟨rfl, HZ.out⟩
                      · have g1z : decide ((i : Int) < kz) = false := decide_eq_false fun h => g1 (hlk.1 h)
                        clear hlk
                        cases hDD : D with
                        | true =>
                          subst hDD
                          have HLk : Hid (O.err ≠ 0 ∨ 0 < linksN links) := hm_link HO.out.2.2.2 HJ.out.2.2.2 HD.out.2.2 hkd HD.out.1 HD.out.2.1 (by rw [HN.out.1]; exact HN.out.2) (by rw [HN.out.1]; exact h3) (.inr (.inl rfl))
                          rw [h3] at c4
                          clear h3
                          go_upto_region 26 with fail
                          by_cases he0 : O.err = 0
                          · rw [he0] at o3
                            have hl0 : (0 : Int) < links := by
                              rcases HLk.out with h | h
                              · exact absurd he0 h
                              · unfold linksN at h; omega
                            clear he0
                            go_wp2_with (go_at_call 10; refine (HA.out _).mono ?_; rintro r wZ ⟨rfl, hb⟩; have HZ : Hid (Below w.heap.size w wZ) := HZb.out _ (chainB HW6.out hb); clear hb)
                            go_ret
                            exact ⟨rfl, HZ.out⟩
                          · have hob : (O.err != 0) = true := by simpa using he0
                            clear he0
                            go_wp2_with (go_at_call 10; refine (HA.out _).mono ?_; rintro r wZ ⟨rfl, hb⟩; have HZ : Hid (Below w.heap.size w wZ) := HZb.out _ (chainB HW6.out hb); clear hb)
                            go_ret
                            exact ⟨rfl, HZ.out⟩
                        | false =>
                          subst hDD
                          cases hFF : fol with
                          | true =>
                            subst hFF
                            have HLk : Hid (O.err ≠ 0 ∨ 0 < linksN links) := hm_link HO.out.2.2.2 HJ.out.2.2.2 HD.out.2.2 hkd HD.out.1 HD.out.2.1 (by rw [HN.out.1]; exact HN.out.2) (by rw [HN.out.1]; exact h3) (.inr (.inr rfl))
                            rw [h3] at c4
                            clear h3
                            go_upto_region 26 with fail
                            by_cases he0 : O.err = 0
                            · rw [he0] at o3
                              have hl0 : (0 : Int) < links := by
                                rcases HLk.out with h | h
                                · exact absurd he0 h
                                · unfold linksN at h; omega
                              clear he0
                              go_wp2_with (go_at_call 10; refine (HA.out _).mono ?_; rintro r wZ ⟨rfl, hb⟩; have HZ : Hid (Below w.heap.size w wZ) := HZb.out _ (chainB HW6.out hb); clear hb)
                              go_ret
                              exact ⟨rfl, HZ.out⟩
                            · have hob : (O.err != 0) = true := by simpa using he0
                              clear he0
                              go_wp2_with (go_at_call 10; refine (HA.out _).mono ?_; rintro r wZ ⟨rfl, hb⟩; have HZ : Hid (Below w.heap.size w wZ) := HZb.out _ (chainB HW6.out hb); clear hb)
                              go_ret
                              exact ⟨rfl, HZ.out⟩
                          | false =>
                            subst hFF
                            have HM' : Hid (Hm2 s.es false (linksN links) false L O (i + 1) e.nd (if e.kind = 1 then up ++ [at'] else up)) := by
                              have := hm_go HO.out.2.2.2 HJ.out.2.2.2 HD.out.2.2 hkd HD.out.1 HD.out.2.1 (by rw [HN.out.1]; exact HN.out.2) (by rintro ⟨_, h | h | h⟩ <;> first | exact g1 (HlK.out.1 h) | cases h)
                              rw [HN.out.1] at this
                              exact this
                            rw [h3] at c4
                            go_upto_region 27 with fail
                            have hk1 : ¬ e.kind = 1 := by rw [h3]; decide
                            have HM1 : Hid (Hm2 s.es false (linksN links) false L O (i + 1) e.nd up) := by
                              have := HM'.out
                              rw [if_neg hk1] at this
                              exact this
                            have lz : (ndLd (.pointer (some ⟨gE, 3, none⟩))).run Try.prog X6 = .ok e.nd.agg X6 := ndLd_at (cells7_of H6.out.2.1).node
                            obtain ⟨W, hst, hs', -, -⟩ := hs6.set e.nd
                            have HJ2 : Hid (up.length = u ∧ u ≤ i + 1 ∧ Hs w2 W e.nd (.slice au u c) up) := ⟨HJ.out.1, by have := HJ.out.2.1; omega, hs'⟩
                            clear hs' hs6 hk1 o3
                            go_wp2
                            go_roundw
                            case rel => exact ⟨i + 1, e.nd, up, au, u, c, by omega, rfl, rfl, HJ2.out.1, HJ2.out.2.1, HJ2.out.2.2, HM1.out⟩
                            case measure => simp [intOf]; omega
                    · have h3b : (e.kind == 3) = false := by simpa using h3
                      clear hlk
                      have HM' : Hid (Hm2 s.es fol (linksN links) D L O (i + 1) e.nd (if e.kind = 1 then up ++ [at'] else up)) := by
                        have := hm_go HO.out.2.2.2 HJ.out.2.2.2 HD.out.2.2 hkd HD.out.1 HD.out.2.1 (by rw [HN.out.1]; exact HN.out.2) (fun hc => h3 (by rw [← HN.out.1]; exact hc.1))
                        rw [HN.out.1] at this
                        exact this
                      go_upto_region 27 with fail
                      by_cases hk1 : e.kind = 1
                      · rw [hk1] at c4
                        have HM1 : Hid (Hm2 s.es fol (linksN links) D L O (i + 1) e.nd (up ++ [at'])) := by
                          have := HM'.out
                          rw [if_pos hk1] at this
                          exact this
                        obtain ⟨a6, N6, c6, Z, r6, hz, hN6, -, hzk⟩ := hs6.push at' (by have := HK.out.2; have := HJ.out.1; have := HJ.out.2.1; omega)
                        have hzE : Z.heap[gE]? = some (.cells e.vals.toArray 42 (0, 0)) := (hzk gE (Array.getElem?_eq_some_iff.1 H6.out.2.1).1 fun e1 => by have h1 := (World.ownsRow.lt HJ.out.2.2.1.row gE e1).2; have h2 := H6.out.2.2; omega).trans H6.out.2.1
                        have la := ndLd_at hs6.cell4
                        have nb := ndOne_of at' X6
                        have lz : (ndLd (.pointer (some ⟨gE, 3, none⟩))).run Try.prog Z = .ok e.nd.agg Z := ndLd_at (cells7_of hzE).node
                        obtain ⟨W, hst, hs', -, -⟩ := hz.set e.nd
                        have HJ2 : Hid ((up ++ [at']).length = N6 ∧ N6 ≤ i + 1 ∧ Hs w2 W e.nd (.slice a6 N6 c6) (up ++ [at'])) := ⟨by rw [hN6]; simp, by have := HJ.out.1; have := HJ.out.2.1; omega, hs'⟩
                        clear hz hzk hzE hs' hN6 hs6 hk1 o3
                        go_wp2_with (at_builtin; refine wpList_apR rfl (.tmp 151) (.tmp 153) 40 rfl _ _ (.slice a6 N6 c6) Z (by simp [Act.eval]) (by simp [Act.eval]) r6 ?_)
                        go_roundw
                        case rel => exact ⟨i + 1, e.nd, up ++ [at'], a6, N6, c6, by omega, rfl, rfl, HJ2.out.1, HJ2.out.2.1, HJ2.out.2.2, HM1.out⟩
                        case measure => simp [intOf]; omega
                      · have hkb1 : (e.kind == 1) = false := by simpa using hk1
                        have HM1 : Hid (Hm2 s.es fol (linksN links) D L O (i + 1) e.nd up) := by
                          have := HM'.out
                          rw [if_neg hk1] at this
                          exact this
                        have lz : (ndLd (.pointer (some ⟨gE, 3, none⟩))).run Try.prog X6 = .ok e.nd.agg X6 := ndLd_at (cells7_of H6.out.2.1).node
                        obtain ⟨W, hst, hs', -, -⟩ := hs6.set e.nd
                        have HJ2 : Hid (up.length = u ∧ u ≤ i + 1 ∧ Hs w2 W e.nd (.slice au u c) up) := ⟨HJ.out.1, by have := HJ.out.2.1; omega, hs'⟩
                        clear hs' hs6 hk1 o3
                        go_wp2
                        go_roundw
                        case rel => exact ⟨i + 1, e.nd, up, au, u, c, by omega, rfl, rfl, HJ2.out.1, HJ2.out.2.1, HJ2.out.2.2, HM1.out⟩
                        case measure => simp [intOf]; omega
                · have hFb : (F != 0) = true := by simpa using hF0
                  have he := hm_miss HO.out.2.2.2 HJ.out.2.2.2 HD.out.2.2 hkd HD.out.1 HD.out.2.1 (hm_bad HO.out.2.2.2 HJ.out.2.2.2 hkd (by rw [← HE.out.1]; exact hF0))
                  rw [he] at o3
                  clear he hF0 hs6
                  go_wp2_with (go_at_call 10; refine (HA.out _).mono ?_; rintro r wZ ⟨rfl, hb⟩; have HZ : Hid (Below w.heap.size w wZ) := HZb.out _ (chainB HW6.out hb); clear hb)
                  go_ret
                  exact ⟨rfl, HZ.out⟩)
        · have hkb : (at'.kind != 1) = true := by simpa using hkd
          have he := hm_not hm hx hkd
          rw [he] at o3
          clear HJ hu hui hs hm HBo hx hkd he
          go_wp2_with (go_at_call 10; refine (HA.out _).mono ?_; rintro r wZ ⟨rfl, hb⟩; have HZ : Hid (Below w.heap.size w wZ) := HZb.out _ (chainB HWr.out hb); clear hb)
          go_ret
          exact ⟨rfl, HZ.out⟩
      · obtain rfl : i = k := by omega
        have hltz : ¬ (i : Int) < (i : Int) := by omega
        have hme := hm
        rw [← HK.out.1] at hme
        obtain ⟨e1, e2⟩ := hm_end hme
        have la := ndLd_at hs.cell4
        have lo4 := ndLd_at (ouNdH HBo.1)
        clear hme hs hm HBo HJ hlt hu hui
        cases hDD : D with
        | true =>
          subst hDD
          by_cases hkd : at'.kind = 1
          · obtain ⟨he0, hno⟩ := e2 (fun h => h.2 hkd)
            rw [hkd] at a1
            clear e1 e2 hkd
            rw [he0] at o3
            rw [hno] at lo4
            clear he0 hno
            go_wp2_with (go_at_call 10; refine (HA.out _).mono ?_; rintro r wZ ⟨rfl, hb⟩; have HZ : Hid (Below w.heap.size w wZ) := HZb.out _ (chainB HWr.out hb); clear hb)
            go_ret
            exact ⟨rfl, HZ.out⟩
          · have he := e1 ⟨rfl, hkd⟩
            have hkb : (at'.kind != 1) = true := by simpa using hkd
            rw [he] at o3
            clear e1 e2 hkd he
            go_wp2_with (go_at_call 10; refine (HA.out _).mono ?_; rintro r wZ ⟨rfl, hb⟩; have HZ : Hid (Below w.heap.size w wZ) := HZb.out _ (chainB HWr.out hb); clear hb)
            go_ret
            exact ⟨rfl, HZ.out⟩
        | false =>
          subst hDD
          obtain ⟨he0, hno⟩ := e2 (fun h => by cases h.1)
          clear e1 e2
          rw [he0] at o3
          rw [hno] at lo4
          clear he0 hno
          go_wp2_with (go_at_call 10; refine (HA.out _).mono ?_; rintro r wZ ⟨rfl, hb⟩; have HZ : Hid (Below w.heap.size w wZ) := HZb.out _ (chainB HWr.out hb); clear hb)
          go_ret
          exact ⟨rfl, HZ.out⟩
end
end Go.Proofs.Ytppbbddlbfgpfaa
