/- WalkUps. -/
import Derived.Test.YtppbbddlbfgpfaaJWUps35
namespace Go.Proofs.Ytppbbddlbfgpfaa
section
open Go.RowKit
theorem only_belowU {w W w0 : World} (hb : Below w0.heap.size w0 w) (hO : Only (fun q => w0.heap.size ≤ q) w W) : Below w0.heap.size w0 W :=
  ⟨hO.os.trans hb.os, hO.tape.trans hb.tape, hO.output.trans hb.output, Nat.le_trans hb.size hO.size, fun k hk => (hO.block k (by have := hb.size; omega) (by omega)).trans (hb.block k hk)⟩
theorem bA {n : Nat} {w W : World} {o : Obj} (h : Below n w W) (hn : n ≤ W.heap.size) : Below n w (W.alloc o) := ⟨h.os, h.tape, h.output, Nat.le_trans h.size (below_alloc W o).size, fun k hk => ((below_alloc W o).block k (by omega)).trans (h.block k hk)⟩
/-- an outcome in a box of the law's own, behind a world -/
structure BoxO (wr X : World) (g : Nat) (O : Ou) (v : Value) : Prop where
  box : X.heap[g]? = some (.cells (ouVals O v).toArray 34 (0, 0))
  bel : Below wr.heap.size wr X
abbrev z9 : Obj := .cells #[.bool false, .int .i64 0, .string ⟨#[]⟩, .int .i64 0, .int .i64 0, .int .i64 0, .int .i64 0, .string ⟨#[]⟩, .slice none 0 0] 34
theorem store_old {wr w7 : World} {gz : Nat} (O : Ou) (a : Option Addr) (n c : Nat) (h : w7.heap[gz]? = some (.cells #[.bool false, .int .i64 0, .string ⟨#[]⟩, .int .i64 0, .int .i64 0, .int .i64 0, .int .i64 0, .string ⟨#[]⟩, .slice none 0 0] 34 (0, 0))) (hb : Below wr.heap.size wr w7) (hg : wr.heap.size ≤ gz) :
    ∃ gB X7, gz = gB ∧ (ouSt (.pointer (some ⟨gB, 0, none⟩)) (ouAgg O (.slice a n c))).run Try.prog w7 = .ok () X7 ∧ BoxO wr X7 gB O (.slice a n c) := by
  refine ⟨gz, _, rfl, ouSt_of h rfl rfl, ⟨setRow_heap w7 _ _ _ _ _ h, ⟨hb.os, hb.tape, hb.output, ?_, fun k hk => (setRow_other w7 _ _ _ (by omega)).trans (hb.block k hk)⟩⟩⟩
  have : (w7.setRow gz (ouVals O (.slice a n c)).toArray).heap.size = w7.heap.size := by unfold World.setRow; simp
  rw [this]; exact hb.size
theorem store_new {wr w7 : World} (O : Ou) (a : Option Addr) (n c : Nat) (hb : Below wr.heap.size wr w7) :
    ∃ gB X7, w7.heap.size = gB ∧ (ouSt (.pointer (some ⟨gB, 0, none⟩)) (ouAgg O (.slice a n c))).run Try.prog (w7.alloc (.cells #[.bool false, .int .i64 0, .string ⟨#[]⟩, .int .i64 0, .int .i64 0, .int .i64 0, .int .i64 0, .string ⟨#[]⟩, .slice none 0 0] 34)) = .ok () X7 ∧ BoxO wr X7 gB O (.slice a n c) :=
  ⟨_, _, rfl, box9 w7 O a n c, ⟨heap_new _ _, chainB hb (below_alloc _ _)⟩⟩
theorem app_at {wr W : World} {k gb : Nat} {L X : List ByteArray} {aA : Option Addr} {cA nX : Nat} (h2 : Own W wr.heap.size (.slice aA k cA) L) (hk : L.length = k) (hx : RowS W (some ⟨gb, 0, none⟩) X) (hX : X.length = nX) (hb : Below wr.heap.size wr W) (hl : L.length + X.length ≤ 1000) :
    ∃ u a4 c4 W4, Value.slice (some ⟨gb, 0, none⟩) nX nX = u ∧ (∀ ty, (Builtin.append_ #[36, 36] ty #[.slice aA k cA, u]).run Try.prog W = .ok (.slice a4 (k + nX) c4) W4) ∧ Own W4 wr.heap.size (.slice a4 (k + nX) c4) (L ++ X) ∧ Below wr.heap.size wr W4 ∧ (∀ q, q < W.heap.size → (Value.slice aA k cA).ownBlock ≠ some q → W4.heap[q]? = W.heap[q]?) ∧ W.heap.size ≤ W4.heap.size := by
  obtain ⟨a3, N3, c3, W3, r3, o3, k3⟩ := appS_any (c := nX) h2 hx hb.size (by omega)
  have hN : N3 = k + X.length := by
    obtain ⟨_, _, e⟩ := owns_len o3
    injection e with _ e2 _
    rw [e2, List.length_append, hk]
  subst hN
  rw [hX] at r3 o3
  exact ⟨_, a3, c3, W3, rfl, r3, o3, only_belowU hb (k3.mono fun q hq => (World.ownsRow.lt h2 q hq).1), fun q hq hn => k3.block q hq hn, k3.size⟩
theorem store_at {wr w7 : World} {gz : Nat} (O : Ou) (a : Option Addr) (n c : Nat) (h : w7.heap[gz]? = some (.cells #[.bool false, .int .i64 0, .string ⟨#[]⟩, .int .i64 0, .int .i64 0, .int .i64 0, .int .i64 0, .string ⟨#[]⟩, .slice none 0 0] 34 (0, 0))) (hb : Below wr.heap.size wr w7) (hg : wr.heap.size ≤ gz) :
    ∃ X7, (ouSt (.pointer (some ⟨gz, 0, none⟩)) (ouAgg O (.slice a n c))).run Try.prog w7 = .ok () X7 ∧ BoxO wr X7 gz O (.slice a n c) := by
  obtain ⟨gB, X7, rfl, h1, h2⟩ := store_old O a n c h hb hg
  exact ⟨X7, h1, h2⟩
theorem own_neU {w : World} {B n c g : Nat} {a : Option Addr} {L : List ByteArray} (h : Own w B (.slice a n c) L) (hg : w.heap.size ≤ g) : (Value.slice a n c).ownBlock ≠ some g := fun e => by
  have := (World.ownsRow.lt h _ e).2
  omega
theorem own_neB {w : World} {B n c g : Nat} {a : Option Addr} {L : List ByteArray} (h : Own w B (.slice a n c) L) (hg : g < B) : (Value.slice a n c).ownBlock ≠ some g := fun e => by
  have := (World.ownsRow.lt h _ e).1
  omega
theorem heap_ltA (W : World) (o : Obj) : W.heap.size < (W.alloc o).heap.size := (Array.getElem?_eq_some_iff.1 (heap_new W o)).1
theorem drewS {w : World} {a : Option Addr} {l : List ByteArray} (h : RowS w a l) : RowS w.drew a l := RowS.below h (below_drewN (Below.refl _ _) 1)
theorem hkeepD {W W' : World} {k : Nat} {o : Obj} (h : W.heap[k]? = some o) (hb : Below W.drew.heap.size W.drew W') : W'.heap[k]? = some o := hkeep (W := W.drew) h hb
theorem sizeA (W : World) (o : Obj) : (W.alloc o).heap.size = W.heap.size + 1 := (boxO rfl).2.2
theorem atW {ops : Array Oper} {o : Oper} {a : Act} {K : Act → World → Prop} {Q : Exit → Act → World → Prop} {E : Prop} (W : World) (h : if Region.wanted o (yielded ops a.tmps) = true then Oper.wp Try.prog o a W K Q else E) : if Region.wanted o (yielded ops a.tmps) = true then Oper.wp Try.prog o a W K Q else E := h
theorem ndGuardU (w : World) (op : BinOp) (p q : Operand) (n m : Nd) : (eqGuard op 31 p q n.agg m.agg).run Try.prog w = .ok () w := guardN w op p q _ _
theorem ndNeqU (w : World) (n : Nd) : (binOp .neq 31 n.agg n.agg).run Try.prog w = .ok (.bool false) w := by
  refine (neqN w n.id n.kind n.mode n.id n.kind n.mode n.tg n.tg).trans ?_
  simp
attribute [local go_sem ↓ high] storeOu loadNd
attribute [local go_sem high] ndNeqU ndGuardU eqN neqN guardN

set_option maxRecDepth 100000 in
set_option maxHeartbeats 8000000 in
theorem walk_WalkUps (a : Option Addr) (cap : Nat) (ops : List Opn) (path : ByteArray) (links : Int) (w : World) (row : RowOps w a ops) (hlen : ops.length ≤ 3000000000000) (_ : (Lit.int .i64 links).wf = true) :
    Calls Try.prog 5 #[.slice a ops.length cap, .string path, .int .i64 links] w fun x w' => x = .returned (.bool true) ∧ Below w.heap.size w w' := by
  have HFi : Hid (Calls Try.prog 7 #[.slice a ops.length cap] w fun e w' => FilR ops w w' e) := filled_p a cap ops w row hlen
  have HA : Hid (∀ w, Calls Try.prog 10 #[] w fun x w' => x = .returned (.bool true) ∧ Below w.heap.size w w') := awake14_p
  obtain ⟨n, hn⟩ : ∃ n, ops.length = n := ⟨_, rfl⟩
  rw [hn] at HFi ⊢
  obtain ⟨E, hE⟩ : ∃ E, cutE path (rootB path) = E := ⟨_, rfl⟩
  obtain ⟨D, hD⟩ : ∃ D, cutD path (rootB path) = D := ⟨_, rfl⟩
  obtain ⟨L, hL⟩ : ∃ L, cutL path (rootB path) = L := ⟨_, rfl⟩
  obtain ⟨k, hk⟩ : ∃ k, L.length = k := ⟨_, rfl⟩
  have hk97 : k ≤ 97 := by rw [← hk, ← hL]; exact cutL_len _ _
  have HSp : Hid (∀ W, Calls Try.prog 9 #[.string path] W fun x w' => ∃ a cc, x = .returned (.tuple #[.slice a k cc, .bool D, .int .i64 E]) ∧ Own w' W.heap.size (.slice a k cc) L ∧ Below W.heap.size W w') := fun W => by
    refine (split_any path W).mono ?_
    rintro r w' ⟨vv, rfl, ho, hb⟩
    rw [hE, hD]
    rw [hL] at ho
    obtain ⟨a, cc, rfl⟩ := owns_len ho
    rw [hk] at ho ⊢
    exact ⟨a, cc, rfl, ho, hb⟩
  have HK : Hid (L.length = k ∧ k ≤ 97) := ⟨hk, hk97⟩
  clear hE hD hL hk hk97 row hlen
  by_cases hE0 : E = 0
  · subst hE0
    go_enter Try.func5, Try.ntmps5
    go_upto_region 7 with (first
      | (go_at_call 9; refine (HSp.out _).mono ?_; rintro r w2 ⟨a2, c2, rfl, ho, hb⟩; have H2 : Hid (Own w2 w1.heap.size (.slice a2 k c2) L ∧ Below w1.heap.size w1 w2) := ⟨ho, hb⟩; clear ho hb)
      | (go_at_call 7; refine HFi.out.mono ?_; rintro r w1 hF; obtain ⟨p, t, s, rfl, -, hfl⟩ := hF.fl; have H1 : Hid (Flw w w1 t s p ops.length) := hfl; clear hF hfl))
    obtain ⟨O, hO⟩ : ∃ O, stepsO (knC (fillS s.es)) L true true links = O := ⟨_, rfl⟩
    obtain ⟨lo, hlo⟩ : ∃ lo, O.used.length = lo := ⟨_, rfl⟩
    have hl1 : lo ≤ 1000 := by
      rw [← hlo, ← hO]
      unfold stepsO
      have := goW_len (knC (fillS s.es)) true (linksN links) L (startW true)
      have hl := linksN_le links
      have e : (startW true).used.length = 0 := rfl
      have := HK.out
      omega
    have HLd : Hid (∀ W, Below w2.heap.size w2 W → Ld w W p (fillS s.es) 47 (TB t s)) := fun W hb => H1.out.ld W (chainB H2.out.2 hb)
    have HZb : Hid (∀ W, Below w2.heap.size w2 W → Below w.heap.size w W) := fun W hb => H1.out.below W (chainB H2.out.2 hb)
    have HS1 : Hid (Calls Try.prog 15 #[.pointer (some ⟨p, 0, none⟩), .slice none 0 0, .slice a2 k c2, .bool true, .bool true, .int .i64 links] w2 fun r w' => ∃ a c, r = .returned (ouAgg O (.slice a lo c)) ∧ Below w2.heap.size w2 w') := by
      refine (ld_steps (HLd.out w2 (Below.refl _ _)) H2.out.1 (by have := HK.out; omega) true true links).mono ?_
      intro r w' hr
      rw [hO] at hr
      have := hr.fx
      rw [hlo] at this
      obtain ⟨a, c, h1, -, h3⟩ := this
      exact ⟨a, c, h1, h3⟩
    have HRt : Hid (∀ W, Below w2.heap.size w2 W → Calls Try.prog 15 #[.pointer (some ⟨p, 0, none⟩), .slice none 0 0, .slice (some ⟨W.heap.size, 0, none⟩) 3 3, .bool true, .bool true, .int .i64 links] (W.alloc (.cells #[.string ⟨#[46, 46]⟩, .string ⟨#[46]⟩, .string ⟨#[46, 46]⟩] 9)) fun r w' => ∃ a c, r = .returned (ouAgg ⟨false, zeroKy, 0, rootN, []⟩ (.slice a 0 c)) ∧ Below W.heap.size W w') := fun W hb => by
      have bA := below_alloc W (.cells #[.string ⟨#[46, 46]⟩, .string ⟨#[46]⟩, .string ⟨#[46, 46]⟩] 9)
      refine (ld_stepsR (nS := 3) (cS := 3) (HLd.out _ (chainB hb bA)) (steps := [dot2, dot1, dot2]) (rowS_new W [dot2, dot1, dot2]) rfl (by omega) (by simp) (by omega) true true links).mono ?_
      intro r w' hr
      rw [ups_root] at hr
      obtain ⟨a, c, h1, -, h3⟩ := hr.fx
      exact ⟨a, c, h1, chainB bA h3⟩
    have HO : Hid (stepsO (knC (fillS s.es)) L true true links = O ∧ O.used.length = lo ∧ lo ≤ 1000 ∧ WF Mn s.es s.next) := ⟨hO, hlo, hl1, H1.out.wf⟩
    have bx := box9
    clear hO hlo hl1
    go_upto_region 9 with (go_at_call 15; first
      | ((with_reducible refine (HRt.out _ H3.out.2).mono ?_); rintro r w4 ⟨a4, c4, rfl, hb⟩; obtain ⟨V4, hV4⟩ : ∃ V, w4.alloc (.cells (ouVals ⟨false, zeroKy, 0, rootN, []⟩ (.slice a4 0 c4)).toArray 34) = V := ⟨_, rfl⟩; have bV4 := boxO hV4; have H4 : Hid (V4.heap[w3.heap.size]? = some (.cells (ouVals O (.slice a3 lo c3)).toArray 34 (0, 0)) ∧ V4.heap[w4.heap.size]? = some (.cells (ouVals ⟨false, zeroKy, 0, rootN, []⟩ (.slice a4 0 c4)).toArray 34 (0, 0)) ∧ Below w2.heap.size w2 V4) := ⟨hkeep (hkeep H3.out.1 hb) bV4.2.1, bV4.1, chainB H3.out.2 (chainB hb bV4.2.1)⟩; clear hb bV4)
      | ((with_reducible refine HS1.out.mono ?_); rintro r w3 ⟨a3, c3, rfl, hb⟩; obtain ⟨V3, hV3⟩ : ∃ V, w3.alloc (.cells (ouVals O (.slice a3 lo c3)).toArray 34) = V := ⟨_, rfl⟩; have bV3 := boxO hV3; have H3 : Hid (V3.heap[w3.heap.size]? = some (.cells (ouVals O (.slice a3 lo c3)).toArray 34 (0, 0)) ∧ Below w2.heap.size w2 V3) := ⟨bV3.1, chainB hb bV3.2.1⟩; clear hb bV3))
    have q3 := ouCells H4.out.1
    have q3n := ouNode' H4.out.1
    have o3 := q3.2.2.2.1
    have o4 := q3.2.2.2.2.1
    have o5 := q3n.1
    have q4 := ouCells H4.out.2.1
    have r3 := q4.2.2.2.1
    have r4 := q4.2.2.2.2.1
    have r8 := q4.2.2.2.2.2
    simp only [rootN] at r3 r4 r8
    clear q3 q3n q4 hV4 hV3
    have HW4 : Hid (Below w2.heap.size w2 V4) := H4.out.2.2
    by_cases hOe : O.err = 0
    · by_cases hOk : O.node.kind = 1
      · rw [hOe] at o3
        rw [hOk] at o5
        obtain ⟨d, hd⟩ : ∃ d, O.node.id = d := ⟨_, rfl⟩
        rw [hd] at o4
        have HNm : Hid (Calls Try.prog 16 #[.pointer (some ⟨p, 0, none⟩), .int .i64 d] V4 fun x w' => ∃ a c m M, x = .returned (.slice a m c) ∧ Row7 w' V4.heap.size (.slice a m c) M ∧ M.length = m ∧ m ≤ 47 ∧ (∀ e ∈ M, e ∈ s.es ∧ e.d = O.node.id) ∧ Below V4.heap.size V4 w') := by
          refine (ld_names (HLd.out V4 HW4.out) d (by omega)).mono ?_
          rintro x w' ⟨v, M, rfl, hr, hM, hb⟩
          obtain ⟨a, c, rfl⟩ := owns_len hr
          have hes : (fillS s.es).L = s.es := (fillS_is s.es (wf_names HO.out.2.2.2) HO.out.2.2.2.rises.apart).1
          rw [hes] at hM
          refine ⟨a, c, _, M, rfl, hr, rfl, ?_, fun e he => by rw [hd]; exact names_mem hM he, hb⟩
          have e1 := hM.1.length_eq
          have e2 : (nameL s.es d).length ≤ s.es.length := List.length_filter_le _ _
          have e3 := HO.out.2.2.2.len
          omega
        have HOk : Hid (O.err = 0 ∧ O.node.id = d ∧ O.node.kind = 1) := ⟨hOe, hd, hOk⟩
        clear hOe hOk hd
        go_wp2_with (go_at_call 16; refine HNm.out.mono ?_; rintro r w5 ⟨a5, c5, m, M, rfl, hr, hm, hm47, hM, hb⟩; have H5 : Hid (Row7 w5 V4.heap.size (.slice a5 m c5) M ∧ M.length = m ∧ m ≤ 47 ∧ (∀ e ∈ M, e ∈ s.es ∧ e.d = O.node.id) ∧ Below w2.heap.size w2 w5 ∧ w5.heap[w3.heap.size]? = some (.cells (ouVals O (.slice a3 lo c3)).toArray 34 (0, 0))) := ⟨hr, hm, hm47, hM, chainB HW4.out hb, hkeep H4.out.1 hb⟩; clear hr hm hM hb)
        clear o3 o4 o5 r3 r4 r8
        go_loopw [16, 17, 18] (fun s16 _ _ wr => ∃ i : Nat, i ≤ m ∧ s16 = .int .i64 (i : Int) ∧ Hid (Below w5.heap.size w5 wr)) (fun s16 _ _ _ => m - (intOf s16).toNat)
        case atStart => exact ⟨0, Nat.zero_le _, rfl, Below.refl _ _⟩
        case round =>
          obtain ⟨i, hi, rfl, HJ⟩ := hrel
          have HWr : Hid (Below w2.heap.size w2 wr) := chainB H5.out.2.2.2.2.1 HJ.out
          by_cases hlt : i < m
          · have hltz : (i : Int) < (m : Int) := by omega
            obtain ⟨e, he⟩ : ∃ e, M[i]? = some e := ⟨_, List.getElem?_eq_getElem (by rw [H5.out.2.1]; exact hlt)⟩
            obtain ⟨g, rfl, -, -, -, hc, -⟩ := owns_entry (H5.out.1.below HJ.out) he
            have c1 := hc.c1
            have c4 := hc.c4
            have hw1 : IntKind.i64.wrap ((i : Int) + 1) = ((i + 1 : Nat) : Int) := by
              rw [show ((i + 1 : Nat) : Int) = (i : Int) + 1 by omega]; exact IntWalk.i64_in _ (by omega)
            by_cases hk : e.kind = 1
            · rw [hk] at c4
              obtain ⟨he1, he2⟩ := H5.out.2.2.2.1 e (List.mem_of_getElem? he)
              obtain ⟨hB2, hB1⟩ := ups_plain HO.out.2.2.2 L links HO.out.1 HOk.out.1 he1 he2 hk
              obtain ⟨OB, hOB⟩ : ∃ x : Ou, x = ⟨false, zeroKy, 0, O.node, O.used ++ [⟨e.d, e.nm⟩]⟩ := ⟨_, rfl⟩
              obtain ⟨OD, hOD⟩ : ∃ x : Ou, x = ⟨false, zeroKy, 0, e.nd, O.used ++ [⟨e.d, e.nm⟩]⟩ := ⟨_, rfl⟩
              rw [← hOB] at hB2
              rw [← hOD] at hB1
              obtain ⟨lb, hlb⟩ : ∃ l, lo + 1 = l := ⟨_, rfl⟩
              have HOB : Hid (stepsO (knC (fillS s.es)) (L ++ [e.nm, dot2]) true true links = OB ∧ stepsO (knC (fillS s.es)) (L ++ [e.nm]) true true links = OD ∧ OB.used.length = lb ∧ OD.used.length = lb) := ⟨hB2, hB1, by rw [hOB, List.length_append, HO.out.2.1]; exact hlb, by rw [hOD, List.length_append, HO.out.2.1]; exact hlb⟩
              have HC : Hid (∀ W, Below wr.heap.size wr W → Calls Try.prog 17 #[.slice a2 k c2] W fun e w' => ∃ aA cA, e = .returned (.slice aA k cA) ∧ Own w' W.heap.size (.slice aA k cA) L ∧ Below W.heap.size W w') := fun W hb => by
                refine (copyT_any _ _ _ W (H2.out.1.below (chainB HWr.out hb)) (by have := HK.out; omega)).mono ?_
                rintro e w' ⟨v', rfl, ho, hb'⟩
                obtain ⟨aA, cA, rfl⟩ := owns_len ho
                rw [HK.out.1] at ho ⊢
                exact ⟨aA, cA, rfl, ho, hb'⟩
              have HSb : Hid (∀ W, Below wr.heap.size wr W → ∀ a4 c4, Own W wr.heap.size (.slice a4 (k + 2) c4) (L ++ [e.nm, dot2]) → Calls Try.prog 15 #[.pointer (some ⟨p, 0, none⟩), .slice none 0 0, .slice a4 (k + 2) c4, .bool true, .bool true, .int .i64 links] W fun r w' => ∃ a c, r = .returned (ouAgg OB (.slice a lb c)) ∧ Below W.heap.size W w') := fun W hb a4 c4 ho => by
                refine (ld_steps (HLd.out W (chainB HWr.out hb)) ho (by have := HK.out; omega) true true links).mono ?_
                intro r w' hr
                rw [HOB.out.1] at hr
                have h5 := hr.fx
                rw [HOB.out.2.2.1] at h5
                obtain ⟨a, c, h1, -, h3⟩ := h5
                exact ⟨a, c, h1, h3⟩
              have HSd : Hid (∀ wq W, Below wr.heap.size wr wq → Below wq.heap.size wq W → ∀ a4 c4, Own W wq.heap.size (.slice a4 (k + 1) c4) (L ++ [e.nm]) → Calls Try.prog 15 #[.pointer (some ⟨p, 0, none⟩), .slice none 0 0, .slice a4 (k + 1) c4, .bool true, .bool true, .int .i64 links] W fun r w' => ∃ a c, r = .returned (ouAgg OD (.slice a lb c)) ∧ Below W.heap.size W w') := fun wq W h0 hb a4 c4 ho => by
                refine (ld_steps (HLd.out W (chainB HWr.out (chainB h0 hb))) ho (by have := HK.out; omega) true true links).mono ?_
                intro r w' hr
                rw [HOB.out.2.1] at hr
                have h5 := hr.fx
                rw [HOB.out.2.2.2] at h5
                obtain ⟨a, c, h1, -, h3⟩ := h5
                exact ⟨a, c, h1, h3⟩
              have HOv : Hid (OB.err = 0 ∧ OB.node = O.node ∧ OD.node = e.nd) := ⟨by rw [hOB], by rw [hOB], by rw [hOD]⟩
              have HC7 : Hid (Cells7 wr g (i * 7) e) := hc
              clear hB1 hB2 he hc he1 he2 hOB hOD
              go_upto_region 18 with fail
              have HSg : Hid (∀ W, Below wr.heap.size wr W → W.cell? ⟨g, i * 7 + 1, none⟩ = some (.string e.nm)) := fun W hb => (hb.cell (cellLt c1)).trans c1
              go_cut [17] from 87 to 99 (fun x wx => ∃ g a c, x = .pointer (some ⟨g, 0, none⟩) ∧ Hid (BoxO wr wx g OB (.slice a lb c)))
              case first =>
                go_region_held3 (fun W => W.cell? ⟨g, i * 7 + 1, none⟩ = some (.string e.nm))
                  (first | exact HSg.out _ (by first | exact below_drewN (Below.refl _ _) 1 | exact below_drewN (below_alloc _ _) 1 | exact below_drewN (chainB (below_alloc _ _) (below_alloc _ _)) 1 | exact HC6.out.2 | exact chainB HC6.out.2 (below_alloc _ _) | exact chainB HC6.out.2 (chainB (below_alloc _ _) (below_alloc _ _)) | exact H4.out.2 | exact chainB H4.out.2 (below_alloc _ _) | exact HB7.out | exact chainB HB7.out (below_alloc _ _) | exact H7.out.2.bel | fail) | fail)
                  (first
                    | (go_at_call 15; first
                      | ((with_reducible refine (HSb.out W4 H4.out.2 a4 c4 H4.out.1).mono ?_); rintro r w7 ⟨a7, c7, rfl, hb⟩; have HB7 : Hid (Below wr.heap.size wr w7) := chainB H4.out.2 hb; obtain ⟨X7, hst, hx⟩ := store_at OB a7 lb c7 (hkeep HFz4.1 hb) (chainB H4.out.2 hb) HFz4.2; (try simp only [sizeA] at hst hx); have H7 : Hid (True ∧ _) := ⟨True.intro, hx⟩; clear hx hb)
                      | ((with_reducible refine (HSb.out (W4.alloc (.cells #[.bool false, .int .i64 0, .string ⟨#[]⟩, .int .i64 0, .int .i64 0, .int .i64 0, .int .i64 0, .string ⟨#[]⟩, .slice none 0 0] 34)) (chainB H4.out.2 (below_alloc _ _)) a4 c4 (H4.out.1.below (below_alloc _ _))).mono ?_); rintro r w7 ⟨a7, c7, rfl, hb⟩; have HB7 : Hid (Below wr.heap.size wr w7) := chainB H4.out.2 (chainB (below_alloc _ _) hb); obtain ⟨X7, hst, hx⟩ := store_at OB a7 lb c7 (hkeep (heap_new W4 _) hb) (chainB H4.out.2 (chainB (below_alloc _ _) hb)) H4.out.2.size; have H7 : Hid (_ ∧ BoxO wr X7 W4.heap.size OB (.slice a7 lb c7)) := ⟨True.intro, hx⟩; clear hx hb)
                      | ((with_reducible refine (HSb.out W4 H4.out.2 a4 c4 H4.out.1).mono ?_); rintro r w7 ⟨a7, c7, rfl, hb⟩; have HB7 : Hid (Below wr.heap.size wr w7) := chainB H4.out.2 hb; obtain ⟨gB, X7, hgB, hst, hx⟩ := store_new OB a7 lb c7 (chainB H4.out.2 hb); have H7 : Hid (_ ∧ BoxO wr X7 gB OB (.slice a7 lb c7)) := ⟨hgB, hx⟩; clear hx hb)
                      | fail)
                    | (go_at_call 17; first
                      | ((with_reducible refine (HC.out (wr.drew) (below_drewN (Below.refl _ _) 1)).mono ?_); rintro r wA ⟨aA, cA, rfl, ho, hb⟩; have hD : Below wr.heap.size wr (wr.drew) := below_drewN (Below.refl _ _) 1; have HC6 : Hid (Own wA wr.heap.size (.slice aA k cA) L ∧ Below wr.heap.size wr wA) := ⟨ho.le hD.size, chainB hD hb⟩; clear ho hb hD)
                      | ((with_reducible refine (HC.out ((wr.alloc (.cells #[.bool false, .int .i64 0, .string ⟨#[]⟩, .int .i64 0, .int .i64 0, .int .i64 0, .int .i64 0, .string ⟨#[]⟩, .slice none 0 0] 34)).drew) (below_drewN (below_alloc _ _) 1)).mono ?_); rintro r wA ⟨aA, cA, rfl, ho, hb⟩; have hD : Below wr.heap.size wr ((wr.alloc (.cells #[.bool false, .int .i64 0, .string ⟨#[]⟩, .int .i64 0, .int .i64 0, .int .i64 0, .int .i64 0, .string ⟨#[]⟩, .slice none 0 0] 34)).drew) := below_drewN (below_alloc _ _) 1; have HC6 : Hid (Own wA wr.heap.size (.slice aA k cA) L ∧ Below wr.heap.size wr wA) := ⟨ho.le hD.size, chainB hD hb⟩; have HFz : Hid (wA.heap[wr.heap.size]? = some (.cells #[.bool false, .int .i64 0, .string ⟨#[]⟩, .int .i64 0, .int .i64 0, .int .i64 0, .int .i64 0, .string ⟨#[]⟩, .slice none 0 0] 34 (0, 0)) ∧ (Value.slice aA k cA).ownBlock ≠ some (wr.heap.size) ∧ wr.heap.size ≤ wr.heap.size) := ⟨hkeepD (heap_new wr _) hb, own_neB ho (heap_ltA wr (.cells #[.bool false, .int .i64 0, .string ⟨#[]⟩, .int .i64 0, .int .i64 0, .int .i64 0, .int .i64 0, .string ⟨#[]⟩, .slice none 0 0] 34)), Nat.le_refl _⟩; clear ho hb hD)
                      | ((with_reducible refine (HC.out ((wr.alloc (.cells #[.string e.nm, .string ⟨#[46, 46]⟩] 9)).drew) (below_drewN (below_alloc _ _) 1)).mono ?_); rintro r wA ⟨aA, cA, rfl, ho, hb⟩; have hD : Below wr.heap.size wr ((wr.alloc (.cells #[.string e.nm, .string ⟨#[46, 46]⟩] 9)).drew) := below_drewN (below_alloc _ _) 1; have HC6 : Hid (Own wA wr.heap.size (.slice aA k cA) L ∧ Below wr.heap.size wr wA) := ⟨ho.le hD.size, chainB hD hb⟩; have HFb : Hid (RowS wA (some ⟨wr.heap.size, 0, none⟩) [e.nm, dot2]) := RowS.below (drewS (rowS_new wr [e.nm, dot2])) hb; clear ho hb hD)
                      | ((with_reducible refine (HC.out (((wr.alloc (.cells #[.bool false, .int .i64 0, .string ⟨#[]⟩, .int .i64 0, .int .i64 0, .int .i64 0, .int .i64 0, .string ⟨#[]⟩, .slice none 0 0] 34)).alloc (.cells #[.string e.nm, .string ⟨#[46, 46]⟩] 9)).drew) (below_drewN (chainB (below_alloc _ _) (below_alloc _ _)) 1)).mono ?_); rintro r wA ⟨aA, cA, rfl, ho, hb⟩; have hD : Below wr.heap.size wr (((wr.alloc (.cells #[.bool false, .int .i64 0, .string ⟨#[]⟩, .int .i64 0, .int .i64 0, .int .i64 0, .int .i64 0, .string ⟨#[]⟩, .slice none 0 0] 34)).alloc (.cells #[.string e.nm, .string ⟨#[46, 46]⟩] 9)).drew) := below_drewN (chainB (below_alloc _ _) (below_alloc _ _)) 1; have HC6 : Hid (Own wA wr.heap.size (.slice aA k cA) L ∧ Below wr.heap.size wr wA) := ⟨ho.le hD.size, chainB hD hb⟩; have HFb : Hid (RowS wA (some ⟨(wr.alloc (.cells #[.bool false, .int .i64 0, .string ⟨#[]⟩, .int .i64 0, .int .i64 0, .int .i64 0, .int .i64 0, .string ⟨#[]⟩, .slice none 0 0] 34)).heap.size, 0, none⟩) [e.nm, dot2]) := RowS.below (drewS (rowS_new (wr.alloc (.cells #[.bool false, .int .i64 0, .string ⟨#[]⟩, .int .i64 0, .int .i64 0, .int .i64 0, .int .i64 0, .string ⟨#[]⟩, .slice none 0 0] 34)) [e.nm, dot2])) hb; have HFz : Hid (wA.heap[wr.heap.size]? = some (.cells #[.bool false, .int .i64 0, .string ⟨#[]⟩, .int .i64 0, .int .i64 0, .int .i64 0, .int .i64 0, .string ⟨#[]⟩, .slice none 0 0] 34 (0, 0)) ∧ (Value.slice aA k cA).ownBlock ≠ some (wr.heap.size) ∧ wr.heap.size ≤ wr.heap.size) := ⟨hkeepD (hkeep (heap_new wr _) (below_alloc _ _)) hb, own_neB ho (Nat.lt_of_lt_of_le (heap_ltA wr (.cells #[.bool false, .int .i64 0, .string ⟨#[]⟩, .int .i64 0, .int .i64 0, .int .i64 0, .int .i64 0, .string ⟨#[]⟩, .slice none 0 0] 34)) (below_alloc (wr.alloc (.cells #[.bool false, .int .i64 0, .string ⟨#[]⟩, .int .i64 0, .int .i64 0, .int .i64 0, .int .i64 0, .string ⟨#[]⟩, .slice none 0 0] 34)) (.cells #[.string e.nm, .string ⟨#[46, 46]⟩] 9)).size), Nat.le_refl _⟩; clear ho hb hD)
                      | ((with_reducible refine (HC.out (((wr.alloc (.cells #[.string e.nm, .string ⟨#[46, 46]⟩] 9)).alloc (.cells #[.bool false, .int .i64 0, .string ⟨#[]⟩, .int .i64 0, .int .i64 0, .int .i64 0, .int .i64 0, .string ⟨#[]⟩, .slice none 0 0] 34)).drew) (below_drewN (chainB (below_alloc _ _) (below_alloc _ _)) 1)).mono ?_); rintro r wA ⟨aA, cA, rfl, ho, hb⟩; have hD : Below wr.heap.size wr (((wr.alloc (.cells #[.string e.nm, .string ⟨#[46, 46]⟩] 9)).alloc (.cells #[.bool false, .int .i64 0, .string ⟨#[]⟩, .int .i64 0, .int .i64 0, .int .i64 0, .int .i64 0, .string ⟨#[]⟩, .slice none 0 0] 34)).drew) := below_drewN (chainB (below_alloc _ _) (below_alloc _ _)) 1; have HC6 : Hid (Own wA wr.heap.size (.slice aA k cA) L ∧ Below wr.heap.size wr wA) := ⟨ho.le hD.size, chainB hD hb⟩; have HFb : Hid (RowS wA (some ⟨wr.heap.size, 0, none⟩) [e.nm, dot2]) := RowS.below (drewS (RowS.below (rowS_new wr [e.nm, dot2]) (below_alloc (wr.alloc (.cells #[.string e.nm, .string ⟨#[46, 46]⟩] 9)) (.cells #[.bool false, .int .i64 0, .string ⟨#[]⟩, .int .i64 0, .int .i64 0, .int .i64 0, .int .i64 0, .string ⟨#[]⟩, .slice none 0 0] 34)))) hb; have HFz : Hid (wA.heap[(wr.alloc (.cells #[.string e.nm, .string ⟨#[46, 46]⟩] 9)).heap.size]? = some (.cells #[.bool false, .int .i64 0, .string ⟨#[]⟩, .int .i64 0, .int .i64 0, .int .i64 0, .int .i64 0, .string ⟨#[]⟩, .slice none 0 0] 34 (0, 0)) ∧ (Value.slice aA k cA).ownBlock ≠ some ((wr.alloc (.cells #[.string e.nm, .string ⟨#[46, 46]⟩] 9)).heap.size) ∧ wr.heap.size ≤ (wr.alloc (.cells #[.string e.nm, .string ⟨#[46, 46]⟩] 9)).heap.size) := ⟨hkeepD (heap_new (wr.alloc (.cells #[.string e.nm, .string ⟨#[46, 46]⟩] 9)) _) hb, own_neB ho (heap_ltA (wr.alloc (.cells #[.string e.nm, .string ⟨#[46, 46]⟩] 9)) (.cells #[.bool false, .int .i64 0, .string ⟨#[]⟩, .int .i64 0, .int .i64 0, .int .i64 0, .int .i64 0, .string ⟨#[]⟩, .slice none 0 0] 34)), (below_alloc wr (.cells #[.string e.nm, .string ⟨#[46, 46]⟩] 9)).size⟩; clear ho hb hD)
                      | fail)
                    | (first
                      | ((with_reducible refine atW (wA) ?_); obtain ⟨u96, a4, c4, W4, h96, r4, o4, b4, kq, sz4⟩ := app_at (wr := wr) (W := wA) (nX := 2) HC6.out.1 HK.out.1 HFb.out rfl (chainB HC6.out.2 (Below.refl _ _)) (by have := HK.out; simp only [List.length_cons, List.length_nil]; omega); have H4 : Hid (Own W4 wr.heap.size (.slice a4 (k + 2) c4) (L ++ [e.nm, dot2]) ∧ Below wr.heap.size wr W4) := ⟨o4, b4⟩; have HFz4 := And.intro ((kq _ (Array.getElem?_eq_some_iff.1 HFz.out.1).1 HFz.out.2.1).trans HFz.out.1) HFz.out.2.2; clear o4 b4 kq sz4; (with_reducible refine step_apR rfl (.tmp 89) (.tmp 96) 36 rfl _ _ (.slice a4 (k + 2) c4) W4 (by simp [Act.eval]) (by first | (simp [Act.eval]; done) | (refine Eq.trans ?_ h96; simp [Act.eval])) r4 ?_))
                      | ((with_reducible refine atW ((wA.alloc (.cells #[.string e.nm, .string ⟨#[46, 46]⟩] 9))) ?_); obtain ⟨u96, a4, c4, W4, h96, r4, o4, b4, kq, sz4⟩ := app_at (wr := wr) (W := (wA.alloc (.cells #[.string e.nm, .string ⟨#[46, 46]⟩] 9))) (nX := 2) (HC6.out.1.below (below_alloc _ _)) HK.out.1 (rowS_new wA [e.nm, dot2]) rfl (chainB HC6.out.2 (below_alloc _ _)) (by have := HK.out; simp only [List.length_cons, List.length_nil]; omega); have H4 : Hid (Own W4 wr.heap.size (.slice a4 (k + 2) c4) (L ++ [e.nm, dot2]) ∧ Below wr.heap.size wr W4) := ⟨o4, b4⟩; have HFz4 := And.intro ((kq _ (Array.getElem?_eq_some_iff.1 (hkeep HFz.out.1 (below_alloc wA (.cells #[.string e.nm, .string ⟨#[46, 46]⟩] 9)))).1 HFz.out.2.1).trans (hkeep HFz.out.1 (below_alloc wA (.cells #[.string e.nm, .string ⟨#[46, 46]⟩] 9)))) HFz.out.2.2; clear o4 b4 kq sz4; (with_reducible refine step_apR rfl (.tmp 89) (.tmp 96) 36 rfl _ _ (.slice a4 (k + 2) c4) W4 (by simp [Act.eval]) (by first | (simp [Act.eval]; done) | (refine Eq.trans ?_ h96; simp [Act.eval])) r4 ?_))
                      | ((with_reducible refine atW (wA) ?_); obtain ⟨u96, a4, c4, W4, h96, r4, o4, b4, kq, sz4⟩ := app_at (wr := wr) (W := wA) (nX := 2) HC6.out.1 HK.out.1 HFb.out rfl (chainB HC6.out.2 (Below.refl _ _)) (by have := HK.out; simp only [List.length_cons, List.length_nil]; omega); have H4 : Hid (Own W4 wr.heap.size (.slice a4 (k + 2) c4) (L ++ [e.nm, dot2]) ∧ Below wr.heap.size wr W4) := ⟨o4, b4⟩; clear o4 b4 kq sz4; (with_reducible refine step_apR rfl (.tmp 89) (.tmp 96) 36 rfl _ _ (.slice a4 (k + 2) c4) W4 (by simp [Act.eval]) (by first | (simp [Act.eval]; done) | (refine Eq.trans ?_ h96; simp [Act.eval])) r4 ?_))
                      | ((with_reducible refine atW ((wA.alloc (.cells #[.string e.nm, .string ⟨#[46, 46]⟩] 9))) ?_); obtain ⟨u96, a4, c4, W4, h96, r4, o4, b4, kq, sz4⟩ := app_at (wr := wr) (W := (wA.alloc (.cells #[.string e.nm, .string ⟨#[46, 46]⟩] 9))) (nX := 2) (HC6.out.1.below (below_alloc _ _)) HK.out.1 (rowS_new wA [e.nm, dot2]) rfl (chainB HC6.out.2 (below_alloc _ _)) (by have := HK.out; simp only [List.length_cons, List.length_nil]; omega); have H4 : Hid (Own W4 wr.heap.size (.slice a4 (k + 2) c4) (L ++ [e.nm, dot2]) ∧ Below wr.heap.size wr W4) := ⟨o4, b4⟩; clear o4 b4 kq sz4; (with_reducible refine step_apR rfl (.tmp 89) (.tmp 96) 36 rfl _ _ (.slice a4 (k + 2) c4) W4 (by simp [Act.eval]) (by first | (simp [Act.eval]; done) | (refine Eq.trans ?_ h96; simp [Act.eval])) r4 ?_))
                      | ((with_reducible refine atW ((wA.alloc (.cells #[.bool false, .int .i64 0, .string ⟨#[]⟩, .int .i64 0, .int .i64 0, .int .i64 0, .int .i64 0, .string ⟨#[]⟩, .slice none 0 0] 34))) ?_); obtain ⟨u96, a4, c4, W4, h96, r4, o4, b4, kq, sz4⟩ := app_at (wr := wr) (W := (wA.alloc (.cells #[.bool false, .int .i64 0, .string ⟨#[]⟩, .int .i64 0, .int .i64 0, .int .i64 0, .int .i64 0, .string ⟨#[]⟩, .slice none 0 0] 34))) (nX := 2) (HC6.out.1.below (below_alloc _ _)) HK.out.1 (RowS.below HFb.out (below_alloc _ _)) rfl (chainB HC6.out.2 (below_alloc _ _)) (by have := HK.out; simp only [List.length_cons, List.length_nil]; omega); have H4 : Hid (Own W4 wr.heap.size (.slice a4 (k + 2) c4) (L ++ [e.nm, dot2]) ∧ Below wr.heap.size wr W4) := ⟨o4, b4⟩; have HFz4 := And.intro ((kq wA.heap.size (Array.getElem?_eq_some_iff.1 (heap_new wA (.cells #[.bool false, .int .i64 0, .string ⟨#[]⟩, .int .i64 0, .int .i64 0, .int .i64 0, .int .i64 0, .string ⟨#[]⟩, .slice none 0 0] 34))).1 (own_neU HC6.out.1 (Nat.le_refl _))).trans (heap_new wA (.cells #[.bool false, .int .i64 0, .string ⟨#[]⟩, .int .i64 0, .int .i64 0, .int .i64 0, .int .i64 0, .string ⟨#[]⟩, .slice none 0 0] 34))) HC6.out.2.size; clear o4 b4 kq sz4; (with_reducible refine step_apR rfl (.tmp 89) (.tmp 96) 36 rfl _ _ (.slice a4 (k + 2) c4) W4 (by simp [Act.eval]) (by first | (simp [Act.eval]; done) | (refine Eq.trans ?_ h96; simp [Act.eval])) r4 ?_))
                      | ((with_reducible refine atW (((wA.alloc (.cells #[.bool false, .int .i64 0, .string ⟨#[]⟩, .int .i64 0, .int .i64 0, .int .i64 0, .int .i64 0, .string ⟨#[]⟩, .slice none 0 0] 34)).alloc (.cells #[.string e.nm, .string ⟨#[46, 46]⟩] 9))) ?_); obtain ⟨u96, a4, c4, W4, h96, r4, o4, b4, kq, sz4⟩ := app_at (wr := wr) (W := ((wA.alloc (.cells #[.bool false, .int .i64 0, .string ⟨#[]⟩, .int .i64 0, .int .i64 0, .int .i64 0, .int .i64 0, .string ⟨#[]⟩, .slice none 0 0] 34)).alloc (.cells #[.string e.nm, .string ⟨#[46, 46]⟩] 9))) (nX := 2) (HC6.out.1.below (chainB (below_alloc _ _) (below_alloc _ _))) HK.out.1 (rowS_new (wA.alloc (.cells #[.bool false, .int .i64 0, .string ⟨#[]⟩, .int .i64 0, .int .i64 0, .int .i64 0, .int .i64 0, .string ⟨#[]⟩, .slice none 0 0] 34)) [e.nm, dot2]) rfl (chainB HC6.out.2 (chainB (below_alloc _ _) (below_alloc _ _))) (by have := HK.out; simp only [List.length_cons, List.length_nil]; omega); have H4 : Hid (Own W4 wr.heap.size (.slice a4 (k + 2) c4) (L ++ [e.nm, dot2]) ∧ Below wr.heap.size wr W4) := ⟨o4, b4⟩; have HFz4 := And.intro ((kq wA.heap.size (Array.getElem?_eq_some_iff.1 (hkeep (heap_new wA (.cells #[.bool false, .int .i64 0, .string ⟨#[]⟩, .int .i64 0, .int .i64 0, .int .i64 0, .int .i64 0, .string ⟨#[]⟩, .slice none 0 0] 34)) (below_alloc _ (.cells #[.string e.nm, .string ⟨#[46, 46]⟩] 9)))).1 (own_neU HC6.out.1 (Nat.le_refl _))).trans (hkeep (heap_new wA (.cells #[.bool false, .int .i64 0, .string ⟨#[]⟩, .int .i64 0, .int .i64 0, .int .i64 0, .int .i64 0, .string ⟨#[]⟩, .slice none 0 0] 34)) (below_alloc _ (.cells #[.string e.nm, .string ⟨#[46, 46]⟩] 9)))) HC6.out.2.size; clear o4 b4 kq sz4; (with_reducible refine step_apR rfl (.tmp 89) (.tmp 96) 36 rfl _ _ (.slice a4 (k + 2) c4) W4 (by simp [Act.eval]) (by first | (simp [Act.eval]; done) | (refine Eq.trans ?_ h96; simp [Act.eval])) r4 ?_))
                      | ((with_reducible refine atW (((wA.alloc (.cells #[.string e.nm, .string ⟨#[46, 46]⟩] 9)).alloc (.cells #[.bool false, .int .i64 0, .string ⟨#[]⟩, .int .i64 0, .int .i64 0, .int .i64 0, .int .i64 0, .string ⟨#[]⟩, .slice none 0 0] 34))) ?_); obtain ⟨u96, a4, c4, W4, h96, r4, o4, b4, kq, sz4⟩ := app_at (wr := wr) (W := ((wA.alloc (.cells #[.string e.nm, .string ⟨#[46, 46]⟩] 9)).alloc (.cells #[.bool false, .int .i64 0, .string ⟨#[]⟩, .int .i64 0, .int .i64 0, .int .i64 0, .int .i64 0, .string ⟨#[]⟩, .slice none 0 0] 34))) (nX := 2) (HC6.out.1.below (chainB (below_alloc _ _) (below_alloc _ _))) HK.out.1 ((rowS_new wA [e.nm, dot2]).below (below_alloc _ _)) rfl (chainB HC6.out.2 (chainB (below_alloc _ _) (below_alloc _ _))) (by have := HK.out; simp only [List.length_cons, List.length_nil]; omega); have H4 : Hid (Own W4 wr.heap.size (.slice a4 (k + 2) c4) (L ++ [e.nm, dot2]) ∧ Below wr.heap.size wr W4) := ⟨o4, b4⟩; have HFz4 := And.intro ((kq _ (Array.getElem?_eq_some_iff.1 (heap_new (wA.alloc (.cells #[.string e.nm, .string ⟨#[46, 46]⟩] 9)) (.cells #[.bool false, .int .i64 0, .string ⟨#[]⟩, .int .i64 0, .int .i64 0, .int .i64 0, .int .i64 0, .string ⟨#[]⟩, .slice none 0 0] 34))).1 (own_neU HC6.out.1 (below_alloc wA (.cells #[.string e.nm, .string ⟨#[46, 46]⟩] 9)).size)).trans (heap_new (wA.alloc (.cells #[.string e.nm, .string ⟨#[46, 46]⟩] 9)) (.cells #[.bool false, .int .i64 0, .string ⟨#[]⟩, .int .i64 0, .int .i64 0, .int .i64 0, .int .i64 0, .string ⟨#[]⟩, .slice none 0 0] 34))) (Nat.le_trans HC6.out.2.size (below_alloc wA (.cells #[.string e.nm, .string ⟨#[46, 46]⟩] 9)).size); clear o4 b4 kq sz4; (with_reducible refine step_apR rfl (.tmp 89) (.tmp 96) 36 rfl _ _ (.slice a4 (k + 2) c4) W4 (by simp [Act.eval]) (by first | (simp [Act.eval]; done) | (refine Eq.trans ?_ h96; simp [Act.eval])) r4 ?_))
                      | fail)
                    | fail)
                all_goals (
                  go_wp2
                  go_meet
                  exact ⟨_, _, _, rfl, H7.out.2⟩)
              case rest =>
                obtain ⟨g1, a1, c1', rfl, HX1⟩ := hcut
                obtain ⟨wU, hwU⟩ : ∃ W, W = wc := ⟨_, rfl⟩
                subst hwU
                have HCu : Hid (∀ W, Below wU.heap.size wU W → Calls Try.prog 17 #[.slice a2 k c2] W fun e w' => ∃ aA cA, e = .returned (.slice aA k cA) ∧ Own w' W.heap.size (.slice aA k cA) L ∧ Below W.heap.size W w') := fun W hb => HC.out W (chainB HX1.out.bel hb)
                have HSe : Hid (∀ W, Below wU.heap.size wU W → ∀ a4 c4, Own W wU.heap.size (.slice a4 (k + 1) c4) (L ++ [e.nm]) → Calls Try.prog 15 #[.pointer (some ⟨p, 0, none⟩), .slice none 0 0, .slice a4 (k + 1) c4, .bool true, .bool true, .int .i64 links] W fun r w' => ∃ a c, r = .returned (ouAgg OD (.slice a lb c)) ∧ Below W.heap.size W w') := fun W hb a4 c4 ho => HSd.out wU W HX1.out.bel hb a4 c4 ho
                have HSh : Hid (∀ W, Below wU.heap.size wU W → W.cell? ⟨g, i * 7 + 1, none⟩ = some (.string e.nm)) := fun W hb => HSg.out W (chainB HX1.out.bel hb)
                clear HSb HSd HC HSg c1
                go_upto_region 19 with fail
                go_cut [18] from 100 to 112 (fun x wx => ∃ g a c, x = .pointer (some ⟨g, 0, none⟩) ∧ Hid (BoxO wU wx g OD (.slice a lb c)))
                case first =>
                  go_region_held3 (fun W => W.cell? ⟨g, i * 7 + 1, none⟩ = some (.string e.nm))
                    (first | exact HSh.out _ (by first | exact below_drewN (Below.refl _ _) 1 | exact below_drewN (below_alloc _ _) 1 | exact below_drewN (chainB (below_alloc _ _) (below_alloc _ _)) 1 | exact HC6.out.2 | exact chainB HC6.out.2 (below_alloc _ _) | exact chainB HC6.out.2 (chainB (below_alloc _ _) (below_alloc _ _)) | exact H4.out.2 | exact chainB H4.out.2 (below_alloc _ _) | exact HB7.out | exact chainB HB7.out (below_alloc _ _) | exact H7.out.2.bel | fail) | fail)
                    (first
                      | (go_at_call 15; first
                        | ((with_reducible refine (HSe.out W4 H4.out.2 a4 c4 H4.out.1).mono ?_); rintro r w7 ⟨a7, c7, rfl, hb⟩; have HB7 : Hid (Below wU.heap.size wU w7) := chainB H4.out.2 hb; obtain ⟨X7, hst, hx⟩ := store_at OD a7 lb c7 (hkeep HFz4.1 hb) (chainB H4.out.2 hb) HFz4.2; (try simp only [sizeA] at hst hx); have H7 : Hid (True ∧ _) := ⟨True.intro, hx⟩; clear hx hb)
                        | ((with_reducible refine (HSe.out (W4.alloc (.cells #[.bool false, .int .i64 0, .string ⟨#[]⟩, .int .i64 0, .int .i64 0, .int .i64 0, .int .i64 0, .string ⟨#[]⟩, .slice none 0 0] 34)) (chainB H4.out.2 (below_alloc _ _)) a4 c4 (H4.out.1.below (below_alloc _ _))).mono ?_); rintro r w7 ⟨a7, c7, rfl, hb⟩; have HB7 : Hid (Below wU.heap.size wU w7) := chainB H4.out.2 (chainB (below_alloc _ _) hb); obtain ⟨X7, hst, hx⟩ := store_at OD a7 lb c7 (hkeep (heap_new W4 _) hb) (chainB H4.out.2 (chainB (below_alloc _ _) hb)) H4.out.2.size; have H7 : Hid (_ ∧ BoxO wU X7 W4.heap.size OD (.slice a7 lb c7)) := ⟨True.intro, hx⟩; clear hx hb)
                        | ((with_reducible refine (HSe.out W4 H4.out.2 a4 c4 H4.out.1).mono ?_); rintro r w7 ⟨a7, c7, rfl, hb⟩; have HB7 : Hid (Below wU.heap.size wU w7) := chainB H4.out.2 hb; obtain ⟨gB, X7, hgB, hst, hx⟩ := store_new OD a7 lb c7 (chainB H4.out.2 hb); have H7 : Hid (_ ∧ BoxO wU X7 gB OD (.slice a7 lb c7)) := ⟨hgB, hx⟩; clear hx hb)
                        | fail)
                      | (go_at_call 17; first
                        | ((with_reducible refine (HCu.out (wU.drew) (below_drewN (Below.refl _ _) 1)).mono ?_); rintro r wA ⟨aA, cA, rfl, ho, hb⟩; have hD : Below wU.heap.size wU (wU.drew) := below_drewN (Below.refl _ _) 1; have HC6 : Hid (Own wA wU.heap.size (.slice aA k cA) L ∧ Below wU.heap.size wU wA) := ⟨ho.le hD.size, chainB hD hb⟩; clear ho hb hD)
                        | ((with_reducible refine (HCu.out ((wU.alloc (.cells #[.bool false, .int .i64 0, .string ⟨#[]⟩, .int .i64 0, .int .i64 0, .int .i64 0, .int .i64 0, .string ⟨#[]⟩, .slice none 0 0] 34)).drew) (below_drewN (below_alloc _ _) 1)).mono ?_); rintro r wA ⟨aA, cA, rfl, ho, hb⟩; have hD : Below wU.heap.size wU ((wU.alloc (.cells #[.bool false, .int .i64 0, .string ⟨#[]⟩, .int .i64 0, .int .i64 0, .int .i64 0, .int .i64 0, .string ⟨#[]⟩, .slice none 0 0] 34)).drew) := below_drewN (below_alloc _ _) 1; have HC6 : Hid (Own wA wU.heap.size (.slice aA k cA) L ∧ Below wU.heap.size wU wA) := ⟨ho.le hD.size, chainB hD hb⟩; have HFz : Hid (wA.heap[wU.heap.size]? = some (.cells #[.bool false, .int .i64 0, .string ⟨#[]⟩, .int .i64 0, .int .i64 0, .int .i64 0, .int .i64 0, .string ⟨#[]⟩, .slice none 0 0] 34 (0, 0)) ∧ (Value.slice aA k cA).ownBlock ≠ some (wU.heap.size) ∧ wU.heap.size ≤ wU.heap.size) := ⟨hkeepD (heap_new wU _) hb, own_neB ho (heap_ltA wU (.cells #[.bool false, .int .i64 0, .string ⟨#[]⟩, .int .i64 0, .int .i64 0, .int .i64 0, .int .i64 0, .string ⟨#[]⟩, .slice none 0 0] 34)), Nat.le_refl _⟩; clear ho hb hD)
                        | ((with_reducible refine (HCu.out ((wU.alloc (.cells #[.string e.nm] 9)).drew) (below_drewN (below_alloc _ _) 1)).mono ?_); rintro r wA ⟨aA, cA, rfl, ho, hb⟩; have hD : Below wU.heap.size wU ((wU.alloc (.cells #[.string e.nm] 9)).drew) := below_drewN (below_alloc _ _) 1; have HC6 : Hid (Own wA wU.heap.size (.slice aA k cA) L ∧ Below wU.heap.size wU wA) := ⟨ho.le hD.size, chainB hD hb⟩; have HFb : Hid (RowS wA (some ⟨wU.heap.size, 0, none⟩) [e.nm]) := RowS.below (drewS (rowS_new wU [e.nm])) hb; clear ho hb hD)
                        | ((with_reducible refine (HCu.out (((wU.alloc (.cells #[.bool false, .int .i64 0, .string ⟨#[]⟩, .int .i64 0, .int .i64 0, .int .i64 0, .int .i64 0, .string ⟨#[]⟩, .slice none 0 0] 34)).alloc (.cells #[.string e.nm] 9)).drew) (below_drewN (chainB (below_alloc _ _) (below_alloc _ _)) 1)).mono ?_); rintro r wA ⟨aA, cA, rfl, ho, hb⟩; have hD : Below wU.heap.size wU (((wU.alloc (.cells #[.bool false, .int .i64 0, .string ⟨#[]⟩, .int .i64 0, .int .i64 0, .int .i64 0, .int .i64 0, .string ⟨#[]⟩, .slice none 0 0] 34)).alloc (.cells #[.string e.nm] 9)).drew) := below_drewN (chainB (below_alloc _ _) (below_alloc _ _)) 1; have HC6 : Hid (Own wA wU.heap.size (.slice aA k cA) L ∧ Below wU.heap.size wU wA) := ⟨ho.le hD.size, chainB hD hb⟩; have HFb : Hid (RowS wA (some ⟨(wU.alloc (.cells #[.bool false, .int .i64 0, .string ⟨#[]⟩, .int .i64 0, .int .i64 0, .int .i64 0, .int .i64 0, .string ⟨#[]⟩, .slice none 0 0] 34)).heap.size, 0, none⟩) [e.nm]) := RowS.below (drewS (rowS_new (wU.alloc (.cells #[.bool false, .int .i64 0, .string ⟨#[]⟩, .int .i64 0, .int .i64 0, .int .i64 0, .int .i64 0, .string ⟨#[]⟩, .slice none 0 0] 34)) [e.nm])) hb; have HFz : Hid (wA.heap[wU.heap.size]? = some (.cells #[.bool false, .int .i64 0, .string ⟨#[]⟩, .int .i64 0, .int .i64 0, .int .i64 0, .int .i64 0, .string ⟨#[]⟩, .slice none 0 0] 34 (0, 0)) ∧ (Value.slice aA k cA).ownBlock ≠ some (wU.heap.size) ∧ wU.heap.size ≤ wU.heap.size) := ⟨hkeepD (hkeep (heap_new wU _) (below_alloc _ _)) hb, own_neB ho (Nat.lt_of_lt_of_le (heap_ltA wU (.cells #[.bool false, .int .i64 0, .string ⟨#[]⟩, .int .i64 0, .int .i64 0, .int .i64 0, .int .i64 0, .string ⟨#[]⟩, .slice none 0 0] 34)) (below_alloc (wU.alloc (.cells #[.bool false, .int .i64 0, .string ⟨#[]⟩, .int .i64 0, .int .i64 0, .int .i64 0, .int .i64 0, .string ⟨#[]⟩, .slice none 0 0] 34)) (.cells #[.string e.nm] 9)).size), Nat.le_refl _⟩; clear ho hb hD)
                        | ((with_reducible refine (HCu.out (((wU.alloc (.cells #[.string e.nm] 9)).alloc (.cells #[.bool false, .int .i64 0, .string ⟨#[]⟩, .int .i64 0, .int .i64 0, .int .i64 0, .int .i64 0, .string ⟨#[]⟩, .slice none 0 0] 34)).drew) (below_drewN (chainB (below_alloc _ _) (below_alloc _ _)) 1)).mono ?_); rintro r wA ⟨aA, cA, rfl, ho, hb⟩; have hD : Below wU.heap.size wU (((wU.alloc (.cells #[.string e.nm] 9)).alloc (.cells #[.bool false, .int .i64 0, .string ⟨#[]⟩, .int .i64 0, .int .i64 0, .int .i64 0, .int .i64 0, .string ⟨#[]⟩, .slice none 0 0] 34)).drew) := below_drewN (chainB (below_alloc _ _) (below_alloc _ _)) 1; have HC6 : Hid (Own wA wU.heap.size (.slice aA k cA) L ∧ Below wU.heap.size wU wA) := ⟨ho.le hD.size, chainB hD hb⟩; have HFb : Hid (RowS wA (some ⟨wU.heap.size, 0, none⟩) [e.nm]) := RowS.below (drewS (RowS.below (rowS_new wU [e.nm]) (below_alloc (wU.alloc (.cells #[.string e.nm] 9)) (.cells #[.bool false, .int .i64 0, .string ⟨#[]⟩, .int .i64 0, .int .i64 0, .int .i64 0, .int .i64 0, .string ⟨#[]⟩, .slice none 0 0] 34)))) hb; have HFz : Hid (wA.heap[(wU.alloc (.cells #[.string e.nm] 9)).heap.size]? = some (.cells #[.bool false, .int .i64 0, .string ⟨#[]⟩, .int .i64 0, .int .i64 0, .int .i64 0, .int .i64 0, .string ⟨#[]⟩, .slice none 0 0] 34 (0, 0)) ∧ (Value.slice aA k cA).ownBlock ≠ some ((wU.alloc (.cells #[.string e.nm] 9)).heap.size) ∧ wU.heap.size ≤ (wU.alloc (.cells #[.string e.nm] 9)).heap.size) := ⟨hkeepD (heap_new (wU.alloc (.cells #[.string e.nm] 9)) _) hb, own_neB ho (heap_ltA (wU.alloc (.cells #[.string e.nm] 9)) (.cells #[.bool false, .int .i64 0, .string ⟨#[]⟩, .int .i64 0, .int .i64 0, .int .i64 0, .int .i64 0, .string ⟨#[]⟩, .slice none 0 0] 34)), (below_alloc wU (.cells #[.string e.nm] 9)).size⟩; clear ho hb hD)
                        | fail)
                      | (first
                        | ((with_reducible refine atW (wA) ?_); obtain ⟨u96, a4, c4, W4, h96, r4, o4, b4, kq, sz4⟩ := app_at (wr := wU) (W := wA) (nX := 1) HC6.out.1 HK.out.1 HFb.out rfl (chainB HC6.out.2 (Below.refl _ _)) (by have := HK.out; simp only [List.length_cons, List.length_nil]; omega); have H4 : Hid (Own W4 wU.heap.size (.slice a4 (k + 1) c4) (L ++ [e.nm]) ∧ Below wU.heap.size wU W4) := ⟨o4, b4⟩; have HFz4 := And.intro ((kq _ (Array.getElem?_eq_some_iff.1 HFz.out.1).1 HFz.out.2.1).trans HFz.out.1) HFz.out.2.2; clear o4 b4 kq sz4; (with_reducible refine step_apR rfl (.tmp 102) (.tmp 109) 36 rfl _ _ (.slice a4 (k + 1) c4) W4 (by simp [Act.eval]) (by first | (simp [Act.eval]; done) | (refine Eq.trans ?_ h96; simp [Act.eval])) r4 ?_))
                        | ((with_reducible refine atW ((wA.alloc (.cells #[.string e.nm] 9))) ?_); obtain ⟨u96, a4, c4, W4, h96, r4, o4, b4, kq, sz4⟩ := app_at (wr := wU) (W := (wA.alloc (.cells #[.string e.nm] 9))) (nX := 1) (HC6.out.1.below (below_alloc _ _)) HK.out.1 (rowS_new wA [e.nm]) rfl (chainB HC6.out.2 (below_alloc _ _)) (by have := HK.out; simp only [List.length_cons, List.length_nil]; omega); have H4 : Hid (Own W4 wU.heap.size (.slice a4 (k + 1) c4) (L ++ [e.nm]) ∧ Below wU.heap.size wU W4) := ⟨o4, b4⟩; have HFz4 := And.intro ((kq _ (Array.getElem?_eq_some_iff.1 (hkeep HFz.out.1 (below_alloc wA (.cells #[.string e.nm] 9)))).1 HFz.out.2.1).trans (hkeep HFz.out.1 (below_alloc wA (.cells #[.string e.nm] 9)))) HFz.out.2.2; clear o4 b4 kq sz4; (with_reducible refine step_apR rfl (.tmp 102) (.tmp 109) 36 rfl _ _ (.slice a4 (k + 1) c4) W4 (by simp [Act.eval]) (by first | (simp [Act.eval]; done) | (refine Eq.trans ?_ h96; simp [Act.eval])) r4 ?_))
                        | ((with_reducible refine atW (wA) ?_); obtain ⟨u96, a4, c4, W4, h96, r4, o4, b4, kq, sz4⟩ := app_at (wr := wU) (W := wA) (nX := 1) HC6.out.1 HK.out.1 HFb.out rfl (chainB HC6.out.2 (Below.refl _ _)) (by have := HK.out; simp only [List.length_cons, List.length_nil]; omega); have H4 : Hid (Own W4 wU.heap.size (.slice a4 (k + 1) c4) (L ++ [e.nm]) ∧ Below wU.heap.size wU W4) := ⟨o4, b4⟩; clear o4 b4 kq sz4; (with_reducible refine step_apR rfl (.tmp 102) (.tmp 109) 36 rfl _ _ (.slice a4 (k + 1) c4) W4 (by simp [Act.eval]) (by first | (simp [Act.eval]; done) | (refine Eq.trans ?_ h96; simp [Act.eval])) r4 ?_))
                        | ((with_reducible refine atW ((wA.alloc (.cells #[.string e.nm] 9))) ?_); obtain ⟨u96, a4, c4, W4, h96, r4, o4, b4, kq, sz4⟩ := app_at (wr := wU) (W := (wA.alloc (.cells #[.string e.nm] 9))) (nX := 1) (HC6.out.1.below (below_alloc _ _)) HK.out.1 (rowS_new wA [e.nm]) rfl (chainB HC6.out.2 (below_alloc _ _)) (by have := HK.out; simp only [List.length_cons, List.length_nil]; omega); have H4 : Hid (Own W4 wU.heap.size (.slice a4 (k + 1) c4) (L ++ [e.nm]) ∧ Below wU.heap.size wU W4) := ⟨o4, b4⟩; clear o4 b4 kq sz4; (with_reducible refine step_apR rfl (.tmp 102) (.tmp 109) 36 rfl _ _ (.slice a4 (k + 1) c4) W4 (by simp [Act.eval]) (by first | (simp [Act.eval]; done) | (refine Eq.trans ?_ h96; simp [Act.eval])) r4 ?_))
                        | ((with_reducible refine atW ((wA.alloc (.cells #[.bool false, .int .i64 0, .string ⟨#[]⟩, .int .i64 0, .int .i64 0, .int .i64 0, .int .i64 0, .string ⟨#[]⟩, .slice none 0 0] 34))) ?_); obtain ⟨u96, a4, c4, W4, h96, r4, o4, b4, kq, sz4⟩ := app_at (wr := wU) (W := (wA.alloc (.cells #[.bool false, .int .i64 0, .string ⟨#[]⟩, .int .i64 0, .int .i64 0, .int .i64 0, .int .i64 0, .string ⟨#[]⟩, .slice none 0 0] 34))) (nX := 1) (HC6.out.1.below (below_alloc _ _)) HK.out.1 (RowS.below HFb.out (below_alloc _ _)) rfl (chainB HC6.out.2 (below_alloc _ _)) (by have := HK.out; simp only [List.length_cons, List.length_nil]; omega); have H4 : Hid (Own W4 wU.heap.size (.slice a4 (k + 1) c4) (L ++ [e.nm]) ∧ Below wU.heap.size wU W4) := ⟨o4, b4⟩; have HFz4 := And.intro ((kq wA.heap.size (Array.getElem?_eq_some_iff.1 (heap_new wA (.cells #[.bool false, .int .i64 0, .string ⟨#[]⟩, .int .i64 0, .int .i64 0, .int .i64 0, .int .i64 0, .string ⟨#[]⟩, .slice none 0 0] 34))).1 (own_neU HC6.out.1 (Nat.le_refl _))).trans (heap_new wA (.cells #[.bool false, .int .i64 0, .string ⟨#[]⟩, .int .i64 0, .int .i64 0, .int .i64 0, .int .i64 0, .string ⟨#[]⟩, .slice none 0 0] 34))) HC6.out.2.size; clear o4 b4 kq sz4; (with_reducible refine step_apR rfl (.tmp 102) (.tmp 109) 36 rfl _ _ (.slice a4 (k + 1) c4) W4 (by simp [Act.eval]) (by first | (simp [Act.eval]; done) | (refine Eq.trans ?_ h96; simp [Act.eval])) r4 ?_))
                        | ((with_reducible refine atW (((wA.alloc (.cells #[.bool false, .int .i64 0, .string ⟨#[]⟩, .int .i64 0, .int .i64 0, .int .i64 0, .int .i64 0, .string ⟨#[]⟩, .slice none 0 0] 34)).alloc (.cells #[.string e.nm] 9))) ?_); obtain ⟨u96, a4, c4, W4, h96, r4, o4, b4, kq, sz4⟩ := app_at (wr := wU) (W := ((wA.alloc (.cells #[.bool false, .int .i64 0, .string ⟨#[]⟩, .int .i64 0, .int .i64 0, .int .i64 0, .int .i64 0, .string ⟨#[]⟩, .slice none 0 0] 34)).alloc (.cells #[.string e.nm] 9))) (nX := 1) (HC6.out.1.below (chainB (below_alloc _ _) (below_alloc _ _))) HK.out.1 (rowS_new (wA.alloc (.cells #[.bool false, .int .i64 0, .string ⟨#[]⟩, .int .i64 0, .int .i64 0, .int .i64 0, .int .i64 0, .string ⟨#[]⟩, .slice none 0 0] 34)) [e.nm]) rfl (chainB HC6.out.2 (chainB (below_alloc _ _) (below_alloc _ _))) (by have := HK.out; simp only [List.length_cons, List.length_nil]; omega); have H4 : Hid (Own W4 wU.heap.size (.slice a4 (k + 1) c4) (L ++ [e.nm]) ∧ Below wU.heap.size wU W4) := ⟨o4, b4⟩; have HFz4 := And.intro ((kq wA.heap.size (Array.getElem?_eq_some_iff.1 (hkeep (heap_new wA (.cells #[.bool false, .int .i64 0, .string ⟨#[]⟩, .int .i64 0, .int .i64 0, .int .i64 0, .int .i64 0, .string ⟨#[]⟩, .slice none 0 0] 34)) (below_alloc _ (.cells #[.string e.nm] 9)))).1 (own_neU HC6.out.1 (Nat.le_refl _))).trans (hkeep (heap_new wA (.cells #[.bool false, .int .i64 0, .string ⟨#[]⟩, .int .i64 0, .int .i64 0, .int .i64 0, .int .i64 0, .string ⟨#[]⟩, .slice none 0 0] 34)) (below_alloc _ (.cells #[.string e.nm] 9)))) HC6.out.2.size; clear o4 b4 kq sz4; (with_reducible refine step_apR rfl (.tmp 102) (.tmp 109) 36 rfl _ _ (.slice a4 (k + 1) c4) W4 (by simp [Act.eval]) (by first | (simp [Act.eval]; done) | (refine Eq.trans ?_ h96; simp [Act.eval])) r4 ?_))
                        | ((with_reducible refine atW (((wA.alloc (.cells #[.string e.nm] 9)).alloc (.cells #[.bool false, .int .i64 0, .string ⟨#[]⟩, .int .i64 0, .int .i64 0, .int .i64 0, .int .i64 0, .string ⟨#[]⟩, .slice none 0 0] 34))) ?_); obtain ⟨u96, a4, c4, W4, h96, r4, o4, b4, kq, sz4⟩ := app_at (wr := wU) (W := ((wA.alloc (.cells #[.string e.nm] 9)).alloc (.cells #[.bool false, .int .i64 0, .string ⟨#[]⟩, .int .i64 0, .int .i64 0, .int .i64 0, .int .i64 0, .string ⟨#[]⟩, .slice none 0 0] 34))) (nX := 1) (HC6.out.1.below (chainB (below_alloc _ _) (below_alloc _ _))) HK.out.1 ((rowS_new wA [e.nm]).below (below_alloc _ _)) rfl (chainB HC6.out.2 (chainB (below_alloc _ _) (below_alloc _ _))) (by have := HK.out; simp only [List.length_cons, List.length_nil]; omega); have H4 : Hid (Own W4 wU.heap.size (.slice a4 (k + 1) c4) (L ++ [e.nm]) ∧ Below wU.heap.size wU W4) := ⟨o4, b4⟩; have HFz4 := And.intro ((kq _ (Array.getElem?_eq_some_iff.1 (heap_new (wA.alloc (.cells #[.string e.nm] 9)) (.cells #[.bool false, .int .i64 0, .string ⟨#[]⟩, .int .i64 0, .int .i64 0, .int .i64 0, .int .i64 0, .string ⟨#[]⟩, .slice none 0 0] 34))).1 (own_neU HC6.out.1 (below_alloc wA (.cells #[.string e.nm] 9)).size)).trans (heap_new (wA.alloc (.cells #[.string e.nm] 9)) (.cells #[.bool false, .int .i64 0, .string ⟨#[]⟩, .int .i64 0, .int .i64 0, .int .i64 0, .int .i64 0, .string ⟨#[]⟩, .slice none 0 0] 34))) (Nat.le_trans HC6.out.2.size (below_alloc wA (.cells #[.string e.nm] 9)).size); clear o4 b4 kq sz4; (with_reducible refine step_apR rfl (.tmp 102) (.tmp 109) 36 rfl _ _ (.slice a4 (k + 1) c4) W4 (by simp [Act.eval]) (by first | (simp [Act.eval]; done) | (refine Eq.trans ?_ h96; simp [Act.eval])) r4 ?_))
                        | fail)
                      | fail)
                  all_goals (
                    go_wp2
                    go_meet
                    exact ⟨_, _, _, rfl, H7.out.2⟩)
                case rest =>
                  obtain ⟨g2, a2', c2', rfl, HX2⟩ := hcut
                  obtain ⟨wV, hwV⟩ : ∃ W, W = wc := ⟨_, rfl⟩
                  subst hwV
                  have HWV : Hid (Below wr.heap.size wr wV) := chainB HX1.out.bel HX2.out.bel
                  have hb1 := hkeep HX1.out.box HX2.out.bel
                  have hbo := hkeep H5.out.2.2.2.2.2 (chainB HJ.out HWV.out)
                  have q1 := ouCells hb1
                  have x3 := q1.2.2.2.1
                  have x8 := q1.2.2.2.2.2
                  have y8 := (ouCells hbo).2.2.2.2.2
                  rw [HOv.out.1] at x3
                  have nL : ∀ {gq : Nat} {o : Ou} {uv : Value}, wV.heap[gq]? = some (.cells (ouVals o uv).toArray 34 (0, 0)) → ∀ m, (ndLd (.pointer (some ⟨gq, 4, none⟩))).run Try.prog (wV.drewN m) = .ok o.node.agg (wV.drewN m) := fun h m => by
                    have h2 := hkeep h (below_drewN (Below.refl _ _) m)
                    have z4 := (ouCells h2).2.2.2.2.1
                    obtain ⟨z5, z6, z7⟩ := ouNode' h2
                    exact ndLd_at ⟨z4, z5, z6, z7⟩
                  have lN1 := nL hb1
                  have lN0 := nL hbo
                  have lN2 := nL HX2.out.box
                  rw [HOv.out.2.1] at lN1
                  rw [HOv.out.2.2] at lN2
                  have lNe : ∀ m, (ndLd (.pointer (some ⟨g, i * 7 + 3, none⟩))).run Try.prog (wV.drewN m) = .ok e.nd.agg (wV.drewN m) := fun m => ndLd_at ((HC7.out.below HWV.out).below (below_drewN (Below.refl _ _) m)).node
                  have hwl : IntKind.i64.wrap ((lo : Int) + 1) = (lb : Int) := by
                    rw [show (lo : Int) + 1 = (lb : Int) by omega]; exact IntWalk.i64_in _ (by have := HO.out.2.2.1; omega)
                  clear hb1 hbo q1 nL HX1 HX2 HCu HSe HSh
                  go_upto_region 20 with fail
                  go_quiet (fail)
                  go_wp2
                  go_roundw
                  case rel => exact ⟨i + 1, by omega, rfl, chainB HJ.out (below_drewN HWV.out _)⟩
                  case measure => simp [intOf]; omega
            · have hkb : (e.kind != 1) = true := by simpa using hk
              clear he hc hk c1
              go_wp2
              go_roundw
              case rel => exact ⟨i + 1, by omega, rfl, HJ.out⟩
              case measure => simp [intOf]; omega
          · obtain rfl : i = m := by omega
            have hltz : ¬ (i : Int) < (i : Int) := by omega
            go_wp2_with (go_at_call 10; refine (HA.out _).mono ?_; rintro r wZ ⟨rfl, hb⟩; have HZ : Hid (Below w.heap.size w wZ) := HZb.out _ (chainB HWr.out hb); clear hb)
            go_ret
            exact ⟨rfl, HZ.out⟩
      · have hkb : (O.node.kind != 1) = true := by simpa using hOk
        rw [hOe] at o3
        clear hOe hOk
        go_wp2_with (go_at_call 10; refine (HA.out _).mono ?_; rintro r wZ ⟨rfl, hb⟩; have HZ : Hid (Below w.heap.size w wZ) := HZb.out _ (chainB HW4.out hb); clear hb)
        go_ret
        exact ⟨rfl, HZ.out⟩
    · have heb : (O.err != 0) = true := by simpa using hOe
      clear hOe
      go_wp2_with (go_at_call 10; refine (HA.out _).mono ?_; rintro r wZ ⟨rfl, hb⟩; have HZ : Hid (Below w.heap.size w wZ) := HZb.out _ (chainB HW4.out hb); clear hb)
      go_ret
      exact ⟨rfl, HZ.out⟩
  · have hEb : (E != 0) = true := by simpa using hE0
    clear hE0
    go_enter Try.func5, Try.ntmps5
    go_wp2_with (first
      | (go_at_call 10; refine (HA.out _).mono ?_; rintro r wZ ⟨rfl, hb⟩; have HZ : Hid (Below w.heap.size w wZ) := H1.out.below _ (chainB H2.out hb); clear hb)
      | (go_at_call 9; refine (HSp.out _).mono ?_; rintro r w2 ⟨a2, c2, rfl, ho, hb⟩; have H2 : Hid (Below w1.heap.size w1 w2) := hb; clear ho hb)
      | (go_at_call 7; refine HFi.out.mono ?_; rintro r w1 hF; obtain ⟨p, t, s, rfl, -, hfl⟩ := hF.fl; have H1 : Hid (Flw w w1 t s p ops.length) := hfl; clear hF hfl))
    go_ret
    exact ⟨rfl, HZ.out⟩
end
end Go.Proofs.Ytppbbddlbfgpfaa
