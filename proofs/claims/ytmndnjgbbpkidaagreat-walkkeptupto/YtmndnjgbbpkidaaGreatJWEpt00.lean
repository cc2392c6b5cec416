/- A list of texts among the arguments: its cells, out of how it reads. -/
import Derived.Test.YtmndnjgbbpkidaaGreatJWLks24
import Derived.ProofKit
import Derived.OpenShut
import Derived.Deep.Strs
import Derived.Lib.SmallJoins
import Derived.Test.YtmndnjgbbpkidaaGreatRows
import Derived.Test.YtmndnjgbbpkidaaGreatJWLks42
namespace Go.Proofs.YtmndnjgbbpkidaaGreat
section
open Go.ChangeShapes Go.WideShapes Go.ChangeAt Go.RowKit Go.Joins

theorem Tryz.cellsTextL : Tryz.prog.cellsOf 9 = 1 := by kernel_rfl
theorem cell_lt {w : World} {p : Addr} {v : Value} (h : w.cell? p = some v) : p.block < w.heap.size := by
  unfold World.cell? at h
  by_cases c : p.block < w.heap.size
  · exact c
  · rw [Array.getElem?_eq_none (by omega)] at h
    simp at h

theorem rowS_of {H : Type} {enc : TypeId × Value → H} {W : World} {a : Option Addr} {len cap : Nat} {d : DataW H} {ps : List MemPlace}
    (h : DataW.Trod enc Tryz.prog W 0 (fun _ => true) true 46 (.slice a len cap) d ps) :
    ∃ l : List ByteArray, len = l.length ∧ RowS W a l ∧ (l.length ≤ cap ∧ cap ≤ maxLen) := by
  obtain ⟨fuel, hf⟩ := h
  rcases Go.Deep.open_strs Tryz.underlying46 Tryz.underlying9 Tryz.cellsTextL hf with ⟨hcs, hx⟩ | ⟨a', len', cap', m, Sx, hcs, hb, hl, hm, hmm, hx, hel⟩
  · simp [Value.cells] at hcs
    obtain ⟨rfl, rfl, rfl⟩ := hcs
    exact ⟨[], rfl, .inl rfl, Nat.le_refl _, Nat.zero_le _⟩
  · simp [Value.cells] at hcs
    obtain ⟨rfl, rfl, rfl⟩ := hcs
    simp only [if_true] at hmm
    subst hmm
    refine ⟨(List.range len).map Sx, by simp, ?_, by simp; exact hl, hm⟩
    by_cases h0 : len = 0
    · subst h0; exact .inl rfl
    obtain ⟨b, off, spot⟩ := a'
    have hs := World.cell?_spot (hel 0 (by omega)).1
    have hspot : spot = none := by simpa [Addr.add] using hs
    subst hspot
    have hadd : ∀ i, (⟨b, off, none⟩ : Addr).add i = ⟨b, off + i, none⟩ := fun i => by rw [Go.WideShapes.add_plain]
    refine .inr ⟨b, off, rfl, cell_lt (hel 0 (by omega)).1, fun i x hx' => ?_⟩
    have hi : i < len := by have := (List.getElem?_eq_some_iff.1 hx').1; simpa using this
    have := (hel i (by omega)).1
    rw [hadd] at this
    rw [this]
    simp [hi] at hx'
    rw [hx']
end
section
theorem bulk_pos {H : Type} (d : DataW H) : 0 < Rows.uptoBulk d := by
  cases d with
  | lit l => cases l <;> simp [Rows.uptoBulk]
  | _ => simp [Rows.uptoBulk]
theorem bulk_many {H : Type} : ∀ l : List (DataW H), l.length ≤ Rows.uptoBulkAll l
  | [] => Nat.zero_le _
  | d :: r => by
    have h1 := bulk_pos d
    have h2 := bulk_many r
    rw [List.length_cons, Rows.uptoBulkAll]
    omega
theorem bulk_in {H : Type} {d : DataW H} : ∀ {l : List (DataW H)}, d ∈ l → Rows.uptoBulk d ≤ Rows.uptoBulkAll l
  | x :: r, h => by
    rw [Rows.uptoBulkAll]
    rcases List.mem_cons.1 h with rfl | h
    · omega
    · have := bulk_in h
      omega
theorem upto_len {H : Type} {ds : List (DataW H)} {el sp : List (DataW H)} (hk : Rows.uptoSmall H ds = true) (hm : DataW.slice el sp ∈ ds) : el.length ≤ 1048576 := by
  have h0 : Rows.uptoBulkAll ds ≤ 1048576 := of_decide_eq_true hk
  have h1 := bulk_in hm
  have h2 := bulk_many el
  rw [Rows.uptoBulk] at h1
  omega
end
section
open Go.ChangeShapes Go.WideShapes Go.ChangeAt Go.RowKit Go.Joins
theorem rowS_bulk {H : Type} {enc : TypeId × Value → H} {W : World} {a : Option Addr} {len cap : Nat} {d : DataW H} {ps : List MemPlace}
    (h : DataW.Trod enc Tryz.prog W 0 (fun _ => true) true 46 (.slice a len cap) d ps) {ds : List (DataW H)} (hk : Rows.uptoSmall H ds = true) (hm : d ∈ ds) :
    ∃ l : List ByteArray, len = l.length ∧ RowS W a l ∧ (l.length ≤ cap ∧ l.length ≤ 1048576) := by
  obtain ⟨l, hl, hrow, hcap, -⟩ := rowS_of h
  refine ⟨l, hl, hrow, hcap, ?_⟩
  obtain ⟨fuel, hf⟩ := h
  rcases Go.Deep.open_strs Tryz.underlying46 Tryz.underlying9 Tryz.cellsTextL hf with ⟨hcs, -⟩ | ⟨a', len', cap', m, Sx, hcs, -, -, -, -, hx, -⟩
  · simp [Value.cells] at hcs
    omega
  · simp [Value.cells] at hcs
    obtain ⟨rfl, rfl, rfl⟩ := hcs
    simp only [Prod.mk.injEq] at hx
    have := upto_len hk (by rw [← hx.1]; exact hm)
    simp at this
    omega
end
section
open Go.RowKit
attribute [local go_sem ↓ high] loadEn storeEn storeOu loadOu

set_option maxHeartbeats 1000000 in
/-- a copy of components that came in -/
theorem copyT_row (a : Option Addr) (n c : Nat) (l : List ByteArray) (w : World) (h : RowS w a l) (hn : l.length = n) (hl : n ≤ 1100000) :
    Calls Tryz.prog 14 #[.slice a n c] w fun e w' => ∃ a2 c2, e = .returned (.slice a2 n c2) ∧ Own w' w.heap.size (.slice a2 n c2) l ∧ Below w.heap.size w w' := by
  obtain ⟨a6, N6, c6, W, r6, o6, k6⟩ := appS_any (w := w) (c := c) (Own.nil w w.heap.size) h (Nat.le_refl _) (by rw [hn]; simp only [List.length_nil]; omega)
  rw [List.nil_append] at o6
  have hN : N6 = n := by
    obtain ⟨_, _, e⟩ := owns_len o6
    injection e with _ e2 _
    rw [e2, hn]
  subst hN
  rw [hn] at r6
  have HB : Hid (Own W w.heap.size (.slice a6 N6 c6) l ∧ Below w.heap.size w W) := ⟨o6, Only.below (Below.refl _ _) k6 (Nat.le_refl _) fun b hb => by simp [Value.ownBlock] at hb⟩
  clear h hn o6 k6
  go_enter Tryz.func14, Tryz.ntmps14
  go_wp2_with (at_builtin; refine wpList_apR rfl (.const (.slice none 0 0)) (.tmp 3) 46 rfl _ _ (.slice a6 N6 c6) W (by simp [Act.eval]) (by simp [Act.eval]) r6 ?_)
  go_ret
  exact ⟨_, _, rfl, HB.out⟩
theorem stepsO_len (kn : Ky → Option En) (steps : List ByteArray) (dir fol : Bool) (links : Int) : (stepsO kn steps dir fol links).used.length ≤ steps.length + 776 := by
  unfold stepsO
  have := goW_len kn fol (linksN links) steps (startW dir)
  have hl := linksN_le links
  have e : (startW dir).used.length = 0 := rfl
  omega
/-- the program's walk of components -/
theorem tw_steps {w0 wr : World} {p q : Nat} {s : Cs} {n : Nat} {F : Nat → Prop} (h : Tw w0 wr p q s s n F) {v : Value} {es : List En} (hv : RdE wr v es) {aS : Option Addr} {nS cS B : Nat} {steps : List ByteArray} (ho : Own wr B (.slice aS nS cS) steps) (hl : steps.length = nS) (hnS : nS ≤ 1100000) (dir fol : Bool) (links : Int) {O : Ou} (hO : stepsO (knF (firstsL es) s) steps dir fol links = O) :
    Calls Tryz.prog 13 #[.pointer (some ⟨p, 0, none⟩), v, .slice aS nS cS, .bool dir, .bool fol, .int .i64 links] wr (fun r w' => OutR wr O r w') := by
  obtain ⟨c, i1, i2, -, -⟩ := h.ld.ex
  obtain ⟨a', c', ea, hrow⟩ := Own.row ho
  have hlim := Own.lim ho
  injection ea with ea1 ea2 ea3
  subst ea1
  rw [← hO]
  exact steps_p p c s v es aS nS cS steps dir fol links wr i1 i2 hv hrow hl (by omega) (by omega) (fun b o eb => by subst eb; exact (World.ownsRow.lt ho b rfl).2)
/-- the document's -/
theorem tw_rsteps {w0 wr : World} {p q : Nat} {s : Cs} {n : Nat} {F : Nat → Prop} (h : Tw w0 wr p q s s n F) (hn : n < 1300000000000) {v' : Value} {es : List En} (hv' : RdE wr v' es) {aT : Option Addr} {nS cT : Nat} {steps : List ByteArray} (hT : RowS wr aT steps) (hl : steps.length = nS) (hnS : nS ≤ 1100000) (dir fol : Bool) (links : Int) {O : Ou} (hO : stepsO (knF (firstsL es) s) steps dir fol links = O) :
    Calls Tryz.prog 15 #[.agg #[.pointer (some ⟨q, 0, none⟩), v', .pointer none], .slice aT nS cT, .bool dir, .bool fol, .int .i64 links] wr (fun r w' => OutR wr O r w') := by
  obtain ⟨k, h1, h2, h3⟩ := h.ex
  have := rsteps_d w0.heap.size q k s es v' wr h1 hv' (by have := h.lt; omega) (by have := h.lw; omega) aT cT steps hT (by omega) dir fol links O hO
  rw [hl] at this
  exact this
set_option maxRecDepth 100000 in
set_option maxHeartbeats 8000000 in
theorem walk_WalkSteps (a : Option Addr) (cap : Nat) (ops : List DOp) (v : Value) (es : List En) (aT : Option Addr) (steps : List ByteArray) (capT : Nat) (dir fol : Bool) (links : Int) (w : World) (row : RowD w a ops) (hlen : ops.length ≤ 1048576) (_ : ∀ x ∈ ops, x.ks.length ≤ 1048576) (hes : ArgE w v es) (_ : es.length ≤ 1048576) (rowT : RowS w aT steps) (hT : steps.length ≤ capT ∧ steps.length ≤ 1048576) (_ : (Lit.int .i64 links).wf = true) :
    Calls Tryz.prog 4 #[.slice a ops.length cap, v, .slice aT steps.length capT, .bool dir, .bool fol, .int .i64 links] w fun x w' => x = .returned (.bool true) ∧ Below w.heap.size w w' := by
  obtain ⟨n, hn⟩ : ∃ n, ops.length = n := ⟨_, rfl⟩
  have hnb : n < 1290000000000 := by omega
  obtain ⟨S, hS⟩ : ∃ S, runS ops = S := ⟨_, rfl⟩
  have HOf : Hid (Calls Tryz.prog 6 #[.slice a n cap] w fun x w2 => ∃ p q, x = .returned (.tuple #[.pointer (some ⟨p, 0, none⟩), .pointer (some ⟨q, 0, none⟩), .bool true]) ∧ Tw w w2 p q S S n (fun _ => False)) := by
    rw [← hn, ← hS]
    exact of_p a cap ops w row (by omega)
  obtain ⟨av, cv, rfl, -, -⟩ := id hes
  obtain ⟨ne, hne⟩ : ∃ n, es.length = n := ⟨_, rfl⟩
  have hel : ne * 72 ≤ 140737488351232 := by
    obtain ⟨_, _, _, h, -⟩ := hes
    rw [← hne]; exact h
  rw [hne] at hes
  have HE : Hid (∀ W, Below w.heap.size w W → ArgE W (.slice av ne cv) es) := fun W hb => hes.below hb
  have HCe : Hid (∀ W, Below w.heap.size w W → Calls Tryz.prog 8 #[.slice av ne cv] W fun e w' => ∃ a2 c2, e = .returned (.slice a2 ne c2) ∧ Row7 w' W.heap.size (.slice a2 ne c2) es ∧ Below W.heap.size W w') := fun W hb => by
    refine (copyE_any _ es W (hes.below hb)).mono ?_
    rintro x w' ⟨v', rfl, hr, hb'⟩
    obtain ⟨a2, c2, rfl⟩ := owns_len hr
    rw [hne] at hr ⊢
    exact ⟨a2, c2, rfl, hr, hb'⟩
  obtain ⟨nT, hnT⟩ : ∃ n, steps.length = n := ⟨_, rfl⟩
  have hnT2 : nT ≤ 1048576 := by omega
  have HT : Hid (∀ W, Below w.heap.size w W → RowS W aT steps) := fun W hb => rowT.below hb
  have HCt : Hid (∀ W, Below w.heap.size w W → Calls Tryz.prog 14 #[.slice aT nT capT] W fun e w' => ∃ a2 c2, e = .returned (.slice a2 nT c2) ∧ Own w' W.heap.size (.slice a2 nT c2) steps ∧ Below W.heap.size W w') := fun W hb => copyT_row aT nT capT steps W (rowT.below hb) hnT (by omega)
  obtain ⟨O, hO⟩ : ∃ O, stepsO (knF (firstsL es) S) steps dir fol links = O := ⟨_, rfl⟩
  obtain ⟨lo, hlo⟩ : ∃ l, O.used.length = l := ⟨_, rfl⟩
  have HO : Hid (stepsO (knF (firstsL es) S) steps dir fol links = O ∧ O.used.length = lo ∧ lo ≤ 1100000 ∧ es.length = ne ∧ steps.length = nT) := ⟨hO, hlo, by have := stepsO_len (knF (firstsL es) S) steps dir fol links; rw [hO] at this; omega, hne, hnT⟩
  have HA : Hid (∀ w, Calls Tryz.prog 12 #[] w fun x w' => x = .returned (.bool true) ∧ Below w.heap.size w w') := awake14_p
  have bx := box9
  rw [hn, hne, hnT]
  clear row hlen hS hn hne hes hO hlo rowT hT hnT
  go_enter Tryz.func4, Tryz.ntmps4
  go_upto_region 6 with (first
    | (go_at_call 15; have hb3 := chainB H2.out.2 (chainB H2b.out.2 H3.out.2.1); have hc := tw_rsteps (H1.out.on' hb3) (by omega) (rdE_arg (HE.out _ (chainB H1.out.below hb3))) (cT := capT) (HT.out _ (chainB H1.out.below hb3)) HO.out.2.2.2.2 (by omega) dir fol links HO.out.1; refine hc.mono ?_; rintro r w4 ⟨uv, rfl, hr, hb⟩; clear hc hb3; obtain ⟨a4, c4, rfl⟩ := owns_len hr; rw [HO.out.2.1] at hr ⊢; obtain ⟨V4, hV4⟩ : ∃ V, w4.alloc (.cells (ouVals O (.slice a4 lo c4)).toArray 35) = V := ⟨_, rfl⟩; have bV4 := boxO hV4; have H4 : Hid (RowK V4 V3.heap.size (.slice a4 lo c4) O.used ∧ Below V3.heap.size V3 V4 ∧ V4.heap[w4.heap.size]? = some (.cells (ouVals O (.slice a4 lo c4)).toArray 35 (0, 0))) := ⟨hr.below bV4.2.1, chainB hb bV4.2.1, bV4.1⟩; clear hr hb bV4)
    | (go_at_call 13; have hc := tw_steps (H1.out.on' (chainB H2.out.2 H2b.out.2)) (rdE_row (owns_below H2.out.1 H2b.out.2) (by rw [HO.out.2.2.2.1]; omega)) H2b.out.1 HO.out.2.2.2.2 (by omega) dir fol links HO.out.1; refine hc.mono ?_; rintro r w3 ⟨uv, rfl, hr, hb⟩; clear hc; obtain ⟨a3, c3, rfl⟩ := owns_len hr; rw [HO.out.2.1] at hr ⊢; obtain ⟨V3, hV3⟩ : ∃ V, w3.alloc (.cells (ouVals O (.slice a3 lo c3)).toArray 35) = V := ⟨_, rfl⟩; have bV3 := boxO hV3; have H3 : Hid (RowK V3 w2b.heap.size (.slice a3 lo c3) O.used ∧ Below w2b.heap.size w2b V3 ∧ V3.heap[w3.heap.size]? = some (.cells (ouVals O (.slice a3 lo c3)).toArray 35 (0, 0))) := ⟨hr.below bV3.2.1, chainB hb bV3.2.1, bV3.1⟩; clear hr hb bV3)
    | (go_at_call 14; refine (HCt.out _ (chainB H1.out.below H2.out.2)).mono ?_; rintro r w2b ⟨a2b, c2b, rfl, hr, hb⟩; have H2b : Hid (Own w2b w2.heap.size (.slice a2b nT c2b) steps ∧ Below w2.heap.size w2 w2b) := ⟨hr, hb⟩; clear hr hb)
    | (go_at_call 8; refine (HCe.out _ H1.out.below).mono ?_; rintro r w2 ⟨a2, c2, rfl, hr, hb⟩; have H2 : Hid (Row7 w2 w1.heap.size (.slice a2 ne c2) es ∧ Below w1.heap.size w1 w2) := ⟨hr, hb⟩; clear hr hb)
    | (go_at_call 6; refine HOf.out.mono ?_; rintro r w1 ⟨p, q, rfl, hl⟩; have H1 : Hid (Tw w w1 p q S S n (fun _ => False)) := hl; clear hl))
  have l3 := ouLd_of (hkeep H3.out.2.2 H4.out.2.1)
  have l4 := ouLd_of H4.out.2.2
  have HB4 : Hid (Below w1.heap.size w1 V4) := chainB H2.out.2 (chainB H2b.out.2 (chainB H3.out.2.1 H4.out.2.1))
  go_wp2_with (first
    | (go_at_call 12; refine (HA.out _).mono ?_; rintro r w7 ⟨rfl, hb⟩; have H7 : Hid (Below w.heap.size w w7) := chainB H1.out.below (chainB H6.out hb); clear hb)
    | (go_at_call 11; refine (like_p w w5 p q S n _ (H1.out.on' H5.out) (by omega) _ [] (like_nil _) (by simp)).mono ?_; rintro r w6 ⟨rfl, hb⟩; have H6 : Hid (Below w1.heap.size w1 w6) := chainB H5.out hb; clear hb)
    | (go_at_call 10; refine (sameOut_yes O _ _ _ _ V4 (H3.out.1.below H4.out.2.1) H4.out.1 (by rw [HO.out.2.1]; have := HO.out.2.2.1; omega)).mono ?_; rintro r w5 ⟨rfl, hb⟩; have H5 : Hid (Below w1.heap.size w1 w5) := chainB HB4.out hb; clear hb))
  go_ret
  exact ⟨rfl, H7.out⟩
end
end Go.Proofs.YtmndnjgbbpkidaaGreat
