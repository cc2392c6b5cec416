/- Outcomes loaded whole, shut. -/
import Derived.Test.YtppbbddlbfgpfaaJWOme27
import Derived.Test.YtppbbddlbfgpfaaJWOme34
import Derived.Test.YtppbbddlbfgpfaaJWOme36
import Derived.Test.YtppbbddlbfgpfaaJWOme33
import Derived.Test.YtppbbddlbfgpfaaJWOme28
import Derived.Test.YtppbbddlbfgpfaaJWOme25
namespace Go.Proofs.Ytppbbddlbfgpfaa
section
open Go.RowKit

def ouLd (v : Value) : Sem Value := Instr.loadAt 34 v
theorem loadOu (v : Value) : Instr.loadAt 34 v = ouLd v := rfl
theorem ouLd_of {w : World} {g : Nat} {o : Ou} {uv : Value} (h : w.heap[g]? = some (.cells (ouVals o uv).toArray 34 (0, 0))) : (ouLd (.pointer (some ⟨g, 0, none⟩))).run Try.prog w = .ok (ouAgg o uv) w := by
  have := run_loadAt_mid (P := Try.prog) w g 0 34 (ouVals o uv) _ (fun j v hv => by
    rw [Nat.zero_add, cell_of h]
    simpa using hv) Try.underlying34 rfl Try.sizeOu
  exact this
attribute [irreducible] ouLd
end
section
open Go.RowKit

theorem NdT.dir {es : List En} {next : Int} (h : WF Mn es next) {n : Nd} (hn : NdT es n) (hk : n.kind = 1) : dirE es n.id = 0 := by
  rcases hn with rfl | ⟨e, he, rfl⟩
  · unfold dirE nodeE; simp [rootN, rootEn]
  · have hk' : e.kind = 1 := hk
    show dirE es e.id = 0
    unfold dirE
    rw [h.node he]
    simp [hk']
/-- where the tree leads, name by name, as long as no link is met -/
def Hm2 (es : List En) (fol : Bool) (l : Nat) (D : Bool) (L : List ByteArray) (O : Ou) (i : Nat) (at' : Nd) (up : List Nd) : Prop :=
  ∃ s : Ws, goW (knC (fillS es)) fol l (L.drop i) s = O ∧ s.dir = D ∧ s.here = at' ∧ (at'.kind = 1 → s.way = up ++ [at']) ∧ WayT es s
section
variable {es : List En} {next : Int} {fol : Bool} {l : Nat} {D : Bool} {L : List ByteArray} {O : Ou} {i : Nat} {at' : Nd} {up : List Nd} {x : ByteArray}
theorem hm_start (h : goW (knC (fillS es)) fol l L (startW D) = O) : Hm2 es fol l D L O 0 rootN [] :=
  ⟨startW D, h, rfl, rfl, fun _ => rfl, WayT.start _ _⟩
theorem drop_at (hx : L[i]? = some x) : L.drop i = x :: L.drop (i + 1) := by
  have hl := List.getElem?_eq_some_iff.1 hx
  rw [List.drop_eq_getElem_cons hl.1, hl.2]
theorem hm_not (h : Hm2 es fol l D L O i at' up) (hx : L[i]? = some x) (hk : at'.kind ≠ 1) : O.err = 42 := by
  obtain ⟨s, h1, -, h3, -, -⟩ := h
  rw [drop_at hx, goW_eq, goI, if_pos (by unfold Ws.inD; rw [h3]; exact decide_eq_false hk)] at h1
  rw [← h1]; rfl
theorem hm_dot (h : Hm2 es fol l D L O i at' up) (hx : L[i]? = some dot1) (hk : at'.kind = 1) : Hm2 es fol l D L O (i + 1) at' up := by
  obtain ⟨s, h1, h2, h3, h4, h5⟩ := h
  have hi : ¬ s.inD = false := by unfold Ws.inD; rw [h3, decide_eq_true hk]; decide
  rw [drop_at hx, goW_eq, goI, if_neg hi, if_pos rfl, ← goW_eq] at h1
  exact ⟨s, h1, h2, h3, h4, h5⟩
theorem hm_up (h : Hm2 es fol l D L O i at' up) (hx : L[i]? = some dot2) (hk : at'.kind = 1) : Hm2 es fol l D L O (i + 1) (up.getLast?.getD at') up.dropLast := by
  obtain ⟨s, h1, h2, h3, h4, h5⟩ := h
  have hi : ¬ s.inD = false := by unfold Ws.inD; rw [h3, decide_eq_true hk]; decide
  rw [drop_at hx, goW_eq, goI, if_neg hi, if_neg (by decide), if_pos rfl, ← goW_eq] at h1
  have hw := h4 hk
  rcases List.eq_nil_or_concat up with rfl | ⟨u, y, rfl⟩
  · have e1 : s.up.way = [at'] := by unfold Ws.up; rw [hw]; rfl
    refine ⟨s.up, h1, h2, ?_, fun _ => e1, h5.up⟩
    unfold Ws.here; rw [e1]; rfl
  · rw [List.concat_eq_append] at hw ⊢
    have e1 : s.up.way = u ++ [y] := by
      unfold Ws.up
      rw [hw, if_pos (by simp only [List.length_append, List.length_cons, List.length_nil]; omega), List.dropLast_concat]
    rw [List.getLast?_concat, List.dropLast_concat]
    refine ⟨s.up, h1, h2, ?_, fun _ => e1, h5.up⟩
    unfold Ws.here; rw [e1, List.getLast?_concat]; rfl
/-- what the tree says there -/
theorem hm_kn (wf : WF Mn es next) (h : Hm2 es fol l D L O i at' up) (hk : at'.kind = 1) (x : ByteArray) : dirE es at'.id = 0 ∧ knC (fillS es) ⟨at'.id, x⟩ = some (nowE es at'.id x) := by
  obtain ⟨s, h1, h2, h3, h4, h5⟩ := h
  have hn : NdT es at' := by rw [← h3]; exact h5.here
  exact ⟨hn.dir wf hk, knC_fill wf hn.ino x⟩
theorem hm_bad (wf : WF Mn es next) (h : Hm2 es fol l D L O i at' up) (hk : at'.kind = 1) {x : ByteArray} (hE : namedE Mn es at'.id x ≠ 0) : (nowE es at'.id x).neg = true := by
  have h0 := (hm_kn wf h hk x).1
  unfold namedE at hE
  rw [if_pos h0] at hE
  rcases nowE_cases wf at'.id x with ⟨e, -⟩ | ⟨e, he, -, en, -, -⟩
  · rw [e]; rfl
  · have := wf.chk e he
    rw [en] at this
    exact (hE this).elim
theorem hm_miss (wf : WF Mn es next) (h : Hm2 es fol l D L O i at' up) (hx : L[i]? = some x) (hk : at'.kind = 1) (h1' : x ≠ dot1) (h2' : x ≠ dot2) (hn : (nowE es at'.id x).neg = true) : O.err = 40 := by
  have hkn := (hm_kn wf h hk x).2
  obtain ⟨s, h1, h2, h3, h4, h5⟩ := h
  have hi : ¬ s.inD = false := by unfold Ws.inD; rw [h3, decide_eq_true hk]; decide
  rw [drop_at hx, goW_eq, goI, if_neg hi, if_neg h1', if_neg h2', h3, hkn] at h1
  simp only at h1
  rw [if_pos hn] at h1
  rw [← h1]; rfl
theorem hm_link (wf : WF Mn es next) (h : Hm2 es fol l D L O i at' up) (hx : L[i]? = some x) (hk : at'.kind = 1) (h1' : x ≠ dot1) (h2' : x ≠ dot2) (hn : (nowE es at'.id x).neg = false) (h3' : (nowE es at'.id x).kind = 3) (hm : i + 1 < L.length ∨ D = true ∨ fol = true) : O.err ≠ 0 ∨ 0 < l := by
  have hkn := (hm_kn wf h hk x).2
  obtain ⟨s, h1, h2, h3, h4, h5⟩ := h
  have hi : ¬ s.inD = false := by unfold Ws.inD; rw [h3, decide_eq_true hk]; decide
  have hmt : meetsB fol (s.use ⟨at'.id, x⟩) (nowE es at'.id x).nd (L.drop (i + 1)) = true := by
    unfold meetsB
    have e1 : (nowE es at'.id x).nd.kind = 3 := h3'
    rw [e1]
    have e2 : (s.use ⟨at'.id, x⟩).dir = D := h2
    rw [e2]
    rcases hm with hm | hm | hm
    · have : 0 < (L.drop (i + 1)).length := by rw [List.length_drop]; omega
      rw [decide_eq_true this]; simp
    · rw [hm]; simp
    · rw [hm]; simp
  have hmt' : meetsB fol s (nowE es at'.id x).nd (L.drop (i + 1)) = true := hmt
  rw [drop_at hx, goW_eq, goI, if_neg hi, if_neg h1', if_neg h2', h3, hkn] at h1
  simp only at h1
  rw [if_neg (by rw [hn]; decide), if_pos hmt'] at h1
  cases l with
  | zero =>
    left
    have h1 : (s.use ⟨at'.id, x⟩).fail 49 = O := h1
    rw [← h1]
    show (49 : Int) ≠ 0
    decide
  | succ l => exact .inr (Nat.succ_pos l)
theorem hm_go (wf : WF Mn es next) (h : Hm2 es fol l D L O i at' up) (hx : L[i]? = some x) (hk : at'.kind = 1) (h1' : x ≠ dot1) (h2' : x ≠ dot2) (hn : (nowE es at'.id x).neg = false) (hm : ¬ ((nowE es at'.id x).kind = 3 ∧ (i + 1 < L.length ∨ D = true ∨ fol = true))) : Hm2 es fol l D L O (i + 1) (nowE es at'.id x).nd (if (nowE es at'.id x).kind = 1 then up ++ [at'] else up) := by
  have hkn := (hm_kn wf h hk x).2
  obtain ⟨s, h1, h2, h3, h4, h5⟩ := h
  have hi : ¬ s.inD = false := by unfold Ws.inD; rw [h3, decide_eq_true hk]; decide
  have hmt : ¬ meetsB fol s (nowE es at'.id x).nd (L.drop (i + 1)) = true := fun hc => hm (by
    unfold meetsB at hc
    rw [h2] at hc
    simp only [Bool.and_eq_true, Bool.or_eq_true, decide_eq_true_eq, List.length_drop] at hc
    refine ⟨hc.1, ?_⟩
    rcases hc.2 with (hc | hc) | hc
    · exact .inl (by omega)
    · exact .inr (.inl hc)
    · exact .inr (.inr hc))
  rw [drop_at hx, goW_eq, goI, if_neg hi, if_neg h1', if_neg h2', h3, hkn] at h1
  simp only at h1
  rw [if_neg (by rw [hn]; decide), if_neg hmt, ← goW_eq] at h1
  have hnd : NdT es (nowE es at'.id x).nd := by
    rcases nowE_cases wf at'.id x with ⟨e, -⟩ | ⟨e, he, -, -, e1, -⟩
    · rw [e] at hn; cases hn
    · rw [e1]; exact .inr ⟨e, he, rfl⟩
  refine ⟨_, h1, h2, ?_, fun hk1 => ?_, (h5.use _).go hnd⟩
  · unfold Ws.here Ws.go; simp
  · have hk1 : (nowE es at'.id x).kind = 1 := hk1
    rw [if_pos hk1]
    show s.way ++ [(nowE es at'.id x).nd] = up ++ [at'] ++ [(nowE es at'.id x).nd]
    rw [h4 hk]
theorem hm_end (h : Hm2 es fol l D L O L.length at' up) : (D = true ∧ at'.kind ≠ 1 → O.err = 42) ∧ (¬ (D = true ∧ at'.kind ≠ 1) → O.err = 0 ∧ O.node = at') := by
  obtain ⟨s, h1, h2, h3, h4, h5⟩ := h
  rw [List.drop_length, goW_eq, goI] at h1
  unfold Ws.fin at h1
  rw [h2] at h1
  have hin : s.inD = decide (at'.kind = 1) := by unfold Ws.inD; rw [h3]
  rw [hin] at h1
  constructor
  · rintro ⟨hd, hk⟩
    rw [hd, decide_eq_false hk] at h1
    rw [← h1]; rfl
  · intro hn
    have : (D && !decide (at'.kind = 1)) = false := by
      cases hD : D with
      | false => rfl
      | true =>
        by_cases hk : at'.kind = 1
        · rw [decide_eq_true hk]; rfl
        · exact (hn ⟨hD, hk⟩).elim
    rw [this] at h1
    rw [← h1]
    exact ⟨rfl, h3⟩
end
/-- the law's own node, and its list of nodes -/
structure Hs (wB wr : World) (at' : Nd) (vu : Value) (up : List Nd) : Prop where
  bel : Below wB.heap.size wB wr
  box : wr.heap[wB.heap.size]? = some (.cells at'.vals.toArray 31 (0, 0))
  row : RowN wr (wB.heap.size + 1) vu up
section
variable {wB wr w' : World} {at' : Nd} {vu : Value} {up : List Nd}
theorem Hs.on (h : Hs wB wr at' vu up) (hb : Below wr.heap.size wr w') : Hs wB w' at' vu up := ⟨chainB h.bel hb, hkeep h.box hb, h.row.below hb⟩
theorem Hs.cell4 (h : Hs wB wr at' vu up) : Cells4 wr wB.heap.size 0 at' := cells4_of h.box
/-- another node laid in -/
theorem Hs.set (h : Hs wB wr at' vu up) (x : Nd) : ∃ W, (ndSt (.pointer (some ⟨wB.heap.size, 0, none⟩)) x.agg).run Try.prog wr = .ok () W ∧ Hs wB W x vu up ∧ wr.heap.size ≤ W.heap.size ∧ (∀ k, k ≠ wB.heap.size → W.heap[k]? = wr.heap[k]?) := by
  have hsz : (wr.setRow wB.heap.size x.vals.toArray).heap.size = wr.heap.size := by unfold World.setRow; simp
  have hne : ∀ k, k ≠ wB.heap.size → (wr.setRow wB.heap.size x.vals.toArray).heap[k]? = wr.heap[k]? := fun k hk => setRow_other wr _ _ _ hk
  have hlt : wB.heap.size < wr.heap.size := (Array.getElem?_eq_some_iff.1 h.box).1
  refine ⟨_, ndSt_of h.box rfl rfl, ⟨⟨h.bel.os, h.bel.tape, h.bel.output, by rw [hsz]; exact h.bel.size, fun k hk => (hne k (by omega)).trans (h.bel.block k hk)⟩, setRow_heap wr _ _ _ _ _ h.box, owns_moved h.row fun b hb => hne b (by have := (World.ownsRow.lt h.row b hb).1; omega)⟩, by rw [hsz]; exact Nat.le_refl _, hne⟩
theorem Hs.pop (h : Hs wB wr at' vu up) {a : Option Addr} {n c : Nat} (e : vu = .slice a n c) : Hs wB wr at' (.slice a (up.length - 1) c) up.dropLast := by
  subst e
  exact ⟨h.bel, h.box, rowN_pop h.row⟩
theorem Hs.push (h : Hs wB wr at' vu up) (x : Nd) (hl : up.length + 1 ≤ 1500000000000) : ∃ a6 N6 c6 Z, (∀ ty, (Builtin.append_ #[40, 40] ty #[vu, .slice (some ⟨wr.heap.size, 0, none⟩) 1 1]).run Try.prog (wr.alloc (.cells x.vals.toArray 31)) = .ok (.slice a6 N6 c6) Z) ∧ Hs wB Z at' (.slice a6 N6 c6) (up ++ [x]) ∧ N6 = up.length + 1 ∧ wr.heap.size ≤ Z.heap.size ∧ (∀ k, k < wr.heap.size → vu.ownBlock ≠ some k → Z.heap[k]? = wr.heap[k]?) := by
  have hlt : wB.heap.size < wr.heap.size := (Array.getElem?_eq_some_iff.1 h.box).1
  obtain ⟨a6, N6, c6, Z, r6, row6, o6, -⟩ := keep_node x h.row (by omega) hl
  have hN : N6 = up.length + 1 := by
    obtain ⟨_, _, e⟩ := owns_len row6
    injection e with _ e2 _
    rw [e2]; simp
  have hnb : ∀ k, k ≤ wB.heap.size → vu.ownBlock ≠ some k := fun k hk e => by have := (World.ownsRow.lt h.row k e).1; omega
  exact ⟨a6, N6, c6, Z, r6, ⟨⟨o6.os.trans h.bel.os, o6.tape.trans h.bel.tape, o6.output.trans h.bel.output, Nat.le_trans h.bel.size o6.size, fun k hk => (o6.block k (by omega) (hnb k (by omega))).trans (h.bel.block k hk)⟩, (o6.block _ hlt (hnb _ (Nat.le_refl _))).trans h.box, row6⟩, hN, o6.size, fun k hk hn => o6.block k hk hn⟩
end
end
section
open Go.RowKit
attribute [local go_sem ↓ high] loadEn storeEn loadNd storeNd storeOu loadOu

theorem Own.take {w : World} {B : Nat} {a : Option Addr} {n cap : Nat} {l : List ByteArray} (h : Own w B (.slice a n cap) l) (k : Nat) (hk : k ≤ l.length) : Own w B (.slice a k cap) (l.take k) := by
  have hn : n = l.length := by
    obtain ⟨a', c', e⟩ := owns_len h
    injection e
  subst hn
  obtain ⟨d, hd⟩ : ∃ d, l.length - k = d := ⟨_, rfl⟩
  induction d generalizing k with
  | zero =>
    have : k = l.length := by omega
    subst this
    rw [List.take_length]; exact h
  | succ d ih =>
    have h1 := ih (k + 1) (by omega) (by omega)
    have hne : l.take (k + 1) ≠ [] := by
      intro e
      have := congrArg List.length e
      rw [List.length_take, List.length_nil] at this
      omega
    have hl : (l.take (k + 1)).length = k + 1 := by rw [List.length_take]; omega
    have h2 : Own w B (.slice a (l.take (k + 1)).length cap) (l.take (k + 1)) := by rw [hl]; exact h1
    have h3 := Own.pop h2 hne
    rw [hl, Nat.add_sub_cancel] at h3
    have : (l.take (k + 1)).dropLast = l.take k := by
      rw [List.dropLast_eq_take, hl, List.take_take, Nat.add_sub_cancel, Nat.min_eq_left (by omega)]
    rw [this] at h3
    exact h3
theorem RowS.drop {w : World} {g : Nat} {l : List ByteArray} (h : RowS w (some ⟨g, 0, none⟩) l) (k : Nat) : RowS w (some ⟨g, k, none⟩) (l.drop k) := by
  rcases h with rfl | ⟨b, off, e, hb, hc⟩
  · left; simp
  · cases e
    refine .inr ⟨g, k, rfl, hb, fun i x hx => ?_⟩
    rw [List.getElem?_drop] at hx
    have := hc _ x hx
    rw [Nat.zero_add] at this
    exact this
/-- the components with a dot more -/
def dotL (L : List ByteArray) (j : Nat) : List ByteArray := (L.take j ++ [dot1]) ++ L.drop j
theorem dotL_is (L : List ByteArray) (j : Nat) : dotL L j = L.take j ++ dot1 :: L.drop j := by unfold dotL; simp
theorem dotL_len {L : List ByteArray} {j : Nat} (h : j ≤ L.length) : (dotL L j).length = L.length + 1 := by
  unfold dotL
  simp only [List.length_append, List.length_take, List.length_drop, List.length_cons, List.length_nil]
  omega
/-- a copy of the first ones, a dot, the others: however the two are made -/
theorem dot_app {w W : World} {g j c c2 cc : Nat} {L : List ByteArray} {a2 : Option Addr} {B : Nat} (hs : RowS w (some ⟨g, 0, none⟩) L) (hb : Below w.heap.size w W) (h2 : Own W B (.slice a2 j c2) (L.take j)) (hB : B ≤ W.heap.size) (hw0 : w.heap.size ≤ B) (hd : W.cell? ⟨c, 0, none⟩ = some (.string dot1)) (hj : j ≤ L.length) (hL : L.length ≤ 97) :
    ∃ a3 N3 c3 W3, (∀ ty, (Builtin.append_ #[36, 36] ty #[.slice a2 j c2, .slice (some ⟨c, 0, none⟩) 1 1]).run Try.prog W = .ok (.slice a3 N3 c3) W3) ∧
      ∃ a4 c4 W4, (∀ ty, (Builtin.append_ #[36, 36] ty #[.slice a3 N3 c3, .slice (some ⟨g, j, none⟩) (L.length - j) (cc - j)]).run Try.prog W3 = .ok (.slice a4 (L.length + 1) c4) W4) ∧ Own W4 B (.slice a4 (L.length + 1) c4) (dotL L j) ∧ Below w.heap.size w W4 ∧ Only (fun k => B ≤ k) W W4 := by
  have hlt : (L.take j).length = j := by rw [List.length_take]; omega
  obtain ⟨a3, N3, c3, W3, r3, o3, k3⟩ := appS_any (w := W) (B := B) (l := L.take j) (l2 := [dot1]) (a := some ⟨c, 0, none⟩) (c := 1) h2 (.inr ⟨c, 0, rfl, (cellLt hd), fun i x hx => by
    cases i with
    | zero => simp at hx; subst hx; exact hd
    | succ i => simp at hx⟩) hB (by simp only [List.length_cons, List.length_nil]; omega)
  have hk3 : Only (fun k => B ≤ k) W W3 := k3.mono fun k hk => (World.ownsRow.lt h2 k hk).1
  have b3 : Below w.heap.size w W3 := hk3.below hb hb.size fun k hk => by omega
  have hr3 : RowS W3 (some ⟨g, j, none⟩) (L.drop j) := (RowS.drop hs j).below b3
  obtain ⟨a4, N4, c4, W4, r4, o4, k4⟩ := appS_any (w := W3) (B := B) (l := L.take j ++ [dot1]) (l2 := L.drop j) (a := some ⟨g, j, none⟩) (c := cc - j) o3 hr3 (Nat.le_trans hB k3.size) (by simp only [List.length_append, List.length_drop, List.length_cons, List.length_nil]; omega)
  have hN4 : N4 = L.length + 1 := by
    have := owns_len o4
    obtain ⟨_, _, e⟩ := this
    injection e with _ e2 _
    rw [e2]
    exact dotL_len hj
  subst hN4
  have hk4 : Only (fun k => B ≤ k) W3 W4 := k4.mono fun k hk => (World.ownsRow.lt o3 k hk).1
  refine ⟨a3, N3, c3, W3, r3, a4, c4, W4, fun ty => ?_, o4, hk4.below b3 b3.size fun k hk => by omega, hk3.trans hk4⟩
  have := r4 ty
  rw [List.length_drop] at this
  exact this
end
end Go.Proofs.Ytppbbddlbfgpfaa
