/- A walk goes on: what memory keeps, and what is left to be said. -/
import Derived.Test.YtppbbddlbfgpfaaJWUps29
namespace Go.Proofs.Ytppbbddlbfgpfaa
section
open Go.RowKit

/-- a walk at the component i of its components; w: where walk began -/
structure Wt (w0 w wr : World) (P : Pw) (O : Ou) (aS : Option Addr) (nS : Nat) (steps : List ByteArray) (i : Nat) (s : Ws) (n : Nat) (wv uv : Value) : Prop where
  is : IsW w0 wr P wv uv s n (fun b => b = w.heap.size ∨ ∃ o, aS = some ⟨b, o, none⟩)
  out : wr.heap[w.heap.size]? = some (.cells zeroes9 34 (0, 0))
  row : RowS wr aS steps
  len : steps.length = nS
  goal : goI (knF P.fl P.cs) P.fol (metL (knF P.fl P.cs) P.fol n) (steps.drop i) s = O
  b1 : s.way.length + (nS - i) + 97 * n ≤ 1000000000000
  b2 : s.used.length + (nS - i) + 97 * n ≤ 1000000000000
  l8 : n ≤ 8
  ile : i ≤ nS
section
variable {w0 w wr W : World} {P : Pw} {O : Ou} {aS : Option Addr} {nS : Nat} {steps : List ByteArray} {i : Nat} {s : Ws} {n : Nat} {wv uv : Value} {x : ByteArray}
theorem Wt.on (h : Wt w0 w wr P O aS nS steps i s n wv uv) (hb : Below wr.heap.size wr W) : Wt w0 w W P O aS nS steps i s n wv uv :=
  ⟨h.is.on' hb, hkeep h.out hb, h.row.below hb, h.len, h.goal, h.b1, h.b2, h.l8, h.ile⟩
theorem Wt.at (h : Wt w0 w wr P O aS nS steps i s n wv uv) (hi : i < nS) : ∃ x b off, steps[i]? = some x ∧ aS = some ⟨b, off, none⟩ ∧ (∀ W, Below wr.heap.size wr W → W.cell? ⟨b, off + i, none⟩ = some (.string x)) ∧ goI (knF P.fl P.cs) P.fol (metL (knF P.fl P.cs) P.fol n) (x :: steps.drop (i + 1)) s = O := by
  have hl := h.len
  obtain ⟨x, hx⟩ : ∃ x, steps[i]? = some x := ⟨_, List.getElem?_eq_getElem (by omega)⟩
  rcases h.row with h0 | ⟨b, off, e, hb, hc⟩
  · rw [h0] at hl; simp at hl; omega
  · refine ⟨x, b, off, hx, e, fun W hW => (hW.cell (p := ⟨b, off + i, none⟩) hb).trans (hc i x hx), ?_⟩
    have hg := h.goal
    rw [List.drop_eq_getElem_cons (by omega)] at hg
    rw [List.getElem?_eq_getElem (by omega)] at hx
    rw [← Option.some.inj hx]
    exact hg
/-- a row that was kept -/
theorem rowS_kept {W W' : World} {a : Option Addr} {l : List ByteArray} (h : RowS W a l) (hs : W.heap.size ≤ W'.heap.size) (hk : ∀ b o, a = some ⟨b, o, none⟩ → W'.heap[b]? = W.heap[b]?) : RowS W' a l := by
  rcases h with h | ⟨b, off, e, hb, hc⟩
  · exact .inl h
  · refine .inr ⟨b, off, e, Nat.lt_of_lt_of_le hb hs, fun i x hx => ?_⟩
    rw [← hc i x hx]
    simp only [World.cell?, hk b off e]
/-- behind a call that may change the walker -/
theorem Wt.went {s' : Ws} {n' i' : Nat} (h : Wt w0 w wr P O aS nS steps i s n wv uv) {wv' uv' : Value} (hI : IsW w0 W P wv' uv' s' n' (fun b => b = w.heap.size ∨ ∃ o, aS = some ⟨b, o, none⟩)) (hk : ∀ b, (b = w.heap.size ∨ ∃ o, aS = some ⟨b, o, none⟩) → W.heap[b]? = wr.heap[b]?) (hs : wr.heap.size ≤ W.heap.size)
    (hg : goI (knF P.fl P.cs) P.fol (metL (knF P.fl P.cs) P.fol n') (steps.drop i') s' = O) (h1 : s'.way.length + (nS - i') + 97 * n' ≤ 1000000000000) (h2 : s'.used.length + (nS - i') + 97 * n' ≤ 1000000000000) (h3 : n' ≤ 8) (h4 : i' ≤ nS) : Wt w0 w W P O aS nS steps i' s' n' wv' uv' :=
  ⟨hI, (hk _ (.inl rfl)).trans h.out, rowS_kept h.row hs fun b o e => hk b (.inr ⟨o, e⟩), h.len, hg, h1, h2, h3, h4⟩
/-- what is left behind the component i -/
theorem rest_row {W : World} {bS off c : Nat} {l : List ByteArray} {i : Nat} (h : RowS W (some ⟨bS, off, none⟩) l) (hi : i < l.length) (hc : l.length ≤ c) : RowS W (if c = i + 1 then some ⟨bS, off, none⟩ else some ⟨bS, off + (i + 1), none⟩) (l.drop (i + 1)) := by
  by_cases e : c = i + 1
  · left
    rw [List.drop_eq_nil_iff]; omega
  · rw [if_neg e]
    rcases h with h | ⟨b, o, e1, hb, hcc⟩
    · rw [h] at hi; simp at hi
    · cases e1
      refine .inr ⟨bS, off + (i + 1), rfl, hb, fun k x hx => ?_⟩
      rw [List.getElem?_drop] at hx
      rw [← hcc _ x hx, Nat.add_assoc]
theorem met_len (s : Ws) (tg : ByteArray) (b : Bool) (h : s.way ≠ []) : (s.met tg b).way.length ≤ s.way.length ∧ (s.met tg b).used = s.used := by
  refine ⟨?_, rfl⟩
  unfold Ws.met
  simp only
  split
  · cases hq : s.way with
    | nil => exact absurd hq h
    | cons a l => simp
  · exact Nat.le_refl _
theorem up_len (s : Ws) : s.up.way.length ≤ s.way.length := by
  unfold Ws.up
  simp only
  split
  · rw [List.length_dropLast]; omega
  · exact Nat.le_refl _
theorem cutL_len (tg : ByteArray) (b : Bool) : (cutL tg b).length ≤ 97 := by
  unfold cutL
  split
  · rename_i h
    unfold cutE at h
    split at h
    · cases h
    · unfold pieces
      have := pcs_len tg (tg.size + 1)
      omega
  · simp
end
section
variable {w0 X : World} {P : Pw} {wv uv : Value} {s : Ws} {l : Nat} {F : Nat → Prop}
/-- one used key more -/
structure PuU (w0 X : World) (P : Pw) (wv : Value) (s : Ws) (l : Nat) (F : Nat → Prop) (b : Nat) (k : Ky) (a : Option Addr) (m cap : Nat) (a6 : Option Addr) (N6 c6 : Nat) (Y Z : World) : Prop where
  hY : X.drew.alloc (.cells #[.int .i64 k.d, .string k.nm] 28) = Y
  app : ∀ ty, (Builtin.append_ #[32, 32] ty #[.slice a m cap, .slice (some ⟨X.heap.size, 0, none⟩) 1 1]).run Try.prog Y = .ok (.slice a6 N6 c6) Z
  x2 : X.cell? ⟨P.t, 2, none⟩ = some (.slice a m cap)
  y2 : Y.cell? ⟨P.t, 2, none⟩ = some (.slice a m cap)
  z2 : Z.cell? ⟨P.t, 2, none⟩ = some (.slice a m cap)
  zf : ∀ i, Z.frozen? ⟨P.t, i, none⟩ = false
  y0 : Y.cell? ⟨b, 0, none⟩ = some (.int .i64 k.d)
  y1 : Y.cell? ⟨b, 1, none⟩ = some (.string k.nm)
  fin : IsW w0 (Z.setCell ⟨P.t, 2, none⟩ (.slice a6 N6 c6)) P wv (.slice a6 N6 c6) (s.use k) l F
  kept : ∀ q, F q → (Z.setCell ⟨P.t, 2, none⟩ (.slice a6 N6 c6)).heap[q]? = X.heap[q]?
  size : X.heap.size ≤ (Z.setCell ⟨P.t, 2, none⟩ (.slice a6 N6 c6)).heap.size
theorem pushU {b : Nat} {k : Ky} {a : Option Addr} {m cap : Nat} (h : IsW w0 X P wv (.slice a m cap) s l F) (h0 : X.cell? ⟨b, 0, none⟩ = some (.int .i64 k.d)) (h1 : X.cell? ⟨b, 1, none⟩ = some (.string k.nm)) (hl : s.used.length + 1 ≤ 1500000000000) : ∃ a6 N6 c6 Y Z, PuU w0 X P wv s l F b k a m cap a6 N6 c6 Y Z := by
  have bD : Below X.heap.size X X.drew := (Below.refl _ X).drew
  obtain ⟨a6, N6, c6, Z, r6, row6, o6, p6⟩ := keep_ky (X := X.drew) k (h.used.below bD) (by have := h.tlt; show P.t + 1 ≤ X.heap.size; omega) hl
  obtain ⟨Y, hY⟩ : ∃ Y, X.drew.alloc (.cells #[.int .i64 k.d, .string k.nm] 28) = Y := ⟨_, rfl⟩
  have bY : Below X.heap.size X Y := by rw [← hY]; exact (Below.refl _ X).drew.alloc (Nat.le_refl _) _
  rw [hY] at r6
  have o6' : Only (fun q => (Value.slice a m cap).ownBlock = some q) X Z := (Only.refl _ X).drew.trans o6
  have hown : ∀ q, (Value.slice a m cap).ownBlock = some q → P.t + 1 ≤ q ∧ q < X.heap.size := fun q hq => World.ownsRow.lt h.used q hq
  have hown6 : ∀ q, (Value.slice a6 N6 c6).ownBlock = some q → P.t + 1 ≤ q ∧ q < Z.heap.size := fun q hq => World.ownsRow.lt row6 q hq
  have hZt : Z.heap[P.t]? = X.heap[P.t]? := o6'.block _ h.tlt fun e => by have := hown _ e; omega
  have hZh := hZt.trans h.head
  have oc : Only (· = P.t) Z (Z.setCell ⟨P.t, 2, none⟩ (.slice a6 N6 c6)) := only1 _ _ _ _
  have hO : Only (fun q => q = P.t ∨ wv.ownBlock = some q ∨ (Value.slice a m cap).ownBlock = some q) X (Z.setCell ⟨P.t, 2, none⟩ (.slice a6 N6 c6)) := (o6'.mono fun q hq => .inr (.inr hq)).trans (oc.mono fun q hq => .inl hq)
  have hnew : ∀ q, (Value.slice a6 N6 c6).ownBlock = some q → (Value.slice a m cap).ownBlock = some q ∨ X.heap.size ≤ q := fun q hq => by
    rcases p6 with p | p
    · left; rw [← p]; exact hq
    · right; exact p q hq
  obtain ⟨k1, k2⟩ := h.step (s' := s.use k) (l' := l) (wv' := wv) (uv' := .slice a6 N6 c6) hO (setCell_heap hZh) (owns_moved h.way fun q hq => (oc.block q (Nat.lt_of_lt_of_le (World.ownsRow.lt h.way q hq).2 o6'.size) (by have := (World.ownsRow.lt h.way q hq).1; omega)).trans (o6'.block q (World.ownsRow.lt h.way q hq).2 fun e => h.ne q hq e)) (owns_moved row6 fun q hq => oc.block q (hown6 q hq).2 (by have := (hown6 q hq).1; omega)) (fun q hq e => by
    rcases hnew q e with e | e
    · exact h.ne q hq e
    · have := (World.ownsRow.lt h.way q hq).2; omega) h.some1 (fun q hq => .inl hq) hnew
  exact ⟨a6, N6, c6, Y, Z, hY, r6, h.cells.2.2.1, (h.on' bY).cells.2.2.1, by rw [cell_of hZh]; rfl, free_of hZh, (bY.cell (cellLt h0)).trans h0, (bY.cell (cellLt h1)).trans h1, k1, k2, hO.size⟩
/-- one node more on the way -/
structure PuN (w0 X : World) (P : Pw) (uv : Value) (s : Ws) (l : Nat) (F : Nat → Prop) (b : Nat) (x : Nd) (a : Option Addr) (m cap : Nat) (a6 : Option Addr) (N6 c6 : Nat) (Y Z : World) : Prop where
  one : (ndOne #[(0, x.agg)]).run Try.prog X.drew = .ok (.slice (some ⟨X.heap.size, 0, none⟩) 1 1) Y
  app : ∀ ty, (Builtin.append_ #[40, 40] ty #[.slice a m cap, .slice (some ⟨X.heap.size, 0, none⟩) 1 1]).run Try.prog Y = .ok (.slice a6 N6 c6) Z
  x2 : X.cell? ⟨P.t, 1, none⟩ = some (.slice a m cap)
  y2 : Y.cell? ⟨P.t, 1, none⟩ = some (.slice a m cap)
  z2 : Z.cell? ⟨P.t, 1, none⟩ = some (.slice a m cap)
  zf : ∀ i, Z.frozen? ⟨P.t, i, none⟩ = false
  ld : (ndLd (.pointer (some ⟨b, 3, none⟩))).run Try.prog X.drew = .ok x.agg X.drew
  ldY : (ndLd (.pointer (some ⟨b, 3, none⟩))).run Try.prog Y = .ok x.agg Y
  fin : IsW w0 (Z.setCell ⟨P.t, 1, none⟩ (.slice a6 N6 c6)) P (.slice a6 N6 c6) uv (s.go x) l F
  kept : ∀ q, F q → (Z.setCell ⟨P.t, 1, none⟩ (.slice a6 N6 c6)).heap[q]? = X.heap[q]?
  size : X.heap.size ≤ (Z.setCell ⟨P.t, 1, none⟩ (.slice a6 N6 c6)).heap.size
theorem pushN {b : Nat} {x : Nd} {a : Option Addr} {m cap : Nat} (h : IsW w0 X P (.slice a m cap) uv s l F) (h0 : Cells4 X b 3 x) (hl : s.way.length + 1 ≤ 1500000000000) : ∃ a6 N6 c6 Y Z, PuN w0 X P uv s l F b x a m cap a6 N6 c6 Y Z := by
  have bD : Below X.heap.size X X.drew := (Below.refl _ X).drew
  obtain ⟨a6, N6, c6, Z, r6, row6, o6, p6⟩ := keep_node (X := X.drew) x (h.way.below bD) (by have := h.tlt; show P.t + 1 ≤ X.heap.size; omega) hl
  obtain ⟨Y, hY⟩ : ∃ Y, X.drew.alloc (.cells x.vals.toArray 31) = Y := ⟨_, rfl⟩
  have bY : Below X.heap.size X Y := by rw [← hY]; exact (Below.refl _ X).drew.alloc (Nat.le_refl _) _
  rw [hY] at r6
  have o6' : Only (fun q => (Value.slice a m cap).ownBlock = some q) X Z := (Only.refl _ X).drew.trans o6
  have hown : ∀ q, (Value.slice a m cap).ownBlock = some q → P.t + 1 ≤ q ∧ q < X.heap.size := fun q hq => World.ownsRow.lt h.way q hq
  have hown6 : ∀ q, (Value.slice a6 N6 c6).ownBlock = some q → P.t + 1 ≤ q ∧ q < Z.heap.size := fun q hq => World.ownsRow.lt row6 q hq
  have hZt : Z.heap[P.t]? = X.heap[P.t]? := o6'.block _ h.tlt fun e => by have := hown _ e; omega
  have hZh := hZt.trans h.head
  have oc : Only (· = P.t) Z (Z.setCell ⟨P.t, 1, none⟩ (.slice a6 N6 c6)) := only1 _ _ _ _
  have hO : Only (fun q => q = P.t ∨ (Value.slice a m cap).ownBlock = some q ∨ uv.ownBlock = some q) X (Z.setCell ⟨P.t, 1, none⟩ (.slice a6 N6 c6)) := (o6'.mono fun q hq => .inr (.inl hq)).trans (oc.mono fun q hq => .inl hq)
  have hnew : ∀ q, (Value.slice a6 N6 c6).ownBlock = some q → (Value.slice a m cap).ownBlock = some q ∨ X.heap.size ≤ q := fun q hq => by
    rcases p6 with p | p
    · left; rw [← p]; exact hq
    · right; exact p q hq
  obtain ⟨k1, k2⟩ := h.step (s' := s.go x) (l' := l) (wv' := .slice a6 N6 c6) (uv' := uv) hO (setCell_heap hZh) (owns_moved row6 fun q hq => oc.block q (hown6 q hq).2 (by have := (hown6 q hq).1; omega)) (owns_moved h.used fun q hq => (oc.block q (Nat.lt_of_lt_of_le (World.ownsRow.lt h.used q hq).2 o6'.size) (by have := (World.ownsRow.lt h.used q hq).1; omega)).trans (o6'.block q (World.ownsRow.lt h.used q hq).2 fun e => h.ne q e hq)) (fun q hq e => by
    rcases hnew q hq with e' | e'
    · exact h.ne q e' e
    · have := (World.ownsRow.lt h.used q e).2; omega) (by show s.way ++ [x] ≠ []; simp) hnew (fun q hq => .inl hq)
  exact ⟨a6, N6, c6, Y, Z, by rw [← hY]; exact ndOne_of x X.drew, r6, h.cells.2.1, (h.on' bY).cells.2.1, by rw [cell_of hZh]; rfl, free_of hZh, ndLd_at (h0.below bD), ndLd_at (h0.below bY), k1, k2, hO.size⟩
end
/-- ahead and rest, in one -/
theorem concat_call {w0 w5 w6 V6 : World} {P : Pw} {s' : Ws} {n' : Nat} {F : Nat → Prop} {av aR : Option Addr} {kL cv kR cR : Nat} {L R : List ByteArray} (hL : L.length = kL) (hR : R.length = kR) (hm : MetR w0 w5 w6 P s' n' F (.slice av kL cv) L) (hF : ∀ b o, aR = some ⟨b, o, none⟩ → F b) (hr : RowS w5 aR R)
    (hg : V6.heap[w6.heap.size]? = some (.cells #[.slice av kL cv, .slice aR kR cR] 36 (0, 0))) (hb : Below w6.heap.size w6 V6) (hl : kL + kR ≤ 1000000000000) :
    Calls Try.prog 52 #[.slice (some ⟨w6.heap.size, 0, none⟩) 2 2] V6 fun r w' => ∃ a7 N7 c7, r = .returned (.slice a7 N7 c7) ∧ Own w' V6.heap.size (.slice a7 N7 c7) (L ++ R) ∧ Below V6.heap.size V6 w' ∧ N7 = (L ++ R).length := by
  obtain ⟨ho, wv, uv, hI, hk, hs⟩ := hm
  obtain ⟨a, cap, e, hrow⟩ := Own.row ho
  injection e with e1 e2 e3
  subst e1
  refine (concat_p w6.heap.size cv cR av aR L R V6 (by rw [hL, hR]; exact hg) (hrow.below hb) ((rowS_kept hr hs fun b o ea => hk b (hF b o ea)).below hb) (by rw [hL, hR]; exact hl)).mono ?_
  rintro r w' ⟨v, rfl, ho', hb'⟩
  obtain ⟨a7, c7, rfl⟩ := owns_len ho'
  exact ⟨a7, _, c7, rfl, ho', hb', rfl⟩
/-- what a walk leaves -/
def WalkR (w0 : World) (t : Nat) (O : Ou) (r : Ending) (w' : World) : Prop := ∃ uv, r = .returned (ouAgg O uv) ∧ RowK w' (t + 1) uv O.used ∧ Below w0.heap.size w0 w'
/-- an outcome is laid into its box -/
theorem fin_out {w0 w W : World} {P : Pw} {wv : Value} {s : Ws} {l : Nat} {F : Nat → Prop} {a : Option Addr} {m c : Nat} (h : IsW w0 W P wv (.slice a m c) s l F) (hF : F w.heap.size) (hw : w0.heap.size ≤ w.heap.size) (ho : W.heap[w.heap.size]? = some (.cells zeroes9 34 (0, 0))) (o : Ou) (hu : o.used = s.used) :
    ∃ Z, (ouSt (.pointer (some ⟨w.heap.size, 0, none⟩)) (ouAgg o (.slice a m c))).run Try.prog W = .ok () Z ∧ Z.heap[w.heap.size]? = some (.cells (ouVals o (.slice a m c)).toArray 34 (0, 0)) ∧ RowK Z (P.t + 1) (.slice a m c) o.used ∧ Below w0.heap.size w0 Z ∧ Only (· = w.heap.size) W Z := by
  obtain ⟨Z, hZ⟩ : ∃ Z, W.setRow w.heap.size (ouVals o (.slice a m c)).toArray = Z := ⟨_, rfl⟩
  have hO : Only (· = w.heap.size) W Z := by rw [← hZ]; exact onlyR _ _ _
  refine ⟨Z, ouSt_of ho rfl hZ, by rw [← hZ]; exact setRow_heap _ _ _ _ _ _ ho, ?_, hO.below h.below h.below.size fun b hb => by omega, hO⟩
  rw [hu]
  exact owns_moved h.used fun b hb => hO.block b (World.ownsRow.lt h.used b hb).2 fun e => (h.fk _ hF).2.2.2 (by rw [← e]; exact hb)
end
end Go.Proofs.Ytppbbddlbfgpfaa
