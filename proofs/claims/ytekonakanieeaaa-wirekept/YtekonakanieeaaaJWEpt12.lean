/- The document's own reading of bytes: an op. -/
import Derived.Test.YtekonakanieeaaaJWEpt11
namespace Go.Proofs.Ytekonakanieeaaa
section
open Go.RowKit Go.Lib
variable {Bq : Nat}

/-- a block without bytes written over -/
theorem RI.farG {w w' : World} {b : Value} {ok : Bool} {s : St} {g : Nat} {cs : Array Value} {t : TypeId} (h : RI Bq w b ok s) (hb : w.heap[g]? = some (.cells cs t (0, 0))) (hn : ∀ (i : Nat) (x : Int), cs[i]? ≠ some (.int .u8 x)) (hk : ∀ k, k ≠ g → w'.heap[k]? = w.heap[k]?) (hsz : w.heap.size ≤ w'.heap.size) : RI Bq w' b ok s := by
  obtain ⟨l, ⟨a', c', e, hcap, hc⟩, h2⟩ := h
  refine ⟨l, ⟨a', c', e, hcap, ?_⟩, h2⟩
  rcases hc with hc | ⟨g', off, e', hg, hc⟩
  · exact .inl hc
  · cases l with
    | nil => exact .inl rfl
    | cons x l =>
      have hne : g' ≠ g := by
        rintro rfl
        have h0 := hc 0 x rfl
        rw [cell_of hb] at h0
        exact hn _ _ h0
      refine .inr ⟨g', off, e', Nat.lt_of_lt_of_le hg hsz, fun i y hy => ?_⟩
      rw [World.cell?_of_block (hk g' hne)]
      exact hc i y hy
/-- what a struct's reading has: the box of what is left, the struct's own box, the results' boxes -/
structure OS (Bq : Nat) (w Z : World) (i o r q : Nat) (to_ : TypeId) (b : Value) (k : Bool) (s : St) (cs zs : Array Value) : Prop where
  box : Z.heap[i]? = some (.cells #[b, .bool k] 68 (0, 0))
  own : Z.heap[o]? = some (.cells cs to_ (0, 0))
  res : Z.heap[r]? = some (.cells zs to_ (0, 0))
  ins : Z.heap[q]? = some (.cells #[.slice none 0 0, .bool false] 68 (0, 0))
  bel : Below w.heap.size w Z
  ri : RI Bq Z b k s
theorem OS.below {w Z Z' : World} {i o r q : Nat} {to_ : TypeId} {b : Value} {k : Bool} {s : St} {cs zs : Array Value} (h : OS Bq w Z i o r q to_ b k s cs zs) (hb : Below Z.heap.size Z Z') : OS Bq w Z' i o r q to_ b k s cs zs :=
  ⟨hkeep h.box hb, hkeep h.own hb, hkeep h.res hb, hkeep h.ins hb, chainB h.bel hb, h.ri.below hb⟩
/-- a field read -/
theorem OS.step {w Z w1 Z' : World} {i o r q : Nat} {to_ : TypeId} {b v : Value} {k k1 : Bool} {s s1 : St} {cs zs : Array Value} {a1 : Option Addr} {n1 c1 : Nat} (h : OS Bq w Z i o r q to_ b k s cs zs) (hb : Below Z.heap.size Z w1) (hr : RI Bq w1 (.slice a1 n1 c1) k1 s1) (j : Nat) (hZ : ((w1.setCell ⟨o, j, none⟩ v).setCell ⟨i, 0, none⟩ (.slice a1 n1 c1)).setCell ⟨i, 1, none⟩ (.bool k1) = Z') (hf : ∃ a n c, b = .slice a n c)
    (hio : i ≠ o) (hir : i ≠ r) (hiq : i ≠ q) (hor : o ≠ r) (hoq : o ≠ q) (hi : w.heap.size ≤ i) (ho : w.heap.size ≤ o) (hn : ∀ (m : Nat) (x : Int), cs[m]? ≠ some (.int .u8 x)) : OS Bq w Z' i o r q to_ (.slice a1 n1 c1) k1 s1 (cs.setIfInBounds j v) zs := by
  subst hZ
  obtain ⟨a, n, c, rfl⟩ := hf
  have h1 := h.below hb
  have e1 : (w1.setCell ⟨o, j, none⟩ v).heap[i]? = some (.cells #[.slice a n c, .bool k] 68 (0, 0)) := (heap_set_ne hio).trans h1.box
  have hsz : w1.heap.size ≤ (w1.setCell ⟨o, j, none⟩ v).heap.size := by simp [World.setCell]
  have r1 : RI Bq (w1.setCell ⟨o, j, none⟩ v) (.slice a1 n1 c1) k1 s1 := hr.farG h1.own hn (fun k hk => heap_set_ne hk) hsz
  refine ⟨set2 e1, (two_ne (Ne.symm hio)).trans (heap_set h1.own j v), (two_ne (Ne.symm hir)).trans ((heap_set_ne (Ne.symm hor)).trans h1.res), (two_ne (Ne.symm hiq)).trans ((heap_set_ne (Ne.symm hoq)).trans h1.ins), ?_, r1.far2 e1 _ _⟩
  have b1 : Below w.heap.size w (w1.setCell ⟨o, j, none⟩ v) := Only.below h1.bel (only1 _ _ j v) h1.bel.size (fun k hk => by rw [hk]; exact ho)
  exact below2 _ _ b1 hi

def opF (s : St) : Opn × St :=
  let a := octP s
  let b := numF 6 1 0 a.2
  let c := strF b.2
  let d := numF 6 1 0 c.2
  let e := strF d.2
  let f := numF 6 1 0 e.2
  let g := strF f.2
  (⟨a.1, b.1, c.1, d.1, e.1, f.1, g.1⟩, g.2)
theorem num6_i (v : Int) (r : List Int) (h : numOk v) : numF 6 1 0 (some (numI v ++ r)) = (v, some r) := by
  obtain ⟨n, rfl⟩ := Int.eq_ofNat_of_zero_le h.1
  have h2 := h.2
  unfold numI
  rw [Int.toNat_natCast]
  exact num6_back n r (by omega)
theorem opF_back (o : Opn) (r : List Int) (h : opOk o) : opF (some (opB o ++ r)) = (o, some r) := by
  unfold opF opB
  simp only [List.cons_append, List.append_assoc, octP]
  rw [num6_i _ _ h.2.1]
  simp only []
  rw [strF_back _ _ h.2.2.2.2.1]
  simp only []
  rw [num6_i _ _ h.2.2.1]
  simp only []
  rw [strF_back _ _ h.2.2.2.2.2.1]
  simp only []
  rw [num6_i _ _ h.2.2.2.1]
  simp only []
  rw [strF_back _ _ h.2.2.2.2.2.2]
end
section
open Go.RowKit Go.Lib
variable {Bq : Nat}

theorem OS.cells {w Z : World} {i o r q : Nat} {to_ : TypeId} {b : Value} {k : Bool} {s : St} {cs zs : Array Value} (h : OS Bq w Z i o r q to_ b k s cs zs) : Z.cell? ⟨i, 0, none⟩ = some b ∧ Z.cell? ⟨i, 1, none⟩ = some (.bool k) ∧ (∀ j, Z.frozen? ⟨i, j, none⟩ = false) ∧ (∀ j, Z.cell? ⟨o, j, none⟩ = cs[j]?) ∧ ∀ j, Z.frozen? ⟨o, j, none⟩ = false :=
  ⟨by rw [cell_of h.box]; rfl, by rw [cell_of h.box]; rfl, free_of h.box, fun j => cell_of h.own j, free_of h.own⟩
/-- the field's store, and what the box of what is left then holds -/
theorem OS.put {w Z Y : World} {i o r q : Nat} {to_ : TypeId} {b v : Value} {k : Bool} {s : St} {cs zs : Array Value} (h : OS Bq w Z i o r q to_ b k s cs zs) (hio : i ≠ o) (j : Nat) (hY : Z.setCell ⟨o, j, none⟩ v = Y) : Y.cell? ⟨i, 0, none⟩ = some b ∧ Y.cell? ⟨i, 1, none⟩ = some (.bool k) ∧ ∀ j, Y.frozen? ⟨i, j, none⟩ = false := by
  have e : Y.heap[i]? = some (.cells #[b, .bool k] 68 (0, 0)) := by rw [← hY]; exact (heap_set_ne hio).trans h.box
  exact ⟨by rw [cell_of e]; rfl, by rw [cell_of e]; rfl, free_of e⟩
theorem no_u8 {l : List Value} (h : ∀ v ∈ l, ∀ x, v ≠ .int .u8 x) : ∀ (m : Nat) (x : Int), l.toArray[m]? ≠ some (.int .u8 x) := by
  intro m x e
  rw [List.getElem?_toArray] at e
  exact h _ (List.mem_of_getElem? e) x rfl
theorem set7 {w : World} {g : Nat} {y0 y1 y2 y3 y4 y5 y6 x0 x1 x2 x3 x4 x5 x6 : Value} {t : TypeId} {f : Nat × Nat} (h : w.heap[g]? = some (.cells #[y0, y1, y2, y3, y4, y5, y6] t f)) : (((((((w.setCell ⟨g, 0, none⟩ x0).setCell ⟨g, 1, none⟩ x1).setCell ⟨g, 2, none⟩ x2).setCell ⟨g, 3, none⟩ x3).setCell ⟨g, 4, none⟩ x4).setCell ⟨g, 5, none⟩ x5).setCell ⟨g, 6, none⟩ x6).heap[g]? = some (.cells #[x0, x1, x2, x3, x4, x5, x6] t f) := by
  have h0 : (w.setCell ⟨g, 0, none⟩ x0).heap[g]? = some (.cells #[x0, y1, y2, y3, y4, y5, y6] t f) := (heap_set h 0 x0).trans rfl
  have h1 : ((w.setCell ⟨g, 0, none⟩ x0).setCell ⟨g, 1, none⟩ x1).heap[g]? = some (.cells #[x0, x1, y2, y3, y4, y5, y6] t f) := (heap_set h0 1 x1).trans rfl
  have h2 : (((w.setCell ⟨g, 0, none⟩ x0).setCell ⟨g, 1, none⟩ x1).setCell ⟨g, 2, none⟩ x2).heap[g]? = some (.cells #[x0, x1, x2, y3, y4, y5, y6] t f) := (heap_set h1 2 x2).trans rfl
  have h3 : ((((w.setCell ⟨g, 0, none⟩ x0).setCell ⟨g, 1, none⟩ x1).setCell ⟨g, 2, none⟩ x2).setCell ⟨g, 3, none⟩ x3).heap[g]? = some (.cells #[x0, x1, x2, x3, y4, y5, y6] t f) := (heap_set h2 3 x3).trans rfl
  have h4 : (((((w.setCell ⟨g, 0, none⟩ x0).setCell ⟨g, 1, none⟩ x1).setCell ⟨g, 2, none⟩ x2).setCell ⟨g, 3, none⟩ x3).setCell ⟨g, 4, none⟩ x4).heap[g]? = some (.cells #[x0, x1, x2, x3, x4, y5, y6] t f) := (heap_set h3 4 x4).trans rfl
  have h5 : ((((((w.setCell ⟨g, 0, none⟩ x0).setCell ⟨g, 1, none⟩ x1).setCell ⟨g, 2, none⟩ x2).setCell ⟨g, 3, none⟩ x3).setCell ⟨g, 4, none⟩ x4).setCell ⟨g, 5, none⟩ x5).heap[g]? = some (.cells #[x0, x1, x2, x3, x4, x5, y6] t f) := (heap_set h4 5 x5).trans rfl
  have h6 : (((((((w.setCell ⟨g, 0, none⟩ x0).setCell ⟨g, 1, none⟩ x1).setCell ⟨g, 2, none⟩ x2).setCell ⟨g, 3, none⟩ x3).setCell ⟨g, 4, none⟩ x4).setCell ⟨g, 5, none⟩ x5).setCell ⟨g, 6, none⟩ x6).heap[g]? = some (.cells #[x0, x1, x2, x3, x4, x5, x6] t f) := (heap_set h5 6 x6).trans rfl
  exact h6
theorem only7 (w : World) (g : Nat) (x0 x1 x2 x3 x4 x5 x6 : Value) : Only (· = g) w (((((((w.setCell ⟨g, 0, none⟩ x0).setCell ⟨g, 1, none⟩ x1).setCell ⟨g, 2, none⟩ x2).setCell ⟨g, 3, none⟩ x3).setCell ⟨g, 4, none⟩ x4).setCell ⟨g, 5, none⟩ x5).setCell ⟨g, 6, none⟩ x6) := by
  have h0 : Only (· = g) w (w.setCell ⟨g, 0, none⟩ x0) := only1 w g 0 x0
  have h1 : Only (· = g) w ((w.setCell ⟨g, 0, none⟩ x0).setCell ⟨g, 1, none⟩ x1) := h0.trans (only1 _ g 1 x1)
  have h2 : Only (· = g) w (((w.setCell ⟨g, 0, none⟩ x0).setCell ⟨g, 1, none⟩ x1).setCell ⟨g, 2, none⟩ x2) := h1.trans (only1 _ g 2 x2)
  have h3 : Only (· = g) w ((((w.setCell ⟨g, 0, none⟩ x0).setCell ⟨g, 1, none⟩ x1).setCell ⟨g, 2, none⟩ x2).setCell ⟨g, 3, none⟩ x3) := h2.trans (only1 _ g 3 x3)
  have h4 : Only (· = g) w (((((w.setCell ⟨g, 0, none⟩ x0).setCell ⟨g, 1, none⟩ x1).setCell ⟨g, 2, none⟩ x2).setCell ⟨g, 3, none⟩ x3).setCell ⟨g, 4, none⟩ x4) := h3.trans (only1 _ g 4 x4)
  have h5 : Only (· = g) w ((((((w.setCell ⟨g, 0, none⟩ x0).setCell ⟨g, 1, none⟩ x1).setCell ⟨g, 2, none⟩ x2).setCell ⟨g, 3, none⟩ x3).setCell ⟨g, 4, none⟩ x4).setCell ⟨g, 5, none⟩ x5) := h4.trans (only1 _ g 5 x5)
  have h6 : Only (· = g) w (((((((w.setCell ⟨g, 0, none⟩ x0).setCell ⟨g, 1, none⟩ x1).setCell ⟨g, 2, none⟩ x2).setCell ⟨g, 3, none⟩ x3).setCell ⟨g, 4, none⟩ x4).setCell ⟨g, 5, none⟩ x5).setCell ⟨g, 6, none⟩ x6) := h5.trans (only1 _ g 6 x6)
  exact h6
theorem ne7 {w : World} {g k : Nat} (h : k ≠ g) (x0 x1 x2 x3 x4 x5 x6 : Value) : (((((((w.setCell ⟨g, 0, none⟩ x0).setCell ⟨g, 1, none⟩ x1).setCell ⟨g, 2, none⟩ x2).setCell ⟨g, 3, none⟩ x3).setCell ⟨g, 4, none⟩ x4).setCell ⟨g, 5, none⟩ x5).setCell ⟨g, 6, none⟩ x6).heap[k]? = w.heap[k]? := by
  rw [heap_set_ne h, heap_set_ne h, heap_set_ne h, heap_set_ne h, heap_set_ne h, heap_set_ne h, heap_set_ne h]
theorem below_on1 {w w1 w2 : World} {g : Nat} (h : Below w.heap.size w w1) (ho : Only (· = g) w1 w2) (hg : w.heap.size ≤ g) : Below w.heap.size w w2 := Only.below h ho h.size (fun k hk => by rw [hk]; exact hg)
theorem only2 (w : World) (g : Nat) (x0 x1 : Value) : Only (· = g) w ((w.setCell ⟨g, 0, none⟩ x0).setCell ⟨g, 1, none⟩ x1) := (only1 w g 0 x0).trans (only1 _ g 1 x1)
theorem Try.sizeOpn : (Try.prog.info? 26).map (·.size) = some 7 := by kernel_rfl
set_option maxRecDepth 20000 in
set_option maxHeartbeats 8000000 in
theorem op1_d {w : World} {b0 : Value} {ok0 : Bool} {s0 : St} (h : RI Bq w b0 ok0 s0) : Calls Try.prog 31 #[.agg #[b0, .bool ok0]] w fun e w' => RdI Bq (.agg (opF s0).1.arr) (opF s0).2 w w' e := by
  obtain ⟨a0, n0, c0, rfl⟩ := h.form
  obtain ⟨W, hW⟩ : ∃ W, w.alloc (.cells #[.slice a0 n0 c0, .bool ok0] 68) = W := ⟨_, rfl⟩
  obtain ⟨W2, hW2⟩ : ∃ W2, W.alloc (.cells #[.int .i64 0, .int .i64 0, .string ⟨#[]⟩, .int .i64 0, .string ⟨#[]⟩, .int .i64 0, .string ⟨#[]⟩] 26) = W2 := ⟨_, rfl⟩
  obtain ⟨W3, hW3⟩ : ∃ W3, W2.alloc (.cells #[.slice none 0 0, .bool false] 68) = W3 := ⟨_, rfl⟩
  obtain ⟨W4, hW4⟩ : ∃ W4, W3.alloc (.cells #[.int .i64 0, .int .i64 0, .string ⟨#[]⟩, .int .i64 0, .string ⟨#[]⟩, .int .i64 0, .string ⟨#[]⟩] 26) = W4 := ⟨_, rfl⟩
  have b1 := boxB hW
  have b2 := boxB hW2
  have b3 := boxB hW3
  have b4 := boxB hW4
  have hs1 : w.heap.size < W.heap.size := by rw [← hW]; simp
  have hs2 : W.heap.size < W2.heap.size := by rw [← hW2]; simp
  have hs3 : W2.heap.size < W3.heap.size := by rw [← hW3]; simp
  have P0 : Hid (OS Bq w W4 w.heap.size W3.heap.size W.heap.size W2.heap.size 26 (.slice a0 n0 c0) ok0 s0 #[.int .i64 0, .int .i64 0, .string ⟨#[]⟩, .int .i64 0, .string ⟨#[]⟩, .int .i64 0, .string ⟨#[]⟩] #[.int .i64 0, .int .i64 0, .string ⟨#[]⟩, .int .i64 0, .string ⟨#[]⟩, .int .i64 0, .string ⟨#[]⟩]) := ⟨hkeep b1.1 (chainB b2.2 (chainB b3.2 b4.2)), b4.1, hkeep b2.1 (chainB b3.2 b4.2), hkeep b3.1 b4.2, chainB b1.2 (chainB b2.2 (chainB b3.2 b4.2)), h.below (chainB b1.2 (chainB b2.2 (chainB b3.2 b4.2)))⟩
  have HL : Hid (w.heap.size < W.heap.size ∧ W.heap.size < W2.heap.size ∧ W2.heap.size < W3.heap.size) := ⟨hs1, hs2, hs3⟩
  have HI : Hid (w.heap.size ≠ W3.heap.size ∧ w.heap.size ≠ W.heap.size ∧ w.heap.size ≠ W2.heap.size ∧ W3.heap.size ≠ W.heap.size ∧ W3.heap.size ≠ W2.heap.size ∧ w.heap.size ≤ w.heap.size ∧ w.heap.size ≤ W3.heap.size) := ⟨by omega, by omega, by omega, by omega, by omega, by omega, by omega⟩
  obtain ⟨x0, x1, -⟩ := P0.out.cells
  clear b1 b2 b3 b4 hs1 hs2 hs3 h
  obtain ⟨D1, hD1⟩ : ∃ D, octP s0 = D := ⟨_, rfl⟩
  have H1 : Hid (∀ W a n c k, RI Bq W (.slice a n c) k s0 → Calls Try.prog 28 #[.agg #[.slice a n c, .bool k]] W fun e w' => ∃ a1 m1 c1 k1, e = .returned (.tuple #[.int .i64 D1.1, .agg #[.slice a1 m1 c1, .bool k1]]) ∧ Hid (RI Bq w' (.slice a1 m1 c1) k1 D1.2) ∧ Below W.heap.size W w') := fun W a n c k hr => (byte_d hr).mono fun e w' ⟨b1, ok1, he, hr, hb⟩ => by
    obtain ⟨a1, m1, c1, rfl⟩ := hr.out.form
    rw [hD1] at he hr
    exact ⟨a1, m1, c1, ok1, he, hr, hb⟩
  obtain ⟨D2, hD2⟩ : ∃ D, numF 6 1 0 D1.2 = D := ⟨_, rfl⟩
  have H2 : Hid (∀ W a n c k, RI Bq W (.slice a n c) k D1.2 → Calls Try.prog 29 #[.agg #[.slice a n c, .bool k]] W fun e w' => ∃ a1 m1 c1 k1, e = .returned (.tuple #[.int .i64 D2.1, .agg #[.slice a1 m1 c1, .bool k1]]) ∧ Hid (RI Bq w' (.slice a1 m1 c1) k1 D2.2) ∧ Below W.heap.size W w') := fun W a n c k hr => (num_d hr).mono fun e w' ⟨b1, ok1, he, hr, hb⟩ => by
    obtain ⟨a1, m1, c1, rfl⟩ := hr.out.form
    rw [hD2] at he hr
    exact ⟨a1, m1, c1, ok1, he, hr, hb⟩
  obtain ⟨D3, hD3⟩ : ∃ D, strF D2.2 = D := ⟨_, rfl⟩
  have H3 : Hid (∀ W a n c k, RI Bq W (.slice a n c) k D2.2 → Calls Try.prog 61 #[.agg #[.slice a n c, .bool k]] W fun e w' => ∃ a1 m1 c1 k1, e = .returned (.tuple #[.string D3.1, .agg #[.slice a1 m1 c1, .bool k1]]) ∧ Hid (RI Bq w' (.slice a1 m1 c1) k1 D3.2) ∧ Below W.heap.size W w') := fun W a n c k hr => (str_d hr).mono fun e w' ⟨b1, ok1, he, hr, hb⟩ => by
    obtain ⟨a1, m1, c1, rfl⟩ := hr.out.form
    rw [hD3] at he hr
    exact ⟨a1, m1, c1, ok1, he, hr, hb⟩
  obtain ⟨D4, hD4⟩ : ∃ D, numF 6 1 0 D3.2 = D := ⟨_, rfl⟩
  have H4 : Hid (∀ W a n c k, RI Bq W (.slice a n c) k D3.2 → Calls Try.prog 29 #[.agg #[.slice a n c, .bool k]] W fun e w' => ∃ a1 m1 c1 k1, e = .returned (.tuple #[.int .i64 D4.1, .agg #[.slice a1 m1 c1, .bool k1]]) ∧ Hid (RI Bq w' (.slice a1 m1 c1) k1 D4.2) ∧ Below W.heap.size W w') := fun W a n c k hr => (num_d hr).mono fun e w' ⟨b1, ok1, he, hr, hb⟩ => by
    obtain ⟨a1, m1, c1, rfl⟩ := hr.out.form
    rw [hD4] at he hr
    exact ⟨a1, m1, c1, ok1, he, hr, hb⟩
  obtain ⟨D5, hD5⟩ : ∃ D, strF D4.2 = D := ⟨_, rfl⟩
  have H5 : Hid (∀ W a n c k, RI Bq W (.slice a n c) k D4.2 → Calls Try.prog 61 #[.agg #[.slice a n c, .bool k]] W fun e w' => ∃ a1 m1 c1 k1, e = .returned (.tuple #[.string D5.1, .agg #[.slice a1 m1 c1, .bool k1]]) ∧ Hid (RI Bq w' (.slice a1 m1 c1) k1 D5.2) ∧ Below W.heap.size W w') := fun W a n c k hr => (str_d hr).mono fun e w' ⟨b1, ok1, he, hr, hb⟩ => by
    obtain ⟨a1, m1, c1, rfl⟩ := hr.out.form
    rw [hD5] at he hr
    exact ⟨a1, m1, c1, ok1, he, hr, hb⟩
  obtain ⟨D6, hD6⟩ : ∃ D, numF 6 1 0 D5.2 = D := ⟨_, rfl⟩
  have H6 : Hid (∀ W a n c k, RI Bq W (.slice a n c) k D5.2 → Calls Try.prog 29 #[.agg #[.slice a n c, .bool k]] W fun e w' => ∃ a1 m1 c1 k1, e = .returned (.tuple #[.int .i64 D6.1, .agg #[.slice a1 m1 c1, .bool k1]]) ∧ Hid (RI Bq w' (.slice a1 m1 c1) k1 D6.2) ∧ Below W.heap.size W w') := fun W a n c k hr => (num_d hr).mono fun e w' ⟨b1, ok1, he, hr, hb⟩ => by
    obtain ⟨a1, m1, c1, rfl⟩ := hr.out.form
    rw [hD6] at he hr
    exact ⟨a1, m1, c1, ok1, he, hr, hb⟩
  obtain ⟨D7, hD7⟩ : ∃ D, strF D6.2 = D := ⟨_, rfl⟩
  have H7 : Hid (∀ W a n c k, RI Bq W (.slice a n c) k D6.2 → Calls Try.prog 61 #[.agg #[.slice a n c, .bool k]] W fun e w' => ∃ a1 m1 c1 k1, e = .returned (.tuple #[.string D7.1, .agg #[.slice a1 m1 c1, .bool k1]]) ∧ Hid (RI Bq w' (.slice a1 m1 c1) k1 D7.2) ∧ Below W.heap.size W w') := fun W a n c k hr => (str_d hr).mono fun e w' ⟨b1, ok1, he, hr, hb⟩ => by
    obtain ⟨a1, m1, c1, rfl⟩ := hr.out.form
    rw [hD7] at he hr
    exact ⟨a1, m1, c1, ok1, he, hr, hb⟩
  have hF : opF s0 = (⟨D1.1, D2.1, D3.1, D4.1, D5.1, D6.1, D7.1⟩, D7.2) := by unfold opF; simp only [hD1, hD2, hD3, hD4, hD5, hD6, hD7]
  rw [hF]
  clear hF hD1 hD2 hD3 hD4 hD5 hD6 hD7
  go_enter Try.func31, Try.ntmps31
  go_upto_region 1 with fail
  go_upto_region 2 with fail
  clear hW hW2 hW3 hW4
  go_upto_region 3 with (go_at_call 28; refine (H1.out _ _ _ _ _ P0.out.ri).mono ?_; rintro e w1 ⟨a1, n1, c1, k1, rfl, hr, hb⟩; clear x0 x1; have PB := P0.out.below hb; obtain ⟨-, -, -, qo, qf⟩ := PB.cells; have q1 : w1.cell? ⟨W3.heap.size, 0, none⟩ = some (.int .i64 0) := qo 0; have qg := qf 0; clear qo qf; obtain ⟨Y1, hY⟩ : ∃ Y, w1.setCell ⟨W3.heap.size, 0, none⟩ (.int .i64 D1.1) = Y := ⟨_, rfl⟩; obtain ⟨y0, y1, yf⟩ := PB.put HI.out.1 0 hY; have yg0 := yf 0; have yg1 := yf 1; clear yf; obtain ⟨Z1, hZ⟩ : ∃ Z, (Y1.setCell ⟨w.heap.size, 0, none⟩ (.slice a1 n1 c1)).setCell ⟨w.heap.size, 1, none⟩ (.bool k1) = Z := ⟨_, rfl⟩; have P1 : Hid (OS Bq w Z1 w.heap.size W3.heap.size W.heap.size W2.heap.size 26 (.slice a1 n1 c1) k1 D1.2 #[.int .i64 D1.1, .int .i64 0, .string ⟨#[]⟩, .int .i64 0, .string ⟨#[]⟩, .int .i64 0, .string ⟨#[]⟩] #[.int .i64 0, .int .i64 0, .string ⟨#[]⟩, .int .i64 0, .string ⟨#[]⟩, .int .i64 0, .string ⟨#[]⟩]) := P0.out.step hb hr.out 0 (by rw [hY, hZ]) ⟨_, _, _, rfl⟩ HI.out.1 HI.out.2.1 HI.out.2.2.1 HI.out.2.2.2.1 HI.out.2.2.2.2.1 HI.out.2.2.2.2.2.1 HI.out.2.2.2.2.2.2 (no_u8 (by simp)); clear PB hr hb)
  clear hY hZ q1 qg y0 y1 yg0 yg1
  obtain ⟨x0, x1, -⟩ := P1.out.cells
  go_upto_region 4 with (go_at_call 29; refine (H2.out _ _ _ _ _ P1.out.ri).mono ?_; rintro e w2 ⟨a2, n2, c2, k2, rfl, hr, hb⟩; clear x0 x1; have PB := P1.out.below hb; obtain ⟨-, -, -, qo, qf⟩ := PB.cells; have q2 : w2.cell? ⟨W3.heap.size, 1, none⟩ = some (.int .i64 0) := qo 1; have qg := qf 1; clear qo qf; obtain ⟨Y2, hY⟩ : ∃ Y, w2.setCell ⟨W3.heap.size, 1, none⟩ (.int .i64 D2.1) = Y := ⟨_, rfl⟩; obtain ⟨y0, y1, yf⟩ := PB.put HI.out.1 1 hY; have yg0 := yf 0; have yg1 := yf 1; clear yf; obtain ⟨Z2, hZ⟩ : ∃ Z, (Y2.setCell ⟨w.heap.size, 0, none⟩ (.slice a2 n2 c2)).setCell ⟨w.heap.size, 1, none⟩ (.bool k2) = Z := ⟨_, rfl⟩; have P2 : Hid (OS Bq w Z2 w.heap.size W3.heap.size W.heap.size W2.heap.size 26 (.slice a2 n2 c2) k2 D2.2 #[.int .i64 D1.1, .int .i64 D2.1, .string ⟨#[]⟩, .int .i64 0, .string ⟨#[]⟩, .int .i64 0, .string ⟨#[]⟩] #[.int .i64 0, .int .i64 0, .string ⟨#[]⟩, .int .i64 0, .string ⟨#[]⟩, .int .i64 0, .string ⟨#[]⟩]) := P1.out.step hb hr.out 1 (by rw [hY, hZ]) ⟨_, _, _, rfl⟩ HI.out.1 HI.out.2.1 HI.out.2.2.1 HI.out.2.2.2.1 HI.out.2.2.2.2.1 HI.out.2.2.2.2.2.1 HI.out.2.2.2.2.2.2 (no_u8 (by simp)); clear PB hr hb)
  clear hY hZ q2 qg y0 y1 yg0 yg1
  obtain ⟨x0, x1, -⟩ := P2.out.cells
  go_upto_region 5 with (go_at_call 61; refine (H3.out _ _ _ _ _ P2.out.ri).mono ?_; rintro e w3 ⟨a3, n3, c3, k3, rfl, hr, hb⟩; clear x0 x1; have PB := P2.out.below hb; obtain ⟨-, -, -, qo, qf⟩ := PB.cells; have q3 : w3.cell? ⟨W3.heap.size, 2, none⟩ = some (.string ⟨#[]⟩) := qo 2; have qg := qf 2; clear qo qf; obtain ⟨Y3, hY⟩ : ∃ Y, w3.setCell ⟨W3.heap.size, 2, none⟩ (.string D3.1) = Y := ⟨_, rfl⟩; obtain ⟨y0, y1, yf⟩ := PB.put HI.out.1 2 hY; have yg0 := yf 0; have yg1 := yf 1; clear yf; obtain ⟨Z3, hZ⟩ : ∃ Z, (Y3.setCell ⟨w.heap.size, 0, none⟩ (.slice a3 n3 c3)).setCell ⟨w.heap.size, 1, none⟩ (.bool k3) = Z := ⟨_, rfl⟩; have P3 : Hid (OS Bq w Z3 w.heap.size W3.heap.size W.heap.size W2.heap.size 26 (.slice a3 n3 c3) k3 D3.2 #[.int .i64 D1.1, .int .i64 D2.1, .string D3.1, .int .i64 0, .string ⟨#[]⟩, .int .i64 0, .string ⟨#[]⟩] #[.int .i64 0, .int .i64 0, .string ⟨#[]⟩, .int .i64 0, .string ⟨#[]⟩, .int .i64 0, .string ⟨#[]⟩]) := P2.out.step hb hr.out 2 (by rw [hY, hZ]) ⟨_, _, _, rfl⟩ HI.out.1 HI.out.2.1 HI.out.2.2.1 HI.out.2.2.2.1 HI.out.2.2.2.2.1 HI.out.2.2.2.2.2.1 HI.out.2.2.2.2.2.2 (no_u8 (by simp)); clear PB hr hb)
  clear hY hZ q3 qg y0 y1 yg0 yg1
  obtain ⟨x0, x1, -⟩ := P3.out.cells
  go_upto_region 6 with (go_at_call 29; refine (H4.out _ _ _ _ _ P3.out.ri).mono ?_; rintro e w4 ⟨a4, n4, c4, k4, rfl, hr, hb⟩; clear x0 x1; have PB := P3.out.below hb; obtain ⟨-, -, -, qo, qf⟩ := PB.cells; have q4 : w4.cell? ⟨W3.heap.size, 3, none⟩ = some (.int .i64 0) := qo 3; have qg := qf 3; clear qo qf; obtain ⟨Y4, hY⟩ : ∃ Y, w4.setCell ⟨W3.heap.size, 3, none⟩ (.int .i64 D4.1) = Y := ⟨_, rfl⟩; obtain ⟨y0, y1, yf⟩ := PB.put HI.out.1 3 hY; have yg0 := yf 0; have yg1 := yf 1; clear yf; obtain ⟨Z4, hZ⟩ : ∃ Z, (Y4.setCell ⟨w.heap.size, 0, none⟩ (.slice a4 n4 c4)).setCell ⟨w.heap.size, 1, none⟩ (.bool k4) = Z := ⟨_, rfl⟩; have P4 : Hid (OS Bq w Z4 w.heap.size W3.heap.size W.heap.size W2.heap.size 26 (.slice a4 n4 c4) k4 D4.2 #[.int .i64 D1.1, .int .i64 D2.1, .string D3.1, .int .i64 D4.1, .string ⟨#[]⟩, .int .i64 0, .string ⟨#[]⟩] #[.int .i64 0, .int .i64 0, .string ⟨#[]⟩, .int .i64 0, .string ⟨#[]⟩, .int .i64 0, .string ⟨#[]⟩]) := P3.out.step hb hr.out 3 (by rw [hY, hZ]) ⟨_, _, _, rfl⟩ HI.out.1 HI.out.2.1 HI.out.2.2.1 HI.out.2.2.2.1 HI.out.2.2.2.2.1 HI.out.2.2.2.2.2.1 HI.out.2.2.2.2.2.2 (no_u8 (by simp)); clear PB hr hb)
  clear hY hZ q4 qg y0 y1 yg0 yg1
  obtain ⟨x0, x1, -⟩ := P4.out.cells
  go_upto_region 7 with (go_at_call 61; refine (H5.out _ _ _ _ _ P4.out.ri).mono ?_; rintro e w5 ⟨a5, n5, c5, k5, rfl, hr, hb⟩; clear x0 x1; have PB := P4.out.below hb; obtain ⟨-, -, -, qo, qf⟩ := PB.cells; have q5 : w5.cell? ⟨W3.heap.size, 4, none⟩ = some (.string ⟨#[]⟩) := qo 4; have qg := qf 4; clear qo qf; obtain ⟨Y5, hY⟩ : ∃ Y, w5.setCell ⟨W3.heap.size, 4, none⟩ (.string D5.1) = Y := ⟨_, rfl⟩; obtain ⟨y0, y1, yf⟩ := PB.put HI.out.1 4 hY; have yg0 := yf 0; have yg1 := yf 1; clear yf; obtain ⟨Z5, hZ⟩ : ∃ Z, (Y5.setCell ⟨w.heap.size, 0, none⟩ (.slice a5 n5 c5)).setCell ⟨w.heap.size, 1, none⟩ (.bool k5) = Z := ⟨_, rfl⟩; have P5 : Hid (OS Bq w Z5 w.heap.size W3.heap.size W.heap.size W2.heap.size 26 (.slice a5 n5 c5) k5 D5.2 #[.int .i64 D1.1, .int .i64 D2.1, .string D3.1, .int .i64 D4.1, .string D5.1, .int .i64 0, .string ⟨#[]⟩] #[.int .i64 0, .int .i64 0, .string ⟨#[]⟩, .int .i64 0, .string ⟨#[]⟩, .int .i64 0, .string ⟨#[]⟩]) := P4.out.step hb hr.out 4 (by rw [hY, hZ]) ⟨_, _, _, rfl⟩ HI.out.1 HI.out.2.1 HI.out.2.2.1 HI.out.2.2.2.1 HI.out.2.2.2.2.1 HI.out.2.2.2.2.2.1 HI.out.2.2.2.2.2.2 (no_u8 (by simp)); clear PB hr hb)
  clear hY hZ q5 qg y0 y1 yg0 yg1
  obtain ⟨x0, x1, -⟩ := P5.out.cells
  go_upto_region 8 with (go_at_call 29; refine (H6.out _ _ _ _ _ P5.out.ri).mono ?_; rintro e w6 ⟨a6, n6, c6, k6, rfl, hr, hb⟩; clear x0 x1; have PB := P5.out.below hb; obtain ⟨-, -, -, qo, qf⟩ := PB.cells; have q6 : w6.cell? ⟨W3.heap.size, 5, none⟩ = some (.int .i64 0) := qo 5; have qg := qf 5; clear qo qf; obtain ⟨Y6, hY⟩ : ∃ Y, w6.setCell ⟨W3.heap.size, 5, none⟩ (.int .i64 D6.1) = Y := ⟨_, rfl⟩; obtain ⟨y0, y1, yf⟩ := PB.put HI.out.1 5 hY; have yg0 := yf 0; have yg1 := yf 1; clear yf; obtain ⟨Z6, hZ⟩ : ∃ Z, (Y6.setCell ⟨w.heap.size, 0, none⟩ (.slice a6 n6 c6)).setCell ⟨w.heap.size, 1, none⟩ (.bool k6) = Z := ⟨_, rfl⟩; have P6 : Hid (OS Bq w Z6 w.heap.size W3.heap.size W.heap.size W2.heap.size 26 (.slice a6 n6 c6) k6 D6.2 #[.int .i64 D1.1, .int .i64 D2.1, .string D3.1, .int .i64 D4.1, .string D5.1, .int .i64 D6.1, .string ⟨#[]⟩] #[.int .i64 0, .int .i64 0, .string ⟨#[]⟩, .int .i64 0, .string ⟨#[]⟩, .int .i64 0, .string ⟨#[]⟩]) := P5.out.step hb hr.out 5 (by rw [hY, hZ]) ⟨_, _, _, rfl⟩ HI.out.1 HI.out.2.1 HI.out.2.2.1 HI.out.2.2.2.1 HI.out.2.2.2.2.1 HI.out.2.2.2.2.2.1 HI.out.2.2.2.2.2.2 (no_u8 (by simp)); clear PB hr hb)
  clear hY hZ q6 qg y0 y1 yg0 yg1
  obtain ⟨x0, x1, -⟩ := P6.out.cells
  go_upto_region 9 with (go_at_call 61; refine (H7.out _ _ _ _ _ P6.out.ri).mono ?_; rintro e w7 ⟨a7, n7, c7, k7, rfl, hr, hb⟩; clear x0 x1; have PB := P6.out.below hb; obtain ⟨-, -, -, qo, qf⟩ := PB.cells; have q7 : w7.cell? ⟨W3.heap.size, 6, none⟩ = some (.string ⟨#[]⟩) := qo 6; have qg := qf 6; clear qo qf; obtain ⟨Y7, hY⟩ : ∃ Y, w7.setCell ⟨W3.heap.size, 6, none⟩ (.string D7.1) = Y := ⟨_, rfl⟩; obtain ⟨y0, y1, yf⟩ := PB.put HI.out.1 6 hY; have yg0 := yf 0; have yg1 := yf 1; clear yf; obtain ⟨Z7, hZ⟩ : ∃ Z, (Y7.setCell ⟨w.heap.size, 0, none⟩ (.slice a7 n7 c7)).setCell ⟨w.heap.size, 1, none⟩ (.bool k7) = Z := ⟨_, rfl⟩; have P7 : Hid (OS Bq w Z7 w.heap.size W3.heap.size W.heap.size W2.heap.size 26 (.slice a7 n7 c7) k7 D7.2 #[.int .i64 D1.1, .int .i64 D2.1, .string D3.1, .int .i64 D4.1, .string D5.1, .int .i64 D6.1, .string D7.1] #[.int .i64 0, .int .i64 0, .string ⟨#[]⟩, .int .i64 0, .string ⟨#[]⟩, .int .i64 0, .string ⟨#[]⟩]) := P6.out.step hb hr.out 6 (by rw [hY, hZ]) ⟨_, _, _, rfl⟩ HI.out.1 HI.out.2.1 HI.out.2.2.1 HI.out.2.2.2.1 HI.out.2.2.2.2.1 HI.out.2.2.2.2.2.1 HI.out.2.2.2.2.2.2 (no_u8 (by simp)); clear PB hr hb)
  clear hY hZ q7 qg y0 y1 yg0 yg1
  obtain ⟨x0, x1, -⟩ := P7.out.cells
  clear x0 x1
  obtain ⟨z0, z1, zf, zo, zg⟩ := P7.out.cells
  have s1 : ∀ w', Only (fun x => x = W.heap.size ∨ x = W2.heap.size) Z7.drew w' → w'.cell? ⟨W3.heap.size, 0, none⟩ = some (.int .i64 D1.1) ∧ w'.cell? ⟨W3.heap.size, 1, none⟩ = some (.int .i64 D2.1) ∧ w'.cell? ⟨W3.heap.size, 2, none⟩ = some (.string D3.1) ∧ w'.cell? ⟨W3.heap.size, 3, none⟩ = some (.int .i64 D4.1) ∧ w'.cell? ⟨W3.heap.size, 4, none⟩ = some (.string D5.1) ∧ w'.cell? ⟨W3.heap.size, 5, none⟩ = some (.int .i64 D6.1) ∧ w'.cell? ⟨W3.heap.size, 6, none⟩ = some (.string D7.1) ∧ w'.cell? ⟨w.heap.size, 0, none⟩ = some (.slice a7 n7 c7) ∧ w'.cell? ⟨w.heap.size, 1, none⟩ = some (.bool k7) := fun w' ho => by
    have e1 : w'.heap[W3.heap.size]? = Z7.heap[W3.heap.size]? := ho.block _ (Array.getElem?_eq_some_iff.1 P7.out.own).1 (by have := HI.out; omega)
    have e2 : w'.heap[w.heap.size]? = Z7.heap[w.heap.size]? := ho.block _ (Array.getElem?_eq_some_iff.1 P7.out.box).1 (by have := HI.out; omega)
    exact ⟨(World.cell?_of_block e1).trans (zo 0), (World.cell?_of_block e1).trans (zo 1), (World.cell?_of_block e1).trans (zo 2), (World.cell?_of_block e1).trans (zo 3), (World.cell?_of_block e1).trans (zo 4), (World.cell?_of_block e1).trans (zo 5), (World.cell?_of_block e1).trans (zo 6), (World.cell?_of_block e2).trans z0, (World.cell?_of_block e2).trans z1⟩
  have s0 := s1 _ (Only.refl _ _)
  obtain ⟨Y, hY⟩ : ∃ Y, (((((((Z7.setCell ⟨W.heap.size, 0, none⟩ (.int .i64 D1.1)).setCell ⟨W.heap.size, 1, none⟩ (.int .i64 D2.1)).setCell ⟨W.heap.size, 2, none⟩ (.string D3.1)).setCell ⟨W.heap.size, 3, none⟩ (.int .i64 D4.1)).setCell ⟨W.heap.size, 4, none⟩ (.string D5.1)).setCell ⟨W.heap.size, 5, none⟩ (.int .i64 D6.1)).setCell ⟨W.heap.size, 6, none⟩ (.string D7.1)) = Y := ⟨_, rfl⟩
  have sY : Only (fun x => x = W.heap.size ∨ x = W2.heap.size) Z7 Y := by rw [← hY]; exact (only7 Z7 W.heap.size _ _ _ _ _ _ _).mono fun _ h => .inl h
  have sYd : Only (fun x => x = W.heap.size ∨ x = W2.heap.size) Z7.drew Y := ⟨sY.os, sY.tape, sY.output, sY.size, sY.block⟩
  obtain ⟨r0, r1, r2, r3, r4, r5, r6⟩ : (Z7.cell? ⟨W.heap.size, 0, none⟩ = some (.int .i64 0)) ∧ (Z7.cell? ⟨W.heap.size, 1, none⟩ = some (.int .i64 0)) ∧ (Z7.cell? ⟨W.heap.size, 2, none⟩ = some (.string ⟨#[]⟩)) ∧ (Z7.cell? ⟨W.heap.size, 3, none⟩ = some (.int .i64 0)) ∧ (Z7.cell? ⟨W.heap.size, 4, none⟩ = some (.string ⟨#[]⟩)) ∧ (Z7.cell? ⟨W.heap.size, 5, none⟩ = some (.int .i64 0)) ∧ (Z7.cell? ⟨W.heap.size, 6, none⟩ = some (.string ⟨#[]⟩)) := ⟨by rw [cell_of P7.out.res]; rfl, by rw [cell_of P7.out.res]; rfl, by rw [cell_of P7.out.res]; rfl, by rw [cell_of P7.out.res]; rfl, by rw [cell_of P7.out.res]; rfl, by rw [cell_of P7.out.res]; rfl, by rw [cell_of P7.out.res]; rfl⟩
  have rf := free_of P7.out.res
  have rg0 := rf 0
  have rg1 := rf 1
  have rg2 := rf 2
  have rg3 := rf 3
  have rg4 := rf 4
  have rg5 := rf 5
  have rg6 := rf 6
  have hYW : Y.heap[W.heap.size]? = some (.cells #[.int .i64 D1.1, .int .i64 D2.1, .string D3.1, .int .i64 D4.1, .string D5.1, .int .i64 D6.1, .string D7.1] 26 (0, 0)) := by rw [← hY]; exact set7 P7.out.res
  have hYq : Y.heap[W2.heap.size]? = some (.cells #[.slice none 0 0, .bool false] 68 (0, 0)) := (by rw [← hY]; exact ((only7 Z7 W.heap.size _ _ _ _ _ _ _).block _ (Array.getElem?_eq_some_iff.1 P7.out.ins).1 (by have := HL.out; omega)).trans P7.out.ins)
  have u0 : Y.cell? ⟨W2.heap.size, 0, none⟩ = some (.slice none 0 0) := by rw [cell_of hYq]; rfl
  have u1 : Y.cell? ⟨W2.heap.size, 1, none⟩ = some (.bool false) := by rw [cell_of hYq]; rfl
  have uf := free_of hYq
  have ug0 := uf 0
  have ug1 := uf 1
  have HF : Hid (Y.heap[W.heap.size]? = some (.cells #[.int .i64 D1.1, .int .i64 D2.1, .string D3.1, .int .i64 D4.1, .string D5.1, .int .i64 D6.1, .string D7.1] 26 (0, 0)) ∧ Y.heap[W2.heap.size]? = some (.cells #[.slice none 0 0, .bool false] 68 (0, 0)) ∧ Below w.heap.size w Y ∧ RI Bq Y (.slice a7 n7 c7) k7 D7.2) := ⟨hYW, hYq, below_on1 P7.out.bel (by rw [← hY]; exact only7 Z7 W.heap.size _ _ _ _ _ _ _) (by have := HL.out; omega), P7.out.ri.farG P7.out.res (no_u8 (by simp)) (fun k hk => by rw [← hY]; exact ne7 hk _ _ _ _ _ _ _) (by rw [← hY]; exact (only7 Z7 W.heap.size _ _ _ _ _ _ _).size)⟩
  have sY2 := s1 Y sYd
  have sY3 : ∀ p p', Only (fun x => x = W.heap.size ∨ x = W2.heap.size) Z7.drew ((Y.setCell ⟨W2.heap.size, 0, none⟩ p).setCell ⟨W2.heap.size, 1, none⟩ p') := fun p p' => sYd.trans ((only2 Y W2.heap.size p p').mono fun _ h => .inr h)
  have sY4 := fun p p' => s1 _ (sY3 p p')
  clear hYW hYq uf rf sY sYd sY3 zf zg zo
  go_region_held3 (fun w' => w'.cell? ⟨W3.heap.size, 0, none⟩ = some (.int .i64 D1.1) ∧ w'.cell? ⟨W3.heap.size, 1, none⟩ = some (.int .i64 D2.1) ∧ w'.cell? ⟨W3.heap.size, 2, none⟩ = some (.string D3.1) ∧ w'.cell? ⟨W3.heap.size, 3, none⟩ = some (.int .i64 D4.1) ∧ w'.cell? ⟨W3.heap.size, 4, none⟩ = some (.string D5.1) ∧ w'.cell? ⟨W3.heap.size, 5, none⟩ = some (.int .i64 D6.1) ∧ w'.cell? ⟨W3.heap.size, 6, none⟩ = some (.string D7.1) ∧ w'.cell? ⟨w.heap.size, 0, none⟩ = some (.slice a7 n7 c7) ∧ w'.cell? ⟨w.heap.size, 1, none⟩ = some (.bool k7)) (first | exact s0 | exact sY2 | exact sY4 _ _ | (rw [hY]; exact sY2)) (fail)
  go_wp2
  refine bodyPost_ret (ret_two rfl _ _ W.heap.size W2.heap.size rfl rfl (run_loadVar_row _ W.heap.size 26 26 #[.int .i64 D1.1, .int .i64 D2.1, .string D3.1, .int .i64 D4.1, .string D5.1, .int .i64 D6.1, .string D7.1] (0, 0) _ (by exact (two_ne (Nat.ne_of_lt HL.out.2.1)).trans HF.out.1) Try.underlying26 rfl Try.sizeOpn) (by exact set2 HF.out.2.1) rfl) rfl ?_
  exact ⟨_, _, rfl, (HF.out.2.2.2.far2 HF.out.2.1 _ _).below (Below.refl _ _).drew, (below2 _ _ HF.out.2.2.1 (Nat.le_of_lt (Nat.lt_trans HL.out.1 HL.out.2.1))).drew⟩
end
end Go.Proofs.Ytekonakanieeaaa
