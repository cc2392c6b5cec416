/- WalkFresh. -/
import Derived.Test.YtnmmieamcdffaaaJWEsh36
import Derived.Test.YtnmmieamcdffaaaJWEsh37
import Derived.Test.YtnmmieamcdffaaaJWEsh33
namespace Go.Proofs.Ytnmmieamcdffaaa
section
open Go.RowKit

def enTwo (ps : Array (Nat × Value)) : Sem Value := Instr.buildSlice 48 2 ps
theorem buildtwo (ps : Array (Nat × Value)) : Instr.buildSlice 48 2 ps = enTwo ps := rfl
theorem enTwo_of (x y : En) (w : World) : (enTwo #[(0, x.agg), (1, y.agg)]).run Try.prog w = .ok (.slice (some ⟨w.heap.size, 0, none⟩) 2 2) (w.alloc (.cells (x.vals ++ y.vals).toArray 42)) := by
  unfold enTwo Instr.buildSlice
  simp [run_underlying Try.underlying48, Try.sizeOf42, Try.zeroValue42, Instr.fill, Value.cells, newRow, En.agg, En.vals]
  rw [show Array.range 14 = #[0, 1, 2, 3, 4, 5, 6, 7, 8, 9, 10, 11, 12, 13] from rfl]
  simp
attribute [irreducible] enTwo
theorem two_rde {W : World} {x y : En} : RdE (W.alloc (.cells (x.vals ++ y.vals).toArray 42)) (.slice (some ⟨W.heap.size, 0, none⟩) 2 2) [x, y] := by
  have hh := heap_new W (.cells (x.vals ++ y.vals).toArray 42)
  refine ⟨_, _, rfl, by simp, fun j e he => ?_⟩
  match j, he with
  | 0, he =>
    simp at he
    subst he
    exact ⟨_, _, rfl, ⟨by rw [cell_of hh]; rfl, by rw [cell_of hh]; rfl, by rw [cell_of hh]; rfl, by rw [cell_of hh]; rfl, by rw [cell_of hh]; rfl, by rw [cell_of hh]; rfl, by rw [cell_of hh]; rfl⟩⟩
  | 1, he =>
    simp at he
    subst he
    exact ⟨_, _, rfl, ⟨by rw [cell_of hh]; rfl, by rw [cell_of hh]; rfl, by rw [cell_of hh]; rfl, by rw [cell_of hh]; rfl, by rw [cell_of hh]; rfl, by rw [cell_of hh]; rfl, by rw [cell_of hh]; rfl⟩⟩
  | j + 2, he => simp at he
theorem Ld.upF {w0 w wr : World} {p : Nat} {s : Cs} {n : Nat} {F : Nat → Prop} (h : Ld w wr p s n F) (hb : Below w0.heap.size w0 w) : Ld w0 wr p s n (fun b => F b ∨ b < w.heap.size) := by
  obtain ⟨c, h1, h2, h3, h4⟩ := h.ex
  have hs := h.below.size
  refine ⟨⟨c, h1, h2, h3, fun k hk => ⟨Nat.le_trans hb.size (h4 k hk).1, fun e => ?_⟩⟩, ⟨h.below.os.trans hb.os, h.below.tape.trans hb.tape, h.below.output.trans hb.output, Nat.le_trans hb.size hs, fun k hk => (h.below.block k (Nat.lt_of_lt_of_le hk hb.size)).trans (hb.block k hk)⟩, h.nn, fun k hk => ?_, h.len⟩
  · rcases e with e | e
    · exact (h4 k hk).2 e
    · have := (h4 k hk).1; omega
  · rcases hk with hk | hk
    · exact h.fl k hk
    · omega
theorem two_first (s : Cs) {x y : En} {k : Ky} (hx : x.key = k) (hy : y.key = k) : knF (firstsL [x, y]) s k = some x := by
  have h1 : firstsL [x, y] = [(k, x)] := by
    show firstE (firstE [] x) y = _
    unfold firstE
    have e1 : fget ([] : Fl) x.key = none := rfl
    rw [e1]
    show (if (fget [(x.key, x)] y.key).isSome then [(x.key, x)] else _) = _
    have e2 : fget [(x.key, x)] y.key = some x := by
      unfold fget
      rw [hx, hy]
      simp [sameKy_self]
    rw [e2, hx]; rfl
  unfold knF
  rw [h1]
  have : fget [(k, x)] k = some x := by
    unfold fget
    simp [sameKy_self]
  rw [this]
theorem walk_two {w0 W : World} {p : Nat} {s : Cs} {n : Nat} {F : Nat → Prop} (h : Ld w0 W p s n F) (x y : En) (path : ByteArray) (links : Int) (o : Ou) (k : Ky) (ho : walkO (knF (firstsL [x, y]) s) path false links = o) (hu : o.used = [k]) :
    Calls Try.prog 10 #[.pointer (some ⟨p, 0, none⟩), .slice (some ⟨W.heap.size, 0, none⟩) 2 2, .string path, .bool false, .int .i64 links] (W.alloc (.cells (x.vals ++ y.vals).toArray 42)) fun r w' => ∃ a c, r = .returned (ouAgg o (.slice a 1 c)) ∧ Below W.heap.size W w' := by
  have bA := below_alloc W (.cells (x.vals ++ y.vals).toArray 42)
  obtain ⟨c, i1, i2, -, -⟩ := (h.on' bA).ex
  refine (walk_p p c s _ [x, y] path false links _ i1 i2 two_rde).mono ?_
  rw [ho]
  rintro r w' ⟨uv, rfl, hr, hb'⟩
  obtain ⟨a, c, rfl⟩ := owns_len hr
  rw [hu]
  exact ⟨a, c, rfl, chainB bA hb'⟩
theorem walk_non {w0 W : World} {p : Nat} {s : Cs} {n : Nat} {F : Nat → Prop} (h : Ld w0 W p s n F) (path : ByteArray) (links : Int) (o : Ou) (k : Ky) (ho : walkO (knC s) path false links = o) (hu : o.used = [k]) :
    Calls Try.prog 10 #[.pointer (some ⟨p, 0, none⟩), .slice none 0 0, .string path, .bool false, .int .i64 links] W fun r w' => ∃ a c, r = .returned (ouAgg o (.slice a 1 c)) ∧ Below W.heap.size W w' := by
  refine (ld_walk h path false links).mono ?_
  rw [ho]
  rintro r w' ⟨uv, rfl, hr, hb'⟩
  obtain ⟨a, c, rfl⟩ := owns_len hr
  rw [hu]
  exact ⟨a, c, rfl, hb'⟩
theorem knC_self {g : En} {k : Ky} {W : List Int} (h : g.key = k) : knC ⟨[g], W⟩ k = some g := by
  unfold knC
  have : getL [g] k = some g := by
    unfold getL
    rw [List.find?_cons, hasK_iff.2 (by rw [← h]; exact ⟨rfl, rfl⟩)]
  rw [this]
theorem ou_nd {w : World} {g : Nat} {o : Ou} {uv : Value} (h : w.heap[g]? = some (.cells (ouVals o uv).toArray 34 (0, 0))) : Cells4 w g 4 o.node :=
  ⟨by rw [cell_of h]; rfl, by rw [cell_of h]; rfl, by rw [cell_of h]; rfl, by rw [cell_of h]; rfl⟩
theorem c7_nd {w : World} {g o : Nat} {e : En} (h : Cells7 w g o e) : Cells4 w g (o + 3) e.nd :=
  ⟨h.c3, h.c4, h.c5, h.c6⟩
theorem ndGuard (w : World) (op : BinOp) (p q : Operand) (n m : Nd) : (eqGuard op 31 p q n.agg m.agg).run Try.prog w = .ok () w := guardN w op p q _ _
theorem ndNeqS (w : World) (n : Nd) : (binOp .neq 31 n.agg n.agg).run Try.prog w = .ok (.bool false) w := by
  refine (neqN w n.id n.kind n.mode n.id n.kind n.mode n.tg n.tg).trans ?_
  simp
theorem ndEqS (w : World) (n : Nd) : (binOp .eql 31 n.agg n.agg).run Try.prog w = .ok (.bool true) w := by
  refine (eqN w n.id n.kind n.mode n.id n.kind n.mode n.tg n.tg).trans ?_
  simp
attribute [local go_sem ↓ high] loadEn storeEn storeOu loadNd buildtwo
attribute [local go_sem high] ndNeqS ndEqS ndGuard eqN neqN guardN

theorem stayK {W : World} {b kb : Nat} {x y u v : Value} (h : W.drew.cell? ⟨kb, 0, none⟩ = some u ∧ W.drew.cell? ⟨kb, 1, none⟩ = some v) (hne : b ≠ kb) : ((W.setCell ⟨b, 0, none⟩ x).setCell ⟨b, 1, none⟩ y).drew.cell? ⟨kb, 0, none⟩ = some u ∧ ((W.setCell ⟨b, 0, none⟩ x).setCell ⟨b, 1, none⟩ y).drew.cell? ⟨kb, 1, none⟩ = some v := by
  have e : ∀ a, ((W.setCell ⟨b, 0, none⟩ x).setCell ⟨b, 1, none⟩ y).drew.cell? a = ((W.setCell ⟨b, 0, none⟩ x).setCell ⟨b, 1, none⟩ y).cell? a := fun _ => rfl
  rw [e, e, World.cell?_setCell_far _ _ _ _ hne, World.cell?_setCell_far _ _ _ _ hne, World.cell?_setCell_far _ _ _ _ hne, World.cell?_setCell_far _ _ _ _ hne]
  exact h
theorem keyed2 {W : World} {b : Nat} {e : En} (nm : ByteArray) (h : W.heap[b]? = some (.cells e.vals.toArray 42 (0, 0))) : ((W.setCell ⟨b, 0, none⟩ (.int .i64 1)).setCell ⟨b, 1, none⟩ (.string nm)).heap[b]? = some (.cells (En.vals ⟨1, nm, e.neg, e.id, e.kind, e.mode, e.tg⟩).toArray 42 (0, 0)) := by
  have h2 := heap_set (heap_set h 0 (.int .i64 1)) 1 (.string nm)
  exact h2
theorem far2 {W : World} {b k : Nat} {x y : Value} (h : k ≠ b) : ((W.setCell ⟨b, 0, none⟩ x).setCell ⟨b, 1, none⟩ y).heap[k]? = W.heap[k]? := (heap_set_ne h).trans (heap_set_ne h)
/-- an entry under another key -/
def En.at (e : En) (nm : ByteArray) : En := ⟨1, nm, e.neg, e.id, e.kind, e.mode, e.tg⟩
set_option maxRecDepth 100000 in
set_option maxHeartbeats 8000000 in
theorem walk_WalkFresh (e f g : En) (links : Int) (_ : (Lit.int .i64 links).wf = true) (w : World) :
    Calls Try.prog 8 #[e.agg, f.agg, g.agg, .int .i64 links] w fun x w' => x = .returned (.bool true) ∧ Below w.heap.size w w' := by
  obtain ⟨We, hWe⟩ : ∃ W, w.alloc (.cells e.vals.toArray 42) = W := ⟨_, rfl⟩
  have be := boxO hWe
  obtain ⟨Wf, hWf⟩ : ∃ W, We.alloc (.cells f.vals.toArray 42) = W := ⟨_, rfl⟩
  have bf := boxO hWf
  obtain ⟨Wg, hWg⟩ : ∃ W, Wf.alloc (.cells g.vals.toArray 42) = W := ⟨_, rfl⟩
  have bg := boxO hWg
  have HB : Hid (Below w.heap.size w Wg ∧ Wg.heap[w.heap.size]? = some (.cells e.vals.toArray 42 (0, 0)) ∧ Wg.heap[We.heap.size]? = some (.cells f.vals.toArray 42 (0, 0)) ∧ Wg.heap[Wf.heap.size]? = some (.cells g.vals.toArray 42 (0, 0)) ∧ w.heap.size < We.heap.size ∧ We.heap.size < Wf.heap.size ∧ Wf.heap.size < Wg.heap.size) :=
    ⟨chainB be.2.1 (chainB bf.2.1 bg.2.1), hkeep (hkeep be.1 bf.2.1) bg.2.1, hkeep bf.1 bg.2.1, bg.1, by omega, by omega, by omega⟩
  have HFi : Hid (Calls Try.prog 9 #[.slice none 0 0] Wg fun e w' => FilR [] Wg w' e) := filled_p none 0 [] Wg (.inl rfl) (by simp)
  have HA : Hid (∀ w, Calls Try.prog 12 #[] w fun x w' => x = .returned (.bool true) ∧ Below w.heap.size w w') := awake14_p
  have HCk : Hid (∀ W, Calls Try.prog 24 #[.string e.nm] W fun r w' => r = .returned (.int .i64 (chkE e.nm)) ∧ Below W.heap.size W w') := fun W => check_any e.nm W
  have e1 : w.heap.size + 1 = We.heap.size := be.2.2.symm
  have e2 : We.heap.size + 1 = Wf.heap.size := bf.2.2.symm
  have x1 := (cells7_of HB.out.2.1).c1
  simp only [Nat.zero_add] at x1
  rw [show e.agg = .agg e.vals.toArray from rfl, show f.agg = .agg f.vals.toArray from rfl, show g.agg = .agg g.vals.toArray from rfl]
  clear be bf bg
  by_cases hc : chkE e.nm = 0
  · rw [hc] at HCk
    have HN : Hid (chkE e.nm = 0) := hc
    clear hc
    go_enter Try.func8, Try.ntmps8
    go_upto_region 5 with (first
      | (go_at_call 24; refine (HCk.out _).mono ?_; rintro r w2 ⟨rfl, hb⟩; have H2 : Hid (Below w1.heap.size w1 w2) := hb; have y1 := (cells7_of (hkeep (hkeep HB.out.2.1 H1.out.2) hb)).c1; simp only [Nat.zero_add] at y1; clear hb)
      | (go_at_call 9; refine HFi.out.mono ?_; rintro r w1 hF; obtain ⟨p, t, s, rfl, ha, hfl⟩ := hF.fl; have H1 : Hid ((s.es = [] ∧ Flw Wg w1 t s p 0) ∧ Below Wg.heap.size Wg w1) := ⟨⟨ha.es, hfl⟩, hfl.below w1 (Below.refl _ _)⟩; have x1' := (cells7_of (hkeep HB.out.2.1 H1.out.2)).c1; simp only [Nat.zero_add] at x1'; clear hF hfl ha))
    obtain ⟨V, hV⟩ : ∃ V, w2.alloc (.cells #[.int .i64 1, .string e.nm] 28) = V := ⟨_, rfl⟩
    have bV := boxO hV
    have hbg := chainB H1.out.2 (chainB H2.out bV.2.1)
    have ge := hkeep HB.out.2.1 hbg
    have gf := hkeep HB.out.2.2.1 hbg
    have gg := hkeep HB.out.2.2.2.1 hbg
    have k0 : V.cell? ⟨w2.heap.size, 0, none⟩ = some (.int .i64 1) := by rw [cell_of bV.1]; rfl
    have k1 : V.cell? ⟨w2.heap.size, 1, none⟩ = some (.string e.nm) := by rw [cell_of bV.1]; rfl
    have fe := free_of ge
    have ff := free_of gf
    have fg := free_of gg
    have ce0 : V.cell? ⟨w.heap.size, 0, none⟩ = some (.int .i64 e.d) := (cells7_of ge).c0
    have ce1 : V.cell? ⟨w.heap.size, 1, none⟩ = some (.string e.nm) := (cells7_of ge).c1
    have cf0 : V.cell? ⟨We.heap.size, 0, none⟩ = some (.int .i64 f.d) := (cells7_of gf).c0
    have cf1 : V.cell? ⟨We.heap.size, 1, none⟩ = some (.string f.nm) := (cells7_of gf).c1
    have cg0 : V.cell? ⟨Wf.heap.size, 0, none⟩ = some (.int .i64 g.d) := (cells7_of gg).c0
    have cg1 : V.cell? ⟨Wf.heap.size, 1, none⟩ = some (.string g.nm) := (cells7_of gg).c1
    have HVV : Hid (Below Wg.heap.size Wg V ∧ V.heap[w2.heap.size]? = some (.cells #[.int .i64 1, .string e.nm] 28 (0, 0)) ∧ w2.heap.size < V.heap.size ∧ Wg.heap.size ≤ w2.heap.size ∧ Below w2.heap.size w2 V) := ⟨hbg, bV.1, by have := bV.2.2; omega, (chainB H1.out.2 H2.out).size, bV.2.1⟩
    have n1 : w.heap.size ≠ w2.heap.size := by have := HB.out.2.2.2.2; have := HVV.out.2.2.2.1; omega
    have n2 : We.heap.size ≠ w2.heap.size := by have := HB.out.2.2.2.2; have := HVV.out.2.2.2.1; omega
    have n3 : Wf.heap.size ≠ w2.heap.size := by have := HB.out.2.2.2.2; have := HVV.out.2.2.2.1; omega
    rw [hV]
    clear bV hbg ge gf gg hV x1 x1' y1 hWe hWf hWg
    have s0 : V.drew.cell? ⟨w2.heap.size, 0, none⟩ = some (.int .i64 1) ∧ V.drew.cell? ⟨w2.heap.size, 1, none⟩ = some (.string e.nm) := ⟨k0, k1⟩
    go_region_held3 (fun W => W.cell? ⟨w2.heap.size, 0, none⟩ = some (.int .i64 1) ∧ W.cell? ⟨w2.heap.size, 1, none⟩ = some (.string e.nm))
      (with_reducible first | exact s0 | (refine stayK ?_ (by first | exact n1 | exact n2 | exact n3); assumption))
      (fail)
    obtain ⟨X1, hX1⟩ : ∃ X, (V.setCell ⟨w.heap.size, 0, none⟩ (.int .i64 1)).setCell ⟨w.heap.size, 1, none⟩ (.string e.nm) = X := ⟨_, rfl⟩
    obtain ⟨X2, hX2⟩ : ∃ X, (X1.setCell ⟨We.heap.size, 0, none⟩ (.int .i64 1)).setCell ⟨We.heap.size, 1, none⟩ (.string e.nm) = X := ⟨_, rfl⟩
    obtain ⟨X3, hX3⟩ : ∃ X, (X2.setCell ⟨Wf.heap.size, 0, none⟩ (.int .i64 1)).setCell ⟨Wf.heap.size, 1, none⟩ (.string e.nm) = X := ⟨_, rfl⟩
    obtain ⟨X, hX⟩ : ∃ X, X3.drew = X := ⟨_, rfl⟩
    rw [hX1, hX2, hX3, hX]
    obtain ⟨-, he0, hf0, hg0, o1, o2, o3⟩ := HB.out
    have vb := HVV.out.1
    have p1 : X1.heap[w.heap.size]? = some (.cells (e.at e.nm).vals.toArray 42 (0, 0)) := by rw [← hX1]; exact keyed2 e.nm (hkeep he0 vb)
    have p2 : X1.heap[We.heap.size]? = some (.cells f.vals.toArray 42 (0, 0)) := by rw [← hX1, far2 (by omega)]; exact hkeep hf0 vb
    have p3 : X1.heap[Wf.heap.size]? = some (.cells g.vals.toArray 42 (0, 0)) := by rw [← hX1, far2 (by omega)]; exact hkeep hg0 vb
    have p4 : X1.heap[w2.heap.size]? = some (.cells #[.int .i64 1, .string e.nm] 28 (0, 0)) := by rw [← hX1, far2 (by omega)]; exact HVV.out.2.1
    have q1 : X2.heap[w.heap.size]? = some (.cells (e.at e.nm).vals.toArray 42 (0, 0)) := by rw [← hX2, far2 (by omega)]; exact p1
    have q2 : X2.heap[We.heap.size]? = some (.cells (f.at e.nm).vals.toArray 42 (0, 0)) := by rw [← hX2]; exact keyed2 e.nm p2
    have q3 : X2.heap[Wf.heap.size]? = some (.cells g.vals.toArray 42 (0, 0)) := by rw [← hX2, far2 (by omega)]; exact p3
    have q4 : X2.heap[w2.heap.size]? = some (.cells #[.int .i64 1, .string e.nm] 28 (0, 0)) := by rw [← hX2, far2 (by omega)]; exact p4
    have r1 : X.heap[w.heap.size]? = some (.cells (e.at e.nm).vals.toArray 42 (0, 0)) := by rw [← hX, ← hX3]; exact (far2 (by omega)).trans q1
    have r2 : X.heap[We.heap.size]? = some (.cells (f.at e.nm).vals.toArray 42 (0, 0)) := by rw [← hX, ← hX3]; exact (far2 (by omega)).trans q2
    have r3 : X.heap[Wf.heap.size]? = some (.cells (g.at e.nm).vals.toArray 42 (0, 0)) := by rw [← hX, ← hX3]; exact keyed2 e.nm q3
    have r4 : X.heap[w2.heap.size]? = some (.cells #[.int .i64 1, .string e.nm] 28 (0, 0)) := by rw [← hX, ← hX3]; exact (far2 (by omega)).trans q4
    have hO1 : Only (fun b => w.heap.size ≤ b ∧ b < Wg.heap.size) V X := by
      have a1 : Only (fun b => w.heap.size ≤ b ∧ b < Wg.heap.size) V X1 := by rw [← hX1]; exact ((only1 _ _ _ _).trans (only1 _ _ _ _)).mono fun b hb => by rw [hb]; omega
      have a2 : Only (fun b => w.heap.size ≤ b ∧ b < Wg.heap.size) X1 X2 := by rw [← hX2]; exact ((only1 _ _ _ _).trans (only1 _ _ _ _)).mono fun b hb => by rw [hb]; omega
      have a3 : Only (fun b => w.heap.size ≤ b ∧ b < Wg.heap.size) X2 X3 := by rw [← hX3]; exact ((only1 _ _ _ _).trans (only1 _ _ _ _)).mono fun b hb => by rw [hb]; omega
      have a4 : Only (fun b => w.heap.size ≤ b ∧ b < Wg.heap.size) X3 X := by rw [← hX]; exact Only.of (below_drewN (Below.refl _ _) 1)
      exact a1.trans (a2.trans (a3.trans a4))
    have HX : Hid (Only (fun b => w.heap.size ≤ b ∧ b < Wg.heap.size) V X ∧ X.heap[w.heap.size]? = some (.cells (e.at e.nm).vals.toArray 42 (0, 0)) ∧ X.heap[We.heap.size]? = some (.cells (f.at e.nm).vals.toArray 42 (0, 0)) ∧ X.heap[Wf.heap.size]? = some (.cells (g.at e.nm).vals.toArray 42 (0, 0)) ∧ X.heap[w2.heap.size]? = some (.cells #[.int .i64 1, .string e.nm] 28 (0, 0))) := ⟨hO1, r1, r2, r3, r4⟩
    have fX := free_of r2
    have t2 : X.cell? ⟨We.heap.size, 2, none⟩ = some (.bool f.neg) := (cells7_of r2).c2
    have t3 : X.cell? ⟨We.heap.size, 3, none⟩ = some (.int .i64 f.id) := (cells7_of r2).c3
    have t4 : X.cell? ⟨We.heap.size, 4, none⟩ = some (.int .i64 f.kind) := (cells7_of r2).c4
    have t5 : X.cell? ⟨We.heap.size, 5, none⟩ = some (.int .i64 f.mode) := (cells7_of r2).c5
    have t6 : X.cell? ⟨We.heap.size, 6, none⟩ = some (.string f.tg) := (cells7_of r2).c6
    clear s0 k0 k1 ce0 ce1 cf0 cf1 cg0 cg1 hX1 hX2 hX3 hX he0 hf0 hg0 o1 o2 o3 vb p1 p2 p3 p4 q1 q2 q3 q4 r1 r2 r3 r4 hO1 fe ff fg
    go_upto_region 8 with fail
    obtain ⟨Y, hY⟩ : ∃ Y, ((((X.setCell ⟨We.heap.size, 2, none⟩ (.bool true)).setCell ⟨We.heap.size, 3, none⟩ (.int .i64 0)).setCell ⟨We.heap.size, 4, none⟩ (.int .i64 0)).setCell ⟨We.heap.size, 5, none⟩ (.int .i64 0)).setCell ⟨We.heap.size, 6, none⟩ (.string ⟨#[]⟩) = Y := ⟨_, rfl⟩
    rw [hY]
    obtain ⟨eF, heF⟩ : ∃ x : En, x = ⟨1, e.nm, true, 0, 0, 0, ⟨#[]⟩⟩ := ⟨_, rfl⟩
    obtain ⟨eE, heE⟩ : ∃ x : En, x = e.at e.nm := ⟨_, rfl⟩
    obtain ⟨eG, heG⟩ : ∃ x : En, x = g.at e.nm := ⟨_, rfl⟩
    obtain ⟨nm, hnm⟩ : ∃ nm, e.nm = nm := ⟨_, rfl⟩
    have HYc : Hid (Only (fun b => w.heap.size ≤ b ∧ b < Wg.heap.size) V Y ∧ Y.heap[w.heap.size]? = some (.cells eE.vals.toArray 42 (0, 0)) ∧ Y.heap[We.heap.size]? = some (.cells eF.vals.toArray 42 (0, 0)) ∧ Y.heap[Wf.heap.size]? = some (.cells eG.vals.toArray 42 (0, 0)) ∧ Y.heap[w2.heap.size]? = some (.cells #[.int .i64 1, .string nm] 28 (0, 0))) := by
      obtain ⟨z0, z1, z2, z3, z4⟩ := HX.out
      obtain ⟨-, -, -, -, o1, o2, o3⟩ := HB.out
      have o4 := HVV.out.2.2.2.1
      have far5 : ∀ k, k ≠ We.heap.size → Y.heap[k]? = X.heap[k]? := fun k hk => by
        rw [← hY]
        exact (heap_set_ne hk).trans ((heap_set_ne hk).trans ((heap_set_ne hk).trans ((heap_set_ne hk).trans (heap_set_ne hk))))
      refine ⟨z0.trans ?_, by rw [far5 _ (by omega), heE]; exact z1, ?_, by rw [far5 _ (by omega), heG]; exact z3, by rw [far5 _ (by omega), ← hnm]; exact z4⟩
      · rw [← hY]
        exact ((((only1 _ _ _ _).trans (only1 _ _ _ _)).trans (only1 _ _ _ _)).trans (only1 _ _ _ _)).trans (only1 _ _ _ _) |>.mono fun b hb => by rw [hb]; omega
      · rw [← hY, heF]
        exact heap_set (heap_set (heap_set (heap_set (heap_set z2 2 _) 3 _) 4 _) 5 _) 6 _
    have hne : nm ≠ nob := by rw [← hnm]; exact chk_nm HN.out
    have HLd : Hid (Ld w Y p ⟨[], [1]⟩ 47 (fun b => w.heap.size ≤ b ∧ b < Wg.heap.size ∨ b = w2.heap.size)) := by
      have h1 := H1.out.1.2.ld w1 (Below.refl _ _)
      rw [H1.out.1.1] at h1
      have h2 := ((h1.upF HB.out.1).on (chainB H2.out HVV.out.2.2.2.2)).mono (G := fun b => w.heap.size ≤ b ∧ b < Wg.heap.size ∨ b = w2.heap.size) (fun b hb => by
        rcases hb with hb | hb
        · exact .inl (.inr hb.2)
        · exact .inr ⟨by rw [hb]; exact H2.out.size, by rw [hb]; exact HVV.out.2.2.1⟩) (Nat.le_refl _)
      refine (h2.own (HYc.out.1.mono fun b hb => .inl hb) (fun b hb => ?_)).mono (fun b hb => .inl hb) (Nat.le_refl _)
      have := HB.out.1.size
      have := HVV.out.2.2.2.1
      rcases hb with hb | hb
      · exact hb.1
      · omega
    have hp1 : putS ⟨[], [1]⟩ eG = ⟨[eG], [1]⟩ := by
      unfold putS
      rw [if_neg (by rw [heG]; show ¬ e.nm = nob; rw [hnm]; exact hne)]
      rfl
    have HPt : Hid (Calls Try.prog 16 #[.pointer (some ⟨p, 0, none⟩), eG.agg] Y fun x w' => ∃ z, x = .returned (.int .i64 z) ∧ Ldc w Y w' p ⟨[eG], [1]⟩ 48 (fun b => w.heap.size ≤ b ∧ b < Wg.heap.size ∨ b = w2.heap.size)) := by
      refine (ld_put HLd.out eG (by omega)).mono ?_
      rintro x w' ⟨rfl, hc⟩
      rw [hp1] at hc
      exact ⟨_, rfl, hc⟩
    have lG := enLd_at (cells7_of HYc.out.2.2.2.1)
    obtain ⟨k, hk⟩ : ∃ k : Ky, k = ⟨1, nm⟩ := ⟨_, rfl⟩
    have HK3 : Hid (eE.key = k ∧ eF.key = k ∧ eG.key = k ∧ eF.neg = true ∧ eE.neg = e.neg ∧ eG.neg = g.neg ∧ eE.nd = e.nd ∧ eG.nd = g.nd ∧ chkE nm = 0) := by
      refine ⟨by rw [heE, hk, ← hnm]; rfl, by rw [heF, hk, ← hnm]; rfl, by rw [heG, hk, ← hnm]; rfl, by rw [heF], by rw [heE]; rfl, by rw [heG]; rfl, by rw [heE]; rfl, by rw [heG]; rfl, by rw [← hnm]; exact HN.out⟩
    have wlk : Hid (∀ (kn : Ky → Option En) (x : En), kn k = some x → walkO kn (⟨#[47]⟩ ++ nm) false links = if x.neg then ⟨false, zeroKy, 40, zeroNd, [k]⟩ else ⟨false, zeroKy, 0, x.nd, [k]⟩) := fun kn x hx => by
      rw [hk] at hx ⊢
      exact walkO_one HK3.out.2.2.2.2.2.2.2.2 (chk_dot1 HK3.out.2.2.2.2.2.2.2.2) (chk_dot2 HK3.out.2.2.2.2.2.2.2.2) hx links
    obtain ⟨en, hen⟩ : ∃ b, e.neg = b := ⟨_, rfl⟩
    obtain ⟨gn, hgn⟩ : ∃ b, g.neg = b := ⟨_, rfl⟩
    obtain ⟨oB, hoB⟩ : ∃ o : Ou, o = if en then ⟨false, zeroKy, 40, zeroNd, [k]⟩ else ⟨false, zeroKy, 0, e.nd, [k]⟩ := ⟨_, rfl⟩
    obtain ⟨oD, hoD⟩ : ∃ o : Ou, o = if gn then ⟨false, zeroKy, 40, zeroNd, [k]⟩ else ⟨false, zeroKy, 0, g.nd, [k]⟩ := ⟨_, rfl⟩
    have hub : Hid (oB.used = [k]) := by show _ = _; rw [hoB]; cases en <;> rfl
    have hud : Hid (oD.used = [k]) := by show _ = _; rw [hoD]; cases gn <;> rfl
    have HOB : Hid (oB = (if en then ⟨false, zeroKy, 40, zeroNd, [k]⟩ else ⟨false, zeroKy, 0, e.nd, [k]⟩) ∧ oD = (if gn then ⟨false, zeroKy, 40, zeroNd, [k]⟩ else ⟨false, zeroKy, 0, g.nd, [k]⟩) ∧ e.neg = en ∧ g.neg = gn) := ⟨hoB, hoD, hen, hgn⟩
    clear hY fX t2 t3 t4 t5 t6 heF heE heG hne hk hoB hoD hen hgn hp1
    go_upto_region 9 with (go_at_call 16; refine HPt.out.mono ?_; rintro r w8 ⟨z8, rfl, hc⟩; have H8 : Hid (Ldc w Y w8 p ⟨[eG], [1]⟩ 48 (fun b => w.heap.size ≤ b ∧ b < Wg.heap.size ∨ b = w2.heap.size)) := hc; clear hc)
    have HBx : Hid (∀ W, Below w8.heap.size w8 W → W.heap[w.heap.size]? = some (.cells eE.vals.toArray 42 (0, 0)) ∧ W.heap[We.heap.size]? = some (.cells eF.vals.toArray 42 (0, 0)) ∧ W.heap[Wf.heap.size]? = some (.cells eG.vals.toArray 42 (0, 0)) ∧ W.heap[w2.heap.size]? = some (.cells #[.int .i64 1, .string nm] 28 (0, 0))) := fun W hb => by
      obtain ⟨-, -, -, -, o1, o2, o3⟩ := HB.out
      have kp := H8.out.kept
      exact ⟨hkeep ((kp _ (.inl ⟨by omega, by omega⟩)).trans HYc.out.2.1) hb, hkeep ((kp _ (.inl ⟨by omega, by omega⟩)).trans HYc.out.2.2.1) hb, hkeep ((kp _ (.inl ⟨by omega, by omega⟩)).trans HYc.out.2.2.2.1) hb, hkeep ((kp _ (.inr rfl)).trans HYc.out.2.2.2.2) hb⟩
    have HLw : Hid (∀ (kn : Ky → Option En) (x : En) (o : Ou), kn k = some x → (if x.neg then (⟨false, zeroKy, 40, zeroNd, [k]⟩ : Ou) else ⟨false, zeroKy, 0, x.nd, [k]⟩) = o → walkO kn (⟨#[47]⟩ ++ nm) false links = o) := fun kn x o hx ho => (wlk.out kn x hx).trans ho
    have HoD : Hid (walkO (knC ⟨[eG], [1]⟩) (⟨#[47]⟩ ++ nm) false links = oD) := by
      have h1 := HK3.out.2.2.2.2.2.1
      have h2 := HK3.out.2.2.2.2.2.2.2.1
      have h3 := HOB.out.2.2.2
      have h4 := HOB.out.2.1
      refine HLw.out _ eG oD (knC_self HK3.out.2.2.1) ?_
      rw [h1, h2, h3, h4]
    have HWt : Hid (∀ (W : World) (x y : En) (o : Ou), Below w8.heap.size w8 W → x.key = k → y.key = k → (if x.neg then (⟨false, zeroKy, 40, zeroNd, [k]⟩ : Ou) else ⟨false, zeroKy, 0, x.nd, [k]⟩) = o → o.used = [k] → Calls Try.prog 10 #[.pointer (some ⟨p, 0, none⟩), .slice (some ⟨W.heap.size, 0, none⟩) 2 2, .string (⟨#[47]⟩ ++ nm), .bool false, .int .i64 links] (W.alloc (.cells (x.vals ++ y.vals).toArray 42)) fun r w' => ∃ a c, r = .returned (ouAgg o (.slice a 1 c)) ∧ Below W.heap.size W w') := fun W x y o hb hx hy ho hu => walk_two (H8.out.ld.on' hb) x y _ links o k (HLw.out _ x o (two_first _ hx hy) ho) hu
    have HWd : Hid (∀ (W : World), Below w8.heap.size w8 W → Calls Try.prog 10 #[.pointer (some ⟨p, 0, none⟩), .slice none 0 0, .string (⟨#[47]⟩ ++ nm), .bool false, .int .i64 links] W fun r w' => ∃ a c, r = .returned (ouAgg oD (.slice a 1 c)) ∧ Below W.heap.size W w') := fun W hb => walk_non (H8.out.ld.on' hb) _ links oD k HoD.out hud.out
    obtain ⟨oX, hoX⟩ : ∃ o : Ou, o = ⟨false, zeroKy, 40, zeroNd, [k]⟩ := ⟨_, rfl⟩
    have HoX : Hid (oX.used = [k] ∧ oX.err = 40) := by rw [hoX]; exact ⟨rfl, rfl⟩
    obtain ⟨-, -, -, z3, z5, -, z7, -, -⟩ := HK3.out
    have HW9 : Hid (Calls Try.prog 10 #[.pointer (some ⟨p, 0, none⟩), .slice (some ⟨w8.heap.size, 0, none⟩) 2 2, .string (⟨#[47]⟩ ++ nm), .bool false, .int .i64 links] (w8.alloc (.cells (eF.vals ++ eE.vals).toArray 42)) fun r w' => ∃ a c, r = .returned (ouAgg oX (.slice a 1 c)) ∧ Below w8.heap.size w8 w') := HWt.out w8 eF eE oX (Below.refl _ _) HK3.out.2.1 HK3.out.1 (by rw [z3, hoX]; rfl) HoX.out.1
    have HWB : Hid (∀ W, Below w8.heap.size w8 W → Calls Try.prog 10 #[.pointer (some ⟨p, 0, none⟩), .slice (some ⟨W.heap.size, 0, none⟩) 2 2, .string (⟨#[47]⟩ ++ nm), .bool false, .int .i64 links] (W.alloc (.cells (eE.vals ++ eF.vals).toArray 42)) fun r w' => ∃ a c, r = .returned (ouAgg oB (.slice a 1 c)) ∧ Below W.heap.size W w') := fun W hb => HWt.out W eE eF oB hb HK3.out.1 HK3.out.2.1 (by rw [z5, z7, HOB.out.2.2.1]; exact HOB.out.1.symm) hub.out
    clear hoX z3 z5 z7 HWt
    have bx := box9
    have tw9 := enTwo_of eF eE w8
    have lE8 := enLd_at (cells7_of (HBx.out w8 (Below.refl _ _)).1)
    have lF8 := enLd_at (cells7_of (HBx.out w8 (Below.refl _ _)).2.1)
    have k8 : (w8.alloc (.cells (eF.vals ++ eE.vals).toArray 42)).cell? ⟨w2.heap.size, 1, none⟩ = some (.string nm) := by rw [cell_of (HBx.out _ (below_alloc w8 _)).2.2.2]; rfl
    have hns : ¬ 9223372036854775807 < 1 + nm.size := by have := ((chk_ok nm).1 HK3.out.2.2.2.2.2.2.2.2).1; omega
    go_upto_region 10 with (go_at_call 10; refine HW9.out.mono ?_; rintro r w9 ⟨a9, c9, rfl, hb⟩; obtain ⟨V9, hV9⟩ : ∃ V, w9.alloc (.cells (ouVals oX (.slice a9 1 c9)).toArray 34) = V := ⟨_, rfl⟩; have bV9 := boxO hV9; have H9 : Hid (Below w8.heap.size w8 V9 ∧ V9.heap[w9.heap.size]? = some (.cells (ouVals oX (.slice a9 1 c9)).toArray 34 (0, 0))) := ⟨chainB hb bV9.2.1, bV9.1⟩; clear hb bV9)
    clear tw9 lE8 lF8 k8 hV9
    have tw10 := enTwo_of eE eF V9
    have lE10 := enLd_at (cells7_of (HBx.out V9 H9.out.1).1)
    have lF10 := enLd_at (cells7_of (HBx.out V9 H9.out.1).2.1)
    have k10 : (V9.alloc (.cells (eE.vals ++ eF.vals).toArray 42)).cell? ⟨w2.heap.size, 1, none⟩ = some (.string nm) := by rw [cell_of (HBx.out _ (chainB H9.out.1 (below_alloc V9 _))).2.2.2]; rfl
    go_upto_region 11 with (go_at_call 10; refine (HWB.out V9 H9.out.1).mono ?_; rintro r w10 ⟨a10, c10, rfl, hb⟩; obtain ⟨V10, hV10⟩ : ∃ V, w10.alloc (.cells (ouVals oB (.slice a10 1 c10)).toArray 34) = V := ⟨_, rfl⟩; have bV10 := boxO hV10; have H10 : Hid (Below V9.heap.size V9 V10 ∧ V10.heap[w10.heap.size]? = some (.cells (ouVals oB (.slice a10 1 c10)).toArray 34 (0, 0))) := ⟨chainB hb bV10.2.1, bV10.1⟩; clear hb bV10)
    clear tw10 lE10 lF10 k10 hV10
    have H10b : Hid (Below w8.heap.size w8 V10) := chainB H9.out.1 H10.out.1
    have k11 : V10.cell? ⟨w2.heap.size, 1, none⟩ = some (.string nm) := by rw [cell_of (HBx.out _ H10b.out).2.2.2]; rfl
    go_upto_region 12 with (go_at_call 10; refine (HWd.out V10 H10b.out).mono ?_; rintro r w11 ⟨a11, c11, rfl, hb⟩; obtain ⟨V11, hV11⟩ : ∃ V, w11.alloc (.cells (ouVals oD (.slice a11 1 c11)).toArray 34) = V := ⟨_, rfl⟩; have bV11 := boxO hV11; have H11 : Hid (Below V10.heap.size V10 V11 ∧ V11.heap[w11.heap.size]? = some (.cells (ouVals oD (.slice a11 1 c11)).toArray 34 (0, 0))) := ⟨chainB hb bV11.2.1, bV11.1⟩; clear hb bV11)
    clear k11 hV11 bx hns HWB HWd HW9
    have HZ0 : Hid (Below w8.heap.size w8 V11) := chainB H10b.out H11.out.1
    obtain ⟨-, -, -, xa, -, xu⟩ := ouCells (hkeep (hkeep H9.out.2 H10.out.1) H11.out.1)
    rw [HoX.out.2] at xa
    have qB := hkeep H10.out.2 H11.out.1
    obtain ⟨-, -, -, ya, -, yu⟩ := ouCells qB
    have ndB := ndLd_at (ou_nd qB)
    obtain ⟨-, -, -, za, -, zu⟩ := ouCells H11.out.2
    have ndD := ndLd_at (ou_nd H11.out.2)
    have cE := cells7_of (HBx.out V11 HZ0.out).1
    have cG := cells7_of (HBx.out V11 HZ0.out).2.2.1
    have ndE := ndLd_at (c7_nd cE)
    have ndG := ndLd_at (c7_nd cG)
    have eNg := cE.c2
    have gNg := cG.c2
    obtain ⟨h1, h2, h3, h4⟩ := HOB.out
    obtain ⟨-, -, -, -, h5, h6, h7, h8, -⟩ := HK3.out
    rw [h5, h3] at eNg
    rw [h6, h4] at gNg
    rw [h7] at ndE
    rw [h8] at ndG
    simp only [Nat.zero_add] at eNg gNg ndE ndG
    have HZ1 : Hid (Below w.heap.size w V11) := chainB (H8.out.ld.on' HZ0.out).below (Below.refl _ _)
    clear qB cE cG h3 h4 h5 h6 h7 h8
    cases en <;> cases gn
    all_goals (
      simp only [if_true, if_false, Bool.false_eq_true] at h1 h2
      subst h1 h2
      go_wp2_with (go_at_call 12; refine (HA.out _).mono ?_; rintro r wZ ⟨rfl, hb⟩; have HZ : Hid (Below w.heap.size w wZ) := chainB HZ1.out hb; clear hb)
      go_ret
      exact ⟨rfl, HZ.out⟩)
  · have hcb : (chkE e.nm != 0) = true := by simpa using hc
    obtain ⟨E, hE⟩ : ∃ E, chkE e.nm = E := ⟨_, rfl⟩
    rw [hE] at HCk hcb
    clear hc hE
    go_enter Try.func8, Try.ntmps8
    go_wp2_with (first
      | (go_at_call 12; refine (HA.out _).mono ?_; rintro r wZ ⟨rfl, hb⟩; have HZ : Hid (Below w.heap.size w wZ) := chainB HB.out.1 (chainB H1.out (chainB H2.out hb)); clear hb)
      | (go_at_call 24; refine (HCk.out _).mono ?_; rintro r w2 ⟨rfl, hb⟩; have H2 : Hid (Below w1.heap.size w1 w2) := hb; clear hb)
      | (go_at_call 9; refine HFi.out.mono ?_; rintro r w1 hF; obtain ⟨p, t, s, rfl, -, hfl⟩ := hF.fl; have H1 : Hid (Below Wg.heap.size Wg w1) := hfl.below w1 (Below.refl _ _); have x1' := (cells7_of (hkeep HB.out.2.1 H1.out)).c1; simp only [Nat.zero_add] at x1'; clear hF hfl))
    go_ret
    exact ⟨rfl, HZ.out⟩
end
end Go.Proofs.Ytnmmieamcdffaaa
