/- The document's own reading of bytes: an entry, in memory. -/
import Derived.Test.YtekonakanieeaaaJWEpt12
namespace Go.Proofs.Ytekonakanieeaaa
section
open Go.RowKit Go.Lib
variable {Bq : Nat}

theorem RI.farO {w w' : World} {b : Value} {ok : Bool} {s : St} {g : Nat} {cs : Array Value} {t : TypeId} (h : RI Bq w b ok s) (hb : w.heap[g]? = some (.cells cs t (0, 0))) (hn : ∀ (i : Nat) (x : Int), cs[i]? ≠ some (.int .u8 x)) (ho : Only (· = g) w w') : RI Bq w' b ok s := by
  obtain ⟨l, ⟨a', c', e, hcap, hc⟩, h2⟩ := h
  refine ⟨l, ⟨a', c', e, hcap, ?_⟩, h2⟩
  rcases hc with hc | ⟨g', off, e', hg, hc⟩
  · exact .inl hc
  · cases l with
    | nil => exact .inl rfl
    | cons x l =>
      have hne : g' ≠ g := by
        rintro rfl
        have h0 := hc 0 x rfl
        rw [cell_of hb] at h0
        exact hn _ _ h0
      refine .inr ⟨g', off, e', Nat.lt_of_lt_of_le hg ho.size, fun i y hy => ?_⟩
      rw [World.cell?_of_block (ho.block g' hg hne)]
      exact hc i y hy
/-- what a struct's reading has: the box of what is left, the struct's own box, and all else as it was -/
structure OG (Bq : Nat) (w Z0 Z : World) (i o : Nat) (to_ : TypeId) (b : Value) (k : Bool) (s : St) (cs : Array Value) : Prop where
  box : Z.heap[i]? = some (.cells #[b, .bool k] 68 (0, 0))
  own : Z.heap[o]? = some (.cells cs to_ (0, 0))
  bel : Below w.heap.size w Z
  ri : RI Bq Z b k s
  only : Only (fun x => x = i ∨ x = o) Z0 Z
theorem OG.below {w Z0 Z Z' : World} {i o : Nat} {to_ : TypeId} {b : Value} {k : Bool} {s : St} {cs : Array Value} (h : OG Bq w Z0 Z i o to_ b k s cs) (hb : Below Z.heap.size Z Z') : OG Bq w Z0 Z' i o to_ b k s cs :=
  ⟨hkeep h.box hb, hkeep h.own hb, chainB h.bel hb, h.ri.below hb, h.only.trans (Only.of hb)⟩
theorem OG.cells {w Z0 Z : World} {i o : Nat} {to_ : TypeId} {b : Value} {k : Bool} {s : St} {cs : Array Value} (h : OG Bq w Z0 Z i o to_ b k s cs) : Z.cell? ⟨i, 0, none⟩ = some b ∧ Z.cell? ⟨i, 1, none⟩ = some (.bool k) ∧ (∀ j, Z.frozen? ⟨i, j, none⟩ = false) ∧ (∀ j, Z.cell? ⟨o, j, none⟩ = cs[j]?) ∧ ∀ j, Z.frozen? ⟨o, j, none⟩ = false :=
  ⟨by rw [cell_of h.box]; rfl, by rw [cell_of h.box]; rfl, free_of h.box, fun j => cell_of h.own j, free_of h.own⟩
/-- the struct's box written over, and what the box of what is left then holds -/
theorem OG.put {w Z0 Z Y : World} {i o : Nat} {to_ : TypeId} {b : Value} {k : Bool} {s : St} {cs : Array Value} (h : OG Bq w Z0 Z i o to_ b k s cs) (hio : i ≠ o) (hY : Only (· = o) Z Y) : Y.cell? ⟨i, 0, none⟩ = some b ∧ Y.cell? ⟨i, 1, none⟩ = some (.bool k) ∧ ∀ j, Y.frozen? ⟨i, j, none⟩ = false := by
  have e : Y.heap[i]? = some (.cells #[b, .bool k] 68 (0, 0)) := (hY.block i (Array.getElem?_eq_some_iff.1 h.box).1 hio).trans h.box
  exact ⟨by rw [cell_of e]; rfl, by rw [cell_of e]; rfl, free_of e⟩
theorem OG.step {w Z0 Z w1 Y Z' : World} {i o : Nat} {to_ : TypeId} {a : Option Addr} {n c : Nat} {k k1 : Bool} {s s1 : St} {cs cs' : Array Value} {a1 : Option Addr} {n1 c1 : Nat} (h : OG Bq w Z0 Z i o to_ (.slice a n c) k s cs) (hb : Below Z.heap.size Z w1) (hr : RI Bq w1 (.slice a1 n1 c1) k1 s1) (hY : Only (· = o) w1 Y) (hown : Y.heap[o]? = some (.cells cs' to_ (0, 0))) (hZ : (Y.setCell ⟨i, 0, none⟩ (.slice a1 n1 c1)).setCell ⟨i, 1, none⟩ (.bool k1) = Z')
    (hio : i ≠ o) (hi : w.heap.size ≤ i) (ho : w.heap.size ≤ o) (hn : ∀ (m : Nat) (x : Int), cs[m]? ≠ some (.int .u8 x)) : OG Bq w Z0 Z' i o to_ (.slice a1 n1 c1) k1 s1 cs' := by
  subst hZ
  have h1 := h.below hb
  have e1 : Y.heap[i]? = some (.cells #[.slice a n c, .bool k] 68 (0, 0)) := (hY.block i (Array.getElem?_eq_some_iff.1 h1.box).1 hio).trans h1.box
  have r1 : RI Bq Y (.slice a1 n1 c1) k1 s1 := hr.farO h1.own hn hY
  exact ⟨set2 e1, (two_ne (Ne.symm hio)).trans hown, below2 _ _ (below_on1 h1.bel hY ho) hi, r1.far2 e1 _ _, (h1.only.trans (hY.mono fun _ h => .inr h)).trans ((only2 Y i _ _).mono fun _ h => .inl h)⟩

def entF (s : St) : En × St :=
  let d := numF 6 1 0 s
  let n := strF d.2
  let f := octP n.2
  if f.1 = 1 then (⟨d.1, n.1, true, 0, 0, 0, ⟨#[]⟩⟩, f.2)
  else
    let a := numF 6 1 0 f.2
    let b := octP a.2
    let c := numF 6 1 0 b.2
    let t := strF c.2
    (⟨d.1, n.1, false, a.1, b.1, c.1, t.1⟩, if f.1 = 0 then t.2 else none)
theorem Try.sizeEnt : (Try.prog.info? 44).map (·.size) = some 7 := by kernel_rfl
def keyF (s : St) : Ky × St := (⟨(numF 6 1 0 s).1, (strF (numF 6 1 0 s).2).1⟩, (strF (numF 6 1 0 s).2).2)
theorem key1_k {w : World} {b0 : Value} {ok0 : Bool} {s0 : St} (h : RI Bq w b0 ok0 s0) : Calls Try.prog 58 #[.agg #[b0, .bool ok0]] w fun e w' => RdI Bq (.agg #[.int .i64 (keyF s0).1.d, .string (keyF s0).1.nm]) (keyF s0).2 w w' e := key1_d h
set_option maxRecDepth 20000 in
set_option maxHeartbeats 16000000 in
theorem entry1_d {w : World} {b0 : Value} {ok0 : Bool} {s0 : St} (h : RI Bq w b0 ok0 s0) : Calls Try.prog 30 #[.agg #[b0, .bool ok0]] w fun e w' => RdI Bq (entF s0).1.agg (entF s0).2 w w' e := by
  obtain ⟨a0, n0, c0, rfl⟩ := h.form
  obtain ⟨W, hW⟩ : ∃ W, w.alloc (.cells #[.slice a0 n0 c0, .bool ok0] 68) = W := ⟨_, rfl⟩
  obtain ⟨W2, hW2⟩ : ∃ W2, W.alloc (.cells #[.int .i64 0, .string ⟨#[]⟩, .bool false, .int .i64 0, .int .i64 0, .int .i64 0, .string ⟨#[]⟩] 44) = W2 := ⟨_, rfl⟩
  obtain ⟨W3, hW3⟩ : ∃ W3, W2.alloc (.cells #[.slice none 0 0, .bool false] 68) = W3 := ⟨_, rfl⟩
  have b1 := boxB hW
  have b2 := boxB hW2
  have b3 := boxB hW3
  have hs1 : w.heap.size < W.heap.size := by rw [← hW]; simp
  have hs2 : W.heap.size < W2.heap.size := by rw [← hW2]; simp
  have hs3 : W2.heap.size < W3.heap.size := by rw [← hW3]; simp
  have HL : Hid (w.heap.size < W.heap.size ∧ W.heap.size < W2.heap.size ∧ W2.heap.size < W3.heap.size) := ⟨hs1, hs2, hs3⟩
  have P0 : Hid (W3.heap[w.heap.size]? = some (.cells #[.slice a0 n0 c0, .bool ok0] 68 (0, 0)) ∧ W3.heap[W.heap.size]? = some (.cells #[.int .i64 0, .string ⟨#[]⟩, .bool false, .int .i64 0, .int .i64 0, .int .i64 0, .string ⟨#[]⟩] 44 (0, 0)) ∧ W3.heap[W2.heap.size]? = some (.cells #[.slice none 0 0, .bool false] 68 (0, 0)) ∧ Below w.heap.size w W3 ∧ RI Bq W3 (.slice a0 n0 c0) ok0 s0) := ⟨hkeep b1.1 (chainB b2.2 b3.2), hkeep b2.1 b3.2, b3.1, chainB b1.2 (chainB b2.2 b3.2), h.below (chainB b1.2 (chainB b2.2 b3.2))⟩
  have x0 : W3.cell? ⟨w.heap.size, 0, none⟩ = some (.slice a0 n0 c0) := by rw [cell_of P0.out.1]; rfl
  have x1 : W3.cell? ⟨w.heap.size, 1, none⟩ = some (.bool ok0) := by rw [cell_of P0.out.1]; rfl
  clear b1 b2 b3 hs1 hs2 hs3 h
  obtain ⟨D1, hD1⟩ : ∃ D, keyF s0 = D := ⟨_, rfl⟩
  have H1 : Hid (∀ W a n c k, RI Bq W (.slice a n c) k s0 → Calls Try.prog 58 #[.agg #[.slice a n c, .bool k]] W fun e w' => ∃ a1 m1 c1 k1, e = .returned (.tuple #[.agg #[.int .i64 D1.1.d, .string D1.1.nm], .agg #[.slice a1 m1 c1, .bool k1]]) ∧ Hid (RI Bq w' (.slice a1 m1 c1) k1 D1.2) ∧ Below W.heap.size W w') := fun W a n c k hr => (key1_k hr).mono fun e w' ⟨b1, ok1, he, hr, hb⟩ => by
    obtain ⟨a1, m1, c1, rfl⟩ := hr.out.form
    rw [hD1] at he hr
    exact ⟨a1, m1, c1, ok1, he, hr, hb⟩
  obtain ⟨D2, hD2⟩ : ∃ D, octP D1.2 = D := ⟨_, rfl⟩
  have H2 : Hid (∀ W a n c k, RI Bq W (.slice a n c) k D1.2 → Calls Try.prog 28 #[.agg #[.slice a n c, .bool k]] W fun e w' => ∃ a1 m1 c1 k1, e = .returned (.tuple #[.int .i64 D2.1, .agg #[.slice a1 m1 c1, .bool k1]]) ∧ Hid (RI Bq w' (.slice a1 m1 c1) k1 D2.2) ∧ Below W.heap.size W w') := fun W a n c k hr => (byte_d hr).mono fun e w' ⟨b1, ok1, he, hr, hb⟩ => by
    obtain ⟨a1, m1, c1, rfl⟩ := hr.out.form
    rw [hD2] at he hr
    exact ⟨a1, m1, c1, ok1, he, hr, hb⟩
  have HE : Hid (entF s0 = if D2.1 = 1 then (⟨D1.1.d, D1.1.nm, true, 0, 0, 0, ⟨#[]⟩⟩, D2.2) else (⟨D1.1.d, D1.1.nm, false, (numF 6 1 0 D2.2).1, (octP (numF 6 1 0 D2.2).2).1, (numF 6 1 0 (octP (numF 6 1 0 D2.2).2).2).1, (strF (numF 6 1 0 (octP (numF 6 1 0 D2.2).2).2).2).1⟩, if D2.1 = 0 then (strF (numF 6 1 0 (octP (numF 6 1 0 D2.2).2).2).2).2 else none)) := by
    show _ = _
    rw [← hD2, ← hD1]
    rfl
  obtain ⟨EF, hEF⟩ : ∃ E, entF s0 = E := ⟨_, rfl⟩
  have HE2 := hEF.symm.trans HE.out
  have HEF : Hid (EF = if D2.1 = 1 then (⟨D1.1.d, D1.1.nm, true, 0, 0, 0, ⟨#[]⟩⟩, D2.2) else (⟨D1.1.d, D1.1.nm, false, (numF 6 1 0 D2.2).1, (octP (numF 6 1 0 D2.2).2).1, (numF 6 1 0 (octP (numF 6 1 0 D2.2).2).2).1, (strF (numF 6 1 0 (octP (numF 6 1 0 D2.2).2).2).2).1⟩, if D2.1 = 0 then (strF (numF 6 1 0 (octP (numF 6 1 0 D2.2).2).2).2).2 else none)) := HE2
  rw [hEF]
  clear HE HE2 hEF hD1 hD2
  go_enter Try.func30, Try.ntmps30
  go_upto_region 1 with fail
  clear hW hW2 hW3
  go_upto_region 2 with (go_at_call 58; refine (H1.out _ _ _ _ _ P0.out.2.2.2.2).mono ?_; rintro e w1 ⟨a1, n1, c1, k1, rfl, hr, hb⟩; clear x0 x1; obtain ⟨V, hV⟩ : ∃ V, w1.alloc (.cells #[.int .i64 D1.1.d, .string D1.1.nm] 40) = V := ⟨_, rfl⟩; have bV := boxB hV; have eB : V.heap[w.heap.size]? = some (.cells #[.slice a0 n0 c0, .bool ok0] 68 (0, 0)) := hkeep (hkeep P0.out.1 hb) bV.2; have v0 : V.cell? ⟨w.heap.size, 0, none⟩ = some (.slice a0 n0 c0) := (by rw [cell_of eB]; rfl); have v1 : V.cell? ⟨w.heap.size, 1, none⟩ = some (.bool ok0) := (by rw [cell_of eB]; rfl); have vf := free_of eB; have vg0 := vf 0; have vg1 := vf 1; clear vf; obtain ⟨Z1, hZ⟩ : ∃ Z, (V.setCell ⟨w.heap.size, 0, none⟩ (.slice a1 n1 c1)).setCell ⟨w.heap.size, 1, none⟩ (.bool k1) = Z := ⟨_, rfl⟩; have OV := over_in eB (chainB P0.out.2.2.2.1 (chainB hb bV.2)) (Nat.le_refl _) (hr.out.below bV.2) hZ; obtain ⟨y, hy⟩ : ∃ y, w1.heap.size = y := ⟨_, rfl⟩; have HY : Hid (W3.heap.size ≤ y) := (by show _ ≤ _; rw [← hy]; exact hb.size); have P1 : Hid (Z1.heap[w.heap.size]? = some (.cells #[.slice a1 n1 c1, .bool k1] 68 (0, 0)) ∧ Z1.heap[W.heap.size]? = some (.cells #[.int .i64 0, .string ⟨#[]⟩, .bool false, .int .i64 0, .int .i64 0, .int .i64 0, .string ⟨#[]⟩] 44 (0, 0)) ∧ Z1.heap[W2.heap.size]? = some (.cells #[.slice none 0 0, .bool false] 68 (0, 0)) ∧ Below w.heap.size w Z1 ∧ RI Bq Z1 (.slice a1 n1 c1) k1 D1.2 ∧ Z1.heap[y]? = some (.cells #[.int .i64 D1.1.d, .string D1.1.nm] 40 (0, 0))) := ⟨OV.1, (OV.2.2.2 _ (by have := HL.out; omega)).trans (hkeep (hkeep P0.out.2.1 hb) bV.2), (OV.2.2.2 _ (by have := HL.out; omega)).trans (hkeep (hkeep P0.out.2.2.1 hb) bV.2), OV.2.1, OV.2.2.1, (OV.2.2.2 _ (by have := HL.out; have := HY.out; omega)).trans (by rw [← hy]; exact bV.1)⟩; clear OV bV eB hr hb)
  clear hV hZ v0 v1 vg0 vg1
  clear hy
  have x0 : Z1.cell? ⟨w.heap.size, 0, none⟩ = some (.slice a1 n1 c1) := by rw [cell_of P1.out.1]; rfl
  have x1 : Z1.cell? ⟨w.heap.size, 1, none⟩ = some (.bool k1) := by rw [cell_of P1.out.1]; rfl
  go_upto_region 3 with (go_at_call 28; refine (H2.out _ _ _ _ _ P1.out.2.2.2.2.1).mono ?_; rintro e w2 ⟨a2, n2, c2, k2, rfl, hr, hb⟩; clear x0 x1; have eB := hkeep P1.out.1 hb; have v0 : w2.cell? ⟨w.heap.size, 0, none⟩ = some (.slice a1 n1 c1) := (by rw [cell_of eB]; rfl); have v1 : w2.cell? ⟨w.heap.size, 1, none⟩ = some (.bool k1) := (by rw [cell_of eB]; rfl); have vf := free_of eB; have vg0 := vf 0; have vg1 := vf 1; clear vf; obtain ⟨Z2, hZ⟩ : ∃ Z, (w2.setCell ⟨w.heap.size, 0, none⟩ (.slice a2 n2 c2)).setCell ⟨w.heap.size, 1, none⟩ (.bool k2) = Z := ⟨_, rfl⟩; have OV := over_in eB (chainB P1.out.2.2.2.1 hb) (Nat.le_refl _) hr.out hZ; have P2 : Hid (Z2.heap[w.heap.size]? = some (.cells #[.slice a2 n2 c2, .bool k2] 68 (0, 0)) ∧ Z2.heap[W.heap.size]? = some (.cells #[.int .i64 0, .string ⟨#[]⟩, .bool false, .int .i64 0, .int .i64 0, .int .i64 0, .string ⟨#[]⟩] 44 (0, 0)) ∧ Z2.heap[W2.heap.size]? = some (.cells #[.slice none 0 0, .bool false] 68 (0, 0)) ∧ Below w.heap.size w Z2 ∧ RI Bq Z2 (.slice a2 n2 c2) k2 D2.2 ∧ Z2.heap[y]? = some (.cells #[.int .i64 D1.1.d, .string D1.1.nm] 40 (0, 0))) := ⟨OV.1, (OV.2.2.2 _ (by have := HL.out; omega)).trans (hkeep P1.out.2.1 hb), (OV.2.2.2 _ (by have := HL.out; omega)).trans (hkeep P1.out.2.2.1 hb), OV.2.1, OV.2.2.1, (OV.2.2.2 _ (by have := HL.out; have := HY.out; omega)).trans (hkeep P1.out.2.2.2.2.2 hb)⟩; clear OV eB hr hb)
  clear hZ v0 v1 vg0 vg1
  by_cases hF : D2.1 = 1
  · have HV : Hid (EF = (⟨D1.1.d, D1.1.nm, true, 0, 0, 0, ⟨#[]⟩⟩, D2.2)) := (by show _ = _; rw [HEF.out, if_pos hF])
    have hFb : (D2.1 == 1) = true := by simpa using hF
    clear hF
    go_upto_region 4 with fail
    have s1 : ∀ w', Only (fun x => x = W.heap.size ∨ x = W2.heap.size) Z2.drew w' → w'.cell? ⟨y, 0, none⟩ = some (.int .i64 D1.1.d) ∧ w'.cell? ⟨y, 1, none⟩ = some (.string D1.1.nm) ∧ w'.cell? ⟨w.heap.size, 0, none⟩ = some (.slice a2 n2 c2) ∧ w'.cell? ⟨w.heap.size, 1, none⟩ = some (.bool k2) := fun w' ho => by
      have e0 : w'.heap[y]? = Z2.heap[y]? := ho.block _ (Array.getElem?_eq_some_iff.1 P2.out.2.2.2.2.2).1 (by have := HL.out; have := HY.out; omega)
      have e1 : w'.heap[w.heap.size]? = Z2.heap[w.heap.size]? := ho.block _ (Array.getElem?_eq_some_iff.1 P2.out.1).1 (by have := HL.out; have := HY.out; omega)
      exact ⟨(World.cell?_of_block e0).trans (by rw [cell_of P2.out.2.2.2.2.2]; rfl), (World.cell?_of_block e0).trans (by rw [cell_of P2.out.2.2.2.2.2]; rfl), (World.cell?_of_block e1).trans (by rw [cell_of P2.out.1]; rfl), (World.cell?_of_block e1).trans (by rw [cell_of P2.out.1]; rfl)⟩
    have s0 := s1 _ (Only.refl _ _)
    obtain ⟨Y, hY⟩ : ∃ Y, (((((((Z2.setCell ⟨W.heap.size, 0, none⟩ (.int .i64 D1.1.d)).setCell ⟨W.heap.size, 1, none⟩ (.string D1.1.nm)).setCell ⟨W.heap.size, 2, none⟩ (.bool true)).setCell ⟨W.heap.size, 3, none⟩ (.int .i64 0)).setCell ⟨W.heap.size, 4, none⟩ (.int .i64 0)).setCell ⟨W.heap.size, 5, none⟩ (.int .i64 0)).setCell ⟨W.heap.size, 6, none⟩ (.string ⟨#[]⟩)) = Y := ⟨_, rfl⟩
    have sY : Only (fun x => x = W.heap.size ∨ x = W2.heap.size) Z2 Y := by rw [← hY]; exact (only7 Z2 W.heap.size _ _ _ _ _ _ _).mono fun _ h => .inl h
    have sYd : Only (fun x => x = W.heap.size ∨ x = W2.heap.size) Z2.drew Y := ⟨sY.os, sY.tape, sY.output, sY.size, sY.block⟩
    have r0 : Z2.cell? ⟨W.heap.size, 0, none⟩ = some (.int .i64 0) := by rw [cell_of P2.out.2.1]; rfl
    have rg0 := free_of P2.out.2.1 0
    have r1 : Z2.cell? ⟨W.heap.size, 1, none⟩ = some (.string ⟨#[]⟩) := by rw [cell_of P2.out.2.1]; rfl
    have rg1 := free_of P2.out.2.1 1
    have r2 : Z2.cell? ⟨W.heap.size, 2, none⟩ = some (.bool false) := by rw [cell_of P2.out.2.1]; rfl
    have rg2 := free_of P2.out.2.1 2
    have r3 : Z2.cell? ⟨W.heap.size, 3, none⟩ = some (.int .i64 0) := by rw [cell_of P2.out.2.1]; rfl
    have rg3 := free_of P2.out.2.1 3
    have r4 : Z2.cell? ⟨W.heap.size, 4, none⟩ = some (.int .i64 0) := by rw [cell_of P2.out.2.1]; rfl
    have rg4 := free_of P2.out.2.1 4
    have r5 : Z2.cell? ⟨W.heap.size, 5, none⟩ = some (.int .i64 0) := by rw [cell_of P2.out.2.1]; rfl
    have rg5 := free_of P2.out.2.1 5
    have r6 : Z2.cell? ⟨W.heap.size, 6, none⟩ = some (.string ⟨#[]⟩) := by rw [cell_of P2.out.2.1]; rfl
    have rg6 := free_of P2.out.2.1 6
    have hYW : Y.heap[W.heap.size]? = some (.cells #[.int .i64 D1.1.d, .string D1.1.nm, .bool true, .int .i64 0, .int .i64 0, .int .i64 0, .string ⟨#[]⟩] 44 (0, 0)) := by rw [← hY]; exact set7 P2.out.2.1
    have hYq : Y.heap[W2.heap.size]? = some (.cells #[.slice none 0 0, .bool false] 68 (0, 0)) := (by rw [← hY]; exact ((only7 Z2 W.heap.size _ _ _ _ _ _ _).block _ (Array.getElem?_eq_some_iff.1 P2.out.2.2.1).1 (by have := HL.out; omega)).trans P2.out.2.2.1)
    have u0 : Y.cell? ⟨W2.heap.size, 0, none⟩ = some (.slice none 0 0) := by rw [cell_of hYq]; rfl
    have u1 : Y.cell? ⟨W2.heap.size, 1, none⟩ = some (.bool false) := by rw [cell_of hYq]; rfl
    have ug0 := free_of hYq 0
    have ug1 := free_of hYq 1
    have HF : Hid (Y.heap[W.heap.size]? = some (.cells #[.int .i64 D1.1.d, .string D1.1.nm, .bool true, .int .i64 0, .int .i64 0, .int .i64 0, .string ⟨#[]⟩] 44 (0, 0)) ∧ Y.heap[W2.heap.size]? = some (.cells #[.slice none 0 0, .bool false] 68 (0, 0)) ∧ Below w.heap.size w Y ∧ RI Bq Y (.slice a2 n2 c2) k2 D2.2) := ⟨hYW, hYq, below_on1 P2.out.2.2.2.1 (by rw [← hY]; exact only7 Z2 W.heap.size _ _ _ _ _ _ _) (by have := HL.out; omega), P2.out.2.2.2.2.1.farO P2.out.2.1 (no_u8 (by simp)) (by rw [← hY]; exact only7 Z2 W.heap.size _ _ _ _ _ _ _)⟩
    have sY2 := s1 Y sYd
    have sY3 : ∀ p p', Only (fun x => x = W.heap.size ∨ x = W2.heap.size) Z2.drew ((Y.setCell ⟨W2.heap.size, 0, none⟩ p).setCell ⟨W2.heap.size, 1, none⟩ p') := fun p p' => sYd.trans ((only2 Y W2.heap.size p p').mono fun _ h => .inr h)
    have sY4 := fun p p' => s1 _ (sY3 p p')
    clear hYW hYq sY sYd sY3 s1
    go_region_held3 (fun w' => w'.cell? ⟨y, 0, none⟩ = some (.int .i64 D1.1.d) ∧ w'.cell? ⟨y, 1, none⟩ = some (.string D1.1.nm) ∧ w'.cell? ⟨w.heap.size, 0, none⟩ = some (.slice a2 n2 c2) ∧ w'.cell? ⟨w.heap.size, 1, none⟩ = some (.bool k2)) (first | exact s0 | exact sY2 | exact sY4 _ _ | (rw [hY]; exact sY2)) (fail)
    go_wp2
    refine bodyPost_ret (ret_two rfl _ _ W.heap.size W2.heap.size rfl rfl (run_loadVar_row _ W.heap.size 44 44 #[.int .i64 D1.1.d, .string D1.1.nm, .bool true, .int .i64 0, .int .i64 0, .int .i64 0, .string ⟨#[]⟩] (0, 0) _ (by exact (two_ne (Nat.ne_of_lt HL.out.2.1)).trans HF.out.1) Try.underlying44 rfl Try.sizeEnt) (by exact set2 HF.out.2.1) rfl) rfl ?_
    rw [HV.out]
    exact ⟨_, _, rfl, (HF.out.2.2.2.far2 HF.out.2.1 _ _).below (Below.refl _ _).drew, (below2 _ _ HF.out.2.2.1 (Nat.le_of_lt (Nat.lt_trans HL.out.1 HL.out.2.1))).drew⟩
  · have hFb : (D2.1 == 1) = false := by simpa using hF
    obtain ⟨D3, hD3⟩ : ∃ D, numF 6 1 0 D2.2 = D := ⟨_, rfl⟩
    have H3 : Hid (∀ W a n c k, RI Bq W (.slice a n c) k D2.2 → Calls Try.prog 29 #[.agg #[.slice a n c, .bool k]] W fun e w' => ∃ a1 m1 c1 k1, e = .returned (.tuple #[.int .i64 D3.1, .agg #[.slice a1 m1 c1, .bool k1]]) ∧ Hid (RI Bq w' (.slice a1 m1 c1) k1 D3.2) ∧ Below W.heap.size W w') := fun W a n c k hr => (num_d hr).mono fun e w' ⟨b1, ok1, he, hr, hb⟩ => by
      obtain ⟨a1, m1, c1, rfl⟩ := hr.out.form
      rw [hD3] at he hr
      exact ⟨a1, m1, c1, ok1, he, hr, hb⟩
    obtain ⟨D4, hD4⟩ : ∃ D, octP D3.2 = D := ⟨_, rfl⟩
    have H4 : Hid (∀ W a n c k, RI Bq W (.slice a n c) k D3.2 → Calls Try.prog 28 #[.agg #[.slice a n c, .bool k]] W fun e w' => ∃ a1 m1 c1 k1, e = .returned (.tuple #[.int .i64 D4.1, .agg #[.slice a1 m1 c1, .bool k1]]) ∧ Hid (RI Bq w' (.slice a1 m1 c1) k1 D4.2) ∧ Below W.heap.size W w') := fun W a n c k hr => (byte_d hr).mono fun e w' ⟨b1, ok1, he, hr, hb⟩ => by
      obtain ⟨a1, m1, c1, rfl⟩ := hr.out.form
      rw [hD4] at he hr
      exact ⟨a1, m1, c1, ok1, he, hr, hb⟩
    obtain ⟨D5, hD5⟩ : ∃ D, numF 6 1 0 D4.2 = D := ⟨_, rfl⟩
    have H5 : Hid (∀ W a n c k, RI Bq W (.slice a n c) k D4.2 → Calls Try.prog 29 #[.agg #[.slice a n c, .bool k]] W fun e w' => ∃ a1 m1 c1 k1, e = .returned (.tuple #[.int .i64 D5.1, .agg #[.slice a1 m1 c1, .bool k1]]) ∧ Hid (RI Bq w' (.slice a1 m1 c1) k1 D5.2) ∧ Below W.heap.size W w') := fun W a n c k hr => (num_d hr).mono fun e w' ⟨b1, ok1, he, hr, hb⟩ => by
      obtain ⟨a1, m1, c1, rfl⟩ := hr.out.form
      rw [hD5] at he hr
      exact ⟨a1, m1, c1, ok1, he, hr, hb⟩
    obtain ⟨D6, hD6⟩ : ∃ D, strF D5.2 = D := ⟨_, rfl⟩
    have H6 : Hid (∀ W a n c k, RI Bq W (.slice a n c) k D5.2 → Calls Try.prog 61 #[.agg #[.slice a n c, .bool k]] W fun e w' => ∃ a1 m1 c1 k1, e = .returned (.tuple #[.string D6.1, .agg #[.slice a1 m1 c1, .bool k1]]) ∧ Hid (RI Bq w' (.slice a1 m1 c1) k1 D6.2) ∧ Below W.heap.size W w') := fun W a n c k hr => (str_d hr).mono fun e w' ⟨b1, ok1, he, hr, hb⟩ => by
      obtain ⟨a1, m1, c1, rfl⟩ := hr.out.form
      rw [hD6] at he hr
      exact ⟨a1, m1, c1, ok1, he, hr, hb⟩
    have HV : Hid (EF = (⟨D1.1.d, D1.1.nm, false, D3.1, D4.1, D5.1, D6.1⟩, if D2.1 = 0 then D6.2 else none)) := (by show _ = _; rw [HEF.out, if_neg hF, hD3, hD4, hD5, hD6])
    clear hF hD3 hD4 hD5 hD6
    go_upto_region 6 with fail
    obtain ⟨V3, hV3⟩ : ∃ V, Z2.alloc (.cells #[.int .i64 0, .int .i64 0, .int .i64 0, .string ⟨#[]⟩] 42) = V := ⟨_, rfl⟩
    obtain ⟨o, ho⟩ : ∃ o, Z2.heap.size = o := ⟨_, rfl⟩
    have bV := boxB hV3
    rw [ho] at bV
    have HO : Hid (y < o ∧ w.heap.size < o ∧ W.heap.size < o ∧ W2.heap.size < o) := by
      have e1 := (Array.getElem?_eq_some_iff.1 P2.out.2.2.2.2.2).1
      have e2 := (Array.getElem?_eq_some_iff.1 P2.out.1).1
      have e3 := (Array.getElem?_eq_some_iff.1 P2.out.2.1).1
      have e4 := (Array.getElem?_eq_some_iff.1 P2.out.2.2.1).1
      rw [ho] at e1 e2 e3 e4
      exact ⟨e1, e2, e3, e4⟩
    have bV2 : Below Z2.heap.size Z2 V3 := by rw [← hV3]; exact below_alloc _ _
    have G0 : Hid (OG Bq w V3 V3 w.heap.size o 42 (.slice a2 n2 c2) k2 D2.2 #[.int .i64 0, .int .i64 0, .int .i64 0, .string ⟨#[]⟩]) := ⟨hkeep P2.out.1 bV2, bV.1, chainB P2.out.2.2.2.1 bV2, P2.out.2.2.2.2.1.below bV2, Only.refl _ _⟩
    have P3 : Hid (V3.heap[W.heap.size]? = some (.cells #[.int .i64 0, .string ⟨#[]⟩, .bool false, .int .i64 0, .int .i64 0, .int .i64 0, .string ⟨#[]⟩] 44 (0, 0)) ∧ V3.heap[W2.heap.size]? = some (.cells #[.slice none 0 0, .bool false] 68 (0, 0)) ∧ V3.heap[y]? = some (.cells #[.int .i64 D1.1.d, .string D1.1.nm] 40 (0, 0))) := ⟨hkeep P2.out.2.1 bV2, hkeep P2.out.2.2.1 bV2, hkeep P2.out.2.2.2.2.2 bV2⟩
    have HI : Hid (w.heap.size ≠ o ∧ w.heap.size ≤ w.heap.size ∧ w.heap.size ≤ o) := ⟨by have := HO.out; omega, Nat.le_refl _, by have := HO.out; omega⟩
    rw [hV3, ho]
    clear hV3 ho bV bV2
    obtain ⟨x0, x1, -⟩ := G0.out.cells
    go_upto_region 7 with (go_at_call 29; refine (H3.out _ _ _ _ _ G0.out.ri).mono ?_; rintro e u3 ⟨a3, n3, c3, k3, rfl, hr, hb⟩; clear x0 x1; have PB := G0.out.below hb; obtain ⟨-, -, -, qo, qf⟩ := PB.cells; have q0 : u3.cell? ⟨o, 0, none⟩ = some (.int .i64 0) := qo 0; have qg := qf 0; clear qo qf; obtain ⟨Y3, hY⟩ : ∃ Y, u3.setCell ⟨o, 0, none⟩ (.int .i64 D3.1) = Y := ⟨_, rfl⟩; have hOY : Only (· = o) u3 Y3 := (by rw [← hY]; exact only1 _ _ _ _); have hown : Y3.heap[o]? = some (.cells #[.int .i64 D3.1, .int .i64 0, .int .i64 0, .string ⟨#[]⟩] 42 (0, 0)) := (by rw [← hY]; exact (heap_set PB.own 0 _).trans rfl); obtain ⟨y0, y1, yf⟩ := PB.put HI.out.1 hOY; have yg0 := yf 0; have yg1 := yf 1; clear yf; obtain ⟨X3, hZ⟩ : ∃ Z, (Y3.setCell ⟨w.heap.size, 0, none⟩ (.slice a3 n3 c3)).setCell ⟨w.heap.size, 1, none⟩ (.bool k3) = Z := ⟨_, rfl⟩; have G1 : Hid (OG Bq w V3 X3 w.heap.size o 42 (.slice a3 n3 c3) k3 D3.2 #[.int .i64 D3.1, .int .i64 0, .int .i64 0, .string ⟨#[]⟩]) := G0.out.step hb hr.out hOY hown hZ HI.out.1 HI.out.2.1 HI.out.2.2 (no_u8 (by simp)); clear PB hr hb hOY hown)
    clear hY hZ q0 qg y0 y1 yg0 yg1
    obtain ⟨x0, x1, xf, -⟩ := G1.out.cells
    clear xf
    go_upto_region 8 with (go_at_call 28; refine (H4.out _ _ _ _ _ G1.out.ri).mono ?_; rintro e u4 ⟨a4, n4, c4, k4, rfl, hr, hb⟩; clear x0 x1; have PB := G1.out.below hb; obtain ⟨-, -, -, qo, qf⟩ := PB.cells; have q0 : u4.cell? ⟨o, 1, none⟩ = some (.int .i64 0) := qo 1; have qg := qf 1; clear qo qf; obtain ⟨Y4, hY⟩ : ∃ Y, u4.setCell ⟨o, 1, none⟩ (.int .i64 D4.1) = Y := ⟨_, rfl⟩; have hOY : Only (· = o) u4 Y4 := (by rw [← hY]; exact only1 _ _ _ _); have hown : Y4.heap[o]? = some (.cells #[.int .i64 D3.1, .int .i64 D4.1, .int .i64 0, .string ⟨#[]⟩] 42 (0, 0)) := (by rw [← hY]; exact (heap_set PB.own 1 _).trans rfl); obtain ⟨y0, y1, yf⟩ := PB.put HI.out.1 hOY; have yg0 := yf 0; have yg1 := yf 1; clear yf; obtain ⟨X4, hZ⟩ : ∃ Z, (Y4.setCell ⟨w.heap.size, 0, none⟩ (.slice a4 n4 c4)).setCell ⟨w.heap.size, 1, none⟩ (.bool k4) = Z := ⟨_, rfl⟩; have G2 : Hid (OG Bq w V3 X4 w.heap.size o 42 (.slice a4 n4 c4) k4 D4.2 #[.int .i64 D3.1, .int .i64 D4.1, .int .i64 0, .string ⟨#[]⟩]) := G1.out.step hb hr.out hOY hown hZ HI.out.1 HI.out.2.1 HI.out.2.2 (no_u8 (by simp)); clear PB hr hb hOY hown)
    clear hY hZ q0 qg y0 y1 yg0 yg1
    obtain ⟨x0, x1, xf, -⟩ := G2.out.cells
    clear xf
    go_upto_region 9 with (go_at_call 29; refine (H5.out _ _ _ _ _ G2.out.ri).mono ?_; rintro e u5 ⟨a5, n5, c5, k5, rfl, hr, hb⟩; clear x0 x1; have PB := G2.out.below hb; obtain ⟨-, -, -, qo, qf⟩ := PB.cells; have q0 : u5.cell? ⟨o, 2, none⟩ = some (.int .i64 0) := qo 2; have qg := qf 2; clear qo qf; obtain ⟨Y5, hY⟩ : ∃ Y, u5.setCell ⟨o, 2, none⟩ (.int .i64 D5.1) = Y := ⟨_, rfl⟩; have hOY : Only (· = o) u5 Y5 := (by rw [← hY]; exact only1 _ _ _ _); have hown : Y5.heap[o]? = some (.cells #[.int .i64 D3.1, .int .i64 D4.1, .int .i64 D5.1, .string ⟨#[]⟩] 42 (0, 0)) := (by rw [← hY]; exact (heap_set PB.own 2 _).trans rfl); obtain ⟨y0, y1, yf⟩ := PB.put HI.out.1 hOY; have yg0 := yf 0; have yg1 := yf 1; clear yf; obtain ⟨X5, hZ⟩ : ∃ Z, (Y5.setCell ⟨w.heap.size, 0, none⟩ (.slice a5 n5 c5)).setCell ⟨w.heap.size, 1, none⟩ (.bool k5) = Z := ⟨_, rfl⟩; have G3 : Hid (OG Bq w V3 X5 w.heap.size o 42 (.slice a5 n5 c5) k5 D5.2 #[.int .i64 D3.1, .int .i64 D4.1, .int .i64 D5.1, .string ⟨#[]⟩]) := G2.out.step hb hr.out hOY hown hZ HI.out.1 HI.out.2.1 HI.out.2.2 (no_u8 (by simp)); clear PB hr hb hOY hown)
    clear hY hZ q0 qg y0 y1 yg0 yg1
    obtain ⟨x0, x1, xf, -⟩ := G3.out.cells
    clear xf
    go_upto_region 10 with (go_at_call 61; refine (H6.out _ _ _ _ _ G3.out.ri).mono ?_; rintro e u6 ⟨a6, n6, c6, k6, rfl, hr, hb⟩; clear x0 x1; have PB := G3.out.below hb; obtain ⟨-, -, -, qo, qf⟩ := PB.cells; have q0 : u6.cell? ⟨o, 3, none⟩ = some (.string ⟨#[]⟩) := qo 3; have qg := qf 3; clear qo qf; obtain ⟨Y6, hY⟩ : ∃ Y, u6.setCell ⟨o, 3, none⟩ (.string D6.1) = Y := ⟨_, rfl⟩; have hOY : Only (· = o) u6 Y6 := (by rw [← hY]; exact only1 _ _ _ _); have hown : Y6.heap[o]? = some (.cells #[.int .i64 D3.1, .int .i64 D4.1, .int .i64 D5.1, .string D6.1] 42 (0, 0)) := (by rw [← hY]; exact (heap_set PB.own 3 _).trans rfl); obtain ⟨y0, y1, yf⟩ := PB.put HI.out.1 hOY; have yg0 := yf 0; have yg1 := yf 1; clear yf; obtain ⟨X6, hZ⟩ : ∃ Z, (Y6.setCell ⟨w.heap.size, 0, none⟩ (.slice a6 n6 c6)).setCell ⟨w.heap.size, 1, none⟩ (.bool k6) = Z := ⟨_, rfl⟩; have G4 : Hid (OG Bq w V3 X6 w.heap.size o 42 (.slice a6 n6 c6) k6 D6.2 #[.int .i64 D3.1, .int .i64 D4.1, .int .i64 D5.1, .string D6.1]) := G3.out.step hb hr.out hOY hown hZ HI.out.1 HI.out.2.1 HI.out.2.2 (no_u8 (by simp)); clear PB hr hb hOY hown)
    clear hY hZ q0 qg y0 y1 yg0 yg1
    obtain ⟨x0, x1, xf, -⟩ := G4.out.cells
    obtain ⟨FB, hFB⟩ : ∃ B, (D2.1 == 0) = B := ⟨_, rfl⟩
    have HFB : Hid ((if D2.1 = 0 then D6.2 else none) = if FB then D6.2 else none) := by
      show _ = _
      by_cases h0 : D2.1 = 0
      · rw [if_pos h0]; rw [← hFB, h0]; rfl
      · have : (D2.1 == 0) = false := by simpa using h0
        rw [if_neg h0, ← hFB, this]; rfl
    have xg1 := xf 1
    clear xf
    go_cut [51] from 46 to 50 (fun x wx => x = .bool (k6 && FB) ∧ X6.setCell ⟨w.heap.size, 1, none⟩ (.bool (k6 && FB)) = wx)
    case first =>
      cases k6 with
      | true =>
        go_wp2_with fail
        go_meet
        exact ⟨by simp, by simp⟩
      | false =>
        go_wp2_with fail
        go_meet
        exact ⟨rfl, rfl⟩
    case rest =>
      obtain ⟨rfl, hX7⟩ := hcut
      obtain ⟨KF, hKF⟩ : ∃ B, (k6 && FB) = B := ⟨_, rfl⟩
      have HKF : Hid ((k6 && FB) = KF) := hKF
      rw [hKF] at hX7
      clear hKF hFB
      have hOX : Only (· = w.heap.size) X6 wc := by rw [← hX7]; exact only1 _ _ _ _
      have G5 : Hid (wc.heap[w.heap.size]? = some (.cells #[.slice a6 n6 c6, .bool KF] 68 (0, 0)) ∧ wc.heap[o]? = some (.cells #[.int .i64 D3.1, .int .i64 D4.1, .int .i64 D5.1, .string D6.1] 42 (0, 0)) ∧ wc.heap[W.heap.size]? = some (.cells #[.int .i64 0, .string ⟨#[]⟩, .bool false, .int .i64 0, .int .i64 0, .int .i64 0, .string ⟨#[]⟩] 44 (0, 0)) ∧ wc.heap[W2.heap.size]? = some (.cells #[.slice none 0 0, .bool false] 68 (0, 0)) ∧ wc.heap[y]? = some (.cells #[.int .i64 D1.1.d, .string D1.1.nm] 40 (0, 0)) ∧ Below w.heap.size w wc ∧ RI Bq wc (.slice a6 n6 c6) KF (if FB then D6.2 else none)) := by
        have hlt : ∀ x, x < V3.heap.size → x < X6.heap.size := fun x hx => Nat.lt_of_lt_of_le hx G4.out.only.size
        refine ⟨by rw [← hX7]; exact (heap_set G4.out.box 1 _).trans rfl, (hOX.block _ (Array.getElem?_eq_some_iff.1 G4.out.own).1 (by have := HO.out; omega)).trans G4.out.own, ?_, ?_, ?_, below_on1 G4.out.bel hOX (Nat.le_refl _), ?_⟩
        · have e := (Array.getElem?_eq_some_iff.1 P3.out.1).1
          exact (hOX.block _ (hlt _ e) (by have := HL.out; omega)).trans ((G4.out.only.block _ e (by have := HL.out; have := HO.out; omega)).trans P3.out.1)
        · have e := (Array.getElem?_eq_some_iff.1 P3.out.2.1).1
          exact (hOX.block _ (hlt _ e) (by have := HL.out; omega)).trans ((G4.out.only.block _ e (by have := HL.out; have := HO.out; omega)).trans P3.out.2.1)
        · have e := (Array.getElem?_eq_some_iff.1 P3.out.2.2).1
          exact (hOX.block _ (hlt _ e) (by have := HL.out; have := HY.out; omega)).trans ((G4.out.only.block _ e (by have := HL.out; have := HO.out; have := HY.out; omega)).trans P3.out.2.2)
        · have hri := G4.out.ri.farO G4.out.box (no_u8 (by simp)) hOX
          obtain ⟨l, h1, h2, h3, h4⟩ := hri
          refine ⟨l, h1, h2, h3, ?_⟩
          rw [← HKF.out]
          rcases h4 with ⟨hk, hs⟩ | ⟨hk, hs⟩
          · cases FB with
            | true => exact .inl ⟨by rw [hk]; rfl, by simpa using hs⟩
            | false => exact .inr ⟨by rw [hk]; rfl, rfl⟩
          · exact .inr ⟨by rw [hk]; rfl, by rw [hs]; cases FB <;> rfl⟩
      clear hOX x0 x1 xg1 hX7
      go_upto_region 11 with fail
      have s1 : ∀ w', Only (fun x => x = W.heap.size ∨ x = W2.heap.size) wc.drew w' → w'.cell? ⟨y, 0, none⟩ = some (.int .i64 D1.1.d) ∧ w'.cell? ⟨y, 1, none⟩ = some (.string D1.1.nm) ∧ w'.cell? ⟨o, 0, none⟩ = some (.int .i64 D3.1) ∧ w'.cell? ⟨o, 1, none⟩ = some (.int .i64 D4.1) ∧ w'.cell? ⟨o, 2, none⟩ = some (.int .i64 D5.1) ∧ w'.cell? ⟨o, 3, none⟩ = some (.string D6.1) ∧ w'.cell? ⟨w.heap.size, 0, none⟩ = some (.slice a6 n6 c6) ∧ w'.cell? ⟨w.heap.size, 1, none⟩ = some (.bool KF) := fun w' ho => by
        have e0 : w'.heap[y]? = wc.heap[y]? := ho.block _ (Array.getElem?_eq_some_iff.1 G5.out.2.2.2.2.1).1 (by have := HL.out; have := HY.out; have := HO.out; omega)
        have e1 : w'.heap[o]? = wc.heap[o]? := ho.block _ (Array.getElem?_eq_some_iff.1 G5.out.2.1).1 (by have := HL.out; have := HY.out; have := HO.out; omega)
        have e2 : w'.heap[w.heap.size]? = wc.heap[w.heap.size]? := ho.block _ (Array.getElem?_eq_some_iff.1 G5.out.1).1 (by have := HL.out; have := HY.out; have := HO.out; omega)
        exact ⟨(World.cell?_of_block e0).trans (by rw [cell_of G5.out.2.2.2.2.1]; rfl), (World.cell?_of_block e0).trans (by rw [cell_of G5.out.2.2.2.2.1]; rfl), (World.cell?_of_block e1).trans (by rw [cell_of G5.out.2.1]; rfl), (World.cell?_of_block e1).trans (by rw [cell_of G5.out.2.1]; rfl), (World.cell?_of_block e1).trans (by rw [cell_of G5.out.2.1]; rfl), (World.cell?_of_block e1).trans (by rw [cell_of G5.out.2.1]; rfl), (World.cell?_of_block e2).trans (by rw [cell_of G5.out.1]; rfl), (World.cell?_of_block e2).trans (by rw [cell_of G5.out.1]; rfl)⟩
      have s0 := s1 _ (Only.refl _ _)
      obtain ⟨Y, hY⟩ : ∃ Y, (((((((wc.setCell ⟨W.heap.size, 0, none⟩ (.int .i64 D1.1.d)).setCell ⟨W.heap.size, 1, none⟩ (.string D1.1.nm)).setCell ⟨W.heap.size, 2, none⟩ (.bool false)).setCell ⟨W.heap.size, 3, none⟩ (.int .i64 D3.1)).setCell ⟨W.heap.size, 4, none⟩ (.int .i64 D4.1)).setCell ⟨W.heap.size, 5, none⟩ (.int .i64 D5.1)).setCell ⟨W.heap.size, 6, none⟩ (.string D6.1)) = Y := ⟨_, rfl⟩
      have sY : Only (fun x => x = W.heap.size ∨ x = W2.heap.size) wc Y := by rw [← hY]; exact (only7 wc W.heap.size _ _ _ _ _ _ _).mono fun _ h => .inl h
      have sYd : Only (fun x => x = W.heap.size ∨ x = W2.heap.size) wc.drew Y := ⟨sY.os, sY.tape, sY.output, sY.size, sY.block⟩
      have r0 : wc.cell? ⟨W.heap.size, 0, none⟩ = some (.int .i64 0) := by rw [cell_of G5.out.2.2.1]; rfl
      have rg0 := free_of G5.out.2.2.1 0
      have r1 : wc.cell? ⟨W.heap.size, 1, none⟩ = some (.string ⟨#[]⟩) := by rw [cell_of G5.out.2.2.1]; rfl
      have rg1 := free_of G5.out.2.2.1 1
      have r2 : wc.cell? ⟨W.heap.size, 2, none⟩ = some (.bool false) := by rw [cell_of G5.out.2.2.1]; rfl
      have rg2 := free_of G5.out.2.2.1 2
      have r3 : wc.cell? ⟨W.heap.size, 3, none⟩ = some (.int .i64 0) := by rw [cell_of G5.out.2.2.1]; rfl
      have rg3 := free_of G5.out.2.2.1 3
      have r4 : wc.cell? ⟨W.heap.size, 4, none⟩ = some (.int .i64 0) := by rw [cell_of G5.out.2.2.1]; rfl
      have rg4 := free_of G5.out.2.2.1 4
      have r5 : wc.cell? ⟨W.heap.size, 5, none⟩ = some (.int .i64 0) := by rw [cell_of G5.out.2.2.1]; rfl
      have rg5 := free_of G5.out.2.2.1 5
      have r6 : wc.cell? ⟨W.heap.size, 6, none⟩ = some (.string ⟨#[]⟩) := by rw [cell_of G5.out.2.2.1]; rfl
      have rg6 := free_of G5.out.2.2.1 6
      have hYW : Y.heap[W.heap.size]? = some (.cells #[.int .i64 D1.1.d, .string D1.1.nm, .bool false, .int .i64 D3.1, .int .i64 D4.1, .int .i64 D5.1, .string D6.1] 44 (0, 0)) := by rw [← hY]; exact set7 G5.out.2.2.1
      have hYq : Y.heap[W2.heap.size]? = some (.cells #[.slice none 0 0, .bool false] 68 (0, 0)) := (by rw [← hY]; exact ((only7 wc W.heap.size _ _ _ _ _ _ _).block _ (Array.getElem?_eq_some_iff.1 G5.out.2.2.2.1).1 (by have := HL.out; omega)).trans G5.out.2.2.2.1)
      have u0 : Y.cell? ⟨W2.heap.size, 0, none⟩ = some (.slice none 0 0) := by rw [cell_of hYq]; rfl
      have u1 : Y.cell? ⟨W2.heap.size, 1, none⟩ = some (.bool false) := by rw [cell_of hYq]; rfl
      have ug0 := free_of hYq 0
      have ug1 := free_of hYq 1
      have HF : Hid (Y.heap[W.heap.size]? = some (.cells #[.int .i64 D1.1.d, .string D1.1.nm, .bool false, .int .i64 D3.1, .int .i64 D4.1, .int .i64 D5.1, .string D6.1] 44 (0, 0)) ∧ Y.heap[W2.heap.size]? = some (.cells #[.slice none 0 0, .bool false] 68 (0, 0)) ∧ Below w.heap.size w Y ∧ RI Bq Y (.slice a6 n6 c6) KF (if FB then D6.2 else none)) := ⟨hYW, hYq, below_on1 G5.out.2.2.2.2.2.1 (by rw [← hY]; exact only7 wc W.heap.size _ _ _ _ _ _ _) (by have := HL.out; omega), G5.out.2.2.2.2.2.2.farO G5.out.2.2.1 (no_u8 (by simp)) (by rw [← hY]; exact only7 wc W.heap.size _ _ _ _ _ _ _)⟩
      have sY2 := s1 Y sYd
      have sY3 : ∀ p p', Only (fun x => x = W.heap.size ∨ x = W2.heap.size) wc.drew ((Y.setCell ⟨W2.heap.size, 0, none⟩ p).setCell ⟨W2.heap.size, 1, none⟩ p') := fun p p' => sYd.trans ((only2 Y W2.heap.size p p').mono fun _ h => .inr h)
      have sY4 := fun p p' => s1 _ (sY3 p p')
      clear hYW hYq sY sYd sY3 s1
      go_region_held3 (fun w' => w'.cell? ⟨y, 0, none⟩ = some (.int .i64 D1.1.d) ∧ w'.cell? ⟨y, 1, none⟩ = some (.string D1.1.nm) ∧ w'.cell? ⟨o, 0, none⟩ = some (.int .i64 D3.1) ∧ w'.cell? ⟨o, 1, none⟩ = some (.int .i64 D4.1) ∧ w'.cell? ⟨o, 2, none⟩ = some (.int .i64 D5.1) ∧ w'.cell? ⟨o, 3, none⟩ = some (.string D6.1) ∧ w'.cell? ⟨w.heap.size, 0, none⟩ = some (.slice a6 n6 c6) ∧ w'.cell? ⟨w.heap.size, 1, none⟩ = some (.bool KF)) (first | exact s0 | exact sY2 | exact sY4 _ _ | (rw [hY]; exact sY2)) (fail)
      go_wp2
      refine bodyPost_ret (ret_two rfl _ _ W.heap.size W2.heap.size rfl rfl (run_loadVar_row _ W.heap.size 44 44 #[.int .i64 D1.1.d, .string D1.1.nm, .bool false, .int .i64 D3.1, .int .i64 D4.1, .int .i64 D5.1, .string D6.1] (0, 0) _ (by exact (two_ne (Nat.ne_of_lt HL.out.2.1)).trans HF.out.1) Try.underlying44 rfl Try.sizeEnt) (by exact set2 HF.out.2.1) rfl) rfl ?_
      rw [HV.out, HFB.out]
      exact ⟨_, _, rfl, (HF.out.2.2.2.far2 HF.out.2.1 _ _).below (Below.refl _ _).drew, (below2 _ _ HF.out.2.2.1 (Nat.le_of_lt (Nat.lt_trans HL.out.1 HL.out.2.1))).drew⟩
end
end Go.Proofs.Ytekonakanieeaaa
