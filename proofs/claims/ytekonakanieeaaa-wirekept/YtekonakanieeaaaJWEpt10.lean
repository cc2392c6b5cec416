/- The document's own reading of bytes: a number. -/
import Derived.Test.YtekonakanieeaaaJWEpt09
import Derived.Test.YtekonakanieeaaaJWEpt08
namespace Go.Proofs.Ytekonakanieeaaa
section
open Go.RowKit Go.Lib
variable {Bq : Nat}

/-- what a number's reading has, round by round -/
structure Nm (Bq : Nat) (w wr : World) (i r : Nat) (b : Value) (ok : Bool) (s0 s : St) (q : Nat) (U V : Int) : Prop where
  eq : numF 6 1 0 s0 = numF (6 - q) U V s
  ri : RI Bq wr b ok s
  box : wr.heap[i]? = some (.cells #[b, .bool ok] 68 (0, 0))
  res : wr.heap[r]? = some (.cells #[.slice none 0 0, .bool false] 68 (0, 0))
  bel : Below w.heap.size w wr
  hU : 1 ≤ U ∧ U ≤ 34359738368 ∨ q = 6
  hV : 0 ≤ V ∧ V ≤ 4398046511103
  hs : U = 128 ^ q
  hv : V < 128 ^ q
theorem two_ne {w : World} {g k : Nat} {x0 x1 : Value} (h : k ≠ g) : ((w.setCell ⟨g, 0, none⟩ x0).setCell ⟨g, 1, none⟩ x1).heap[k]? = w.heap[k]? := (heap_set_ne h).trans (heap_set_ne h)
/-- a box of another make written over -/
theorem RI.far2 {w : World} {b : Value} {ok : Bool} {s : St} {g : Nat} {a : Option Addr} {n c : Nat} {k : Bool} {t : TypeId} (h : RI Bq w b ok s) (hb : w.heap[g]? = some (.cells #[.slice a n c, .bool k] t (0, 0))) (x0 x1 : Value) : RI Bq ((w.setCell ⟨g, 0, none⟩ x0).setCell ⟨g, 1, none⟩ x1) b ok s := by
  obtain ⟨l, ⟨a', c', e, hcap, hc⟩, h2⟩ := h
  refine ⟨l, ⟨a', c', e, hcap, ?_⟩, h2⟩
  rcases hc with hc | ⟨g', off, e', hg, hc⟩
  · exact .inl hc
  · cases l with
    | nil => exact .inl rfl
    | cons x l =>
      have hne : g' ≠ g := by
        rintro rfl
        have h0 := hc 0 x rfl
        rw [cell_of hb] at h0
        match off, h0 with
        | 0, h0 => simp at h0
        | 1, h0 => simp at h0
        | k + 2, h0 => simp at h0
      refine .inr ⟨g', off, e', by simp [World.setCell]; exact hg, fun i y hy => ?_⟩
      rw [World.cell?_of_block (two_ne hne)]
      exact hc i y hy
theorem cell2_ne {w : World} {g k i : Nat} {x0 x1 : Value} (h : k ≠ g) : ((w.setCell ⟨g, 0, none⟩ x0).setCell ⟨g, 1, none⟩ x1).cell? ⟨k, i, none⟩ = w.cell? ⟨k, i, none⟩ := World.cell?_of_block (two_ne h)
theorem RI.ok_some {w : World} {b : Value} {ok : Bool} {l : List Int} (h : RI Bq w b ok (some l)) : ok = true := by
  obtain ⟨_, _, _, _, ho⟩ := h
  rcases ho with ⟨e, _⟩ | ⟨_, e⟩
  · exact e
  · cases e
theorem RI.ok_none {w : World} {b : Value} {ok : Bool} (h : RI Bq w b ok none) : ok = false := by
  obtain ⟨_, _, _, _, ho⟩ := h
  rcases ho with ⟨_, e⟩ | ⟨e, _⟩
  · cases e
  · exact e
theorem RI.form {w : World} {b : Value} {ok : Bool} {s : St} (h : RI Bq w b ok s) : ∃ a n c, b = .slice a n c := by
  obtain ⟨l, ⟨a, c, h, _⟩, _⟩ := h
  exact ⟨_, _, _, h⟩

set_option maxRecDepth 20000 in
set_option maxHeartbeats 4000000 in
theorem num_d {w : World} {b0 : Value} {ok0 : Bool} {s0 : St} (h : RI Bq w b0 ok0 s0) : Calls Try.prog 29 #[.agg #[b0, .bool ok0]] w fun e w' => RdI Bq (.int .i64 (numF 6 1 0 s0).1) (numF 6 1 0 s0).2 w w' e := by
  obtain ⟨a0, n0, c0, rfl⟩ := h.form
  obtain ⟨F, hF⟩ : ∃ F, numF 6 1 0 s0 = F := ⟨_, rfl⟩
  rw [hF]
  obtain ⟨W, hW⟩ : ∃ W, w.alloc (.cells #[.slice a0 n0 c0, .bool ok0] 68) = W := ⟨_, rfl⟩
  obtain ⟨W2, hW2⟩ : ∃ W2, W.alloc (.cells #[.slice none 0 0, .bool false] 68) = W2 := ⟨_, rfl⟩
  obtain ⟨n1, n2, hbl, hle⟩ := boxesI hW hW2
  have hlW : w.heap.size < W.heap.size := by rw [← hW]; simp
  have HN : Hid (Nm Bq w W2 w.heap.size W.heap.size (.slice a0 n0 c0) ok0 s0 s0 0 1 0 ∧ numF 6 1 0 s0 = F ∧ w.heap.size < W.heap.size) := ⟨⟨rfl, h.below hbl, n1, n2, hbl, .inl (by omega), by omega, rfl, by decide⟩, hF, hlW⟩
  clear n1 n2 hbl hle hlW h hF
  go_enter Try.func29, Try.ntmps29
  go_upto_region 1 with fail
  clear hW hW2
  go_wp2
  go_loopw [4, 5, 6] (fun v u k wr => ∃ (q : Nat) (V U : Int) (b : Value) (ok : Bool) (s : St), q ≤ 6 ∧ v = .int .i64 V ∧ u = .int .i64 U ∧ k = .int .i64 q ∧ Hid (Nm Bq w wr w.heap.size W.heap.size b ok s0 s q U V)) (fun _ _ k _ => 6 - (intOf k).toNat)
  case atStart => exact ⟨0, 0, 1, _, _, _, by omega, rfl, rfl, rfl, HN.out.1⟩
  case round =>
    obtain ⟨q, V, U, b, ok, s, hq, rfl, rfl, rfl, hI⟩ := hrel
    obtain ⟨a, n, c, rfl⟩ := hI.out.ri.form
    have x0 : wr.cell? ⟨w.heap.size, 0, none⟩ = some (.slice a n c) := by rw [cell_of hI.out.box]; rfl
    have x1 : wr.cell? ⟨w.heap.size, 1, none⟩ = some (.bool ok) := by rw [cell_of hI.out.box]; rfl
    have r0 : wr.cell? ⟨W.heap.size, 0, none⟩ = some (.slice none 0 0) := by rw [cell_of hI.out.res]; rfl
    have r1 : wr.cell? ⟨W.heap.size, 1, none⟩ = some (.bool false) := by rw [cell_of hI.out.res]; rfl
    have rf := free_of hI.out.res
    by_cases hlt : q < 6
    · have hki : (q : Int) < 6 := by omega
      have hwl : w.heap.size < W.heap.size := HN.out.2.2
      rcases hs : s with _ | l
      · subst hs
        have HBy : Hid (Calls Try.prog 28 #[.agg #[.slice a n c, .bool ok]] wr fun e w' => ∃ a1 m1 c1, e = .returned (.tuple #[.int .i64 0, .agg #[.slice a1 m1 c1, .bool false]]) ∧ Hid (RI Bq w' (.slice a1 m1 c1) false none) ∧ Below wr.heap.size wr w') := (byte_d hI.out.ri).mono fun e w' ⟨b1, ok1, he, hr, hb⟩ => by
          obtain ⟨a1, m1, c1, rfl⟩ := hr.out.form
          obtain rfl := hr.out.ok_none
          exact ⟨a1, m1, c1, he, hr, hb⟩
        go_wp2_with (go_at_call 28; refine HBy.out.mono ?_; rintro e w1 ⟨a1, m1, c1, rfl, hr1, hb1⟩; obtain ⟨X, hX⟩ : ∃ X, w1.alloc (.cells #[.slice none 0 0, .bool false] 68) = X := ⟨_, rfl⟩; obtain ⟨Y, hY⟩ : ∃ Y, (X.setCell ⟨w1.heap.size, 0, none⟩ (.slice a1 m1 c1)).setCell ⟨w1.heap.size, 1, none⟩ (.bool false) = Y := ⟨_, rfl⟩; have XB := boxB hX; have xc0 : X.cell? ⟨w1.heap.size, 0, none⟩ = some (.slice none 0 0) := (by rw [cell_of XB.1]; rfl); have xc1 : X.cell? ⟨w1.heap.size, 1, none⟩ = some (.bool false) := (by rw [cell_of XB.1]; rfl); have xcf := free_of XB.1; have hYB : Y.heap[w1.heap.size]? = some (.cells #[.slice a1 m1 c1, .bool false] 68 (0, 0)) ∧ Below w1.heap.size w1 Y := (by rw [← hY]; exact ⟨set2 XB.1, below2 _ _ XB.2 (Nat.le_refl _)⟩); have YB : Hid (Y.heap[w1.heap.size]? = some (.cells #[.slice a1 m1 c1, .bool false] 68 (0, 0)) ∧ Y.heap[w.heap.size]? = some (.cells #[.slice a n c, .bool ok] 68 (0, 0)) ∧ Y.heap[W.heap.size]? = some (.cells #[.slice none 0 0, .bool false] 68 (0, 0)) ∧ Below wr.heap.size wr Y ∧ W.heap.size < w1.heap.size ∧ RI Bq Y (.slice a1 m1 c1) false none) := ⟨hYB.1, hkeep hI.out.box (chainB hb1 hYB.2), hkeep hI.out.res (chainB hb1 hYB.2), chainB hb1 hYB.2, Nat.lt_of_lt_of_le (Array.getElem?_eq_some_iff.1 hI.out.res).1 hb1.size, hr1.out.below hYB.2⟩; have y0 : Y.cell? ⟨w1.heap.size, 0, none⟩ = some (.slice a1 m1 c1) := (by rw [cell_of YB.out.1]; rfl); have y1 : Y.cell? ⟨w1.heap.size, 1, none⟩ = some (.bool false) := (by rw [cell_of YB.out.1]; rfl); have t0 : Y.cell? ⟨w.heap.size, 0, none⟩ = some (.slice a n c) := (by rw [cell_of YB.out.2.1]; rfl); have t1 : Y.cell? ⟨w.heap.size, 1, none⟩ = some (.bool ok) := (by rw [cell_of YB.out.2.1]; rfl); have tf := free_of YB.out.2.1; have v0 : Y.cell? ⟨W.heap.size, 0, none⟩ = some (.slice none 0 0) := (by rw [cell_of YB.out.2.2.1]; rfl); have v1 : Y.cell? ⟨W.heap.size, 1, none⟩ = some (.bool false) := (by rw [cell_of YB.out.2.2.1]; rfl); have vf := free_of YB.out.2.2.1; clear hr1 hb1 x0 x1 r0 r1 rf XB hYB)
        have hF0 : F = (0, none) := by
          rw [← HN.out.2.1, hI.out.eq, show 6 - q = (6 - (q + 1)) + 1 by omega]
          rfl
        have hYne : w1.heap.size ≠ W.heap.size := Nat.ne_of_gt YB.out.2.2.2.2.1
        have s0 : Y.drew.cell? ⟨w1.heap.size, 0, none⟩ = some (.slice a1 m1 c1) ∧ Y.drew.cell? ⟨w1.heap.size, 1, none⟩ = some (.bool false) := ⟨y0, y1⟩
        have s1 : ∀ p p', ((Y.drew.setCell ⟨W.heap.size, 0, none⟩ p).setCell ⟨W.heap.size, 1, none⟩ p').cell? ⟨w1.heap.size, 0, none⟩ = some (.slice a1 m1 c1) ∧ ((Y.drew.setCell ⟨W.heap.size, 0, none⟩ p).setCell ⟨W.heap.size, 1, none⟩ p').cell? ⟨w1.heap.size, 1, none⟩ = some (.bool false) := fun p p' => ⟨(cell2_ne hYne).trans y0, (cell2_ne hYne).trans y1⟩
        have vg0 := vf 0
        have vg1 := vf 1
        clear hX hY
        go_region_held3 (fun w' => w'.cell? ⟨w1.heap.size, 0, none⟩ = some (.slice a1 m1 c1) ∧ w'.cell? ⟨w1.heap.size, 1, none⟩ = some (.bool false)) (first | exact s0 | exact s1 _ _) (fail)
        go_wp2
        refine bodyPost_ret (ret_in rfl _ _ W.heap.size rfl (by exact set2 YB.out.2.2.1) rfl) rfl ?_
        rw [hF0]
        exact ⟨_, _, rfl, (YB.out.2.2.2.2.2.far2 YB.out.2.2.1 _ _).below (Below.refl _ _).drew, (below2 _ _ (chainB hI.out.bel YB.out.2.2.2.1) (Nat.le_of_lt HN.out.2.2)).drew⟩
      · cases l with
        | nil =>
          subst hs
          have HBy : Hid (Calls Try.prog 28 #[.agg #[.slice a n c, .bool ok]] wr fun e w' => ∃ a1 m1 c1, e = .returned (.tuple #[.int .i64 0, .agg #[.slice a1 m1 c1, .bool false]]) ∧ Hid (RI Bq w' (.slice a1 m1 c1) false none) ∧ Below wr.heap.size wr w') := (byte_d hI.out.ri).mono fun e w' ⟨b1, ok1, he, hr, hb⟩ => by
            obtain ⟨a1, m1, c1, rfl⟩ := hr.out.form
            obtain rfl := hr.out.ok_none
            exact ⟨a1, m1, c1, he, hr, hb⟩
          go_wp2_with (go_at_call 28; refine HBy.out.mono ?_; rintro e w1 ⟨a1, m1, c1, rfl, hr1, hb1⟩; obtain ⟨X, hX⟩ : ∃ X, w1.alloc (.cells #[.slice none 0 0, .bool false] 68) = X := ⟨_, rfl⟩; obtain ⟨Y, hY⟩ : ∃ Y, (X.setCell ⟨w1.heap.size, 0, none⟩ (.slice a1 m1 c1)).setCell ⟨w1.heap.size, 1, none⟩ (.bool false) = Y := ⟨_, rfl⟩; have XB := boxB hX; have xc0 : X.cell? ⟨w1.heap.size, 0, none⟩ = some (.slice none 0 0) := (by rw [cell_of XB.1]; rfl); have xc1 : X.cell? ⟨w1.heap.size, 1, none⟩ = some (.bool false) := (by rw [cell_of XB.1]; rfl); have xcf := free_of XB.1; have hYB : Y.heap[w1.heap.size]? = some (.cells #[.slice a1 m1 c1, .bool false] 68 (0, 0)) ∧ Below w1.heap.size w1 Y := (by rw [← hY]; exact ⟨set2 XB.1, below2 _ _ XB.2 (Nat.le_refl _)⟩); have YB : Hid (Y.heap[w1.heap.size]? = some (.cells #[.slice a1 m1 c1, .bool false] 68 (0, 0)) ∧ Y.heap[w.heap.size]? = some (.cells #[.slice a n c, .bool ok] 68 (0, 0)) ∧ Y.heap[W.heap.size]? = some (.cells #[.slice none 0 0, .bool false] 68 (0, 0)) ∧ Below wr.heap.size wr Y ∧ W.heap.size < w1.heap.size ∧ RI Bq Y (.slice a1 m1 c1) false none) := ⟨hYB.1, hkeep hI.out.box (chainB hb1 hYB.2), hkeep hI.out.res (chainB hb1 hYB.2), chainB hb1 hYB.2, Nat.lt_of_lt_of_le (Array.getElem?_eq_some_iff.1 hI.out.res).1 hb1.size, hr1.out.below hYB.2⟩; have y0 : Y.cell? ⟨w1.heap.size, 0, none⟩ = some (.slice a1 m1 c1) := (by rw [cell_of YB.out.1]; rfl); have y1 : Y.cell? ⟨w1.heap.size, 1, none⟩ = some (.bool false) := (by rw [cell_of YB.out.1]; rfl); have t0 : Y.cell? ⟨w.heap.size, 0, none⟩ = some (.slice a n c) := (by rw [cell_of YB.out.2.1]; rfl); have t1 : Y.cell? ⟨w.heap.size, 1, none⟩ = some (.bool ok) := (by rw [cell_of YB.out.2.1]; rfl); have tf := free_of YB.out.2.1; have v0 : Y.cell? ⟨W.heap.size, 0, none⟩ = some (.slice none 0 0) := (by rw [cell_of YB.out.2.2.1]; rfl); have v1 : Y.cell? ⟨W.heap.size, 1, none⟩ = some (.bool false) := (by rw [cell_of YB.out.2.2.1]; rfl); have vf := free_of YB.out.2.2.1; clear hr1 hb1 x0 x1 r0 r1 rf XB hYB)
          have hF0 : F = (0, none) := by
            rw [← HN.out.2.1, hI.out.eq, show 6 - q = (6 - (q + 1)) + 1 by omega]
            rfl
          have hYne : w1.heap.size ≠ W.heap.size := Nat.ne_of_gt YB.out.2.2.2.2.1
          have s0 : Y.drew.cell? ⟨w1.heap.size, 0, none⟩ = some (.slice a1 m1 c1) ∧ Y.drew.cell? ⟨w1.heap.size, 1, none⟩ = some (.bool false) := ⟨y0, y1⟩
          have s1 : ∀ p p', ((Y.drew.setCell ⟨W.heap.size, 0, none⟩ p).setCell ⟨W.heap.size, 1, none⟩ p').cell? ⟨w1.heap.size, 0, none⟩ = some (.slice a1 m1 c1) ∧ ((Y.drew.setCell ⟨W.heap.size, 0, none⟩ p).setCell ⟨W.heap.size, 1, none⟩ p').cell? ⟨w1.heap.size, 1, none⟩ = some (.bool false) := fun p p' => ⟨(cell2_ne hYne).trans y0, (cell2_ne hYne).trans y1⟩
          have vg0 := vf 0
          have vg1 := vf 1
          clear hX hY
          go_region_held3 (fun w' => w'.cell? ⟨w1.heap.size, 0, none⟩ = some (.slice a1 m1 c1) ∧ w'.cell? ⟨w1.heap.size, 1, none⟩ = some (.bool false)) (first | exact s0 | exact s1 _ _) (fail)
          go_wp2
          refine bodyPost_ret (ret_in rfl _ _ W.heap.size rfl (by exact set2 YB.out.2.2.1) rfl) rfl ?_
          rw [hF0]
          exact ⟨_, _, rfl, (YB.out.2.2.2.2.2.far2 YB.out.2.2.1 _ _).below (Below.refl _ _).drew, (below2 _ _ (chainB hI.out.bel YB.out.2.2.2.1) (Nat.le_of_lt HN.out.2.2)).drew⟩
        | cons x l =>
          subst hs
          have hxb : 0 ≤ x ∧ x < 256 := by
            obtain ⟨l', _, hby, _, ho⟩ := hI.out.ri
            rcases ho with ⟨_, e⟩ | ⟨_, e⟩
            · cases e; exact hby.1 x (by simp)
            · cases e
          have hUb : 1 ≤ U ∧ U ≤ 34359738368 := by rcases hI.out.hU with h | h; exact h; omega
          have hVb := hI.out.hV
          have hPb : 0 ≤ x % 128 * U ∧ x % 128 * U ≤ 4363686772736 := by
            have h1 : 0 ≤ x % 128 ∧ x % 128 ≤ 127 := by omega
            exact ⟨Int.mul_nonneg h1.1 (by omega), Int.le_trans (Int.mul_le_mul h1.2 hUb.2 (by omega) (by omega)) (by decide)⟩
          have hVs : V ≤ 34359738367 := by
            have := hI.out.hv
            have h5 : (128 : Int) ^ q ≤ 34359738368 := by rw [← hI.out.hs]; exact hUb.2
            omega
          have HBy : Hid (Calls Try.prog 28 #[.agg #[.slice a n c, .bool ok]] wr fun e w' => ∃ a1 m1 c1, e = .returned (.tuple #[.int .i64 x, .agg #[.slice a1 m1 c1, .bool true]]) ∧ Hid (RI Bq w' (.slice a1 m1 c1) true (some l)) ∧ Below wr.heap.size wr w') := (byte_d hI.out.ri).mono fun e w' ⟨b1, ok1, he, hr, hb⟩ => by
            obtain ⟨a1, m1, c1, rfl⟩ := hr.out.form
            obtain rfl := hr.out.ok_some
            exact ⟨a1, m1, c1, he, hr, hb⟩
          by_cases hx : x < 128
          · have hxd : decide (x < 128) = true := decide_eq_true hx
            go_wp2_with (go_at_call 28; refine HBy.out.mono ?_; rintro e w1 ⟨a1, m1, c1, rfl, hr1, hb1⟩; obtain ⟨X, hX⟩ : ∃ X, w1.alloc (.cells #[.slice none 0 0, .bool false] 68) = X := ⟨_, rfl⟩; obtain ⟨Y, hY⟩ : ∃ Y, (X.setCell ⟨w1.heap.size, 0, none⟩ (.slice a1 m1 c1)).setCell ⟨w1.heap.size, 1, none⟩ (.bool true) = Y := ⟨_, rfl⟩; have XB := boxB hX; have xc0 : X.cell? ⟨w1.heap.size, 0, none⟩ = some (.slice none 0 0) := (by rw [cell_of XB.1]; rfl); have xc1 : X.cell? ⟨w1.heap.size, 1, none⟩ = some (.bool false) := (by rw [cell_of XB.1]; rfl); have xcf := free_of XB.1; have hYB : Y.heap[w1.heap.size]? = some (.cells #[.slice a1 m1 c1, .bool true] 68 (0, 0)) ∧ Below w1.heap.size w1 Y := (by rw [← hY]; exact ⟨set2 XB.1, below2 _ _ XB.2 (Nat.le_refl _)⟩); have YB : Hid (Y.heap[w1.heap.size]? = some (.cells #[.slice a1 m1 c1, .bool true] 68 (0, 0)) ∧ Y.heap[w.heap.size]? = some (.cells #[.slice a n c, .bool ok] 68 (0, 0)) ∧ Y.heap[W.heap.size]? = some (.cells #[.slice none 0 0, .bool false] 68 (0, 0)) ∧ Below wr.heap.size wr Y ∧ W.heap.size < w1.heap.size ∧ RI Bq Y (.slice a1 m1 c1) true (some l)) := ⟨hYB.1, hkeep hI.out.box (chainB hb1 hYB.2), hkeep hI.out.res (chainB hb1 hYB.2), chainB hb1 hYB.2, Nat.lt_of_lt_of_le (Array.getElem?_eq_some_iff.1 hI.out.res).1 hb1.size, hr1.out.below hYB.2⟩; have y0 : Y.cell? ⟨w1.heap.size, 0, none⟩ = some (.slice a1 m1 c1) := (by rw [cell_of YB.out.1]; rfl); have y1 : Y.cell? ⟨w1.heap.size, 1, none⟩ = some (.bool true) := (by rw [cell_of YB.out.1]; rfl); have t0 : Y.cell? ⟨w.heap.size, 0, none⟩ = some (.slice a n c) := (by rw [cell_of YB.out.2.1]; rfl); have t1 : Y.cell? ⟨w.heap.size, 1, none⟩ = some (.bool ok) := (by rw [cell_of YB.out.2.1]; rfl); have tf := free_of YB.out.2.1; have v0 : Y.cell? ⟨W.heap.size, 0, none⟩ = some (.slice none 0 0) := (by rw [cell_of YB.out.2.2.1]; rfl); have v1 : Y.cell? ⟨W.heap.size, 1, none⟩ = some (.bool false) := (by rw [cell_of YB.out.2.2.1]; rfl); have vf := free_of YB.out.2.2.1; obtain ⟨Z, hZ⟩ : ∃ Z, (Y.setCell ⟨w.heap.size, 0, none⟩ (.slice a1 m1 c1)).setCell ⟨w.heap.size, 1, none⟩ (.bool true) = Z := ⟨_, rfl⟩; have ZB : Hid (Z.heap[w.heap.size]? = some (.cells #[.slice a1 m1 c1, .bool true] 68 (0, 0)) ∧ Z.heap[W.heap.size]? = some (.cells #[.slice none 0 0, .bool false] 68 (0, 0)) ∧ Below w.heap.size w Z ∧ RI Bq Z (.slice a1 m1 c1) true (some l)) := ⟨(by rw [← hZ]; exact set2 YB.out.2.1), (by rw [← hZ]; exact (two_ne (Nat.ne_of_gt hwl)).trans YB.out.2.2.1), (by rw [← hZ]; exact below2 _ _ (chainB hI.out.bel YB.out.2.2.2.1) (Nat.le_refl _)), (by rw [← hZ]; exact YB.out.2.2.2.2.2.far2 YB.out.2.1 _ _)⟩; have z0 : Z.cell? ⟨w.heap.size, 0, none⟩ = some (.slice a1 m1 c1) := (by rw [cell_of ZB.out.1]; rfl); have z1 : Z.cell? ⟨w.heap.size, 1, none⟩ = some (.bool true) := (by rw [cell_of ZB.out.1]; rfl); have zv0 : Z.cell? ⟨W.heap.size, 0, none⟩ = some (.slice none 0 0) := (by rw [cell_of ZB.out.2.1]; rfl); have zv1 : Z.cell? ⟨W.heap.size, 1, none⟩ = some (.bool false) := (by rw [cell_of ZB.out.2.1]; rfl); have zvf := free_of ZB.out.2.1; clear hr1 hb1 x0 x1 r0 r1 rf XB hYB)
            have hF1 : F = (V + x % 128 * U, some l) := by
              rw [← HN.out.2.1, hI.out.eq, show 6 - q = (6 - (q + 1)) + 1 by omega]
              unfold numF octP
              simp only []
              rw [if_pos hx]
            have hYne : w.heap.size ≠ W.heap.size := Nat.ne_of_lt hwl
            have s0 : Z.drew.cell? ⟨w.heap.size, 0, none⟩ = some (.slice a1 m1 c1) ∧ Z.drew.cell? ⟨w.heap.size, 1, none⟩ = some (.bool true) := ⟨z0, z1⟩
            have s1 : ∀ p p', ((Z.drew.setCell ⟨W.heap.size, 0, none⟩ p).setCell ⟨W.heap.size, 1, none⟩ p').cell? ⟨w.heap.size, 0, none⟩ = some (.slice a1 m1 c1) ∧ ((Z.drew.setCell ⟨W.heap.size, 0, none⟩ p).setCell ⟨W.heap.size, 1, none⟩ p').cell? ⟨w.heap.size, 1, none⟩ = some (.bool true) := fun p p' => ⟨(cell2_ne hYne).trans z0, (cell2_ne hYne).trans z1⟩
            have vg0 := zvf 0
            have vg1 := zvf 1
            clear hX hY hZ
            go_region_held3 (fun w' => w'.cell? ⟨w.heap.size, 0, none⟩ = some (.slice a1 m1 c1) ∧ w'.cell? ⟨w.heap.size, 1, none⟩ = some (.bool true)) (first | exact s0 | exact s1 _ _) (fail)
            go_wp2
            refine bodyPost_ret (ret_in rfl _ _ W.heap.size rfl (by exact set2 ZB.out.2.1) rfl) rfl ?_
            rw [hF1]
            exact ⟨_, _, rfl, (ZB.out.2.2.2.far2 ZB.out.2.1 _ _).below (Below.refl _ _).drew, (below2 _ _ ZB.out.2.2.1 (Nat.le_of_lt HN.out.2.2)).drew⟩
          · have hxd : decide (x < 128) = false := decide_eq_false hx
            go_wp2_with (go_at_call 28; refine HBy.out.mono ?_; rintro e w1 ⟨a1, m1, c1, rfl, hr1, hb1⟩; obtain ⟨X, hX⟩ : ∃ X, w1.alloc (.cells #[.slice none 0 0, .bool false] 68) = X := ⟨_, rfl⟩; obtain ⟨Y, hY⟩ : ∃ Y, (X.setCell ⟨w1.heap.size, 0, none⟩ (.slice a1 m1 c1)).setCell ⟨w1.heap.size, 1, none⟩ (.bool true) = Y := ⟨_, rfl⟩; have XB := boxB hX; have xc0 : X.cell? ⟨w1.heap.size, 0, none⟩ = some (.slice none 0 0) := (by rw [cell_of XB.1]; rfl); have xc1 : X.cell? ⟨w1.heap.size, 1, none⟩ = some (.bool false) := (by rw [cell_of XB.1]; rfl); have xcf := free_of XB.1; have hYB : Y.heap[w1.heap.size]? = some (.cells #[.slice a1 m1 c1, .bool true] 68 (0, 0)) ∧ Below w1.heap.size w1 Y := (by rw [← hY]; exact ⟨set2 XB.1, below2 _ _ XB.2 (Nat.le_refl _)⟩); have YB : Hid (Y.heap[w1.heap.size]? = some (.cells #[.slice a1 m1 c1, .bool true] 68 (0, 0)) ∧ Y.heap[w.heap.size]? = some (.cells #[.slice a n c, .bool ok] 68 (0, 0)) ∧ Y.heap[W.heap.size]? = some (.cells #[.slice none 0 0, .bool false] 68 (0, 0)) ∧ Below wr.heap.size wr Y ∧ W.heap.size < w1.heap.size ∧ RI Bq Y (.slice a1 m1 c1) true (some l)) := ⟨hYB.1, hkeep hI.out.box (chainB hb1 hYB.2), hkeep hI.out.res (chainB hb1 hYB.2), chainB hb1 hYB.2, Nat.lt_of_lt_of_le (Array.getElem?_eq_some_iff.1 hI.out.res).1 hb1.size, hr1.out.below hYB.2⟩; have y0 : Y.cell? ⟨w1.heap.size, 0, none⟩ = some (.slice a1 m1 c1) := (by rw [cell_of YB.out.1]; rfl); have y1 : Y.cell? ⟨w1.heap.size, 1, none⟩ = some (.bool true) := (by rw [cell_of YB.out.1]; rfl); have t0 : Y.cell? ⟨w.heap.size, 0, none⟩ = some (.slice a n c) := (by rw [cell_of YB.out.2.1]; rfl); have t1 : Y.cell? ⟨w.heap.size, 1, none⟩ = some (.bool ok) := (by rw [cell_of YB.out.2.1]; rfl); have tf := free_of YB.out.2.1; have v0 : Y.cell? ⟨W.heap.size, 0, none⟩ = some (.slice none 0 0) := (by rw [cell_of YB.out.2.2.1]; rfl); have v1 : Y.cell? ⟨W.heap.size, 1, none⟩ = some (.bool false) := (by rw [cell_of YB.out.2.2.1]; rfl); have vf := free_of YB.out.2.2.1; obtain ⟨Z, hZ⟩ : ∃ Z, (Y.setCell ⟨w.heap.size, 0, none⟩ (.slice a1 m1 c1)).setCell ⟨w.heap.size, 1, none⟩ (.bool true) = Z := ⟨_, rfl⟩; have ZB : Hid (Z.heap[w.heap.size]? = some (.cells #[.slice a1 m1 c1, .bool true] 68 (0, 0)) ∧ Z.heap[W.heap.size]? = some (.cells #[.slice none 0 0, .bool false] 68 (0, 0)) ∧ Below w.heap.size w Z ∧ RI Bq Z (.slice a1 m1 c1) true (some l)) := ⟨(by rw [← hZ]; exact set2 YB.out.2.1), (by rw [← hZ]; exact (two_ne (Nat.ne_of_gt hwl)).trans YB.out.2.2.1), (by rw [← hZ]; exact below2 _ _ (chainB hI.out.bel YB.out.2.2.2.1) (Nat.le_refl _)), (by rw [← hZ]; exact YB.out.2.2.2.2.2.far2 YB.out.2.1 _ _)⟩; have z0 : Z.cell? ⟨w.heap.size, 0, none⟩ = some (.slice a1 m1 c1) := (by rw [cell_of ZB.out.1]; rfl); have z1 : Z.cell? ⟨w.heap.size, 1, none⟩ = some (.bool true) := (by rw [cell_of ZB.out.1]; rfl); have zv0 : Z.cell? ⟨W.heap.size, 0, none⟩ = some (.slice none 0 0) := (by rw [cell_of ZB.out.2.1]; rfl); have zv1 : Z.cell? ⟨W.heap.size, 1, none⟩ = some (.bool false) := (by rw [cell_of ZB.out.2.1]; rfl); have zvf := free_of ZB.out.2.1; clear hr1 hb1 x0 x1 r0 r1 rf XB hYB)
            have hP2 : x % 128 * U ≤ 127 * U := Int.mul_le_mul_of_nonneg_right (by omega) (by omega)
            have hVU : V < U := by rw [hI.out.hs]; exact hI.out.hv
            refine ⟨⟨q + 1, V + x % 128 * U, U * 128, _, _, _, by omega, rfl, rfl, by simp, ⟨?_, ZB.out.2.2.2, ZB.out.1, ZB.out.2.1, ZB.out.2.2.1, ?_, by omega, ?_, ?_⟩⟩, by simp [intOf]; omega⟩
            · rw [hI.out.eq, show 6 - q = (6 - (q + 1)) + 1 by omega]
              show numF (6 - (q + 1) + 1) U V (some (x :: l)) = _
              conv => lhs; unfold numF octP
              simp only []
              rw [if_neg (by omega)]
            · by_cases h6 : q + 1 = 6
              · exact .inr h6
              · have h4 : (128 : Int) ^ q ≤ 268435456 := by
                  have : q ≤ 4 := by omega
                  match q, this with
                  | 0, _ => decide
                  | 1, _ => decide
                  | 2, _ => decide
                  | 3, _ => decide
                  | 4, _ => decide
                rw [← hI.out.hs] at h4
                exact .inl (by omega)
            · rw [hI.out.hs]; exact (Int.pow_succ 128 q).symm
            · rw [Int.pow_succ, ← hI.out.hs]; omega
    · have hki : ¬ (q : Int) < 6 := by omega
      have hq6 : q = 6 := by omega
      go_wp2
      refine bodyPost_ret (ret_in rfl _ _ W.heap.size rfl (set2 hI.out.res) rfl) rfl ?_
      have hF0 : F = (0, none) := by rw [← HN.out.2.1, hI.out.eq, hq6]; rfl
      rw [hF0]
      exact ⟨_, _, rfl, RI.no _, below2 _ _ hI.out.bel (Nat.le_of_lt HN.out.2.2)⟩
end
section
open Go.RowKit Go.Lib

def U6 (k : Nat) : Nat := 128 ^ (6 - k)
theorem U6_step (k : Nat) (h : k < 6) : U6 (k + 1) * 128 = U6 k ∧ 1 ≤ U6 (k + 1) ∧ U6 (k + 1) ≤ 34359738368 := by
  have : k = 0 ∨ k = 1 ∨ k = 2 ∨ k = 3 ∨ k = 4 ∨ k = 5 := by omega
  rcases this with rfl | rfl | rfl | rfl | rfl | rfl <;> decide
theorem octP_lft' {s : St} (h : Lft s) : 0 ≤ (octP s).1 ∧ (octP s).1 < 256 ∧ Lft (octP s).2 := ⟨(octP_in h).1, (octP_in h).2, octP_lft h⟩
theorem Rg.lft {w : World} {r : Nat} {v : Value} {l : List Int} {s : St} (h : Rg w r v l s) : Lft s := by
  obtain ⟨a, st, h⟩ := h
  rcases h.state with ⟨rfl, _⟩ | ⟨rfl, _⟩
  · exact Lft.none
  · exact Lft.of fun x hx => h.byt x (List.mem_of_mem_drop hx)
theorem Red.on {a b c : World} {r : Nat} {v : Value} {l : List Int} {s s' : St} (h : Red a b r v l s) (k : Red b c r v l s') : Red a c r v l s' := ⟨k.1, h.2.trans k.2⟩
set_option maxRecDepth 20000 in
set_option maxHeartbeats 8000000 in
theorem number_r {w : World} {r : Nat} {v : Value} {l : List Int} {s : St} (h : Rg w r v l s) : Calls Try.prog 44 #[.pointer (some ⟨r, 0, none⟩)] w fun e w' => RdR w r v l (numP s).2 (.int .i64 (numP s).1) e w' := by
  have H0 : Hid (Red w w r v l s) := ⟨h, Only.refl _ _⟩
  obtain ⟨N, hN⟩ : ∃ N, numP s = N := ⟨_, rfl⟩
  have HN : Hid (numG 6 1 0 s = N) := hN
  rw [hN]
  clear hN h
  go_enter Try.func44, Try.ntmps44
  go_wp2
  refine wp_scope_once 0 (by rfl) ?_
  go_wp2
  go_loopw [3, 4] (fun n u wr => ∃ (k : Nat) (nn : Int) (s' : St), k ≤ 6 ∧ n = .int .i64 nn ∧ u = .int .i64 (U6 k : Nat) ∧ 0 ≤ nn ∧ nn < (U6 k : Nat) ∧ Hid (numG k (U6 k) nn s' = N ∧ Red w wr r v l s')) (fun _ u _ => 4398046511104 - (intOf u).toNat)
  case atStart => exact ⟨6, 0, s, by omega, rfl, rfl, by omega, by decide, HN.out, H0.out⟩
  case round =>
    obtain ⟨k, nn, s', hk, rfl, rfl, hn0, hn1, hI⟩ := hrel
    cases k with
    | zero =>
      rw [show U6 0 = 4398046511104 by decide] at hI hn1 ⊢
      have HE : Hid (N = (0, none)) := hI.out.1.symm
      have HS : Hid (Calls Try.prog 78 #[.pointer (some ⟨r, 0, none⟩)] wr fun e w' => e = .returned (.tuple #[]) ∧ Hid (Red wr w' r v l none)) := stop_r hI.out.2.1
      go_wp2
      go_step3
      go_wp2_with (go_at_call 78; refine HS.out.mono ?_; rintro e w1 ⟨rfl, h1⟩)
      refine fwd_ret ?_
      go_ret
      rw [HE.out]
      exact ⟨rfl, hI.out.2.on h1.out⟩
    | succ k =>
      obtain ⟨hu1, hu2, hu3⟩ := U6_step k (by omega)
      obtain ⟨u, hu⟩ : ∃ u, U6 (k + 1) = u := ⟨_, rfl⟩
      rw [hu] at hu1 hu2 hu3 hn1 hI ⊢
      have hle : (u : Int) ≤ 1099511627776 := by omega
      have HO : Hid (Calls Try.prog 43 #[.pointer (some ⟨r, 0, none⟩)] wr fun e w' => RdR wr r v l (octP s').2 (.int .i64 (octP s').1) e w') := octet_r hI.out.2.1
      obtain ⟨hx0, hx1, _⟩ := octP_lft' hI.out.2.1.lft
      have hG : numG (k + 1) u nn s' = if 128 ≤ (octP s').1 then numG k (u * 128) (nn + (octP s').1 % 128 * u) (octP s').2 else if 1099511627776 < nn + (octP s').1 % 128 * u ∨ ((octP s').1 = 0 ∧ 1 < u) then (0, none) else (nn + (octP s').1 % 128 * u, (octP s').2) := rfl
      rw [hI.out.1] at hG
      obtain ⟨x, hx⟩ : ∃ x, (octP s').1 = x := ⟨_, rfl⟩
      obtain ⟨s2, hs2⟩ : ∃ y, (octP s').2 = y := ⟨_, rfl⟩
      rw [hx, hs2] at HO hG
      rw [hx] at hx0 hx1
      have hand : bits .and .i64 x 127 = x % 128 := i64_and127 x
      obtain ⟨m, hm⟩ : ∃ m, x % 128 = m := ⟨_, rfl⟩
      have hm0 : 0 ≤ m ∧ m ≤ 127 := by omega
      rw [hm] at hand hG
      have hmu : 0 ≤ m * (u : Int) ∧ m * (u : Int) ≤ 127 * (u : Int) := ⟨Int.mul_nonneg hm0.1 (by omega), Int.mul_le_mul_of_nonneg_right hm0.2 (by omega)⟩
      obtain ⟨p, hp⟩ : ∃ p, m * (u : Int) = p := ⟨_, rfl⟩
      rw [hp] at hmu hG
      have hw1 : IntKind.i64.wrap p = p := IntWalk.i64_in _ (by omega)
      obtain ⟨q, hq⟩ : ∃ q, nn + p = q := ⟨_, rfl⟩
      rw [hq] at hG
      have hw2 : IntKind.i64.wrap q = q := IntWalk.i64_in _ (by omega)
      have HR : Hid (Red w wr r v l s') := hI.out.2
      have HU : Hid (u * 128 = U6 k ∧ 0 ≤ q ∧ q < (u : Int) * 128) := ⟨hu1, by omega, by omega⟩
      clear hI hx hs2 hm hmu hu
      by_cases h1 : 128 ≤ x
      · rw [if_pos h1] at hG
        have HG : Hid (N = numG k (u * 128) q s2) := hG
        have hw3 : IntKind.i64.wrap ((u : Int) * 2 ^ (7 : Int).toNat) = (u : Int) * 128 := by rw [show (2 : Int) ^ (7 : Int).toNat = 128 from rfl]; exact IntWalk.i64_in _ (by omega)
        clear hG
        go_wp2_with (go_at_call 43; refine HO.out.mono ?_; rintro e w1 ⟨rfl, h1'⟩)
        refine ⟨⟨k, q, s2, by omega, rfl, ?_, HU.out.2.1, ?_, ?_, HR.out.on h1'.out⟩, ?_⟩
        · rw [← HU.out.1, Int.natCast_mul]; rfl
        · rw [← HU.out.1, Int.natCast_mul]; exact HU.out.2.2
        · rw [← HU.out.1]; exact HG.out.symm
        · simp only [intOf]; omega
      · rw [if_neg h1] at hG
        have HS : Hid (∀ W, Red w W r v l s2 → Calls Try.prog 78 #[.pointer (some ⟨r, 0, none⟩)] W fun e w' => e = .returned (.tuple #[]) ∧ Hid (Red W w' r v l none)) := fun W hW => stop_r hW.1
        by_cases h2 : 1099511627776 < q
        · rw [if_pos (.inl h2)] at hG
          have HG : Hid (N = (0, none)) := hG
          have hd : decide ((1099511627776 : Int) < q) = true := decide_eq_true h2
          clear hG
          go_wp2_with (go_at_call 43; refine HO.out.mono ?_; rintro e w1 ⟨rfl, h1'⟩)
          go_step3
          refine fwd_goto (l := 0) ?_
          go_wp2_with (go_at_call 78; refine (HS.out _ (HR.out.on h1'.out)).mono ?_; rintro e w2 ⟨rfl, h2'⟩)
          rw [Exit.noGoto_ret]
          go_ret
          rw [HG.out]
          exact ⟨rfl, (HR.out.on h1'.out).on h2'.out⟩
        · have hd : decide ((1099511627776 : Int) < q) = false := decide_eq_false h2
          by_cases h3 : x = 0 ∧ 1 < u
          · rw [if_pos (.inr h3)] at hG
            have HG : Hid (N = (0, none)) := hG
            have hx3 : (x == 0) = true := by simpa using h3.1
            have hu4 : (1 : Int) < (u : Int) := by omega
            have hd2 : decide ((1 : Int) < (u : Int)) = true := decide_eq_true hu4
            clear hG h3
            go_wp2_with (go_at_call 43; refine HO.out.mono ?_; rintro e w1 ⟨rfl, h1'⟩)
            go_step3
            refine fwd_goto (l := 0) ?_
            go_wp2_with (go_at_call 78; refine (HS.out _ (HR.out.on h1'.out)).mono ?_; rintro e w2 ⟨rfl, h2'⟩)
            rw [Exit.noGoto_ret]
            go_ret
            rw [HG.out]
            exact ⟨rfl, (HR.out.on h1'.out).on h2'.out⟩
          · rw [if_neg (fun h => h.elim h2 h3)] at hG
            have HG : Hid (N = (q, s2)) := hG
            clear hG
            by_cases h4 : x = 0
            · have hx3 : (x == 0) = true := by simpa using h4
              have hu4 : ¬ (1 : Int) < (u : Int) := fun h => h3 ⟨h4, by omega⟩
              have hd2 : decide ((1 : Int) < (u : Int)) = false := decide_eq_false hu4
              clear h3 h4
              go_wp2_with (go_at_call 43; refine HO.out.mono ?_; rintro e w1 ⟨rfl, h1'⟩)
              refine fwd_ret ?_
              go_ret
              rw [HG.out]
              exact ⟨rfl, HR.out.on h1'.out⟩
            · have hx3 : (x == 0) = false := by simpa using h4
              clear h3 h4
              go_wp2_with (go_at_call 43; refine HO.out.mono ?_; rintro e w1 ⟨rfl, h1'⟩)
              refine fwd_ret ?_
              go_ret
              rw [HG.out]
              exact ⟨rfl, HR.out.on h1'.out⟩
end
section
open Go.RowKit Go.Lib

theorem numG_zero : ∀ (k u : Nat) (n : Int) (s : St), 1 ≤ u → (u = 1 → n = 0) → (numG k u n s).2 = none → (numG k u n s).1 = 0 := by
  intro k
  induction k with
  | zero => intro u n s _ _ _; rfl
  | succ k ih =>
    intro u n s hu hn h
    unfold numG at h ⊢
    split
    · rename_i h1
      rw [if_pos h1] at h
      exact ih _ _ _ (by omega) (by omega) h
    · rename_i h1
      rw [if_neg h1] at h
      split
      · rfl
      · rename_i h2
        rw [if_neg h2] at h
        have hs : (octP s).2 = none := h
        have hx : (octP s).1 = 0 := by
          match s, hs with
          | none, _ => rfl
          | some [], _ => rfl
        have hu1 : u = 1 := by
          rcases Nat.lt_or_ge 1 u with h | h
          · exact absurd (.inr ⟨hx, h⟩) h2
          · omega
        show n + (octP s).1 % 128 * u = 0
        rw [hx, hn hu1]; simp
theorem numP_zero {s : St} (h : (numP s).2 = none) : (numP s).1 = 0 := numG_zero 6 1 0 s (by omega) (fun _ => rfl) h
/-- bytes as a text -/
theorem cvt_run {W : World} {x : Option Addr} {c : Nat} {m : List Int} (h : m = [] ∨ ∃ g off, x = some ⟨g, off, none⟩ ∧ ∀ i y, m[i]? = some y → W.cell? ⟨g, off + i, none⟩ = some (.int .u8 y)) : (convert 22 9 (.slice x m.length c)).run Try.prog W = .ok (.string (strOfNums m)) W := by
  rcases h with rfl | ⟨g, off, rfl, hc⟩
  · cases x with
    | none => exact run_convert_bytes_nil (P := Try.prog) W 22 5 Try.underlying22 Try.underlying5 0 c 9 Try.underlying9
    | some ad =>
      rw [run_convert_bytes_string W 22 9 5 _ _ c Try.underlying22 Try.underlying5 Try.underlying9]
      exact run_bytesToString (P := Try.prog) W ad 0 c [] (by simpa using run_loadCells_list (P := Try.prog) W ad [] (by simp))
  · exact run_convert_bytes_arg (P := Try.prog) W 22 5 Try.underlying22 Try.underlying5 g off m.length c m rfl (fun i hi => by
      rw [hc i _ (List.getElem?_eq_getElem hi)]
      simp [List.getD, List.getElem?_eq_getElem hi]) 9 Try.underlying9
/-- where a text is read -/
structure Txt (w1 : World) (r : Nat) (v : Value) (l : List Int) (s1 : St) (a n : Nat) (st : Bool) (T : ByteArray × St) : Prop where
  is : IsR w1 r v l s1 a st
  yes : n ≤ 96 → a + n ≤ l.length → T.1 = strOfNums ((l.drop a).take n) ∧ ∀ W, IsR w1 r v l s1 a st → W.heap[r]? = some (.cells #[v, .int .i64 ((a + n : Nat) : Int), .bool st] 65 (0, 0)) → Only (· = r) w1 W → Rg W r v l T.2
  no : ¬ (n ≤ 96 ∧ a + n ≤ l.length) → T = (⟨#[]⟩, none)
theorem txt_of {w1 : World} {r : Nat} {v : Value} {l : List Int} {s : St} (h : Rg w1 r v l (numP s).2) (hs : Lft s) : ∃ a st, Txt w1 r v l (numP s).2 a (numP s).1.toNat st (textP s) := by
  obtain ⟨a, st, h⟩ := h
  refine ⟨a, st, h, ?_, ?_⟩
  · intro h96 hlen
    rcases h.state with ⟨e, rfl, ha⟩ | ⟨e, rfl, ha⟩
    · have h0 := numP_zero e
      have hT : textP s = (⟨#[]⟩, none) := by unfold textP; rw [prod_eta _ e]
      rw [hT, h0]
      refine ⟨by simp [strOfNums], fun W _ hh hO => ⟨a, true, h.turn (by simpa using hh) hO (.inl ⟨rfl, rfl, ha⟩)⟩⟩
    · have hn0 : 0 ≤ (numP s).1 := (numP_in hs).1
      have hT : textP s = (strOfNums ((l.drop a).take (numP s).1.toNat), some ((l.drop a).drop (numP s).1.toNat)) := by
        unfold textP
        rw [prod_eta _ e]
        simp only []
        rw [if_neg (by rw [List.length_drop]; omega)]
      rw [hT]
      refine ⟨rfl, fun W _ hh hO => ⟨a + (numP s).1.toNat, false, h.turn hh hO (.inr ⟨by rw [List.drop_drop], rfl, hlen⟩)⟩⟩
  · intro hno
    rcases h.state with ⟨e, _, ha⟩ | ⟨e, _, ha⟩
    · have h0 := numP_zero e
      exact absurd ⟨by rw [h0]; decide, by rw [h0]; simp; omega⟩ hno
    · unfold textP
      rw [prod_eta _ e]
      simp only []
      rw [if_pos]
      rw [List.length_drop]
      omega
end
end Go.Proofs.Ytekonakanieeaaa
