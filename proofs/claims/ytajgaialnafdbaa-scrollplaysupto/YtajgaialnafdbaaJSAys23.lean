/- The document's own scroll (vistaref07): its small functions. -/
import Derived.Test.YtajgaialnafdbaaJSAys22
namespace Go.Proofs.Ytajgaialnafdbaa
section
open Go.RowKit Go.Lib

theorem rhalf_d (r : Nat) (R : Rf) (w : World) (h : IsRf w r R) (h1 : 1 ≤ R.n) (h2 : R.n ≤ 1024) : Calls Try.prog 35 #[.pointer (some ⟨r, 0, none⟩)] w fun e w' => e = .returned (.int .i64 (((R.n - 1) / 2 : Nat) : Int)) ∧ w = w' := by
  obtain ⟨c0, _⟩ := h.cells
  obtain ⟨N, hN⟩ : ∃ N, R.n = N + 1 := ⟨R.n - 1, by omega⟩
  rw [hN] at c0 ⊢
  have e : ((((N + 1 - 1) / 2 : Nat) : Int)) = (N : Int) / 2 := by omega
  rw [e]
  have h3 : N ≤ 1023 := by omega
  clear h h1 h2 hN e
  go_enter Try.func35, Try.ntmps35
  go_wp2
  go_ret
  exact ⟨by simp, rfl⟩
theorem rblocks_d (a : Option Addr) (n c : Nat) (w : World) (h : n ≤ 140737488351232) : Calls Try.prog 40 #[.slice a n c] w fun e w' => e = .returned (.int .i64 (nb n)) ∧ w = w' := by
  have e : ((nb n : Nat) : Int) = ((n : Int) + 52) / 53 := by unfold nb; omega
  rw [e]
  go_enter Try.func40, Try.ntmps40
  go_wp2
  go_ret
  exact ⟨by simp, rfl⟩
theorem rwrong_d (a : Option Addr) (n c : Nat) (w : World) : Calls Try.prog 39 #[.slice a n c] w fun e w' => e = .returned (.bool (!decide (1 ≤ n ∧ n ≤ 424))) ∧ w = w' := by
  by_cases h0 : n = 0
  · subst h0
    go_enter Try.func39, Try.ntmps39
    go_wp2
    go_ret
    exact ⟨by simp, rfl⟩
  · have hd : ((n : Int) == 0) = false := by rw [beq_eq_false_iff_ne]; omega
    by_cases h1 : 424 < n
    · have hd1 : decide ((424 : Int) < (n : Int)) = true := decide_eq_true (by omega)
      go_enter Try.func39, Try.ntmps39
      go_wp2
      go_ret
      exact ⟨by rw [decide_eq_false (by omega)]; rfl, rfl⟩
    · have hd1 : decide ((424 : Int) < (n : Int)) = false := decide_eq_false (by omega)
      go_enter Try.func39, Try.ntmps39
      go_wp2
      go_ret
      exact ⟨by rw [decide_eq_true (by omega)]; rfl, rfl⟩
/-- four bytes as a number -/
theorem four_d (g off c n : Nat) (x0 x1 x2 x3 : Int) (w : World) (hn : 4 ≤ n) (k0 : w.cell? ⟨g, off, none⟩ = some (.int .u8 x0)) (k1 : w.cell? ⟨g, off + 1, none⟩ = some (.int .u8 x1)) (k2 : w.cell? ⟨g, off + 2, none⟩ = some (.int .u8 x2)) (k3 : w.cell? ⟨g, off + 3, none⟩ = some (.int .u8 x3))
    (b0 : 0 ≤ x0 ∧ x0 < 256) (b1 : 0 ≤ x1 ∧ x1 < 256) (b2 : 0 ≤ x2 ∧ x2 < 256) (b3 : 0 ≤ x3 ∧ x3 < 256) : Calls Try.prog 65 #[.slice (some ⟨g, off, none⟩) n c] w fun e w' => e = .returned (.int .i64 (x0 + 256 * x1 + 65536 * x2 + 16777216 * x3)) ∧ Below w.heap.size w w' := by
  have n0 : 0 < n := by omega
  have n1 : 1 < n := by omega
  have n2 : 2 < n := by omega
  have n3 : 3 < n := by omega
  have m1 : (1 : Int) < (n : Int) := by omega
  have m2 : (2 : Int) < (n : Int) := by omega
  have m3 : (3 : Int) < (n : Int) := by omega
  go_enter Try.func65, Try.ntmps65
  go_upto_region 1 with fail
  go_quiet (fail)
  go_wp2
  go_ret
  exact ⟨rfl, below_drewN (Below.refl _ _) _⟩
theorem Four_d (v : Nat) (w : World) (h : v < 4294967296) : Calls Try.prog 66 #[.int .i64 v] w fun e w' => ∃ g, e = .returned (.slice (some ⟨g, 0, none⟩) 4 4) ∧ OwnB w' w.heap.size (.slice (some ⟨g, 0, none⟩) 4 4) (n4 v) ∧ Below w.heap.size w w' := by
  go_enter Try.func66, Try.ntmps66
  go_wp2
  go_ret
  have e : n4 v = [(v : Int) % 256, (v : Int) / 256 % 256, (v : Int) / 65536 % 256, (v : Int) / 16777216 % 256] := by unfold n4; simp
  refine ⟨w.heap.size, rfl, ?_, below_alloc _ _⟩
  rw [e]
  exact owns_whole (xs := [.int .u8 ((v : Int) % 256), .int .u8 ((v : Int) / 256 % 256), .int .u8 ((v : Int) / 65536 % 256), .int .u8 ((v : Int) / 16777216 % 256)]) (Nat.le_refl _) (heap_new _ _) rfl (by decide)
end
section
open Go.RowKit Go.Lib

theorem byte_at {l : List Int} (hb : Byt l) {i : Nat} (hi : i < l.length) : ∃ x : Int, l[i]? = some x ∧ 0 ≤ x ∧ x < 256 ∧ (gB l i : Int) = x := by
  refine ⟨l[i], List.getElem?_eq_getElem hi, (hb _ (List.getElem_mem hi)).1, (hb _ (List.getElem_mem hi)).2, ?_⟩
  unfold gB
  rw [List.getElem?_eq_getElem hi]
  have := (hb _ (List.getElem_mem hi)).1
  simp only [Option.getD_some]
  omega
/-- four of a block's bytes -/
theorem four_at {w : World} {base g c : Nat} {l : List Int} (h : OwnB w base (.slice (some ⟨g, 0, none⟩) 64 c) l) (hl : l.length = 64) (hb : Byt l) (o n c' : Nat) (ho : o + 4 ≤ 64) (hn : 4 ≤ n) (W : World) (hW : Below w.heap.size w W) :
    Calls Try.prog 65 #[.slice (some ⟨g, o, none⟩) n c'] W fun e w' => e = .returned (.int .i64 (le4 (l.drop o))) ∧ Below W.heap.size W w' := by
  have hc := (OwnB.below h hW).form
  rcases hc with ⟨e, _⟩ | ⟨g', c2, e, _, _, _, hc, _⟩
  · cases e
  · obtain ⟨e1, _, _⟩ := Value.slice.inj e
    injection e1 with e1
    injection e1 with e1 _ _
    subst e1
    obtain ⟨x0, q0, a0, b0, d0⟩ := byte_at hb (i := o) (by omega)
    obtain ⟨x1, q1, a1, b1, d1⟩ := byte_at hb (i := o + 1) (by omega)
    obtain ⟨x2, q2, a2, b2, d2⟩ := byte_at hb (i := o + 2) (by omega)
    obtain ⟨x3, q3, a3, b3, d3⟩ := byte_at hb (i := o + 3) (by omega)
    have hv : ((le4 (l.drop o) : Nat) : Int) = x0 + 256 * x1 + 65536 * x2 + 16777216 * x3 := by
      have hg : ∀ i, gB (l.drop o) i = gB l (o + i) := fun i => by unfold gB; rw [List.getElem?_drop]
      unfold le4
      rw [hg, hg, hg, hg, Nat.add_zero]
      omega
    rw [hv]
    exact four_d g o c' n x0 x1 x2 x3 W hn (hc o x0 q0) (hc (o + 1) x1 q1) (hc (o + 2) x2 q2) (hc (o + 3) x3 q3) ⟨a0, b0⟩ ⟨a1, b1⟩ ⟨a2, b2⟩ ⟨a3, b3⟩

theorem gB_getE {l : List Int} (hb : Byt l) {i : Nat} (hi : i < l.length) : l[i] = (gB l i : Int) := by
  obtain ⟨x, h, _, _, e⟩ := byte_at hb hi
  rw [List.getElem?_eq_getElem hi] at h
  injection h with h
  rw [h, e]
/-- a header, byte by byte -/
def isHdr (l : List Int) : Prop := le4 l = 827474771 ∧ 1 ≤ le4 (l.drop 4) ∧ le4 (l.drop 4) ≤ 1073741824 ∧ gB l 8 ≤ 1 ∧ ∀ i, 9 ≤ i → i < 64 → gB l i = 0
theorem gB_drop (l : List Int) (o i : Nat) : gB (l.drop o) i = gB l (o + i) := by unfold gB; rw [List.getElem?_drop]
theorem hdr_eq {l : List Int} (hb : Byt l) (hl : l.length = 64) (h : isHdr l) : l = hdrB (le4 (l.drop 4)) (gB l 8) := by
  obtain ⟨h1, h2, h3, h4, h5⟩ := h
  have b0 := gB_lt hb 0
  have b1 := gB_lt hb 1
  have b2 := gB_lt hb 2
  have b3 := gB_lt hb 3
  have b4 := gB_lt hb 4
  have b5 := gB_lt hb 5
  have b6 := gB_lt hb 6
  have b7 := gB_lt hb 7
  unfold le4 at h1
  have e4 : le4 (l.drop 4) = gB l 4 + 256 * gB l 5 + 65536 * gB l 6 + 16777216 * gB l 7 := by unfold le4; simp only [gB_drop]
  generalize le4 (l.drop 4) = g at *
  apply List.ext_getElem
  · rw [hl, hdrB_len]
  · intro i hi hi2
    rw [gB_getE hb hi]
    match i, hi, hi2 with
    | 0, _, _ => show (gB l 0 : Int) = 83; omega
    | 1, _, _ => show (gB l 1 : Int) = 67; omega
    | 2, _, _ => show (gB l 2 : Int) = 82; omega
    | 3, _, _ => show (gB l 3 : Int) = 49; omega
    | 4, _, _ => show (gB l 4 : Int) = ((g % 256 : Nat) : Int); omega
    | 5, _, _ => show (gB l 5 : Int) = ((g / 256 % 256 : Nat) : Int); omega
    | 6, _, _ => show (gB l 6 : Int) = ((g / 65536 % 256 : Nat) : Int); omega
    | 7, _, _ => show (gB l 7 : Int) = ((g / 16777216 % 256 : Nat) : Int); omega
    | 8, _, _ => show (gB l 8 : Int) = ((gB l 8 % 256 : Nat) : Int); omega
    | j + 9, hj, hj2 =>
      rw [h5 (j + 9) (by omega) (by omega)]
      show ((0 : Nat) : Int) = (List.replicate 55 (0 : Int))[j]'(by rw [List.length_replicate]; omega)
      rw [List.getElem_replicate]
      rfl
theorem is_hdr {g h : Nat} (h1 : 1 ≤ g) (h2 : g ≤ 1073741824) (hh : h ≤ 1) : isHdr (hdrB g h) := by
  have e4 : le4 ((hdrB g h).drop 4) = g := le4_n4 g (by omega) _
  have e0 : gB (hdrB g h) 0 = 83 := rfl
  have e1 : gB (hdrB g h) 1 = 67 := rfl
  have e2 : gB (hdrB g h) 2 = 82 := rfl
  have e3 : gB (hdrB g h) 3 = 49 := rfl
  refine ⟨by unfold le4; rw [e0, e1, e2, e3], by rw [e4]; exact h1, by rw [e4]; exact h2, ?_, ?_⟩
  · show Int.toNat ((h % 256 : Nat) : Int) ≤ 1
    omega
  · intro i hi hi2
    obtain ⟨j, rfl⟩ : ∃ j, i = j + 9 := ⟨i - 9, by omega⟩
    show Int.toNat ((List.replicate 55 (0 : Int))[j]?.getD 0) = 0
    rw [List.getElem?_replicate]
    split <;> rfl
/-- the two readings of a block 0 are one -/
theorem hdrOf_is {l : List Int} (hb : Byt l) (hl : l.length = 64) (h : isHdr l) : hdrOf l = some (le4 (l.drop 4), gB l 8) :=
  hdr_good ⟨h.2.1, h.2.2.1, h.2.2.2.1, hdr_eq hb hl h⟩
theorem hdrOf_not {l : List Int} (h : ¬ isHdr l) : hdrOf l = none :=
  hdr_bad fun ⟨a, b, c, e⟩ => h (e ▸ is_hdr a b c)
end
section
open Go.RowKit Go.Lib

def hdG (o : Option (Nat × Nat)) : Nat := match o with | some (g, _) => g | none => 0
def hdH (o : Option (Nat × Nat)) : Nat := match o with | some (_, h) => h | none => 0
/-- a disk's block is read -/
theorem rread_blk (r : Nat) (R : Rf) (i : Nat) (l : List Int) (w : World) (h : IsRf w r R) (hi : i < R.n) (hbig : R.did.length * 32 ≤ 140737488355328) (hl : lastW R.did i = l) (h64 : l.length = 64) :
    Calls Try.prog 50 #[.pointer (some ⟨r, 0, none⟩), .int .i64 i] w fun e w2 => ∃ k cap, e = .returned (.tuple #[.slice (some ⟨k, 0, none⟩) 64 cap, .int .i64 0]) ∧ 64 ≤ cap ∧ OwnB w2 w.heap.size (.slice (some ⟨k, 0, none⟩) 64 cap) l ∧ (k < w2.heap.size ∧ ∀ i x, l[i]? = some x → w2.cell? ⟨k, i, none⟩ = some (.int .u8 x)) ∧ Below w.heap.size w w2 := by
  refine (rread_yes r R i w h hi hbig).mono ?_
  rintro e w2 ⟨v, rfl, ho, hb⟩
  rw [hl] at ho
  rcases ho.form with ⟨_, e⟩ | ⟨k, cap, rfl, h1, h2, h3, h4, h5⟩
  · rw [e] at h64; cases h64
  · rw [h64] at ho h3 ⊢
    exact ⟨k, cap, rfl, h3, ho, ⟨h2, h4⟩, hb⟩
set_option maxRecDepth 100000 in
set_option maxHeartbeats 4000000 in
theorem rhdr_d (r : Nat) (R : Rf) (l : List Int) (w : World) (h : IsRf w r R) (hn : 0 < R.n) (hbig : R.did.length * 32 ≤ 140737488355328) (hl : lastW R.did 0 = l) (h64 : l.length = 64) (hb : Byt l) :
    Calls Try.prog 55 #[.pointer (some ⟨r, 0, none⟩)] w fun e w' => e = .returned (.tuple #[.int .i64 (hdG (hdrOf l)), .int .i64 (hdH (hdrOf l)), .bool (hdrOf l).isSome]) ∧ Below w.heap.size w w' := by
  have HR : Hid (∀ w', Below w.heap.size w w' → Calls Try.prog 50 #[.pointer (some ⟨r, 0, none⟩), .int .i64 0] w' fun e w2 => ∃ k cap, e = .returned (.tuple #[.slice (some ⟨k, 0, none⟩) 64 cap, .int .i64 0]) ∧ 64 ≤ cap ∧ OwnB w2 w'.heap.size (.slice (some ⟨k, 0, none⟩) 64 cap) l ∧ (k < w2.heap.size ∧ ∀ i x, l[i]? = some x → w2.cell? ⟨k, i, none⟩ = some (.int .u8 x)) ∧ Below w'.heap.size w' w2) := fun w' hw => rread_blk r R 0 l w' (h.below hw) hn hbig hl h64
  have HB : Hid (Byt l ∧ l.length = 64) := ⟨hb, h64⟩
  obtain ⟨M, hM⟩ : ∃ M, le4 (l.drop 0) = M := ⟨_, rfl⟩
  obtain ⟨G, hG⟩ : ∃ G, le4 (l.drop 4) = G := ⟨_, rfl⟩
  obtain ⟨X, hX⟩ : ∃ X, gB l 8 = X := ⟨_, rfl⟩
  have hG2 : G < 4294967296 := by rw [← hG]; exact le4_lt (byt_drop hb 4)
  have hM2 : M < 4294967296 := by rw [← hM]; exact le4_lt (byt_drop hb 0)
  have hX2 : X < 256 := by rw [← hX]; exact gB_lt hb 8
  have HG : Hid (le4 (l.drop 0) = M ∧ le4 (l.drop 4) = G ∧ gB l 8 = X) := ⟨hM, hG, hX⟩
  clear h hl hb h64 hM hG hX hn hbig
  go_enter Try.func55, Try.ntmps55
  go_upto_region 3 with (first
    | (go_at_call 50; refine (HR.out _ (Below.refl _ _)).mono ?_; rintro e w1 ⟨k, cap, rfl, hcap, ho, ⟨hk, hcl⟩, hb1⟩; have HO : Hid (OwnB w1 w.heap.size (.slice (some ⟨k, 0, none⟩) 64 cap) l) := ho; have hcp2 : (8 : Int) ≤ (cap : Int) := (by omega); have hcp : ¬ (cap = 4) := (by omega); have hcp3 : (4 : Int) ≤ (cap : Int) := (by omega))
    | (go_at_call 65; refine (four_at HO.out HB.out.2 HB.out.1 4 4 (cap - 4) (by omega) (by omega) _ (Below.refl _ _)).mono ?_; rintro e w2 ⟨rfl, hb2⟩; rw [HG.out.2.1]))
  have HW : Hid (Below w.heap.size w w2) := chainB hb1 hb2
  have hx : w2.cell? ⟨k, 8, none⟩ = some (.int .u8 (X : Nat)) := by
    have hq : l[8]? = some (l[8]'(by rw [HB.out.2]; decide)) := List.getElem?_eq_getElem _
    rw [hb2.cell (p := ⟨k, 8, none⟩) hk, hcl 8 _ hq, ← HG.out.2.2, gB_get hq (HB.out.1 _ (List.mem_of_getElem? hq)).1]
  by_cases b0 : ¬ M = 827474771
  · have e0 : ((M : Int) != 827474771) = true := by simp; omega
    have HE : Hid (hdrOf l = none) := hdrOf_not fun h => b0 (HG.out.1.symm.trans h.1)
    go_wp2_with (go_at_call 65; refine (four_at HO.out HB.out.2 HB.out.1 0 4 cap (by omega) (by omega) _ (hb2.mono (by omega))).mono ?_; rintro e w3 ⟨rfl, hb3⟩; rw [HG.out.1]; have hx3 := (hb3.cell (p := ⟨k, 8, none⟩) (cellLt hx)).trans hx)
    go_ret3
    rw [HE.out]
    exact ⟨rfl, chainB HW.out hb3⟩
  have e0 : ((M : Int) != 827474771) = false := by simp; omega
  by_cases b1 : G < 1
  · have e1 : decide ((G : Int) < 1) = true := decide_eq_true (by omega)
    have HE : Hid (hdrOf l = none) := hdrOf_not fun h => by have := h.2.1; rw [HG.out.2.1] at this; omega
    go_wp2_with (go_at_call 65; refine (four_at HO.out HB.out.2 HB.out.1 0 4 cap (by omega) (by omega) _ (hb2.mono (by omega))).mono ?_; rintro e w3 ⟨rfl, hb3⟩; rw [HG.out.1]; have hx3 := (hb3.cell (p := ⟨k, 8, none⟩) (cellLt hx)).trans hx)
    go_ret3
    rw [HE.out]
    exact ⟨rfl, chainB HW.out hb3⟩
  have e1 : decide ((G : Int) < 1) = false := decide_eq_false (by omega)
  by_cases b2 : 1073741824 < G
  · have e2 : decide ((1073741824 : Int) < (G : Int)) = true := decide_eq_true (by omega)
    have HE : Hid (hdrOf l = none) := hdrOf_not fun h => by have := h.2.2.1; rw [HG.out.2.1] at this; omega
    go_wp2_with (go_at_call 65; refine (four_at HO.out HB.out.2 HB.out.1 0 4 cap (by omega) (by omega) _ (hb2.mono (by omega))).mono ?_; rintro e w3 ⟨rfl, hb3⟩; rw [HG.out.1]; have hx3 := (hb3.cell (p := ⟨k, 8, none⟩) (cellLt hx)).trans hx)
    go_ret3
    rw [HE.out]
    exact ⟨rfl, chainB HW.out hb3⟩
  have e2 : decide ((1073741824 : Int) < (G : Int)) = false := decide_eq_false (by omega)
  by_cases b3 : 1 < X
  · have e3 : decide ((1 : Int) < (X : Int)) = true := decide_eq_true (by omega)
    have HE : Hid (hdrOf l = none) := hdrOf_not fun h => by have := h.2.2.2.1; rw [HG.out.2.2] at this; omega
    go_wp2_with (go_at_call 65; refine (four_at HO.out HB.out.2 HB.out.1 0 4 cap (by omega) (by omega) _ (hb2.mono (by omega))).mono ?_; rintro e w3 ⟨rfl, hb3⟩; rw [HG.out.1]; have hx3 := (hb3.cell (p := ⟨k, 8, none⟩) (cellLt hx)).trans hx)
    go_ret3
    rw [HE.out]
    exact ⟨rfl, chainB HW.out hb3⟩
  have e3 : decide ((1 : Int) < (X : Int)) = false := decide_eq_false (by omega)
  have HS : Hid (M = 827474771 ∧ 1 ≤ G ∧ G ≤ 1073741824 ∧ X ≤ 1) := ⟨by omega, by omega, by omega, by omega⟩
  go_wp2_with (go_at_call 65; refine (four_at HO.out HB.out.2 HB.out.1 0 4 cap (by omega) (by omega) _ (hb2.mono (by omega))).mono ?_; rintro e w3 ⟨rfl, hb3⟩; rw [HG.out.1]; have hx3 := (hb3.cell (p := ⟨k, 8, none⟩) (cellLt hx)).trans hx)
  have HC : Hid (Below w.heap.size w w3 ∧ ∀ i, i < 64 → w3.cell? ⟨k, i, none⟩ = some (.int .u8 (gB l i : Nat))) := by
    refine ⟨chainB HW.out hb3, fun i hi => ?_⟩
    have hq : l[i]? = some (l[i]'(by rw [HB.out.2]; exact hi)) := List.getElem?_eq_getElem _
    rw [(chainB hb2 hb3).cell (p := ⟨k, i, none⟩) hk, hcl i _ hq, gB_get hq (HB.out.1 _ (List.mem_of_getElem? hq)).1]
  clear HR HW HO hb1 hb2 hb3 hcl ho hx e0 e1 e2 e3 b0 b1 b2 b3
  go_loop [8] (fun x => ∃ n : Nat, x = .int .i64 n ∧ 9 ≤ n ∧ n ≤ 64 ∧ ∀ j, 9 ≤ j → j < n → gB l j = 0) (fun x => (64 - RowKit.intOf x).toNat)
  case atStart => exact ⟨9, rfl, Nat.le_refl _, by omega, fun j h1 h2 => by omega⟩
  case round =>
    obtain ⟨n, rfl, h9, h64, hz⟩ := hrel
    have HZ : Hid (∀ j, 9 ≤ j → j < n → gB l j = 0) := hz
    clear hz
    by_cases hn : n < 64
    · have hd : decide ((n : Int) < 64) = true := decide_eq_true (by omega)
      have hc := HC.out.2 n hn
      obtain ⟨y, hy⟩ : ∃ y, gB l n = y := ⟨_, rfl⟩
      rw [hy] at hc
      have HY : Hid (gB l n = y) := hy
      clear hy
      by_cases hy0 : y = 0
      · subst hy0
        go_wp2
        go_round
        case rel => exact ⟨n + 1, by go_num, by omega, by omega, fun j h1 h2 => by
          by_cases hj : j = n
          · rw [hj]; exact HY.out
          · exact HZ.out j h1 (by omega)⟩
        case measure => simp [RowKit.intOf]; omega
      · have e4 : ((y : Int) != 0) = true := by simp; omega
        have HE : Hid (hdrOf l = none) := hdrOf_not fun h => hy0 (HY.out.symm.trans (h.2.2.2.2 n h9 hn))
        go_wp2
        go_ret3
        rw [HE.out]
        exact ⟨rfl, HC.out.1⟩
    · have hd : decide ((n : Int) < 64) = false := decide_eq_false (by omega)
      have HE : Hid (hdrOf l = some (G, X)) := by
        have := hdrOf_is HB.out.1 HB.out.2 ⟨HG.out.1.trans HS.out.1, by rw [HG.out.2.1]; exact HS.out.2.1, by rw [HG.out.2.1]; exact HS.out.2.2.1, by rw [HG.out.2.2]; exact HS.out.2.2.2, fun i h1 h2 => HZ.out i h1 (by omega)⟩
        rw [HG.out.2.1, HG.out.2.2] at this
        exact this
      have hc8 := HC.out.2 8 (by omega)
      rw [HG.out.2.2] at hc8
      go_wp2
      go_quiet (fail)
      go_wp2
      go_ret3
      rw [HE.out]
      exact ⟨rfl, below_drewN HC.out.1 _⟩
end
section
open Go.RowKit Go.Lib

theorem lit_own (w : World) (x y z u : Int) : OwnB (w.alloc (.cells #[.int .u8 x, .int .u8 y, .int .u8 z, .int .u8 u] 5 (0, 0))) w.heap.size (.slice (some ⟨w.heap.size, 0, none⟩) 4 4) [x, y, z, u] :=
  owns_whole (xs := [.int .u8 x, .int .u8 y, .int .u8 z, .int .u8 u]) (Nat.le_refl _) (heap_new _ _) rfl (by decide)
set_option maxRecDepth 100000 in
theorem head_d (g h : Nat) (w : World) (hg : g < 4294967296) :
    Calls Try.prog 46 #[.int .i64 g, .int .i64 h] w fun e w' => ∃ v, e = .returned v ∧ OwnB w' w.heap.size v (hdrB g h) ∧ Below w.heap.size w w' := by
  have HL : Hid (OwnB (w.alloc (.cells #[.int .u8 83, .int .u8 67, .int .u8 82, .int .u8 49] 5 (0, 0))) w.heap.size (.slice (some ⟨w.heap.size, 0, none⟩) 4 4) [83, 67, 82, 49]) := lit_own w 83 67 82 49
  go_enter Try.func46, Try.ntmps46
  go_wp2_with (first
    | (go_at_call 66; refine (Four_d g _ hg).mono ?_; rintro e w1 ⟨k1, rfl, ho1, hb1⟩; have hs1 := hb1.size; simp at hs1)
    | (at_builtin; refine wpList_appB rfl _ _ rfl w.heap.size _ _ rfl (HL.out.below hb1) _ _ rfl ho1.rb (by simp [n4_len]) (by omega) ?_; intro v2 w2 ho2 hb2 _; have hs2 := hb2.size)
    | (at_builtin; refine wpList_appB rfl _ _ rfl w.heap.size _ _ rfl (ho2.alloc _) _ [_] rfl (RB.one _ _ _) (by simp [n4_len]) (by simp; omega) ?_; intro v3 w3 ho3 hb3 _; have hs3 := hb3.size; simp at hs3)
    | (at_builtin; refine wpList_appZ rfl _ _ rfl w.heap.size _ _ rfl ho3 55 rfl (by omega) (by simp [n4_len]) (by omega) ?_; intro v4 w4 ho4 hb4 _))
  go_ret
  refine ⟨_, rfl, ?_, ?_⟩
  · have hcv : ((h : Int) % 256) = ((h % 256 : Nat) : Int) := by omega
    unfold hdrB fillB
    rw [← hcv]
    simp only [List.append_assoc] at ho4 ⊢
    exact ho4
  · have k1 : Below w.heap.size w w1 := below_al (hb1.mono (by simp)) (by omega)
    have k3 : Below w.heap.size w2 w3 := below_al hb3 (by omega)
    exact ((k1.trans hb2).trans k3).trans hb4
end
section
open Go.RowKit Go.Lib

theorem run_append_none (w : World) (ty : TypeId) (base : Nat) (v : Value) (l : List Int) (hown : OwnB w base v l) (hl : 1 ≤ l.length) :
    (Builtin.append_ #[22, 3] ty #[v, .int .i64 0]).run Try.prog w = .ok v w := by
  obtain ⟨i, hi, hz, hs, hb⟩ := info_parts Try.infoUz
  have hrow : w.ownsRow base 5 1 v l.length (ub l) := hown
  rcases hrow.2 with ⟨rfl, h0⟩ | ⟨g, cap, cur, rfl, hbg, hg, hnc, hcm, hcs, htake⟩
  · omega
  · have hw : IntKind.i64.wrap 0 = 0 := by decide
    simp [hw, storeCells, Builtin.append_, run_underlying Try.underlying22, run_underlying Try.underlying3, sizeOf, typeInfo, zeroValue, hi, hz, hb, asInt, asIntOf, hnc]
theorem wpList_appZ0 {w : World} {ops : Array Oper} {rest : List Oper} {o : Oper} {a : Act} {Q : Exit → Act → World → Prop} (hgd : o.guard = none) (s x : Operand)
    (ho : o.op = .call { callee := .builtin .append, args := #[s, x], argTypes := #[22, 3] }) (base : Nat) (v : Value) (l : List Int) (hs : a.eval s = v) (hown : OwnB w base v l) (hl : 1 ≤ l.length)
    (m : Nat) (hx : a.eval x = .int .i64 m) (hlen : l.length + m ≤ 140737488351232) (hbase : base ≤ w.heap.size)
    (h : ∀ v' w', OwnB w' base v' (l ++ List.replicate m 0) → Below base w w' → wpList Try.prog ops Q rest (a.put o.dst v') w') : wpList Try.prog ops Q (o :: rest) a w := by
  by_cases hm : m = 0
  · subst hm
    exact Lib.wpList_append_run w hgd s x 22 3 ho _ _ hs hx _ _ (run_append_none w o.type base v l hown hl) (h _ _ (by simpa using hown) (Below.refl _ _))
  · exact wpList_appZ hgd s x ho base v l hs hown m hx (by omega) hlen hbase (fun v' w' h1 h2 _ => h v' w' h1 h2)
end
end Go.Proofs.Ytajgaialnafdbaa
