/- A disk and the document's that stand alike; the contract of the law's like. -/
import Derived.Test.YtfomnnlilmahhaaRfC
namespace Go.Proofs.Ytfomnnlilmahhaa
open Go.RowKit

structure Sim (s : Dsk) (R : Rf) : Prop where
  n : s.cs.length = R.n
  on : s.on = R.lit
  wr : s.writes = R.did.length
  fz : (s.burns = false ∧ R.fz = -1) ∨ (s.burns = true ∧ s.on = true ∧ 0 ≤ s.left ∧ s.left ≤ 9223372036854775807 ∧ R.fz = s.left)
  cs : ∀ i, i < R.n → s.cs[i]? = some (lastW R.did i)
theorem has_iff (s : Dsk) (i : Int) : s.has i = decide (0 ≤ i ∧ i < s.cs.length) := by unfold Dsk.has; rw [Bool.decide_and]
theorem Sim.rd {s : Dsk} {R : Rf} (h : Sim s R) (i : Int) : s.rdE i = R.rdE i ∧ s.rd i = R.rd i := by
  unfold Dsk.rdE Dsk.rd Rf.rdE Rf.rd
  rw [has_iff, h.n]
  by_cases hi : 0 ≤ i ∧ i < R.n
  · rw [decide_eq_true hi, if_pos rfl, if_pos rfl, if_pos hi, if_pos hi, h.cs i.toNat (by omega)]; exact ⟨rfl, rfl⟩
  · rw [decide_eq_false hi, if_neg hi, if_neg hi]; exact ⟨rfl, rfl⟩
theorem IsD.rd_len {w : World} {b g : Nat} {s : Dsk} (h : IsD w b g s) (i : Int) : (s.rd i).length ≤ 64 := by
  unfold Dsk.rd
  split
  · cases e : s.cs[i.toNat]? with
    | none => simp
    | some l => exact Nat.le_of_eq (h.each l (List.mem_of_getElem? e))
  · simp

theorem IsD.drew {w : World} {b g : Nat} {s : Dsk} (h : IsD w b g s) : IsD w.drew b g s := ⟨h.head, h.body, h.each, h.apart, h.few⟩
theorem lk_start {w : World} {b g r : Nat} {s : Dsk} {x y z : Value} (h : IsD w b g s) (h0 : w.cell? ⟨r, 0, none⟩ = some x) (h1 : w.cell? ⟨r, 1, none⟩ = some y) (h2 : w.cell? ⟨r, 2, none⟩ = some z) :
    IsD w.drew b g s ∧ w.drew.cell? ⟨r, 0, none⟩ = some x ∧ w.drew.cell? ⟨r, 1, none⟩ = some y ∧ w.drew.cell? ⟨r, 2, none⟩ = some z := ⟨h.drew, h0, h1, h2⟩

set_option maxHeartbeats 8000000 in
theorem like_any (b g r : Nat) (s : Dsk) (R : Rf) (w : World) (hD : IsD w b g s) (hR : IsR w r R) (hS : Sim s R) (hn : R.n ≤ 1024) (hbig : R.did.length * 32 ≤ 140737488355328) :
    Calls Try.prog 29 #[.pointer (some ⟨b, 0, none⟩), .pointer (some ⟨r, 0, none⟩)] w fun e w' => e = .returned (.bool true) ∧ Below w.heap.size w w' := by
  obtain ⟨c0, c1, c2, _⟩ := hR.cells
  obtain ⟨a, cap, hv⟩ := hR.form
  rw [hv] at c1
  have H : Hid (IsD w b g s ∧ IsR w r R ∧ Sim s R) := ⟨hD, hR, hS⟩
  have HD : Hid (IsD w b g s) := hD
  obtain ⟨N, hN⟩ : ∃ N, R.n = N := ⟨_, rfl⟩
  obtain ⟨Ln, hLn⟩ : ∃ Ln, R.did.length = Ln := ⟨_, rfl⟩
  rw [hN] at c0 hn
  rw [hLn] at c1 hbig
  have HN : Hid (s.cs.length = N ∧ s.writes = Ln ∧ s.on = R.lit ∧ R.did.length = Ln ∧ R.n = N) := ⟨hS.n.trans hN, by rw [hS.wr, hLn], hS.on, hLn, hN⟩
  have hlr := hR.tr.lt
  clear hD hR hS hv hN hLn
  go_enter Try.func29, Try.ntmps29
  go_upto_region 1 with fail
  go_region_held3 (fun w' => IsD w' b g s ∧ w'.cell? ⟨r, 0, none⟩ = some (.int .i64 N) ∧ w'.cell? ⟨r, 1, none⟩ = some (.slice a Ln cap) ∧ w'.cell? ⟨r, 2, none⟩ = some (.bool R.lit))
    (first | exact lk_start HD.out c0 c1 c2 | assumption)
    (first
      | (go_at_call 32; refine (size_any b g s _ HD.out.drew).mono ?_; rintro e w' ⟨rfl, rfl⟩; rw [HN.out.1])
      | (go_at_call 27; refine (on_any b g s _ HD.out.drew).mono ?_; rintro e w' ⟨rfl, rfl⟩; rw [HN.out.2.2.1])
      | (go_at_call 28; refine (writes_any b g s _ HD.out.drew).mono ?_; rintro e w' ⟨rfl, rfl⟩; rw [HN.out.2.1]))
  have hI0 : Below w.heap.size w w.drew := (Below.refl _ _).drew
  obtain ⟨W, hW⟩ : ∃ W, w.drew = W := ⟨_, rfl⟩
  have hI1 : IsD W b g s ∧ IsR W r R ∧ Below w.heap.size w W := by rw [← hW]; exact ⟨H.out.1.drew, H.out.2.1.drew, hI0⟩
  have HB : Hid (IsD W b g s ∧ IsR W r R ∧ Below w.heap.size w W) := hI1
  rw [hW]
  clear hI0 hI1 hW c0 c1 c2
  go_wp2
  go_loopw [5] (fun i wr => ∃ x : Int, i = .int .i64 x ∧ -1 ≤ x ∧ x ≤ N + 1 ∧ IsD wr b g s ∧ IsR wr r R ∧ Below w.heap.size w wr) (fun i _ => (N + 1 - intOf i).toNat)
  case atStart => exact ⟨-1, rfl, by omega, by omega, HB.out.1, HB.out.2.1, HB.out.2.2⟩
  case round =>
    obtain ⟨x, rfl, hx1, hx2, hD, hR, hb⟩ := hrel
    obtain ⟨c0, _⟩ := hR.cells
    rw [HN.out.2.2.2.2] at c0
    by_cases hlt : x ≤ N
    · obtain ⟨e1, e2⟩ := H.out.2.2.rd x
      have hl := H.out.1.rd_len x
      obtain ⟨L, hL⟩ : ∃ L, s.rd x = L := ⟨_, rfl⟩
      obtain ⟨E, hE⟩ : ∃ E, s.rdE x = E := ⟨_, rfl⟩
      have HX : Hid (s.rd x = L ∧ s.rdE x = E ∧ R.rd x = L ∧ R.rdE x = E) := ⟨hL, hE, e2 ▸ hL, e1 ▸ hE⟩
      rw [hL] at hl
      clear hL hE e1 e2
      go_wp2_with (first
        | (go_at_call 16; refine (read_any b g s x _ hD).mono ?_; rintro e w1 ⟨v1, rfl, ho1, hb1⟩; rw [HX.out.2.1]; rw [HX.out.1] at ho1)
        | (go_at_call 17; refine (rread_any r R x _ (hR.below hb1) (by rw [HN.out.2.2.2.1]; exact hbig)).mono ?_; rintro e w2 ⟨v2, rfl, ho2, hb2⟩; rw [HX.out.2.2.2]; rw [HX.out.2.2.1] at ho2)
        | (go_at_call 18; refine (same_any v1 v2 L _ _ _ (ho1.below hb2) ho2 (by omega)).mono ?_; rintro e w3 ⟨rfl, hb3⟩))
      go_roundw
      case rel => exact ⟨x + 1, rfl, by omega, by omega, ((hD.below hb1).below hb2).below hb3, ((hR.below hb1).below hb2).below hb3, chainB (chainB (chainB hb hb1) hb2) hb3⟩
      case measure => simp [intOf]; omega
    · go_wp2
      go_ret
      exact ⟨rfl, hb⟩
end Go.Proofs.Ytfomnnlilmahhaa
