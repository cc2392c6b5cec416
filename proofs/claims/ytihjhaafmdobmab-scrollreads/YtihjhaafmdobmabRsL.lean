/- A disk and the document's that stand alike; the contract of the law's like. -/
import Derived.Test.YtihjhaafmdobmabRsR
namespace Go.Proofs.Ytihjhaafmdobmab
open Go.RowKit

structure Sim (s : Dsk) (R : Rf) : Prop where
  n : s.cs.length = R.n
  on : s.on = R.lit
  wr : s.writes = R.did.length
  fz : (s.burns = false ∧ R.fz = -1) ∨ (s.burns = true ∧ s.on = true ∧ 0 ≤ s.left ∧ s.left ≤ 9223372036854775807 ∧ R.fz = s.left)
  cs : ∀ i, i < R.n → s.cs[i]? = some (lastW R.did i)
theorem has_iff (s : Dsk) (i : Int) : s.has i = decide (0 ≤ i ∧ i < s.cs.length) := by unfold Dsk.has; rw [Bool.decide_and]
theorem Sim.rd {s : Dsk} {R : Rf} (h : Sim s R) (i : Int) : s.rdE i = R.rdE i ∧ s.rd i = R.rd i := by
  unfold Dsk.rdE Dsk.rd Rf.rdE Rf.rd
  rw [has_iff, h.n]
  by_cases hi : 0 ≤ i ∧ i < R.n
  · rw [decide_eq_true hi, if_pos rfl, if_pos rfl, if_pos hi, if_pos hi, h.cs i.toNat (by omega)]; exact ⟨rfl, rfl⟩
  · rw [decide_eq_false hi, if_neg hi, if_neg hi]; exact ⟨rfl, rfl⟩
theorem IsD.rd_len {w : World} {b g : Nat} {s : Dsk} (h : IsD w b g s) (i : Int) : (s.rd i).length ≤ 64 := by
  unfold Dsk.rd
  split
  · cases e : s.cs[i.toNat]? with
    | none => simp
    | some l => exact Nat.le_of_eq (h.each l (List.mem_of_getElem? e))
  · simp

theorem IsD.drew {w : World} {b g : Nat} {s : Dsk} (h : IsD w b g s) : IsD w.drew b g s := ⟨h.head, h.body, h.each, h.apart, h.few⟩
theorem IsRf.drew {w : World} {r : Nat} {R : Rf} (h : IsRf w r R) : IsRf w.drew r R := h.moved rfl (fun _ _ => rfl) (fun _ _ => rfl)
theorem lk_start {w : World} {b g r : Nat} {s : Dsk} {x y z : Value} (h : IsD w b g s) (h0 : w.cell? ⟨r, 0, none⟩ = some x) (h1 : w.cell? ⟨r, 1, none⟩ = some y) (h2 : w.cell? ⟨r, 2, none⟩ = some z) :
    IsD w.drew b g s ∧ w.drew.cell? ⟨r, 0, none⟩ = some x ∧ w.drew.cell? ⟨r, 1, none⟩ = some y ∧ w.drew.cell? ⟨r, 2, none⟩ = some z := ⟨h.drew, h0, h1, h2⟩

theorem new_len (n : Nat) : (Dsk.new n).cs.length = n := List.length_replicate ..
theorem set_same (cs : List (List Int)) (i : Nat) (l : List Int) (h : i < cs.length) : (cs.set i l)[i]? = some l := by
  rw [List.getElem?_set, if_pos rfl, if_pos h]
theorem set_other (cs : List (List Int)) (i j : Nat) (l : List Int) (h : i ≠ j) : (cs.set i l)[j]? = cs[j]? := by
  rw [List.getElem?_set, if_neg h]
theorem Sim.new (N : Nat) : Sim (Dsk.new N) (Rf.new N) :=
  ⟨new_len N, rfl, rfl, .inl ⟨rfl, rfl⟩, fun i hi => by have hi' : i < N := hi; show (List.replicate N zeros)[i]? = some zeros; rw [List.getElem?_replicate, if_pos hi']⟩
theorem Sim.cut {s : Dsk} {R : Rf} (h : Sim s R) : Sim s.cut R.cut := ⟨h.n, rfl, h.wr, .inl ⟨rfl, rfl⟩, h.cs⟩
theorem Sim.power {s : Dsk} {R : Rf} (h : Sim s R) : Sim s.power R.power := ⟨h.n, rfl, h.wr, .inl ⟨rfl, rfl⟩, h.cs⟩
theorem Sim.fuse {s : Dsk} {R : Rf} (h : Sim s R) (n : Int) (hn : n ≤ 9223372036854775807) : s.fuseE n = R.fuseE n ∧ Sim (s.fuse n) (R.fuse n) := by
  unfold Dsk.fuseE Dsk.fuse Rf.fuseE Rf.fuse
  rw [h.on]
  by_cases h0 : n < 0
  · simp only [if_pos h0]; exact ⟨trivial, h⟩
  · simp only [if_neg h0]
    by_cases ho : R.lit = true
    · simp only [if_pos ho]
      exact ⟨trivial, ⟨h.n, rfl, h.wr, .inr ⟨rfl, ho, by show 0 ≤ n; omega, hn, rfl⟩, h.cs⟩⟩
    · simp only [if_neg ho]; exact ⟨trivial, h⟩
theorem Sim.spend {s : Dsk} {R : Rf} (h : Sim s R) : s.spend.on = (R.lit && !decide (R.fz = 0)) := by
  unfold Dsk.spend
  rcases h.fz with ⟨e1, e2⟩ | ⟨e1, e2, e3, _, e4⟩
  · rw [e1, if_neg (by decide), h.on, e2]; simp
  · rw [e1, if_pos rfl, e4]
    by_cases hz : s.left = 0
    · rw [if_pos hz, decide_eq_true hz]; simp [Dsk.cut]
    · rw [if_neg hz, decide_eq_false hz, ← h.on]; simp
theorem Sim.wrE {s : Dsk} {R : Rf} (h : Sim s R) (i : Int) (n : Nat) : s.wrE i n = R.rwE i n := by
  unfold Dsk.wrE Rf.rwE
  rw [has_iff, h.n, h.spend]
  by_cases hi : 0 ≤ i ∧ i < R.n
  · rw [decide_eq_true hi, if_pos rfl, if_pos hi]
    by_cases hn : n = 64
    · rw [if_pos hn, if_pos hn]
      by_cases hz : R.fz = 0
      · rw [decide_eq_true hz, if_pos hz]; cases R.lit <;> rfl
      · rw [decide_eq_false hz, if_neg hz]; cases R.lit <;> rfl
    · rw [if_neg hn, if_neg hn]
  · rw [decide_eq_false hi, if_neg hi]; rfl
theorem Sim.good {s : Dsk} {R : Rf} (h : Sim s R) (hd : R.did.length < 9223372036854775807) : s.good := by
  refine ⟨fun e => ?_, by rw [h.wr]; omega, by rw [h.wr]; omega⟩
  rcases h.fz with ⟨e1, _⟩ | ⟨_, _, e3, e4, _⟩
  · rw [e1] at e; cases e
  · exact ⟨e3, e4⟩
theorem Sim.fzb {s : Dsk} {R : Rf} (h : Sim s R) : -1 ≤ R.fz ∧ R.fz ≤ 9223372036854775807 := by
  rcases h.fz with ⟨_, e⟩ | ⟨_, _, e3, e4, e5⟩ <;> omega
theorem Sim.write {s : Dsk} {R R' : Rf} (h : Sim s R) (i : Int) (l : List Int) (hA : R.After R' i l) : Sim (s.wr i l) R' ∧ R'.n = R.n ∧ R'.did.length ≤ R.did.length + 1 := by
  unfold Rf.After at hA
  unfold Dsk.wr
  rw [has_iff, h.n]
  by_cases hi : 0 ≤ i ∧ i < R.n
  · rw [decide_eq_true hi, if_pos rfl]
    by_cases hl : l.length = 64
    · rw [if_pos hl]
      by_cases ho : R.lit = true
      · rw [if_pos ⟨hi.1, hi.2, hl, ho⟩] at hA
        by_cases hz : R.fz = 0
        · rw [if_pos hz] at hA
          subst hA
          rw [if_neg (by rw [h.spend, hz]; simp)]
          have hs : s.spend = s.cut := by
            unfold Dsk.spend
            rcases h.fz with ⟨_, e⟩ | ⟨e1, _, _, _, e5⟩
            · omega
            · rw [if_pos e1, if_pos (by omega)]
          rw [hs]
          exact ⟨h.cut, rfl, Nat.le_succ _⟩
        · rw [if_neg hz] at hA
          obtain ⟨a1, a2, a3, v, a4⟩ := hA
          rw [if_pos (by rw [h.spend, ho, decide_eq_false hz]; rfl)]
          have hiN : i.toNat < s.cs.length := by rw [h.n]; omega
          refine ⟨⟨?_, ?_, ?_, ?_, ?_⟩, a1, by rw [a4, List.length_append]; exact Nat.le_refl _⟩
          · show (s.cs.set _ _).length = _; rw [List.length_set, h.n, a1]
          · show s.spend.on = _; rw [a2, h.spend, ho, decide_eq_false hz]; rfl
          · show s.writes + 1 = _; rw [h.wr, a4, List.length_append]; simp
          · rcases h.fz with ⟨e1, e2⟩ | ⟨e1, e2, e3, e4, e5⟩
            · have hs : s.spend = s := by unfold Dsk.spend; rw [e1]; rfl
              exact .inl ⟨by show s.spend.burns = _; rw [hs]; exact e1, by rw [a3, if_neg (by omega)]; exact e2⟩
            · have hs : s.spend = { s with left := s.left - 1 } := by unfold Dsk.spend; rw [if_pos e1, if_neg (by omega)]
              refine .inr ⟨by show s.spend.burns = _; rw [hs]; exact e1, by show s.spend.on = _; rw [hs]; exact e2, ?_, ?_, ?_⟩
              · show 0 ≤ s.spend.left; rw [hs]; show 0 ≤ s.left - 1; omega
              · show s.spend.left ≤ _; rw [hs]; show s.left - 1 ≤ _; omega
              · show R'.fz = s.spend.left; rw [hs, a3, if_pos (by omega)]; show R.fz - 1 = s.left - 1; omega
          · intro j hj
            rw [a1] at hj
            show (s.cs.set _ _)[j]? = _
            rw [a4, lastW_snoc]
            by_cases e : i.toNat = j
            · rw [if_pos e, e]; exact set_same _ _ _ (by omega)
            · rw [if_neg e, set_other _ _ _ _ e]; exact h.cs j hj
      · rw [if_neg (fun e => ho e.2.2.2)] at hA
        subst hA
        rw [if_neg (by rw [h.spend]; simp [ho])]
        have hs : s.spend = s := by
          unfold Dsk.spend
          rcases h.fz with ⟨e1, _⟩ | ⟨_, e2, _⟩
          · rw [e1]; rfl
          · rw [← h.on] at ho; exact absurd e2 ho
        rw [hs]
        exact ⟨h, rfl, Nat.le_succ _⟩
    · rw [if_neg (fun e => hl e.2.2.1)] at hA
      subst hA
      rw [if_neg hl]
      exact ⟨h, rfl, Nat.le_succ _⟩
  · rw [if_neg (fun e => hi ⟨e.1, e.2.1⟩)] at hA
    subst hA
    rw [decide_eq_false hi]
    exact ⟨h, rfl, Nat.le_succ _⟩


set_option maxRecDepth 20000 in
set_option maxHeartbeats 8000000 in
theorem like_any (b g r : Nat) (s : Dsk) (R : Rf) (w : World) (hD : IsD w b g s) (hR : IsRf w r R) (hS : Sim s R) (hn : R.n ≤ 1024) (hbig : R.did.length * 32 ≤ 140737488355328) :
    Calls Try.prog 39 #[.pointer (some ⟨b, 0, none⟩), .pointer (some ⟨r, 0, none⟩)] w fun e w' => e = .returned (.bool true) ∧ Below w.heap.size w w' := by
  obtain ⟨c0, c1, c2, _⟩ := hR.cells
  obtain ⟨a, cap, hv⟩ := hR.form
  rw [hv] at c1
  have H : Hid (IsD w b g s ∧ IsRf w r R ∧ Sim s R) := ⟨hD, hR, hS⟩
  have HD : Hid (IsD w b g s) := hD
  obtain ⟨N, hN⟩ : ∃ N, R.n = N := ⟨_, rfl⟩
  obtain ⟨Ln, hLn⟩ : ∃ Ln, R.did.length = Ln := ⟨_, rfl⟩
  rw [hN] at c0 hn
  rw [hLn] at c1 hbig
  have HN : Hid (s.cs.length = N ∧ s.writes = Ln ∧ s.on = R.lit ∧ R.did.length = Ln ∧ R.n = N) := ⟨hS.n.trans hN, by rw [hS.wr, hLn], hS.on, hLn, hN⟩
  have hlr := hR.tr.lt
  clear hD hR hS hv hN hLn
  go_enter Try.func39, Try.ntmps39
  go_upto_region 1 with fail
  go_region_held3 (fun w' => IsD w' b g s ∧ w'.cell? ⟨r, 0, none⟩ = some (.int .i64 N) ∧ w'.cell? ⟨r, 1, none⟩ = some (.slice a Ln cap) ∧ w'.cell? ⟨r, 2, none⟩ = some (.bool R.lit))
    (first | exact lk_start HD.out c0 c1 c2 | assumption)
    (first
      | (go_at_call 90; refine (on_any b g s _ HD.out.drew).mono ?_; rintro e w' ⟨rfl, rfl⟩; rw [HN.out.2.2.1])
      | (go_at_call 91; refine (writes_any b g s _ HD.out.drew).mono ?_; rintro e w' ⟨rfl, rfl⟩; rw [HN.out.2.1]))
  have hI0 : Below w.heap.size w w.drew := (Below.refl _ _).drew
  obtain ⟨W, hW⟩ : ∃ W, w.drew = W := ⟨_, rfl⟩
  have hI1 : IsD W b g s ∧ IsRf W r R ∧ Below w.heap.size w W := by rw [← hW]; exact ⟨H.out.1.drew, H.out.2.1.drew, hI0⟩
  have HB : Hid (IsD W b g s ∧ IsRf W r R ∧ Below w.heap.size w W) := hI1
  rw [hW]
  clear hI0 hI1 hW c0 c1 c2
  go_wp2
  go_loopw [5] (fun i wr => ∃ x : Nat, i = .int .i64 x ∧ x ≤ N ∧ IsD wr b g s ∧ IsRf wr r R ∧ Below w.heap.size w wr) (fun i _ => (N + 1 - intOf i).toNat)
  case atStart => exact ⟨0, rfl, by omega, HB.out.1, HB.out.2.1, HB.out.2.2⟩
  case round =>
    obtain ⟨x, rfl, hx2, hD, hR, hb⟩ := hrel
    obtain ⟨c0, _⟩ := hR.cells
    rw [HN.out.2.2.2.2] at c0
    by_cases hlt : x < N
    · obtain ⟨e1, e2⟩ := H.out.2.2.rd x
      have hl := H.out.1.rd_len x
      obtain ⟨L, hL⟩ : ∃ L, s.rd x = L := ⟨_, rfl⟩
      obtain ⟨E, hE⟩ : ∃ E, s.rdE x = E := ⟨_, rfl⟩
      have HX : Hid (s.rd x = L ∧ s.rdE x = E ∧ R.rd x = L ∧ R.rdE x = E) := ⟨hL, hE, e2 ▸ hL, e1 ▸ hE⟩
      rw [hL] at hl
      clear hL hE e1 e2
      go_wp2_with (first
        | (go_at_call 74; refine (read_any b g s x _ hD).mono ?_; rintro e w1 ⟨v1, rfl, ho1, hb1⟩; rw [HX.out.2.1]; rw [HX.out.1] at ho1)
        | (go_at_call 92; refine (rread_any r R x _ (hR.below hb1) (by rw [HN.out.2.2.2.1]; exact hbig)).mono ?_; rintro e w2 ⟨v2, rfl, ho2, hb2⟩; rw [HX.out.2.2.2]; rw [HX.out.2.2.1] at ho2)
        | (go_at_call 23; refine (same_any v1 v2 L L _ (ho1.below hb2).rb ho2.rb (by omega) (by omega)).mono ?_; rintro e w3 ⟨rfl, hb3⟩; rw [decide_eq_true rfl]))
      go_roundw
      case rel => exact ⟨x + 1, by go_num, by omega, ((hD.below hb1).below hb2).below hb3, ((hR.below hb1).below hb2).below hb3, chainB (chainB (chainB hb hb1) hb2) hb3⟩
      case measure => simp [intOf]; omega
    · go_wp2
      go_ret
      exact ⟨rfl, hb⟩
end Go.Proofs.Ytihjhaafmdobmab
