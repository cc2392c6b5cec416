/- The contract of the document's Read. -/
import Derived.Test.YtajgaialnafdbaaJSAys19
namespace Go.Proofs.Ytajgaialnafdbaa
section
open Go.RowKit

theorem int_beq (n : Nat) (c : Nat) : ((n : Int) == (c : Int)) = decide (n = c) := by
  rw [Bool.eq_iff_iff]; simp; omega

/-- what was written into a block last -/
def lastW (did : List (Nat × Value × List Int)) (i : Nat) : List Int := did.foldl (fun acc p => if p.1 = i then p.2.2 else acc) zeros
theorem lastW_snoc (did : List (Nat × Value × List Int)) (p : Nat × Value × List Int) (i : Nat) : lastW (did ++ [p]) i = if p.1 = i then p.2.2 else lastW did i := by
  unfold lastW; rw [List.foldl_append]; rfl
theorem lastW_take (did : List (Nat × Value × List Int)) (q i : Nat) (h : q < did.length) : lastW (did.take (q + 1)) i = if (did[q]'h).1 = i then (did[q]'h).2.2 else lastW (did.take q) i := by
  rw [List.take_succ_eq_append_getElem h]; exact lastW_snoc _ _ _
theorem wcells_at (did : List (Nat × Value × List Int)) (q : Nat) (h : q < did.length) : (wcells did)[q * 2]? = some (.int .i64 (did[q]'h).1) ∧ (wcells did)[q * 2 + 1]? = some (did[q]'h).2.1 := by
  induction did generalizing q with
  | nil => simp at h
  | cons p did ih =>
    unfold wcells at ih ⊢
    rw [List.flatMap_cons]
    cases q with
    | zero => exact ⟨rfl, rfl⟩
    | succ q =>
      have := ih q (by simpa using h)
      rw [show (q + 1) * 2 = q * 2 + 2 by omega, show q * 2 + 2 + 1 = q * 2 + 1 + 2 by omega]
      simpa using this
theorem wcells_len (did : List (Nat × Value × List Int)) : (wcells did).length = did.length * 2 := by
  induction did with
  | nil => rfl
  | cons p did ih => unfold wcells at ih ⊢; rw [List.flatMap_cons, List.length_append, ih, List.length_cons]; simp; omega

/-- one of the writes that were done -/
theorem IsRf.did_at {w : World} {r : Nat} {R : Rf} (h : IsRf w r R) (q : Nat) (hq : q < R.did.length) : ∃ gv cap gb cb, R.v = .slice (some ⟨gv, 0, none⟩) R.did.length cap ∧ w.cell? ⟨gv, q * 2, none⟩ = some (.int .i64 (R.did[q]'hq).1) ∧ w.cell? ⟨gv, q * 2 + 1, none⟩ = some (.slice (some ⟨gb, 0, none⟩) 64 cb) ∧
    (R.did[q]'hq).2.2.length = 64 ∧ (∀ j u, (ub (R.did[q]'hq).2.2)[j]? = some u → w.cell? ((⟨gb, 0, none⟩ : Addr).add j) = some u) := by
  obtain ⟨ho, hl⟩ := h.each _ (List.getElem_mem hq)
  rcases ho.form with ⟨_, e⟩ | ⟨gb, cb, e, _, _, _, hc, _⟩
  · rw [e] at hl; simp at hl
  rw [hl] at e
  obtain ⟨a, cap, ev⟩ := h.form
  have hrow := h.row
  obtain ⟨m, hm⟩ : ∃ m, R.did.length = m + 1 := ⟨R.did.length - 1, by omega⟩
  rw [hm] at hrow
  obtain ⟨gv, cap', e2⟩ := owns_form hrow
  rw [e2] at hrow
  refine ⟨gv, cap', gb, cb, by rw [e2, hm], ?_, ?_, hl, ub_src hc⟩
  · rw [hrow.cellAt (q * 2) (by omega)]; exact (wcells_at R.did q hq).1
  · rw [hrow.cellAt (q * 2 + 1) (by omega), (wcells_at R.did q hq).2, e]

def Rf.rdE (R : Rf) (i : Int) : Int := if 0 ≤ i ∧ i < R.n then 0 else 20
def Rf.rd (R : Rf) (i : Int) : List Int := if 0 ≤ i ∧ i < R.n then lastW R.did i.toNat else []

set_option maxRecDepth 20000 in
set_option maxHeartbeats 2000000 in
theorem rread_no (r : Nat) (R : Rf) (i : Int) (w : World) (h : IsRf w r R) (hi : ¬ (0 ≤ i ∧ i < R.n)) :
    Calls Try.prog 50 #[.pointer (some ⟨r, 0, none⟩), .int .i64 i] w fun e w' => e = .returned (.tuple #[.slice none 0 0, .int .i64 20]) ∧ w' = w := by
  obtain ⟨c0, _⟩ := h.cells
  clear h
  by_cases h0 : i < 0
  · have hd : decide (i < 0) = true := decide_eq_true h0
    go_enter Try.func50, Try.ntmps50
    go_wp2
    go_ret2
    exact ⟨rfl, rfl⟩
  · have hd : decide (i < 0) = false := decide_eq_false h0
    have hd2 : decide ((R.n : Int) ≤ i) = true := decide_eq_true (by omega)
    go_enter Try.func50, Try.ntmps50
    go_wp2
    go_ret2
    exact ⟨rfl, rfl⟩

set_option maxRecDepth 20000 in
set_option maxHeartbeats 4000000 in
theorem rread_yes (r : Nat) (R : Rf) (i : Nat) (w : World) (h : IsRf w r R) (hi : i < R.n) (hbig : R.did.length * 32 ≤ 140737488355328) :
    Calls Try.prog 50 #[.pointer (some ⟨r, 0, none⟩), .int .i64 i] w fun e w' => ∃ v, e = .returned (.tuple #[v, .int .i64 0]) ∧ OwnB w' w.heap.size v (lastW R.did i) ∧ Below w.heap.size w w' := by
  obtain ⟨c0, c1, _⟩ := h.cells
  obtain ⟨i0, hi0, hu0, hu1, hu2⟩ := info_parts Try.infoU
  obtain ⟨a, cap, hv⟩ := h.form
  rw [hv] at c1
  have hd : decide ((i : Int) < 0) = false := decide_eq_false (by omega)
  have hd2 : decide ((R.n : Int) ≤ (i : Int)) = false := decide_eq_false (by omega)
  have H : Hid (IsRf w r R ∧ R.v = .slice a R.did.length cap) := ⟨h, hv⟩
  obtain ⟨N, hN⟩ : ∃ N, R.n = N := ⟨_, rfl⟩
  obtain ⟨Ln, hLn⟩ : ∃ Ln, R.did.length = Ln := ⟨_, rfl⟩
  rw [hN] at c0 hd2 hi
  rw [hLn] at hbig c1
  have HL : Hid (R.did.length = Ln) := hLn
  clear h hv hN hLn
  go_enter Try.func50, Try.ntmps50
  go_wp2
  go_loop [6] (fun x => ∃ m : Nat, m ≤ Ln ∧ lastW R.did i = lastW (R.did.take m) i ∧ ((m = 0 ∧ x = .int .i64 (-1)) ∨ ∃ q : Nat, m = q + 1 ∧ x = .int .i64 q)) (fun x => (intOf x + 1).toNat)
  case atStart =>
    refine ⟨Ln, Nat.le_refl _, by rw [List.take_of_length_le (by rw [HL.out]; exact Nat.le_refl _)], ?_⟩
    cases Ln with
    | zero => exact .inl ⟨rfl, rfl⟩
    | succ q => exact .inr ⟨q, rfl, by go_num⟩
  case round =>
    obtain ⟨m, hm, hw, hx⟩ := hrel
    have HW : Hid (lastW R.did i = lastW (R.did.take m) i) := hw
    clear hw
    rcases hx with ⟨rfl, rfl⟩ | ⟨q, rfl, rfl⟩
    · go_wp2_with (at_make; refine wpList_make_full _ rfl (.const (.int .i64 64)) (.const (.int .i64 64)) 22 rfl _ 5 i0 (.int .u8 0) 1 Try.underlying22 hi0 hu0 hu1 .i64 .i64 64 64 64 rfl rfl rfl rfl (by rw [hu2]; decide) (by decide) (Nat.le_refl _) ?_; intro w3 hown hgrow; have hb1 := below_grown hgrow; have ho1 := OwnB.made hown; clear hown hgrow)
      go_ret2
      refine ⟨_, rfl, ?_, hb1⟩
      rw [HW.out]; exact ho1
    · have hq : q < R.did.length := by rw [HL.out]; omega
      obtain ⟨gv, cap', gb, cb, e, d1, d2, hl, hsrc⟩ := H.out.1.did_at q hq
      have e' := H.out.2
      rw [e] at e'
      cases e'
      have hT := lastW_take R.did q i hq
      obtain ⟨P, hP⟩ : ∃ P, R.did[q] = P := ⟨_, rfl⟩
      rw [hP] at d1 hl hsrc hT
      have HT : Hid (lastW R.did i = if P.1 = i then P.2.2 else lastW (R.did.take q) i) := HW.out.trans hT
      have HS : Hid ((∀ j u, (ub P.2.2)[j]? = some u → w.cell? ((⟨gb, 0, none⟩ : Addr).add j) = some u) ∧ P.2.2.length = 64) := ⟨hsrc, hl⟩
      have hqi : (q : Int) < (Ln : Int) := by omega
      clear hP hT hsrc hl HW e hq
      by_cases hPi : P.1 = i
      · have hb : ((P.1 : Int) == (i : Int)) = true := by rw [int_beq]; exact decide_eq_true hPi
        have HP : Hid (P.1 = i) := hPi
        clear hPi
        go_wp2_with (at_builtin; refine wpList_append_own _ rfl _ _ 22 rfl w.heap.size 5 i0 (.int .u8 0) 1 1 Try.underlying22 hi0 hu0 hu1 hu2 rfl (by decide) _ _ _ rfl (World.ownsRow_nil _ _ _ _) ⟨gb, 0, none⟩ 64 cb (ub P.2.2) rfl (by rw [ub_len, HS.out.2]) HS.out.1 (ub_one _) (by decide) (by decide) (Nat.le_refl _) ?_; intro v' w1 hown hgrow _)
        go_ret2
        refine ⟨_, rfl, ?_, below_grown hgrow⟩
        rw [HT.out, if_pos HP.out]
        rw [Nat.zero_add, List.nil_append] at hown
        unfold OwnB
        rw [HS.out.2]; exact hown
      · have hb : ((P.1 : Int) == (i : Int)) = false := by rw [int_beq]; exact decide_eq_false hPi
        have HP : Hid (¬ P.1 = i) := hPi
        clear hPi
        go_wp2
        go_round
        case rel =>
          refine ⟨q, by omega, by rw [HT.out, if_neg HP.out], ?_⟩
          cases q with
          | zero => exact .inl ⟨rfl, rfl⟩
          | succ q => exact .inr ⟨q, rfl, by go_num⟩
        case measure => simp [intOf]
theorem rread_any (r : Nat) (R : Rf) (i : Int) (w : World) (h : IsRf w r R) (hbig : R.did.length * 32 ≤ 140737488355328) :
    Calls Try.prog 50 #[.pointer (some ⟨r, 0, none⟩), .int .i64 i] w fun e w' => ∃ v, e = .returned (.tuple #[v, .int .i64 (R.rdE i)]) ∧ OwnB w' w.heap.size v (R.rd i) ∧ Below w.heap.size w w' := by
  by_cases hi : 0 ≤ i ∧ i < R.n
  · have e1 : R.rdE i = 0 := if_pos hi
    have e2 : R.rd i = lastW R.did i.toNat := if_pos hi
    rw [e1, e2]
    obtain ⟨m, rfl⟩ := Int.eq_ofNat_of_zero_le hi.1
    rw [Int.toNat_natCast]
    exact rread_yes r R m w h (by omega) hbig
  · have e1 : R.rdE i = 20 := if_neg hi
    have e2 : R.rd i = [] := if_neg hi
    rw [e1, e2]
    refine (rread_no r R i w h hi).mono ?_
    rintro e w' ⟨rfl, rfl⟩
    exact ⟨_, rfl, OwnB.nil _ _, Below.refl _ _⟩
end
section
open Go.RowKit

structure Sim (s : Dsk) (R : Rf) : Prop where
  n : s.cs.length = R.n
  on : s.on = R.lit
  wr : s.writes = R.did.length
  fz : (s.burns = false ∧ R.fz = -1) ∨ (s.burns = true ∧ s.on = true ∧ 0 ≤ s.left ∧ s.left ≤ 9223372036854775807 ∧ R.fz = s.left)
  cs : ∀ i, i < R.n → s.cs[i]? = some (lastW R.did i)
theorem has_iff (s : Dsk) (i : Int) : s.has i = decide (0 ≤ i ∧ i < s.cs.length) := by unfold Dsk.has; rw [Bool.decide_and]
theorem Sim.rd {s : Dsk} {R : Rf} (h : Sim s R) (i : Int) : s.rdE i = R.rdE i ∧ s.rd i = R.rd i := by
  unfold Dsk.rdE Dsk.rd Rf.rdE Rf.rd
  rw [has_iff, h.n]
  by_cases hi : 0 ≤ i ∧ i < R.n
  · rw [decide_eq_true hi, if_pos rfl, if_pos rfl, if_pos hi, if_pos hi, h.cs i.toNat (by omega)]; exact ⟨rfl, rfl⟩
  · rw [decide_eq_false hi, if_neg hi, if_neg hi]; exact ⟨rfl, rfl⟩
theorem IsD.rd_len {w : World} {b g : Nat} {s : Dsk} (h : IsD w b g s) (i : Int) : (s.rd i).length ≤ 64 := by
  unfold Dsk.rd
  split
  · cases e : s.cs[i.toNat]? with
    | none => simp
    | some l => exact Nat.le_of_eq (h.each l (List.mem_of_getElem? e))
  · simp

theorem IsD.drew {w : World} {b g : Nat} {s : Dsk} (h : IsD w b g s) : IsD w.drew b g s := ⟨h.head, h.body, h.each, h.apart, h.few⟩
theorem IsRf.drew {w : World} {r : Nat} {R : Rf} (h : IsRf w r R) : IsRf w.drew r R := h.moved rfl (fun _ _ => rfl) (fun _ _ => rfl)
theorem lk_start {w : World} {b g r : Nat} {s : Dsk} {x y z : Value} (h : IsD w b g s) (h0 : w.cell? ⟨r, 0, none⟩ = some x) (h1 : w.cell? ⟨r, 1, none⟩ = some y) (h2 : w.cell? ⟨r, 2, none⟩ = some z) :
    IsD w.drew b g s ∧ w.drew.cell? ⟨r, 0, none⟩ = some x ∧ w.drew.cell? ⟨r, 1, none⟩ = some y ∧ w.drew.cell? ⟨r, 2, none⟩ = some z := ⟨h.drew, h0, h1, h2⟩

theorem new_len (n : Nat) : (Dsk.new n).cs.length = n := List.length_replicate ..
theorem set_same (cs : List (List Int)) (i : Nat) (l : List Int) (h : i < cs.length) : (cs.set i l)[i]? = some l := by
  rw [List.getElem?_set, if_pos rfl, if_pos h]
theorem set_other (cs : List (List Int)) (i j : Nat) (l : List Int) (h : i ≠ j) : (cs.set i l)[j]? = cs[j]? := by
  rw [List.getElem?_set, if_neg h]
theorem Sim.new (N : Nat) : Sim (Dsk.new N) (Rf.new N) :=
  ⟨new_len N, rfl, rfl, .inl ⟨rfl, rfl⟩, fun i hi => by have hi' : i < N := hi; show (List.replicate N zeros)[i]? = some zeros; rw [List.getElem?_replicate, if_pos hi']⟩
theorem Sim.cut {s : Dsk} {R : Rf} (h : Sim s R) : Sim s.cut R.cut := ⟨h.n, rfl, h.wr, .inl ⟨rfl, rfl⟩, h.cs⟩
theorem Sim.power {s : Dsk} {R : Rf} (h : Sim s R) : Sim s.power R.power := ⟨h.n, rfl, h.wr, .inl ⟨rfl, rfl⟩, h.cs⟩
theorem Sim.fuse {s : Dsk} {R : Rf} (h : Sim s R) (n : Int) (hn : n ≤ 9223372036854775807) : s.fuseE n = R.fuseE n ∧ Sim (s.fuse n) (R.fuse n) := by
  unfold Dsk.fuseE Dsk.fuse Rf.fuseE Rf.fuse
  rw [h.on]
  by_cases h0 : n < 0
  · simp only [if_pos h0]; exact ⟨trivial, h⟩
  · simp only [if_neg h0]
    by_cases ho : R.lit = true
    · simp only [if_pos ho]
      exact ⟨trivial, ⟨h.n, rfl, h.wr, .inr ⟨rfl, ho, by show 0 ≤ n; omega, hn, rfl⟩, h.cs⟩⟩
    · simp only [if_neg ho]; exact ⟨trivial, h⟩
theorem Sim.spend {s : Dsk} {R : Rf} (h : Sim s R) : s.spend.on = (R.lit && !decide (R.fz = 0)) := by
  unfold Dsk.spend
  rcases h.fz with ⟨e1, e2⟩ | ⟨e1, e2, e3, _, e4⟩
  · rw [e1, if_neg (by decide), h.on, e2]; simp
  · rw [e1, if_pos rfl, e4]
    by_cases hz : s.left = 0
    · rw [if_pos hz, decide_eq_true hz]; simp [Dsk.cut]
    · rw [if_neg hz, decide_eq_false hz, ← h.on]; simp
theorem Sim.wrE {s : Dsk} {R : Rf} (h : Sim s R) (i : Int) (n : Nat) : s.wrE i n = R.rwE i n := by
  unfold Dsk.wrE Rf.rwE
  rw [has_iff, h.n, h.spend]
  by_cases hi : 0 ≤ i ∧ i < R.n
  · rw [decide_eq_true hi, if_pos rfl, if_pos hi]
    by_cases hn : n = 64
    · rw [if_pos hn, if_pos hn]
      by_cases hz : R.fz = 0
      · rw [decide_eq_true hz, if_pos hz]; cases R.lit <;> rfl
      · rw [decide_eq_false hz, if_neg hz]; cases R.lit <;> rfl
    · rw [if_neg hn, if_neg hn]
  · rw [decide_eq_false hi, if_neg hi]; rfl
theorem Sim.good {s : Dsk} {R : Rf} (h : Sim s R) (hd : R.did.length < 9223372036854775807) : s.good := by
  refine ⟨fun e => ?_, by rw [h.wr]; omega, by rw [h.wr]; omega⟩
  rcases h.fz with ⟨e1, _⟩ | ⟨_, _, e3, e4, _⟩
  · rw [e1] at e; cases e
  · exact ⟨e3, e4⟩
theorem Sim.fzb {s : Dsk} {R : Rf} (h : Sim s R) : -1 ≤ R.fz ∧ R.fz ≤ 9223372036854775807 := by
  rcases h.fz with ⟨_, e⟩ | ⟨_, _, e3, e4, e5⟩ <;> omega
theorem Sim.write {s : Dsk} {R R' : Rf} (h : Sim s R) (i : Int) (l : List Int) (hA : R.After R' i l) : Sim (s.wr i l) R' ∧ R'.n = R.n ∧ R'.did.length ≤ R.did.length + 1 := by
  unfold Rf.After at hA
  unfold Dsk.wr
  rw [has_iff, h.n]
  by_cases hi : 0 ≤ i ∧ i < R.n
  · rw [decide_eq_true hi, if_pos rfl]
    by_cases hl : l.length = 64
    · rw [if_pos hl]
      by_cases ho : R.lit = true
      · rw [if_pos ⟨hi.1, hi.2, hl, ho⟩] at hA
        by_cases hz : R.fz = 0
        · rw [if_pos hz] at hA
          subst hA
          rw [if_neg (by rw [h.spend, hz]; simp)]
          have hs : s.spend = s.cut := by
            unfold Dsk.spend
            rcases h.fz with ⟨_, e⟩ | ⟨e1, _, _, _, e5⟩
            · omega
            · rw [if_pos e1, if_pos (by omega)]
          rw [hs]
          exact ⟨h.cut, rfl, Nat.le_succ _⟩
        · rw [if_neg hz] at hA
          obtain ⟨a1, a2, a3, v, a4⟩ := hA
          rw [if_pos (by rw [h.spend, ho, decide_eq_false hz]; rfl)]
          have hiN : i.toNat < s.cs.length := by rw [h.n]; omega
          refine ⟨⟨?_, ?_, ?_, ?_, ?_⟩, a1, by rw [a4, List.length_append]; exact Nat.le_refl _⟩
          · show (s.cs.set _ _).length = _; rw [List.length_set, h.n, a1]
          · show s.spend.on = _; rw [a2, h.spend, ho, decide_eq_false hz]; rfl
          · show s.writes + 1 = _; rw [h.wr, a4, List.length_append]; simp
          · rcases h.fz with ⟨e1, e2⟩ | ⟨e1, e2, e3, e4, e5⟩
            · have hs : s.spend = s := by unfold Dsk.spend; rw [e1]; rfl
              exact .inl ⟨by show s.spend.burns = _; rw [hs]; exact e1, by rw [a3, if_neg (by omega)]; exact e2⟩
            · have hs : s.spend = { s with left := s.left - 1 } := by unfold Dsk.spend; rw [if_pos e1, if_neg (by omega)]
              refine .inr ⟨by show s.spend.burns = _; rw [hs]; exact e1, by show s.spend.on = _; rw [hs]; exact e2, ?_, ?_, ?_⟩
              · show 0 ≤ s.spend.left; rw [hs]; show 0 ≤ s.left - 1; omega
              · show s.spend.left ≤ _; rw [hs]; show s.left - 1 ≤ _; omega
              · show R'.fz = s.spend.left; rw [hs, a3, if_pos (by omega)]; show R.fz - 1 = s.left - 1; omega
          · intro j hj
            rw [a1] at hj
            show (s.cs.set _ _)[j]? = _
            rw [a4, lastW_snoc]
            by_cases e : i.toNat = j
            · rw [if_pos e, e]; exact set_same _ _ _ (by omega)
            · rw [if_neg e, set_other _ _ _ _ e]; exact h.cs j hj
      · rw [if_neg (fun e => ho e.2.2.2)] at hA
        subst hA
        rw [if_neg (by rw [h.spend]; simp [ho])]
        have hs : s.spend = s := by
          unfold Dsk.spend
          rcases h.fz with ⟨e1, _⟩ | ⟨_, e2, _⟩
          · rw [e1]; rfl
          · rw [← h.on] at ho; exact absurd e2 ho
        rw [hs]
        exact ⟨h, rfl, Nat.le_succ _⟩
    · rw [if_neg (fun e => hl e.2.2.1)] at hA
      subst hA
      rw [if_neg hl]
      exact ⟨h, rfl, Nat.le_succ _⟩
  · rw [if_neg (fun e => hi ⟨e.1, e.2.1⟩)] at hA
    subst hA
    rw [decide_eq_false hi]
    exact ⟨h, rfl, Nat.le_succ _⟩


set_option maxRecDepth 20000 in
set_option maxHeartbeats 8000000 in
theorem like_any (b g r : Nat) (s : Dsk) (R : Rf) (w : World) (hD : IsD w b g s) (hR : IsRf w r R) (hS : Sim s R) (hn : R.n ≤ 1024) (hbig : R.did.length * 32 ≤ 140737488355328) :
    Calls Try.prog 20 #[.pointer (some ⟨b, 0, none⟩), .pointer (some ⟨r, 0, none⟩)] w fun e w' => e = .returned (.bool true) ∧ Below w.heap.size w w' := by
  obtain ⟨c0, c1, c2, _⟩ := hR.cells
  obtain ⟨a, cap, hv⟩ := hR.form
  rw [hv] at c1
  have H : Hid (IsD w b g s ∧ IsRf w r R ∧ Sim s R) := ⟨hD, hR, hS⟩
  have HD : Hid (IsD w b g s) := hD
  obtain ⟨N, hN⟩ : ∃ N, R.n = N := ⟨_, rfl⟩
  obtain ⟨Ln, hLn⟩ : ∃ Ln, R.did.length = Ln := ⟨_, rfl⟩
  rw [hN] at c0 hn
  rw [hLn] at c1 hbig
  have HN : Hid (s.cs.length = N ∧ s.writes = Ln ∧ s.on = R.lit ∧ R.did.length = Ln ∧ R.n = N) := ⟨hS.n.trans hN, by rw [hS.wr, hLn], hS.on, hLn, hN⟩
  have hlr := hR.tr.lt
  clear hD hR hS hv hN hLn
  go_enter Try.func20, Try.ntmps20
  go_upto_region 1 with fail
  go_region_held3 (fun w' => IsD w' b g s ∧ w'.cell? ⟨r, 0, none⟩ = some (.int .i64 N) ∧ w'.cell? ⟨r, 1, none⟩ = some (.slice a Ln cap) ∧ w'.cell? ⟨r, 2, none⟩ = some (.bool R.lit))
    (first | exact lk_start HD.out c0 c1 c2 | assumption)
    (first
      | (go_at_call 48; refine (on_any b g s _ HD.out.drew).mono ?_; rintro e w' ⟨rfl, rfl⟩; rw [HN.out.2.2.1])
      | (go_at_call 49; refine (writes_any b g s _ HD.out.drew).mono ?_; rintro e w' ⟨rfl, rfl⟩; rw [HN.out.2.1]))
  have hI0 : Below w.heap.size w w.drew := (Below.refl _ _).drew
  obtain ⟨W, hW⟩ : ∃ W, w.drew = W := ⟨_, rfl⟩
  have hI1 : IsD W b g s ∧ IsRf W r R ∧ Below w.heap.size w W := by rw [← hW]; exact ⟨H.out.1.drew, H.out.2.1.drew, hI0⟩
  have HB : Hid (IsD W b g s ∧ IsRf W r R ∧ Below w.heap.size w W) := hI1
  rw [hW]
  clear hI0 hI1 hW c0 c1 c2
  go_wp2
  go_loopw [5] (fun i wr => ∃ x : Nat, i = .int .i64 x ∧ x ≤ N ∧ IsD wr b g s ∧ IsRf wr r R ∧ Below w.heap.size w wr) (fun i _ => (N + 1 - intOf i).toNat)
  case atStart => exact ⟨0, rfl, by omega, HB.out.1, HB.out.2.1, HB.out.2.2⟩
  case round =>
    obtain ⟨x, rfl, hx2, hD, hR, hb⟩ := hrel
    obtain ⟨c0, _⟩ := hR.cells
    rw [HN.out.2.2.2.2] at c0
    by_cases hlt : x < N
    · obtain ⟨e1, e2⟩ := H.out.2.2.rd x
      have hl := H.out.1.rd_len x
      obtain ⟨L, hL⟩ : ∃ L, s.rd x = L := ⟨_, rfl⟩
      obtain ⟨E, hE⟩ : ∃ E, s.rdE x = E := ⟨_, rfl⟩
      have HX : Hid (s.rd x = L ∧ s.rdE x = E ∧ R.rd x = L ∧ R.rdE x = E) := ⟨hL, hE, e2 ▸ hL, e1 ▸ hE⟩
      rw [hL] at hl
      clear hL hE e1 e2
      go_wp2_with (first
        | (go_at_call 30; refine (read_any b g s x _ hD).mono ?_; rintro e w1 ⟨v1, rfl, ho1, hb1⟩; rw [HX.out.2.1]; rw [HX.out.1] at ho1)
        | (go_at_call 50; refine (rread_any r R x _ (hR.below hb1) (by rw [HN.out.2.2.2.1]; exact hbig)).mono ?_; rintro e w2 ⟨v2, rfl, ho2, hb2⟩; rw [HX.out.2.2.2]; rw [HX.out.2.2.1] at ho2)
        | (go_at_call 31; refine (same_any v1 v2 L L _ (ho1.below hb2).rb ho2.rb (by omega) (by omega)).mono ?_; rintro e w3 ⟨rfl, hb3⟩; rw [decide_eq_true rfl]))
      go_roundw
      case rel => exact ⟨x + 1, by go_num, by omega, ((hD.below hb1).below hb2).below hb3, ((hR.below hb1).below hb2).below hb3, chainB (chainB (chainB hb hb1) hb2) hb3⟩
      case measure => simp [intOf]; omega
    · go_wp2
      go_ret
      exact ⟨rfl, hb⟩
end
end Go.Proofs.Ytajgaialnafdbaa
