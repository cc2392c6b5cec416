/- The contract of the document's Read. -/
import Derived.Test.YtihjhaafmdobmabRsW
namespace Go.Proofs.Ytihjhaafmdobmab
open Go.RowKit

theorem int_beq (n : Nat) (c : Nat) : ((n : Int) == (c : Int)) = decide (n = c) := by
  rw [Bool.eq_iff_iff]; simp; omega

/-- what was written into a block last -/
def lastW (did : List (Nat × Value × List Int)) (i : Nat) : List Int := did.foldl (fun acc p => if p.1 = i then p.2.2 else acc) zeros
theorem lastW_snoc (did : List (Nat × Value × List Int)) (p : Nat × Value × List Int) (i : Nat) : lastW (did ++ [p]) i = if p.1 = i then p.2.2 else lastW did i := by
  unfold lastW; rw [List.foldl_append]; rfl
theorem lastW_take (did : List (Nat × Value × List Int)) (q i : Nat) (h : q < did.length) : lastW (did.take (q + 1)) i = if (did[q]'h).1 = i then (did[q]'h).2.2 else lastW (did.take q) i := by
  rw [List.take_succ_eq_append_getElem h]; exact lastW_snoc _ _ _
theorem wcells_at (did : List (Nat × Value × List Int)) (q : Nat) (h : q < did.length) : (wcells did)[q * 2]? = some (.int .i64 (did[q]'h).1) ∧ (wcells did)[q * 2 + 1]? = some (did[q]'h).2.1 := by
  induction did generalizing q with
  | nil => simp at h
  | cons p did ih =>
    unfold wcells at ih ⊢
    rw [List.flatMap_cons]
    cases q with
    | zero => exact ⟨rfl, rfl⟩
    | succ q =>
      have := ih q (by simpa using h)
      rw [show (q + 1) * 2 = q * 2 + 2 by omega, show q * 2 + 2 + 1 = q * 2 + 1 + 2 by omega]
      simpa using this
theorem wcells_len (did : List (Nat × Value × List Int)) : (wcells did).length = did.length * 2 := by
  induction did with
  | nil => rfl
  | cons p did ih => unfold wcells at ih ⊢; rw [List.flatMap_cons, List.length_append, ih, List.length_cons]; simp; omega

/-- one of the writes that were done -/
theorem IsRf.did_at {w : World} {r : Nat} {R : Rf} (h : IsRf w r R) (q : Nat) (hq : q < R.did.length) : ∃ gv cap gb cb, R.v = .slice (some ⟨gv, 0, none⟩) R.did.length cap ∧ w.cell? ⟨gv, q * 2, none⟩ = some (.int .i64 (R.did[q]'hq).1) ∧ w.cell? ⟨gv, q * 2 + 1, none⟩ = some (.slice (some ⟨gb, 0, none⟩) 64 cb) ∧
    (R.did[q]'hq).2.2.length = 64 ∧ (∀ j u, (ub (R.did[q]'hq).2.2)[j]? = some u → w.cell? ((⟨gb, 0, none⟩ : Addr).add j) = some u) := by
  obtain ⟨ho, hl⟩ := h.each _ (List.getElem_mem hq)
  rcases ho.form with ⟨_, e⟩ | ⟨gb, cb, e, _, _, _, hc, _⟩
  · rw [e] at hl; simp at hl
  rw [hl] at e
  obtain ⟨a, cap, ev⟩ := h.form
  have hrow := h.row
  obtain ⟨m, hm⟩ : ∃ m, R.did.length = m + 1 := ⟨R.did.length - 1, by omega⟩
  rw [hm] at hrow
  obtain ⟨gv, cap', e2⟩ := owns_form hrow
  rw [e2] at hrow
  refine ⟨gv, cap', gb, cb, by rw [e2, hm], ?_, ?_, hl, ub_src hc⟩
  · rw [hrow.cellAt (q * 2) (by omega)]; exact (wcells_at R.did q hq).1
  · rw [hrow.cellAt (q * 2 + 1) (by omega), (wcells_at R.did q hq).2, e]

def Rf.rdE (R : Rf) (i : Int) : Int := if 0 ≤ i ∧ i < R.n then 0 else 20
def Rf.rd (R : Rf) (i : Int) : List Int := if 0 ≤ i ∧ i < R.n then lastW R.did i.toNat else []

set_option maxRecDepth 20000 in
set_option maxHeartbeats 2000000 in
theorem rread_no (r : Nat) (R : Rf) (i : Int) (w : World) (h : IsRf w r R) (hi : ¬ (0 ≤ i ∧ i < R.n)) :
    Calls Try.prog 92 #[.pointer (some ⟨r, 0, none⟩), .int .i64 i] w fun e w' => e = .returned (.tuple #[.slice none 0 0, .int .i64 20]) ∧ w' = w := by
  obtain ⟨c0, _⟩ := h.cells
  clear h
  by_cases h0 : i < 0
  · have hd : decide (i < 0) = true := decide_eq_true h0
    go_enter Try.func92, Try.ntmps92
    go_wp2
    go_ret2
    exact ⟨rfl, rfl⟩
  · have hd : decide (i < 0) = false := decide_eq_false h0
    have hd2 : decide ((R.n : Int) ≤ i) = true := decide_eq_true (by omega)
    go_enter Try.func92, Try.ntmps92
    go_wp2
    go_ret2
    exact ⟨rfl, rfl⟩

set_option maxRecDepth 20000 in
set_option maxHeartbeats 4000000 in
theorem rread_yes (r : Nat) (R : Rf) (i : Nat) (w : World) (h : IsRf w r R) (hi : i < R.n) (hbig : R.did.length * 32 ≤ 140737488355328) :
    Calls Try.prog 92 #[.pointer (some ⟨r, 0, none⟩), .int .i64 i] w fun e w' => ∃ v, e = .returned (.tuple #[v, .int .i64 0]) ∧ OwnB w' w.heap.size v (lastW R.did i) ∧ Below w.heap.size w w' := by
  obtain ⟨c0, c1, _⟩ := h.cells
  obtain ⟨i0, hi0, hu0, hu1, hu2⟩ := info_parts Try.infoU
  obtain ⟨a, cap, hv⟩ := h.form
  rw [hv] at c1
  have hd : decide ((i : Int) < 0) = false := decide_eq_false (by omega)
  have hd2 : decide ((R.n : Int) ≤ (i : Int)) = false := decide_eq_false (by omega)
  have H : Hid (IsRf w r R ∧ R.v = .slice a R.did.length cap) := ⟨h, hv⟩
  obtain ⟨N, hN⟩ : ∃ N, R.n = N := ⟨_, rfl⟩
  obtain ⟨Ln, hLn⟩ : ∃ Ln, R.did.length = Ln := ⟨_, rfl⟩
  rw [hN] at c0 hd2 hi
  rw [hLn] at hbig c1
  have HL : Hid (R.did.length = Ln) := hLn
  clear h hv hN hLn
  go_enter Try.func92, Try.ntmps92
  go_wp2
  go_loop [6] (fun x => ∃ m : Nat, m ≤ Ln ∧ lastW R.did i = lastW (R.did.take m) i ∧ ((m = 0 ∧ x = .int .i64 (-1)) ∨ ∃ q : Nat, m = q + 1 ∧ x = .int .i64 q)) (fun x => (intOf x + 1).toNat)
  case atStart =>
    refine ⟨Ln, Nat.le_refl _, by rw [List.take_of_length_le (by rw [HL.out]; exact Nat.le_refl _)], ?_⟩
    cases Ln with
    | zero => exact .inl ⟨rfl, rfl⟩
    | succ q => exact .inr ⟨q, rfl, by go_num⟩
  case round =>
    obtain ⟨m, hm, hw, hx⟩ := hrel
    have HW : Hid (lastW R.did i = lastW (R.did.take m) i) := hw
    clear hw
    rcases hx with ⟨rfl, rfl⟩ | ⟨q, rfl, rfl⟩
    · go_wp2_with (at_make; refine wpList_make_full _ rfl (.const (.int .i64 64)) (.const (.int .i64 64)) 22 rfl _ 5 i0 (.int .u8 0) 1 Try.underlying22 hi0 hu0 hu1 .i64 .i64 64 64 64 rfl rfl rfl rfl (by rw [hu2]; decide) (by decide) (Nat.le_refl _) ?_; intro w3 hown hgrow; have hb1 := below_grown hgrow; have ho1 := OwnB.made hown; clear hown hgrow)
      go_ret2
      refine ⟨_, rfl, ?_, hb1⟩
      rw [HW.out]; exact ho1
    · have hq : q < R.did.length := by rw [HL.out]; omega
      obtain ⟨gv, cap', gb, cb, e, d1, d2, hl, hsrc⟩ := H.out.1.did_at q hq
      have e' := H.out.2
      rw [e] at e'
      cases e'
      have hT := lastW_take R.did q i hq
      obtain ⟨P, hP⟩ : ∃ P, R.did[q] = P := ⟨_, rfl⟩
      rw [hP] at d1 hl hsrc hT
      have HT : Hid (lastW R.did i = if P.1 = i then P.2.2 else lastW (R.did.take q) i) := HW.out.trans hT
      have HS : Hid ((∀ j u, (ub P.2.2)[j]? = some u → w.cell? ((⟨gb, 0, none⟩ : Addr).add j) = some u) ∧ P.2.2.length = 64) := ⟨hsrc, hl⟩
      have hqi : (q : Int) < (Ln : Int) := by omega
      clear hP hT hsrc hl HW e hq
      by_cases hPi : P.1 = i
      · have hb : ((P.1 : Int) == (i : Int)) = true := by rw [int_beq]; exact decide_eq_true hPi
        have HP : Hid (P.1 = i) := hPi
        clear hPi
        go_wp2_with (at_builtin; refine wpList_append_own _ rfl _ _ 22 rfl w.heap.size 5 i0 (.int .u8 0) 1 1 Try.underlying22 hi0 hu0 hu1 hu2 rfl (by decide) _ _ _ rfl (World.ownsRow_nil _ _ _ _) ⟨gb, 0, none⟩ 64 cb (ub P.2.2) rfl (by rw [ub_len, HS.out.2]) HS.out.1 (ub_one _) (by decide) (by decide) (Nat.le_refl _) ?_; intro v' w1 hown hgrow _)
        go_ret2
        refine ⟨_, rfl, ?_, below_grown hgrow⟩
        rw [HT.out, if_pos HP.out]
        rw [Nat.zero_add, List.nil_append] at hown
        unfold OwnB
        rw [HS.out.2]; exact hown
      · have hb : ((P.1 : Int) == (i : Int)) = false := by rw [int_beq]; exact decide_eq_false hPi
        have HP : Hid (¬ P.1 = i) := hPi
        clear hPi
        go_wp2
        go_round
        case rel =>
          refine ⟨q, by omega, by rw [HT.out, if_neg HP.out], ?_⟩
          cases q with
          | zero => exact .inl ⟨rfl, rfl⟩
          | succ q => exact .inr ⟨q, rfl, by go_num⟩
        case measure => simp [intOf]
theorem rread_any (r : Nat) (R : Rf) (i : Int) (w : World) (h : IsRf w r R) (hbig : R.did.length * 32 ≤ 140737488355328) :
    Calls Try.prog 92 #[.pointer (some ⟨r, 0, none⟩), .int .i64 i] w fun e w' => ∃ v, e = .returned (.tuple #[v, .int .i64 (R.rdE i)]) ∧ OwnB w' w.heap.size v (R.rd i) ∧ Below w.heap.size w w' := by
  by_cases hi : 0 ≤ i ∧ i < R.n
  · have e1 : R.rdE i = 0 := if_pos hi
    have e2 : R.rd i = lastW R.did i.toNat := if_pos hi
    rw [e1, e2]
    obtain ⟨m, rfl⟩ := Int.eq_ofNat_of_zero_le hi.1
    rw [Int.toNat_natCast]
    exact rread_yes r R m w h (by omega) hbig
  · have e1 : R.rdE i = 20 := if_neg hi
    have e2 : R.rd i = [] := if_neg hi
    rw [e1, e2]
    refine (rread_no r R i w h hi).mono ?_
    rintro e w' ⟨rfl, rfl⟩
    exact ⟨_, rfl, OwnB.nil _ _, Below.refl _ _⟩
end Go.Proofs.Ytihjhaafmdobmab
