/- awake. -/
import Derived.Test.YtaofhjckliobpaaVpB
namespace Go.Proofs.Ytaofhjckliobpaa
open Go.RowKit Go.Shelf Go.Sort
attribute [local go_sem high] eqK neqK guardK

def kA : Ky := ⟨1, ⟨#[97]⟩⟩
def kB : Ky := ⟨1, ⟨#[98]⟩⟩
theorem kAB : eqKy kA kB = false := by decide
theorem wake1 : (Vs.new 3 1 2).grant kA 5 = (⟨3, 0, [kA], [], 1, 2⟩, []) := rfl
theorem wake2 : (⟨3, 0, [kA], [], 1, 2⟩ : Vs).grant kB 6 = (⟨3, 1, [kB], [⟨1, 6, false, [kA]⟩], 1, 2⟩, [⟨1, 6, false, [kA]⟩]) := by
  have h1 : dropK [kA] kB ++ [kB] = [kA, kB] := rfl
  have h2 : dropK [kA, kB] kA = [kB] := rfl
  unfold Vs.grant
  rw [show dropK (⟨3, 0, [kA], [], 1, 2⟩ : Vs).ks kB ++ [kB] = [kA, kB] from h1, if_neg (by simp)]
  simp only [h2]
  unfold Vs.tell
  rw [if_pos (by unfold MX; simp), if_neg (by simp)]
  rfl
theorem val_three : fval 4613937818241073152 = some (3 * U) := by decide +kernel
theorem mk31 : Mk 4613937818241073152 4607182418800017408 3 1 := ⟨val_three, val_one, by omega, by omega, by omega, by omega⟩
/-- the one break of an answer -/
theorem Rt.one {w : World} {base : Nat} {v : Value} {b : Bs} {e : Int} (h : Rt w base v [b] e) : ∃ (g cap : Nat) (x : Br), v = .slice (some ⟨g, 0, none⟩) 1 cap ∧ g < w.heap.size ∧ w.cell? ⟨g, 0, none⟩ = some (.complex .f64 x.a x.b) ∧ w.cell? ⟨g, 1, none⟩ = some (.int .i64 b.ver) ∧ w.cell? ⟨g, 2, none⟩ = some (.bool b.all) ∧ w.cell? ⟨g, 3, none⟩ = some (.slice x.va b.ks.length x.vc) ∧ Mk x.a x.b e b.n ∧ RowK w base (.slice x.va b.ks.length x.vc) b.ks := by
  obtain ⟨bs, hb, hl, hm, -⟩ := h
  obtain ⟨x, rfl⟩ : ∃ x, bs = [x] := by
    cases bs with
    | nil => cases hl
    | cons x l =>
      cases l with
      | nil => exact ⟨x, rfl⟩
      | cons y l => cases hl
  have e1 : x.say = b := by simpa using hl
  subst e1
  have hr : w.ownsRow base 57 4 v (0 + 1) (bc [x]) := hb.row
  obtain ⟨g, cap, rfl⟩ := owns_form hr
  obtain ⟨hc, -, -, -, -, hg⟩ := owns_cells hr
  have hk := hb.each x (by simp)
  obtain ⟨av, cv, ev⟩ := owns_len hk
  have hvn : x.vn = x.ks.length := by unfold Br.v at ev; injection ev
  have l3 := hc 3 x.v rfl
  unfold Br.v at l3 hk
  rw [hvn] at l3 hk
  exact ⟨g, cap, x, rfl, hg, hc 0 _ rfl, hc 1 _ rfl, hc 2 _ rfl, l3, hm x (by simp), hk⟩
theorem Rt.nil0 {w : World} {base : Nat} {v : Value} {e : Int} (h : Rt w base v [] e) : ∃ a cap, v = .slice a 0 cap := h.form
set_option maxHeartbeats 4000000 in
theorem awake_p (w : World) : Calls Try.prog 11 #[] w fun e w' => e = .returned (.bool true) ∧ Below w.heap.size w w' := by
  have hnew := lv_new w w (Below.refl _ _) 3 1 2 (by omega) (by omega) (by omega) (by omega) (by omega) (by omega)
  change Calls Try.prog 9 #[.int .i64 3, .int .i64 1, .int .i64 2] w _ at hnew
  go_enter Try.func11, Try.ntmps11
  go_upto_region 2 with (go_at_call 9; refine hnew.mono ?_; rintro e w1 ⟨rfl, hL1, -⟩)
  have hg1 := lv_grant hL1 kA 5
  rw [wake1] at hg1
  unfold Ky.agg kA at hg1
  clear hnew hL1
  go_upto_region 4 with (go_at_call 17; refine hg1.mono ?_; rintro e w2 ⟨v2, rfl, Bq, hL2⟩; obtain ⟨a2, c2, rfl⟩ := hL2.rt.nil0)
  have hg2 := lv_grant hL2.lv kB 6
  rw [show (⟨3, 0, [⟨1, ⟨#[97]⟩⟩], [], 1, 2⟩ : Vs).grant kB 6 = _ from wake2] at hg2
  unfold Ky.agg kB at hg2
  clear hg1 hL2
  go_upto_region 5 with (go_at_call 17; refine hg2.mono ?_; rintro e w3 ⟨v3, rfl, Bq3, hL3⟩; obtain ⟨g, cap, x, rfl, hgl, x0, -, -, x3, hM, hk⟩ := hL3.rt.one)
  obtain ⟨g', rfl', -, hgl', k0, k1, -⟩ := hk.key (i := 0) (p := kA) rfl
  obtain ⟨ma, mb, hMm, hmark⟩ := lv_mark hL3.lv
  have hhold := lv_holds hL3.lv kB
  have hin : inK [kB] kB = true := by decide
  have hin' : inK [(⟨1, ⟨#[98]⟩⟩ : Ky)] kB = true := hin
  rw [hin'] at hhold
  unfold Ky.agg kB at hhold
  obtain ⟨o1, o2⟩ := mk_eq hM mk31
  obtain ⟨o3, o4⟩ := mk_eq hMm mk31
  rw [cmp_eq rfl] at o2 o4
  have HB : Hid (Below w.heap.size w w3) := hL3.lv.below
  have hkk : eqKy kA kA = true := eqKy_self _
  unfold kA at hkk k0 k1 x3
  simp only at hhold
  simp only [List.length_singleton, Nat.zero_mul, Nat.zero_add] at x3 k0 k1
  rw [rfl'] at x3
  clear hg2 hL3 hk hM hMm

  go_wp2_with (first
    | (go_at_call 26; refine hmark.mono ?_; rintro e w' ⟨rfl, rfl⟩)
    | (go_at_call 14; refine hhold.mono ?_; rintro e w' ⟨rfl, hb'⟩))
  go_ret
  exact ⟨rfl, chainB HB.out hb'⟩
end Go.Proofs.Ytaofhjckliobpaa
