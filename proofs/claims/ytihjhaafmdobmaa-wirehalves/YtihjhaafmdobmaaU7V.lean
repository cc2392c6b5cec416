/- The law WireHalves: a half of a whole number, as a float. -/
import Derived.Test.YtihjhaafmdobmaaU7W
import Derived.Test.YtihjhaafmdobmaaWlJ
import Derived.Test.YtihjhaafmdobmaaWrZ
namespace Go.Proofs.Ytihjhaafmdobmaa
section
open Go.RowKit Go.Lib
open Ieee

theorem read_two : double.read 4611686018427387904 = .number false (2 ^ 52) (-51) := by decide +kernel
/-- a half of a number is a float -/
theorem halfF {x : Nat} {a : Int} (hx : fval x = some a) : ∃ r, floatBits .quo .f64 x 4611686018427387904 = some r := by
  obtain ⟨s, m, i, hr, hi, hi2, hm, rfl⟩ := read_num hx
  have e : floatBits .quo .f64 x 4611686018427387904 = double.div x 4611686018427387904 := rfl
  rw [e]
  unfold Format.div
  rw [hr, read_two]
  have hl52 : (2 ^ 52 : Nat).log2 = 52 := Nat.log2_two_pow
  have hfb : double.fractionBits = 52 := rfl
  simp only [Datum.quotient, hl52, hfb, Option.map]
  rw [if_neg (by omega)]
  exact ⟨_, rfl⟩
theorem half_int (n : Int) (h : (Lit.int .i64 n).wf = true) : ∃ r, floatBits .quo .f64 (floatOfInt .f64 n) 4611686018427387904 = some r := by
  have hb := bounds_i64 h
  obtain ⟨v, hv⟩ := ofInt_fin n (by omega)
  exact halfF hv
end
section
open Go.RowKit Go.Lib
attribute [local go_sem ↓ high] loadM loadMg storeMh
attribute [local go_sem high] run_store_complex

set_option maxRecDepth 20000 in
set_option maxHeartbeats 4000000 in
theorem walk_WireHalves (m : Mm) (w : World) (hm : ArgM w m) (we : (Lit.int .i64 m.ep).wf = true) (wn : (Lit.int .i64 m.nb).wf = true) :
    Calls Try.prog 6 #[.agg m.arr] w fun e w' => e = .returned (.bool true) ∧ Below w.heap.size w w' := by
  have HAw : Hid (∀ W, Calls Try.prog 28 #[] W fun e w' => e = .returned (.bool true) ∧ Below W.heap.size W w') := awake_w
  have hsz : m.arr.size = 17 := rfl
  obtain ⟨re, hre⟩ := half_int m.ep we
  obtain ⟨im, him⟩ := half_int m.nb wn
  have ha2 := fun w => run_float_arith (P := Try.prog) w .quo 64 .f64 _ 4611686018427387904 _ hre
  have hb2 := fun w => run_float_arith (P := Try.prog) w .quo 64 .f64 _ 4611686018427387904 _ him
  have HG : Hid (∀ W, Below w.heap.size w W → Calls Try.prog 25 #[.agg m.arr] W fun e w' => ∃ ve vk, e = .returned (.agg (m.ms ve vk).arr) ∧ Hid (Rows w' (m.ms ve vk)) ∧ Below W.heap.size W w') := fun W hb => (msg_any m W (hm.below hb)).mono fun e w' ⟨ve, vk, he, h1, h2, h3⟩ => ⟨ve, vk, he, ⟨owns_le h1 (Nat.zero_le _), owns_le h2 (Nat.zero_le _)⟩, h3⟩
  have c4 : m.arr[4]? = some (.int .i64 m.ep) := rfl
  have c5 : m.arr[5]? = some (.int .i64 m.nb) := rfl
  obtain ⟨A, hA⟩ : ∃ x, m.arr = x := ⟨_, rfl⟩
  rw [hA] at HG hsz c4 c5 ⊢
  obtain ⟨W, hW⟩ : ∃ W, w.alloc (.cells A 52) = W := ⟨_, rfl⟩
  have hb := boxB hW
  have HB : Hid (W.heap[w.heap.size]? = some (.cells A 52 (0, 0)) ∧ Below w.heap.size w W ∧ A.size = 17 ∧ A[4]? = some (.int .i64 m.ep) ∧ A[5]? = some (.int .i64 m.nb)) := ⟨hb.1, hb.2, hsz, c4, c5⟩
  have nl := mmS_of hb.1 hsz
  clear hA hb hsz hm c4 c5 hre him we wn
  go_enter Try.func6, Try.ntmps6
  go_upto_region 1 with fail
  clear hW
  go_upto_region 2 with (go_at_call 25; refine (HG.out W HB.out.2.1).mono ?_; rintro e w1 ⟨ve1, vk1, rfl, hr1, hb1⟩; obtain ⟨Ar1, hAr1⟩ : ∃ A, (m.ms ve1 vk1).arr = A := ⟨_, rfl⟩; rw [hAr1]; obtain ⟨X1, hX1⟩ : ∃ X, w1.alloc (.cells #[.int .i64 0, .int .i64 0, .int .i64 0, .int .i64 0, .complex .f64 0 0, .int .i64 0, .int .i64 0, .int .i64 0, .int .i64 0, .string ⟨#[]⟩, .int .i64 0, .string ⟨#[]⟩, .int .i64 0, .string ⟨#[]⟩, .slice none 0 0, .slice none 0 0] 58) = X := ⟨_, rfl⟩; obtain ⟨Y1, hY1⟩ : ∃ Y, X1.setRow w1.heap.size Ar1 = Y := ⟨_, rfl⟩; have nt1 := msgU_of (boxB hX1).1 rfl (by rw [← hAr1]; rfl) (by rw [← hAr1]; exact ms_one hr1.out) hY1; clear nl)
  have hBy := boxB hX1
  have hyb : Below w1.heap.size w1 Y1 := by rw [← hY1]; exact below_setRow hBy.2 (Nat.le_refl _) _
  have hYb : Below W.heap.size W Y1 := chainB hb1 hyb
  have hYx : Y1.heap[w1.heap.size]? = some (.cells Ar1 58 (0, 0)) := by rw [← hY1]; exact setRow_heap _ _ _ _ _ _ hBy.1
  have c4 : Y1.cell? ⟨w.heap.size, 4, none⟩ = some (.int .i64 m.ep) := by rw [cell_of (hkeep HB.out.1 hYb)]; exact HB.out.2.2.2.1
  have c5 : Y1.cell? ⟨w.heap.size, 5, none⟩ = some (.int .i64 m.nb) := by rw [cell_of (hkeep HB.out.1 hYb)]; exact HB.out.2.2.2.2
  have d4 : Y1.cell? ⟨w1.heap.size, 4, none⟩ = some (.complex .f64 (floatOfInt .f64 m.ep) (floatOfInt .f64 m.nb)) := by rw [cell_of hYx, ← hAr1]; rfl
  have df := free_of hYx 4
  have HX : Hid (Y1.heap[w1.heap.size]? = some (.cells (m.ms ve1 vk1).arr 58 (0, 0)) ∧ Below w1.heap.size w1 Y1 ∧ Rows w1 (m.ms ve1 vk1) ∧ Below w.heap.size w w1) := ⟨by rw [hYx, hAr1], hyb, hr1.out, chainB HB.out.2.1 hb1⟩
  clear hX1 hY1 nt1 hBy hyb hYb hYx hAr1 hr1 hb1
  go_upto_region 3 with fail
  obtain ⟨Z, hZ⟩ : ∃ Z, Y1.setCell ⟨w1.heap.size, 4, none⟩ (.complex .f64 re im) = Z := ⟨_, rfl⟩
  obtain ⟨ms, hms⟩ : ∃ ms : Ms, ({ m.ms ve1 vk1 with re := re, im := im } : Ms) = ms := ⟨_, rfl⟩
  have hZx : Z.heap[w1.heap.size]? = some (.cells ms.arr 58 (0, 0)) := by rw [← hZ, ← hms]; exact heap_set HX.out.1 4 _
  have hZb : Below w1.heap.size w1 Z := by rw [← hZ]; exact Only.below HX.out.2.1 (only1 _ _ 4 _) HX.out.2.1.size (fun k hk => by rw [hk]; exact Nat.le_refl _)
  have hZr : Rows Z ms := by rw [← hms]; exact ⟨HX.out.2.2.1.es.below hZb, HX.out.2.2.1.ks.below hZb⟩
  have HZ : Hid (Z.heap[w1.heap.size]? = some (.cells ms.arr 58 (0, 0)) ∧ Below w.heap.size w Z ∧ Rows Z ms) := ⟨hZx, chainB HX.out.2.2.2 hZb, hZr⟩
  have nl2 := msgS_of hZx rfl
  rw [hZ]
  clear hZ hms hZx hZb hZr c4 c5 d4 df HX
  cases hP : plainB ms with
  | false =>
    have HE : Hid (∀ W, Rows W ms → (Calls Try.prog 24 #[.agg ms.arr] W fun e w' => e = .returned (.tuple #[.slice none 0 0, .int .i64 50]) ∧ Below W.heap.size W w') ∧ (Calls Try.prog 26 #[.agg ms.arr] W fun e w' => e = .returned (.tuple #[.slice none 0 0, .int .i64 50]) ∧ Below W.heap.size W w')) := fun W hr => both_no hP W hr
    have HS : Hid (∀ W, Calls Try.prog 27 #[.slice none 0 0, .slice none 0 0] W fun e w' => e = .returned (.bool true) ∧ Below W.heap.size W w') := same_nil
    obtain ⟨A2, hA2⟩ : ∃ x, ms.arr = x := ⟨_, rfl⟩
    have hs2 : ms.arr.size = 16 := rfl
    rw [hA2] at HE HZ nl2 hs2
    have HS2 : Hid (A2.size = 16) := hs2
    clear hA2 hs2 hP
    go_wp2_with (first
      | (go_at_call 24; refine (HE.out Z HZ.out.2.2).1.mono ?_; rintro e w2 ⟨rfl, hb2⟩; have nl3 := msgS_of (hkeep HZ.out.1 hb2) HS2.out; clear nl2)
      | (go_at_call 26; refine (HE.out w2 ⟨HZ.out.2.2.es.below hb2, HZ.out.2.2.ks.below hb2⟩).2.mono ?_; rintro e w3 ⟨rfl, hb3⟩; clear nl3)
      | (go_at_call 27; refine (HS.out _).mono ?_; rintro e w5 ⟨rfl, hb5⟩)
      | (go_at_call 28; refine (HAw.out _).mono ?_; rintro e w6 ⟨rfl, hb6⟩))
    go_ret
    exact ⟨rfl, chainB HZ.out.2.1 (chainB hb2 (chainB hb3 (chainB hb5 hb6)))⟩
  | true =>
    have hl := msgB_len ((plainB_iff ms).1 hP).2
    have HE : Hid (∀ W, Rows W ms → (Calls Try.prog 24 #[.agg ms.arr] W fun e w' => ∃ a c, e = .returned (.tuple #[.slice a (msgB ms.mg).length c, .int .i64 0]) ∧ Hid (OwnB w' W.heap.size (.slice a (msgB ms.mg).length c) (msgB ms.mg)) ∧ Below W.heap.size W w') ∧ (Calls Try.prog 26 #[.agg ms.arr] W fun e w' => ∃ a c, e = .returned (.tuple #[.slice a (msgB ms.mg).length c, .int .i64 0]) ∧ Hid (OwnB w' W.heap.size (.slice a (msgB ms.mg).length c) (msgB ms.mg)) ∧ Below W.heap.size W w')) := fun W hr => both_yes hP W hr
    obtain ⟨B, hB⟩ : ∃ x, msgB ms.mg = x := ⟨_, rfl⟩
    rw [hB] at HE hl
    have HS : Hid (∀ v v' W, RB W v B → RB W v' B → Calls Try.prog 27 #[v, v'] W fun e w' => e = .returned (.bool true) ∧ Below W.heap.size W w') := fun v v' W h1 h2 => same_self hl v v' W h1 h2
    obtain ⟨A2, hA2⟩ : ∃ x, ms.arr = x := ⟨_, rfl⟩
    have hs2 : ms.arr.size = 16 := rfl
    rw [hA2] at HE HZ nl2 hs2
    have HS2 : Hid (A2.size = 16) := hs2
    clear hA2 hs2 hP hB hl
    go_wp2_with (first
      | (go_at_call 24; refine (HE.out Z HZ.out.2.2).1.mono ?_; rintro e w2 ⟨a2, c2, rfl, ho2, hb2⟩; have nl3 := msgS_of (hkeep HZ.out.1 hb2) HS2.out; have HO2 : Hid (RB w2 (.slice a2 B.length c2) B) := ho2.out.rb; clear nl2 ho2)
      | (go_at_call 26; refine (HE.out w2 ⟨HZ.out.2.2.es.below hb2, HZ.out.2.2.ks.below hb2⟩).2.mono ?_; rintro e w3 ⟨a3, c3, rfl, ho3, hb3⟩; have HO3 : Hid (RB w3 (.slice a2 B.length c2) B ∧ RB w3 (.slice a3 B.length c3) B) := ⟨HO2.out.below hb3, ho3.out.rb⟩; clear nl3 ho3)
      | (go_at_call 27; refine (HS.out _ _ _ HO3.out.1 HO3.out.2).mono ?_; rintro e w5 ⟨rfl, hb5⟩)
      | (go_at_call 28; refine (HAw.out _).mono ?_; rintro e w6 ⟨rfl, hb6⟩))
    go_ret
    exact ⟨rfl, chainB HZ.out.2.1 (chainB hb2 (chainB hb3 (chainB hb5 hb6)))⟩
end
end Go.Proofs.Ytihjhaafmdobmaa
