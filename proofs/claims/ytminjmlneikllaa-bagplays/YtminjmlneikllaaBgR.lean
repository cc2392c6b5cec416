/- The contracts of the two that copy a letter for the law and for the document. -/
import Derived.Test.YtminjmlneikllaaBgQ
namespace Go.Proofs.Ytminjmlneikllaa
open Go.RowKit

theorem boxes {w W : World} {c1 c2 : Array Value} {t1 t2 : TypeId} (h : (w.alloc (.cells c1 t1)).alloc (.cells c2 t2) = W) :
    W.heap[w.heap.size]? = some (.cells c1 t1 (0, 0)) ∧ W.heap[w.heap.size + 1]? = some (.cells c2 t2 (0, 0)) ∧ Below w.heap.size w W ∧ W.heap.size = w.heap.size + 1 + 1 := by
  subst h
  have h0 : (w.alloc (.cells c1 t1)).heap.size = w.heap.size + 1 := by simp
  refine ⟨?_, ?_, ((Below.refl _ w).alloc (Nat.le_refl _) _).alloc (by simp) _, by simp⟩
  · rw [Below.heap_alloc _ _ _ (by rw [h0]; omega)]
    exact heap_new _ _
  · rw [← h0]; exact heap_new _ _
theorem cell_ne {w : World} {b k i j : Nat} {v : Value} (h : k ≠ b) : (w.setCell ⟨b, i, none⟩ v).cell? ⟨k, j, none⟩ = w.cell? ⟨k, j, none⟩ := World.cell?_of_block (heap_set_ne h)
/-- two cells that loads read, kept by a letter's store elsewhere -/
theorem keep_put {W : World} {g g' i j : Nat} {x y u v : Value} (hne : g ≠ g') (h : W.cell? ⟨g, i, none⟩ = some x ∧ W.cell? ⟨g, j, none⟩ = some y) :
    ((W.setCell ⟨g', 0, none⟩ u).setCell ⟨g', 1, none⟩ v).cell? ⟨g, i, none⟩ = some x ∧ ((W.setCell ⟨g', 0, none⟩ u).setCell ⟨g', 1, none⟩ v).cell? ⟨g, j, none⟩ = some y := by
  rw [cell_ne hne, cell_ne hne, cell_ne hne, cell_ne hne]; exact h
theorem keep_below {W W' : World} {g i j : Nat} {x y : Value} (h : W.cell? ⟨g, i, none⟩ = some x ∧ W.cell? ⟨g, j, none⟩ = some y) (hb : Below W.heap.size W W') : W'.cell? ⟨g, i, none⟩ = some x ∧ W'.cell? ⟨g, j, none⟩ = some y :=
  ⟨(hb.cell (p := ⟨g, i, none⟩) (cellLt h.1)).trans h.1, (hb.cell (p := ⟨g, j, none⟩) (cellLt h.2)).trans h.2⟩
/-- behind the bytes' copy: the letter's variable is filled -/
theorem letter_end {w W W1 : World} {t : Int} {v' x y : Value} {l : List Int} {T : TypeId} (hW : Below w.heap.size w W) (hz : W.heap.size = w.heap.size + 1 + 1) (m1 : W.heap[w.heap.size + 1]? = some (.cells #[x, y] T (0, 0))) (ho : OwnB W1 W.heap.size v' l) (hb : Below W.heap.size W W1) :
    ((W1.setCell ⟨w.heap.size + 1, 0, none⟩ (.int .i64 t)).setCell ⟨w.heap.size + 1, 1, none⟩ v').heap[w.heap.size + 1]? = some (.cells #[.int .i64 t, v'] T (0, 0)) ∧ OwnB ((W1.setCell ⟨w.heap.size + 1, 0, none⟩ (.int .i64 t)).setCell ⟨w.heap.size + 1, 1, none⟩ v') w.heap.size v' l ∧ Below w.heap.size w ((W1.setCell ⟨w.heap.size + 1, 0, none⟩ (.int .i64 t)).setCell ⟨w.heap.size + 1, 1, none⟩ v') := by
  have n1 := (hb.block _ (by omega)).trans m1
  refine ⟨(heap_set (heap_set n1 0 _) 1 _).trans rfl, ?_, ?_⟩
  · refine ((ho.le (by omega)).moved fun k hk => heap_set_ne ?_).moved fun k hk => heap_set_ne ?_ <;> (have := (ho.at k hk).1; omega)
  · exact ((hW.trans (hb.mono hW.size)).setCell (p := ⟨w.heap.size + 1, 0, none⟩) (by simp) _).setCell (p := ⟨w.heap.size + 1, 1, none⟩) (by simp) _

set_option maxHeartbeats 1000000 in
theorem one_any (t : Int) (v : Value) (l : List Int) (w : World) (h : RB w v l) (hl : l.length ≤ LB) :
    Calls Try.prog 30 #[.agg #[.int .i64 t, v]] w fun e w' => ∃ v', e = .returned (.agg #[.int .i64 t, v']) ∧ OwnB w' w.heap.size v' l ∧ Below w.heap.size w w' := by
  obtain ⟨i0, hi0, hz0, hz1, hz2⟩ := info_parts Try.infoU
  have hL : l.length ≤ 140737488351232 := hl
  obtain ⟨a, cap, rfl, _⟩ := id h
  have H : Hid (RB w (.slice a l.length cap) l) := h
  obtain ⟨n, hn⟩ : ∃ n, l.length = n := ⟨_, rfl⟩
  rw [hn] at hL
  have HN : Hid (l.length = n) := hn
  rw [hn]
  clear h hl hn
  go_enter Try.func30, Try.ntmps30
  go_upto_region 1 with fail
  obtain ⟨W, hW⟩ : ∃ W, (w.alloc (.cells #[.int .i64 t, .slice a n cap] 37)).alloc (.cells #[.int .i64 0, .slice none 0 0] 37) = W := ⟨_, rfl⟩
  rw [hW]
  obtain ⟨m0, m1, hbW, hzW⟩ := boxes hW
  have k0 := cell_of m0 0
  have k1 := cell_of m0 1
  have e0 := cell_of m1 0
  have e1 := cell_of m1 1
  have ef := free_of m1
  simp at k0 k1 e0 e1
  have HM : Hid (Below w.heap.size w W ∧ W.heap.size = w.heap.size + 1 + 1 ∧ W.heap[w.heap.size + 1]? = some (.cells #[.int .i64 0, .slice none 0 0] 37 (0, 0))) := ⟨hbW, hzW, m1⟩
  have HR : Hid (RB W.drew (.slice a l.length cap) l) := (H.out.below hbW).below (Below.refl _ _).drew
  have hne : w.heap.size ≠ w.heap.size + 1 := by omega
  have hltW : w.heap.size + 1 < W.heap.size := by omega
  clear hW m0 m1 hbW H
  rcases (by have := HR.out.src; exact this) with ⟨rfl, hnil⟩ | ⟨ad, rfl, hs⟩
  · subst hnil
    obtain rfl : n = 0 := HN.out.symm
    clear HR
    go_region_held3 (fun w' => w'.cell? ⟨w.heap.size, 0, none⟩ = some (.int .i64 t) ∧ w'.cell? ⟨w.heap.size, 1, none⟩ = some (.slice none 0 cap))
      (first | exact ⟨k0, k1⟩ | exact keep_put hne (by assumption) | assumption)
      (first | (fail))
    go_wp2
    have hE := letter_end (t := t) HM.out.1 HM.out.2.1 HM.out.2.2 (OwnB.nil W.drew W.heap.size) ((Below.refl _ _).drew)
    refine bodyPost_ret (ret_letter rfl _ _ _ rfl hE.1) rfl ?_
    exact ⟨_, rfl, hE.2.1, hE.2.2⟩
  · have HS : Hid (∀ j u, (ub l)[j]? = some u → W.drew.cell? (ad.add j) = some u) := hs
    clear hs HR
    go_region_held3 (fun w' => w'.cell? ⟨w.heap.size, 0, none⟩ = some (.int .i64 t) ∧ w'.cell? ⟨w.heap.size, 1, none⟩ = some (.slice (some ad) n cap))
      (first | exact ⟨k0, k1⟩ | exact keep_put hne (by assumption) | exact keep_below ⟨k0, k1⟩ hb1 | assumption)
      (first | (refine step_append_own_at rfl (.const (.slice none 0 0)) (.tmp 6) 31 rfl W.heap.size 5 i0 (.int .u8 0) 1 1 Try.underlying31 hi0 hz0 hz1 hz2 rfl (by decide) _ 0 [] rfl (World.ownsRow_nil _ _ _ _) ad n cap (ub l) (by simp [Act.eval]) (by rw [ub_len, HN.out, Nat.mul_one]) (by exact HS.out) (ub_one l) (by unfold maxLen; omega) (by omega) (Nat.le_refl _) ?_; intro v1 w1 hown1 hgrow1 _; have hb0 := below_grown hgrow1; have hb1 : Below W.heap.size W w1 := ⟨hb0.os, hb0.tape, hb0.output, hb0.size, hb0.block⟩; obtain ⟨av, cv, rfl⟩ := owns_len hown1; have f0 := (hb1.cell (p := ⟨w.heap.size + 1, 0, none⟩) hltW).trans e0; have f1 := (hb1.cell (p := ⟨w.heap.size + 1, 1, none⟩) hltW).trans e1; have ff := fun i => (hb1.frozen (p := ⟨w.heap.size + 1, i, none⟩) hltW).trans (ef i)))
    rw [Nat.zero_add, List.nil_append] at hown1
    have ho1 : OwnB w1 W.heap.size (.slice av n cv) l := by unfold OwnB; rw [HN.out]; exact hown1
    have hE := letter_end (t := t) HM.out.1 HM.out.2.1 HM.out.2.2 ho1 hb1
    go_wp2
    refine bodyPost_ret (ret_letter rfl _ _ _ rfl hE.1) rfl ?_
    exact ⟨_, rfl, hE.2.1, hE.2.2⟩

set_option maxHeartbeats 1000000 in
theorem letter_any (k i t : Int) (v : Value) (l : List Int) (w : World) (h : RB w v l) (hl : l.length ≤ LB) :
    Calls Try.prog 13 #[.agg #[.int .i64 k, .int .i64 i, .int .i64 t, v]] w fun e w' => ∃ v', e = .returned (.agg #[.int .i64 t, v']) ∧ OwnB w' w.heap.size v' l ∧ Below w.heap.size w w' := by
  obtain ⟨a, cap, rfl, _⟩ := id h
  have H : Hid (RB w (.slice a l.length cap) l ∧ l.length ≤ LB) := ⟨h, hl⟩
  obtain ⟨n, hn⟩ : ∃ n, l.length = n := ⟨_, rfl⟩
  have HN : Hid (l.length = n) := hn
  rw [hn]
  clear h hl hn
  go_enter Try.func13, Try.ntmps13
  go_upto_region 1 with fail
  obtain ⟨W, hW⟩ : ∃ W, (w.alloc (.cells #[.int .i64 k, .int .i64 i, .int .i64 t, .slice a n cap] 33)).alloc (.cells #[.int .i64 0, .slice none 0 0] 37) = W := ⟨_, rfl⟩
  rw [hW]
  obtain ⟨m0, m1, hbW, hzW⟩ := boxes hW
  have k0 := cell_of m0 2
  have k1 := cell_of m0 3
  have e0 := cell_of m1 0
  have e1 := cell_of m1 1
  have ef := free_of m1
  simp at k0 k1 e0 e1
  have HM : Hid (Below w.heap.size w W ∧ W.heap.size = w.heap.size + 1 + 1 ∧ W.heap[w.heap.size + 1]? = some (.cells #[.int .i64 0, .slice none 0 0] 37 (0, 0))) := ⟨hbW, hzW, m1⟩
  have HR : Hid (RB W.drew (.slice a n cap) l ∧ l.length ≤ LB) := ⟨by rw [← HN.out]; exact (H.out.1.below hbW).below (Below.refl _ _).drew, H.out.2⟩
  have hne : w.heap.size ≠ w.heap.size + 1 := by omega
  have hltW : w.heap.size + 1 < W.heap.size := by omega
  clear hW m0 m1 hbW H
  go_region_held3 (fun w' => w'.cell? ⟨w.heap.size, 2, none⟩ = some (.int .i64 t) ∧ w'.cell? ⟨w.heap.size, 3, none⟩ = some (.slice a n cap))
    (first | exact ⟨k0, k1⟩ | exact keep_put hne (by assumption) | exact keep_below ⟨k0, k1⟩ hb1 | assumption)
    (first | (go_at_call 27; refine (copyB_any _ l _ HR.out.1 HR.out.2).mono ?_; rintro e w1 ⟨v1, rfl, ho1, hb0⟩; have hb1 : Below W.heap.size W w1 := ⟨hb0.os, hb0.tape, hb0.output, hb0.size, hb0.block⟩; obtain ⟨av, cv, rfl⟩ := owns_len ho1; have f0 := (hb1.cell (p := ⟨w.heap.size + 1, 0, none⟩) hltW).trans e0; have f1 := (hb1.cell (p := ⟨w.heap.size + 1, 1, none⟩) hltW).trans e1; have ff := fun i => (hb1.frozen (p := ⟨w.heap.size + 1, i, none⟩) hltW).trans (ef i)))
  have hE := letter_end (t := t) HM.out.1 HM.out.2.1 HM.out.2.2 ho1 hb1
  go_wp2
  refine bodyPost_ret (ret_letter rfl _ _ _ rfl hE.1) rfl ?_
  exact ⟨_, rfl, hE.2.1, hE.2.2⟩
end Go.Proofs.Ytminjmlneikllaa
