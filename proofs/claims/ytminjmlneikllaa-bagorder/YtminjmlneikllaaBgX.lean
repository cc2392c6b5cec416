/- The contracts of Letters, SameLetters and awake. -/
import Derived.Test.YtminjmlneikllaaBgW
namespace Go.Proofs.Ytminjmlneikllaa
open Go.RowKit

def sayL (ls : List Lt) : List (Int × List Int) := ls.map fun p => (p.n, p.l)
/-- letters in memory: a list that a call has made, and their bytes -/
structure Mail (w : World) (base B : Nat) (v : Value) (ls : List Lt) : Prop where
  row : w.ownsRow base 37 2 v ls.length (lc ls)
  each : ∀ p ∈ ls, OwnB w B p.v p.l ∧ p.l.length ≤ LB
theorem Mail.below {w w' : World} {base B : Nat} {v : Value} {ls : List Lt} (h : Mail w base B v ls) (hb : Below w.heap.size w w') : Mail w' base B v ls :=
  ⟨owns_below h.row hb, fun p hp => ⟨(h.each p hp).1.below hb, (h.each p hp).2⟩⟩
theorem IsB.mail {T : TypeId} {w : World} {B b : Nat} {s : Bg} (h : IsB T w B b s) : Mail w 0 B s.v s.ls := ⟨h.row, h.each⟩

theorem row_step (Z : List Value) (A : List Value) (k n : Nat) (x y : Value) (hZ : Z.length = n * 2) (hA : A.length = k * 2) (hk : k < n) :
    ((A ++ Z.drop (k * 2)).set (k * 2) x).set (k * 2 + 1) y = (A ++ [x, y]) ++ Z.drop ((k + 1) * 2) := by
  have e1 : Z.drop (k * 2) = Z[k * 2]'(by omega) :: Z[k * 2 + 1]'(by omega) :: Z.drop ((k + 1) * 2) := by
    rw [List.drop_eq_getElem_cons (by omega), List.drop_eq_getElem_cons (by omega)]
    rw [show k * 2 + 1 + 1 = (k + 1) * 2 by omega]
  rw [e1, List.set_append_right _ _ (by omega), List.set_append_right _ _ (by omega), hA, Nat.sub_self, show k * 2 + 1 - k * 2 = 1 by omega]
  simp

structure LMid (w wr : World) (n : Nat) (Z : List Value) (ls done : List Lt) (k : Nat) : Prop where
  row : wr.heap[w.heap.size]? = some (.cells (lc done ++ Z.drop (k * 2)).toArray 37 (0, 0))
  len : done.length = k
  say : sayL done = sayL (ls.take k)
  each : ∀ p ∈ done, OwnB wr w.heap.size p.v p.l ∧ p.l.length ≤ LB
  bel : Below w.heap.size w wr
theorem LMid.below {w wr w' : World} {n : Nat} {Z : List Value} {ls done : List Lt} {k : Nat} (h : LMid w wr n Z ls done k) (hb : Below wr.heap.size wr w') : LMid w w' n Z ls done k :=
  ⟨(hb.block _ (Array.getElem?_eq_some_iff.1 h.row).1).trans h.row, h.len, h.say, fun p hp => ⟨(h.each p hp).1.below hb, (h.each p hp).2⟩, chainB h.bel hb⟩
theorem LMid.cells {w wr : World} {n : Nat} {Z : List Value} {ls done : List Lt} {k : Nat} (h : LMid w wr n Z ls done k) (hZ : Z.length = n * 2) (hk : k < n) : ∃ x y, wr.cell? ⟨w.heap.size, k * 2, none⟩ = some x ∧ wr.cell? ⟨w.heap.size, k * 2 + 1, none⟩ = some y ∧ ∀ i, wr.frozen? ⟨w.heap.size, i, none⟩ = false := by
  have hl : (lc done ++ Z.drop (k * 2)).length = n * 2 := by rw [List.length_append, lc_len, h.len, List.length_drop, hZ]; omega
  refine ⟨(lc done ++ Z.drop (k * 2))[k * 2]'(by omega), (lc done ++ Z.drop (k * 2))[k * 2 + 1]'(by omega), ?_, ?_, free_of h.row⟩
  · rw [cell_of h.row, List.getElem?_toArray]; exact List.getElem?_eq_getElem (by omega)
  · rw [cell_of h.row, List.getElem?_toArray]; exact List.getElem?_eq_getElem (by omega)
theorem LMid.step {w wr : World} {n : Nat} {Z : List Value} {ls done : List Lt} {k : Nat} {p : Lt} {v' : Value} (h : LMid w wr n Z ls done k) (hZ : Z.length = n * 2) (hk : k < n) (hp : ls[k]? = some p) (ho : OwnB wr w.heap.size v' p.l) (hl : p.l.length ≤ LB) :
    LMid w ((wr.setCell ⟨w.heap.size, k * 2, none⟩ (.int .i64 p.n)).setCell ⟨w.heap.size, k * 2 + 1, none⟩ v') n Z ls (done ++ [⟨p.n, v', p.l⟩]) (k + 1) := by
  have ht : Tag wr w.heap.size 37 := ⟨_, _, h.row⟩
  have h1 := heap_set (heap_set h.row (k * 2) (.int .i64 p.n)) (k * 2 + 1) v'
  refine ⟨?_, by rw [List.length_append, h.len]; rfl, ?_, ?_, ?_⟩
  · rw [h1, List.setIfInBounds_toArray, List.setIfInBounds_toArray, row_step Z _ k n _ _ hZ (by rw [lc_len, h.len]) hk, lc_app]; rfl
  · unfold sayL
    rw [List.map_append, List.take_add_one, hp, List.map_append]
    have := h.say
    unfold sayL at this
    rw [this]; rfl
  · intro q hq
    have key : ∀ q : Lt, OwnB wr w.heap.size q.v q.l → OwnB ((wr.setCell ⟨w.heap.size, k * 2, none⟩ (.int .i64 p.n)).setCell ⟨w.heap.size, k * 2 + 1, none⟩ v') w.heap.size q.v q.l := fun q hq =>
      (hq.moved fun j hj => heap_set_ne ((hq.tag hj).ne ht (by decide))).moved fun j hj => heap_set_ne ((hq.tag hj).ne ht (by decide))
    rcases List.mem_append.1 hq with hq | hq
    · exact ⟨key q (h.each q hq).1, (h.each q hq).2⟩
    · obtain rfl := List.mem_singleton.1 hq
      exact ⟨key _ ho, hl⟩
  · exact (h.bel.setCell (p := ⟨w.heap.size, k * 2, none⟩) (Nat.le_refl _) _).setCell (p := ⟨w.heap.size, k * 2 + 1, none⟩) (Nat.le_refl _) _

theorem IsB.letter' {T : TypeId} {w wr : World} {B b i g cap n : Nat} {s : Bg} {p : Lt} (h : IsB T w B b s) (hi : s.ls[i]? = some p) (hb : Below w.heap.size w wr) (hv : s.v = .slice (some ⟨g, 0, none⟩) n cap) : ∃ av cv, wr.cell? ⟨g, i * 2, none⟩ = some (.int .i64 p.n) ∧ wr.cell? ⟨g, i * 2 + 1, none⟩ = some (.slice av p.l.length cv) ∧ RB wr (.slice av p.l.length cv) p.l ∧ p.l.length ≤ LB := by
  obtain ⟨N, g', cap', av, cv, _, _, _, e, _, _, _, _, _, k0, k1, ho, hl⟩ := (h.below hb).letter hi
  rw [hv] at e
  cases e
  exact ⟨av, cv, k0, k1, ho.rb, hl⟩

set_option maxHeartbeats 2000000 in
theorem letters_any (B b : Nat) (s : Bg) (w : World) (h : IsB TB w B b s) :
    Calls Try.prog 24 #[.pointer (some ⟨b, 0, none⟩)] w fun e w' => ∃ v' ls', e = .returned v' ∧ Mail w' w.heap.size w.heap.size v' ls' ∧ sayL ls' = s.say ∧ Below w.heap.size w w' := by
  obtain ⟨i1, hi1, hw0, hw1, hw2⟩ := info_parts Try.infoL
  obtain ⟨_, c1, _⟩ := h.cells
  obtain ⟨a, cap, e⟩ := h.form
  rw [e] at c1
  have hlb := h.tb.lt
  have hn64 : s.ls.length ≤ 64 := Nat.le_trans h.few h.lim
  obtain ⟨n, hn⟩ : ∃ n, s.ls.length = n := ⟨_, rfl⟩
  rw [hn] at c1 hn64 e
  have H : Hid (IsB TB w B b s ∧ s.v = .slice a n cap ∧ s.ls.length = n) := ⟨h, e, hn⟩
  clear h e hn
  go_enter Try.func24, Try.ntmps24
  go_wp2_with (at_make; refine wpList_make_full _ rfl (.tmp 10) (.tmp 10) 48 rfl _ 37 i1 (.agg #[.int .i64 0, .slice none 0 0]) 2 Try.underlying48 hi1 hw0 hw1 .i64 .i64 n n n rfl rfl rfl rfl (by rw [hw2]; omega) (by unfold maxLen; omega) (Nat.le_refl _) ?_; intro w1 hown hgrow; have hb1 := below_grown hgrow; have hM := owns_all hown; have d1 := (hb1.cell (p := ⟨b, 1, none⟩) hlb).trans c1; have HM : Hid _ := hM; clear hown hgrow hM)
  obtain ⟨Z, hZ⟩ : ∃ Z, (madeCells (Value.agg #[.int .i64 0, .slice none 0 0]).cells (n * 2)).toList = Z := ⟨_, rfl⟩
  have hZl : Z.length = n * 2 := by rw [← hZ]; exact made_lc n
  have h0 : LMid w w1 n Z s.ls [] 0 := ⟨by rw [Nat.zero_mul, List.drop_zero, ← hZ]; exact HM.out, rfl, rfl, fun p hp => (by cases hp), hb1⟩
  clear hZ HM hb1 d1
  go_loopw [17] (fun i wr => ∃ k done, k ≤ n ∧ i = .int .i64 (k : Nat) ∧ LMid w wr n Z s.ls done k) (fun i _ => n - (intOf i).toNat)
  case atStart => exact ⟨0, [], Nat.zero_le _, rfl, h0⟩
  case round =>
    clear h0
    obtain ⟨k, done, hk, rfl, hI⟩ := hrel
    by_cases hlt : k < n
    · obtain ⟨p, hp⟩ : ∃ p, s.ls[k]? = some p := ⟨_, List.getElem?_eq_getElem (by rw [H.out.2.2]; exact hlt)⟩
      obtain ⟨g, rfl⟩ : ∃ g, a = some ⟨g, 0, none⟩ := by
        obtain ⟨N, g', cap', av, cv, _, _, _, e, _⟩ := H.out.1.letter hp
        rw [H.out.2.1] at e
        cases e
        exact ⟨_, rfl⟩
      obtain ⟨av, cv, e0, e1, hr, hl⟩ := H.out.1.letter' hp hI.bel H.out.2.1
      obtain ⟨pn, pv, pl'⟩ := p
      simp only at e0 e1 hr hl
      have hki : (k : Int) < (n : Int) := by omega
      have HI : Hid (LMid w wr n Z s.ls done k ∧ RB wr (.slice av pl'.length cv) pl' ∧ pl'.length ≤ LB ∧ s.ls[k]? = some ⟨pn, pv, pl'⟩) := ⟨hI, hr, hl, hp⟩
      clear hI hr hl hp
      go_wp2_with (go_at_call 29; refine (copied_any pn _ pl' _ (HI.out.2.1.below (below_alloc _ _)) HI.out.2.2.1).mono ?_; rintro e w2 ⟨v2, rfl, ho2, hb2⟩; obtain ⟨a2, c2, rfl⟩ := owns_len ho2; have hI2 := (HI.out.1.below (below_alloc _ _)).below hb2; obtain ⟨x, y, f0, f1, ff⟩ := hI2.cells hZl hlt; have HS : Hid _ := hI2.step hZl hlt HI.out.2.2.2 (ho2.le (by have := HI.out.1.bel.size; simp; omega)) HI.out.2.2.1; clear hI2 ho2 hb2)
      go_roundw
      case rel => exact ⟨k + 1, _, by omega, by go_num, HS.out⟩
      case measure => simp [intOf]; omega
    · have hkn : k = n := by omega
      subst hkn
      go_wp2
      go_ret
      refine ⟨_, done, rfl, ⟨?_, hI.each⟩, ?_, hI.bel⟩
      · have hr := hI.row
        rw [List.drop_eq_nil_of_le (by omega), List.append_nil] at hr
        rw [hI.len]
        exact owns_whole (Nat.le_refl _) hr (by rw [lc_len, hI.len]) (by unfold maxLen; omega)
      · have := hI.say
        rw [List.take_of_length_le (by rw [H.out.2.2]; exact Nat.le_refl _)] at this
        exact this
end Go.Proofs.Ytminjmlneikllaa
