/- The contracts of the document's Take, Drop and Double. -/
import Derived.Test.YtminjmlneikllaaBgV
namespace Go.Proofs.Ytminjmlneikllaa
open Go.RowKit

theorem rdrop_no (B b : Nat) (s : Bg) (i : Int) (w : World) (h : IsB TR w B b s) (hi : ¬ (0 ≤ i ∧ i < s.ls.length)) :
    Calls Try.prog 19 #[.pointer (some ⟨b, 0, none⟩), .int .i64 i] w fun e w' => e = .returned (.int .i64 30) ∧ w' = w := by
  obtain ⟨_, c1, _⟩ := h.cells
  obtain ⟨a, cap, e⟩ := h.form
  rw [e] at c1
  have hlb := h.tb.lt
  clear h e
  by_cases h0 : i < 0
  · have hd : decide (i < 0) = true := decide_eq_true h0
    go_enter Try.func19, Try.ntmps19
    go_wp2
    go_ret
    exact ⟨rfl, rfl⟩
  · have hd : decide (i < 0) = false := decide_eq_false h0
    have hd2 : decide ((s.ls.length : Int) ≤ i) = true := decide_eq_true (by omega)
    go_enter Try.func19, Try.ntmps19
    go_wp2
    go_ret
    exact ⟨rfl, rfl⟩
theorem rdouble_no (B b : Nat) (s : Bg) (i : Int) (w : World) (h : IsB TR w B b s) (hi : ¬ (0 ≤ i ∧ i < s.ls.length)) :
    Calls Try.prog 21 #[.pointer (some ⟨b, 0, none⟩), .int .i64 i] w fun e w' => e = .returned (.int .i64 30) ∧ w' = w := by
  obtain ⟨_, c1, _⟩ := h.cells
  obtain ⟨a, cap, e⟩ := h.form
  rw [e] at c1
  have hlb := h.tb.lt
  clear h e
  by_cases h0 : i < 0
  · have hd : decide (i < 0) = true := decide_eq_true h0
    go_enter Try.func21, Try.ntmps21
    go_wp2
    go_ret
    exact ⟨rfl, rfl⟩
  · have hd : decide (i < 0) = false := decide_eq_false h0
    have hd2 : decide ((s.ls.length : Int) ≤ i) = true := decide_eq_true (by omega)
    go_enter Try.func21, Try.ntmps21
    go_wp2
    go_ret
    exact ⟨rfl, rfl⟩
theorem rtake_no (B b : Nat) (s : Bg) (i : Int) (w : World) (h : IsB TR w B b s) (hi : ¬ (0 ≤ i ∧ i < s.ls.length)) :
    Calls Try.prog 16 #[.pointer (some ⟨b, 0, none⟩), .int .i64 i] w fun e w' => e = .returned (.tuple #[.agg #[.int .i64 0, .slice none 0 0], .int .i64 30]) ∧ Below w.heap.size w w' := by
  obtain ⟨_, c1, _⟩ := h.cells
  obtain ⟨a, cap, e⟩ := h.form
  rw [e] at c1
  have hlb := h.tb.lt
  clear h e
  by_cases h0 : i < 0
  · have hd : decide (i < 0) = true := decide_eq_true h0
    go_enter Try.func16, Try.ntmps16
    go_wp2
    refine bodyPost_ret (ret_letter2 rfl _ _ _ rfl (heap_new _ _)) rfl ?_
    exact ⟨rfl, below_alloc _ _⟩
  · have hd : decide (i < 0) = false := decide_eq_false h0
    have hd2 : decide ((s.ls.length : Int) ≤ i) = true := decide_eq_true (by omega)
    go_enter Try.func16, Try.ntmps16
    go_wp2
    refine bodyPost_ret (ret_letter2 rfl _ _ _ rfl (heap_new _ _)) rfl ?_
    exact ⟨rfl, below_alloc _ _⟩

set_option maxHeartbeats 1000000 in
theorem rdrop_ok (B b i : Nat) (s : Bg) (w : World) (h : IsB TR w B b s) (hi : i < s.ls.length) :
    Calls Try.prog 19 #[.pointer (some ⟨b, 0, none⟩), .int .i64 i] w fun e w' => e = .returned (.int .i64 0) ∧ ∃ s', Step TR w w' B b s s' (s.say.eraseIdx i) := by
  obtain ⟨N, hN⟩ : ∃ N, s.ls.length = N + 1 := ⟨s.ls.length - 1, by omega⟩
  obtain ⟨_, c1, _⟩ := h.cells
  obtain ⟨a, cap, e⟩ := h.form
  rw [e, hN] at c1
  have H : Hid (IsB TR w B b s ∧ s.ls.length = N + 1) := ⟨h, hN⟩
  rw [hN] at hi
  have hd : decide ((i : Int) < 0) = false := decide_eq_false (by omega)
  have hd2 : decide ((N : Int) + 1 ≤ (i : Int)) = false := decide_eq_false (by omega)
  have hd3 : decide (N + 1 ≤ i) = false := decide_eq_false (by omega)
  clear h e hN
  go_enter Try.func19, Try.ntmps19
  go_wp2_with (first
    | (go_at_call 33; refine (rwithout_any B b N i s _ H.out.1 H.out.2 hi).mono ?_; rintro e w2 ⟨v', rfl, hown, hb⟩; obtain ⟨d1, d2, HE⟩ := drop_end (by decide) H.out.1 H.out.2 hi (Below.refl _ _) hown hb; obtain ⟨a', c', rfl⟩ := owns_len hown; clear hown hb))
  go_ret
  exact ⟨rfl, HE.out⟩
set_option maxHeartbeats 1000000 in
theorem rdouble_post (B b i : Nat) (s : Bg) (p : Lt) (x : Int) (Q : World → Prop) (w : World) (h : IsB TR w B b s) (hi : s.ls[i]? = some p)
    (hP : Calls Try.prog 14 #[.pointer (some ⟨b, 0, none⟩), .agg #[.int .i64 p.n, p.v]] w fun e w' => e = .returned (.int .i64 x) ∧ Q w') :
    Calls Try.prog 21 #[.pointer (some ⟨b, 0, none⟩), .int .i64 i] w fun e w' => e = .returned (.int .i64 x) ∧ Q w' := by
  obtain ⟨N, g, cap, av, cv, hN, hlt, hN64, e, hrow, hcap, hg, ev, c1, k0, k1, hp⟩ := h.letter hi
  obtain ⟨pn, pv, pl'⟩ := p
  simp only at ev k0 k1 hp hP
  subst ev
  have hd : decide ((i : Int) < 0) = false := decide_eq_false (by omega)
  have hd2 : decide ((N : Int) + 1 ≤ (i : Int)) = false := decide_eq_false (by omega)
  have hd3 : decide (N + 1 ≤ i) = false := decide_eq_false (by omega)
  have HP : Hid (Calls Try.prog 14 #[.pointer (some ⟨b, 0, none⟩), .agg #[.int .i64 pn, .slice av pl'.length cv]] w fun e w' => e = .returned (.int .i64 x) ∧ Q w') := hP
  clear h hrow e hN hp hi hP
  go_enter Try.func21, Try.ntmps21
  go_wp2_with (first
    | (go_at_call 14; refine HP.out.mono ?_; rintro e w2 ⟨rfl, hQ⟩))
  go_ret
  exact ⟨rfl, hQ⟩
theorem rdouble_ok (B b i : Nat) (s : Bg) (p : Lt) (w : World) (h : IsB TR w B b s) (hB : B ≤ w.heap.size) (hi : s.ls[i]? = some p) (hf : s.ls.length < s.n) :
    Calls Try.prog 21 #[.pointer (some ⟨b, 0, none⟩), .int .i64 i] w fun e w' => e = .returned (.int .i64 0) ∧ ∃ s', Step TR w w' B b s s' (s.say ++ [(p.n, p.l)]) :=
  rdouble_post B b i s p 0 _ w h hi (rpost_ok B b s p.n _ p.l w h hB hf (h.each p (List.mem_of_getElem? hi)).1.rb (h.each p (List.mem_of_getElem? hi)).2)
theorem rdouble_full (B b i : Nat) (s : Bg) (p : Lt) (w : World) (h : IsB TR w B b s) (hi : s.ls[i]? = some p) (hf : s.ls.length = s.n) :
    Calls Try.prog 21 #[.pointer (some ⟨b, 0, none⟩), .int .i64 i] w fun e w' => e = .returned (.int .i64 2) ∧ Below w.heap.size w w' :=
  rdouble_post B b i s p 2 _ w h hi (rpost_full B b s p.n _ w h hf)

set_option maxHeartbeats 2000000 in
theorem rtake_ok (B b i : Nat) (s : Bg) (p : Lt) (w : World) (h : IsB TR w B b s) (hi : s.ls[i]? = some p) :
    Calls Try.prog 16 #[.pointer (some ⟨b, 0, none⟩), .int .i64 i] w fun e w' => ∃ v', e = .returned (.tuple #[.agg #[.int .i64 p.n, v'], .int .i64 0]) ∧ OwnB w' w.heap.size v' p.l ∧ ∃ s', Step TR w w' B b s s' (s.say.eraseIdx i) := by
  obtain ⟨N, g, cap, av, cv, hN, hlt, hN64, e, hrow, hcap, hg, ev, c1, k0, k1, hp⟩ := h.letter hi
  obtain ⟨pn, pv, pl'⟩ := p
  simp only at ev k0 k1 hp
  subst ev
  have hlb := h.tb.lt
  have H : Hid (IsB TR w B b s ∧ True ∧ s.ls.length = N + 1 ∧ w.ownsRow 0 37 2 (.slice (some ⟨g, 0, none⟩) (N + 1) cap) (N + 1) (lc s.ls) ∧ OwnB w B (.slice av pl'.length cv) pl' ∧ pl'.length ≤ LB) := ⟨h, trivial, hN, hrow, hp⟩
  have hd : decide ((i : Int) < 0) = false := decide_eq_false (by omega)
  have hd2 : decide ((N : Int) + 1 ≤ (i : Int)) = false := decide_eq_false (by omega)
  have hd3 : decide (N + 1 ≤ i) = false := decide_eq_false (by omega)
  clear h hrow e hN hp hi
  go_enter Try.func16, Try.ntmps16
  go_upto_region 4 with (first
    | (go_at_call 30; refine (one_any pn _ pl' _ (H.out.2.2.2.2.1.below (below_alloc _ _)).rb H.out.2.2.2.2.2).mono ?_; rintro e w1 ⟨v1, rfl, ho1, hb1⟩; obtain ⟨a1, c1, rfl⟩ := owns_len ho1))
  obtain ⟨W, hW⟩ : ∃ W, w1.alloc (.cells #[.int .i64 pn, .slice a1 pl'.length c1] 37) = W := ⟨_, rfl⟩
  rw [hW]
  have HT : Hid (TakeMid w W w1.heap.size pn (.slice a1 pl'.length c1) pl') := takeMid hb1 ho1 hW
  have HB : Hid (IsB TR W B b s ∧ W.ownsRow 0 37 2 (.slice (some ⟨g, 0, none⟩) (N + 1) cap) (N + 1) (lc s.ls)) := ⟨H.out.1.below HT.out.bel, owns_below H.out.2.2.2.1 HT.out.bel⟩
  have c2 := (HT.out.bel.cell (p := ⟨b, 1, none⟩) hlb).trans (by assumption)
  clear hW hb1 ho1
  go_upto_region 5 with (go_at_call 33; refine (rwithout_any B b N i s _ HB.out.1 H.out.2.2.1 hlt).mono ?_; rintro e w2 ⟨v', rfl, hown, hb⟩; obtain ⟨d1, d2, HE⟩ := drop_end (by decide) HB.out.1 H.out.2.2.1 hlt (Below.refl _ _) hown hb; obtain ⟨a', c', rfl⟩ := owns_len hown)
  obtain ⟨W5, hW5⟩ : ∃ W5, w2.setCell ⟨b, 1, none⟩ (.slice a' N c') = W5 := ⟨_, rfl⟩
  rw [hW5] at HE ⊢
  obtain ⟨s', hE⟩ := HE.out
  obtain ⟨f0, f1, r0, r1, rf, hend⟩ := takeEnd H.out.1 HT.out hb hlb hW5 hE
  have HF : Hid _ := hend
  clear HE hE hend hW5 hown hb d1 d2
  go_wp2
  refine bodyPost_ret (ret_letter2 rfl _ _ _ rfl HF.out.1) rfl ?_
  exact ⟨_, rfl, HF.out.2.1, s', HF.out.2.2⟩
end Go.Proofs.Ytminjmlneikllaa
