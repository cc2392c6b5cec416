/- The contracts of Take, Drop and Double. -/
import Derived.Test.YtminjmlneikllaaBgU
namespace Go.Proofs.Ytminjmlneikllaa
open Go.RowKit

theorem say_erase (s s' : Bg) (i : Nat) (h : s'.ls = s.ls.eraseIdx i) : s'.say = s.say.eraseIdx i := by
  unfold Bg.say; rw [h, List.eraseIdx_eq_take_drop_succ, List.eraseIdx_eq_take_drop_succ, List.map_append, List.map_take, List.map_drop]
/-- the list without the letter i is stored -/
theorem drop_end {T : TypeId} {w w1 w2 : World} {B b N i : Nat} {s : Bg} {v' : Value} (hT : T ≠ 37 ∧ T ≠ 5) (h : IsB T w1 B b s) (hls : s.ls.length = N + 1) (hi : i < N + 1) (hb0 : Below w.heap.size w w1) (hown : w2.ownsRow w1.heap.size 37 2 v' N (lc (s.ls.eraseIdx i))) (hb : Below w1.heap.size w1 w2) :
    w2.cell? ⟨b, 1, none⟩ = some s.v ∧ w2.frozen? ⟨b, 1, none⟩ = false ∧ Hid (∃ s', Step T w (w2.setCell ⟨b, 1, none⟩ v') B b s s' (s.say.eraseIdx i)) := by
  have h2 := h.below hb
  obtain ⟨_, c1, cf⟩ := h2.cells
  let s' : Bg := ⟨s.n, v', s.ls.eraseIdx i⟩
  have hl : (s.ls.eraseIdx i).length = N := by rw [List.length_eraseIdx, if_pos (by omega)]; omega
  refine ⟨c1, cf 1, s', ⟨h2.put hT s' rfl ?_ ?_ ?_, rfl, say_erase s s' i rfl, ?_, .inr fun q hq => ?_, fun _ p hp => List.mem_of_mem_eraseIdx hp⟩⟩
  · show w2.ownsRow 0 _ 2 v' (s.ls.eraseIdx i).length (lc (s.ls.eraseIdx i))
    rw [hl]; exact owns_le hown (Nat.zero_le _)
  · exact (lc_take_mem h2.each i).2.2
  · show (s.ls.eraseIdx i).length ≤ s.n
    have := h.few; omega
  · exact (Only.of (chainB hb0 hb)).trans ((only1 w2 b 1 v').mono fun _ e => .inl e)
  · exact Nat.le_trans hb0.size (World.ownsRow.lt hown q hq).1

theorem has_iff (s : Bg) (i : Int) : s.has i = decide (0 ≤ i ∧ i < s.ls.length) := by unfold Bg.has; rw [Bool.decide_and]

theorem drop_no (B b : Nat) (s : Bg) (i : Int) (w : World) (h : IsB TB w B b s) (hi : ¬ (0 ≤ i ∧ i < s.ls.length)) :
    Calls Try.prog 18 #[.pointer (some ⟨b, 0, none⟩), .int .i64 i] w fun e w' => e = .returned (.int .i64 30) ∧ w' = w := by
  have H : Hid (IsB TB w B b s ∧ s.has i = false) := ⟨h, by rw [has_iff]; exact decide_eq_false hi⟩
  clear h hi
  go_enter Try.func18, Try.ntmps18
  go_wp2_with (go_at_call 31; refine (has_any B b s i _ H.out.1).mono ?_; rintro e w1 ⟨rfl, rfl⟩; rw [H.out.2])
  go_ret
  exact ⟨rfl, rfl⟩
theorem double_no (B b : Nat) (s : Bg) (i : Int) (w : World) (h : IsB TB w B b s) (hi : ¬ (0 ≤ i ∧ i < s.ls.length)) :
    Calls Try.prog 20 #[.pointer (some ⟨b, 0, none⟩), .int .i64 i] w fun e w' => e = .returned (.int .i64 30) ∧ w' = w := by
  have H : Hid (IsB TB w B b s ∧ s.has i = false) := ⟨h, by rw [has_iff]; exact decide_eq_false hi⟩
  clear h hi
  go_enter Try.func20, Try.ntmps20
  go_wp2_with (go_at_call 31; refine (has_any B b s i _ H.out.1).mono ?_; rintro e w1 ⟨rfl, rfl⟩; rw [H.out.2])
  go_ret
  exact ⟨rfl, rfl⟩
theorem take_no (B b : Nat) (s : Bg) (i : Int) (w : World) (h : IsB TB w B b s) (hi : ¬ (0 ≤ i ∧ i < s.ls.length)) :
    Calls Try.prog 15 #[.pointer (some ⟨b, 0, none⟩), .int .i64 i] w fun e w' => e = .returned (.tuple #[.agg #[.int .i64 0, .slice none 0 0], .int .i64 30]) ∧ Below w.heap.size w w' := by
  have H : Hid (IsB TB w B b s ∧ s.has i = false) := ⟨h, by rw [has_iff]; exact decide_eq_false hi⟩
  clear h hi
  go_enter Try.func15, Try.ntmps15
  go_wp2_with (go_at_call 31; refine (has_any B b s i _ (H.out.1.below (below_alloc _ _))).mono ?_; rintro e w1 ⟨rfl, rfl⟩; rw [H.out.2])
  refine bodyPost_ret (ret_letter2 rfl _ _ _ rfl (heap_new _ _)) rfl ?_
  exact ⟨rfl, below_alloc _ _⟩

set_option maxHeartbeats 1000000 in
theorem drop_ok (B b i : Nat) (s : Bg) (w : World) (h : IsB TB w B b s) (hi : i < s.ls.length) :
    Calls Try.prog 18 #[.pointer (some ⟨b, 0, none⟩), .int .i64 i] w fun e w' => e = .returned (.int .i64 0) ∧ ∃ s', Step TB w w' B b s s' (s.say.eraseIdx i) := by
  obtain ⟨N, hN⟩ : ∃ N, s.ls.length = N + 1 := ⟨s.ls.length - 1, by omega⟩
  obtain ⟨_, c1, _⟩ := h.cells
  have hrow := h.row
  rw [hN] at hrow
  obtain ⟨g, cap, e⟩ := owns_form hrow
  rw [e] at hrow c1
  have hN64 : N ≤ 64 := by have := h.few; have := h.lim; omega
  have H : Hid (IsB TB w B b s ∧ s.has i = true ∧ s.ls.length = N + 1 ∧ s.v = .slice (some ⟨g, 0, none⟩) (N + 1) cap ∧ w.ownsRow 0 37 2 (.slice (some ⟨g, 0, none⟩) (N + 1) cap) (N + 1) (lc s.ls)) := ⟨h, by rw [has_iff]; exact decide_eq_true (by omega), hN, e, hrow⟩
  rw [hN] at hi
  clear h hrow e hN
  go_enter Try.func18, Try.ntmps18
  go_wp2_with (first
    | (go_at_call 31; refine (has_any B b s i _ H.out.1).mono ?_; rintro e w1 ⟨rfl, rfl⟩; rw [H.out.2.1])
    | (go_at_call 32; refine (without_any g cap N i B s.ls _ H.out.2.2.2.2 H.out.2.2.1 H.out.1.each hi hN64).mono ?_; rintro e w2 ⟨v', rfl, hown, hb⟩; obtain ⟨d1, d2, HE⟩ := drop_end (by decide) H.out.1 H.out.2.2.1 hi (Below.refl _ _) hown hb; obtain ⟨a', c', rfl⟩ := owns_len hown; clear hown hb))
  go_ret
  exact ⟨rfl, HE.out⟩

/-- the letter i of a bag, as its cells say -/
theorem IsB.letter {T : TypeId} {w : World} {B b i : Nat} {s : Bg} {p : Lt} (h : IsB T w B b s) (hi : s.ls[i]? = some p) : ∃ N g cap av cv, s.ls.length = N + 1 ∧ i < N + 1 ∧ N + 1 ≤ 64 ∧ s.v = .slice (some ⟨g, 0, none⟩) (N + 1) cap ∧ w.ownsRow 0 37 2 (.slice (some ⟨g, 0, none⟩) (N + 1) cap) (N + 1) (lc s.ls) ∧ N + 1 ≤ cap ∧ g < w.heap.size ∧
    p.v = .slice av p.l.length cv ∧ w.cell? ⟨b, 1, none⟩ = some (.slice (some ⟨g, 0, none⟩) (N + 1) cap) ∧ w.cell? ⟨g, i * 2, none⟩ = some (.int .i64 p.n) ∧ w.cell? ⟨g, i * 2 + 1, none⟩ = some (.slice av p.l.length cv) ∧ OwnB w B (.slice av p.l.length cv) p.l ∧ p.l.length ≤ LB := by
  have hlt : i < s.ls.length := (List.getElem?_eq_some_iff.1 hi).1
  obtain ⟨N, hN⟩ : ∃ N, s.ls.length = N + 1 := ⟨s.ls.length - 1, by omega⟩
  obtain ⟨_, c1, _⟩ := h.cells
  have hrow := h.row
  rw [hN] at hrow
  obtain ⟨g, cap, e⟩ := owns_form hrow
  rw [e] at hrow c1
  obtain ⟨hc, _, hcap, _, _, hg⟩ := owns_cells hrow
  obtain ⟨l0, l1⟩ := lc_get s.ls i p hi
  have hp := h.each _ (List.mem_of_getElem? hi)
  obtain ⟨av, cv, ev⟩ := owns_len hp.1
  have := h.few
  have := h.lim
  rw [ev] at l1 hp
  exact ⟨N, g, cap, av, cv, hN, by omega, by omega, e, hrow, hcap, hg, ev, c1, hc _ _ l0, hc _ _ l1, hp.1, hp.2⟩

set_option maxHeartbeats 1000000 in
theorem double_post (B b i : Nat) (s : Bg) (p : Lt) (x : Int) (Q : World → Prop) (w : World) (h : IsB TB w B b s) (hi : s.ls[i]? = some p)
    (hP : Calls Try.prog 12 #[.pointer (some ⟨b, 0, none⟩), .agg #[.int .i64 p.n, p.v]] w fun e w' => e = .returned (.int .i64 x) ∧ Q w') :
    Calls Try.prog 20 #[.pointer (some ⟨b, 0, none⟩), .int .i64 i] w fun e w' => e = .returned (.int .i64 x) ∧ Q w' := by
  obtain ⟨N, g, cap, av, cv, hN, hlt, hN64, e, hrow, hcap, hg, ev, c1, k0, k1, hp⟩ := h.letter hi
  obtain ⟨pn, pv, pl'⟩ := p
  simp only at ev k0 k1 hp hP
  subst ev
  have H : Hid (IsB TB w B b s ∧ s.has i = true) := ⟨h, by rw [has_iff]; exact decide_eq_true (by omega)⟩
  have HP : Hid (Calls Try.prog 12 #[.pointer (some ⟨b, 0, none⟩), .agg #[.int .i64 pn, .slice av pl'.length cv]] w fun e w' => e = .returned (.int .i64 x) ∧ Q w') := hP
  clear h hrow e hN hp hi hP
  go_enter Try.func20, Try.ntmps20
  go_wp2_with (first
    | (go_at_call 31; refine (has_any B b s i _ H.out.1).mono ?_; rintro e w1 ⟨rfl, rfl⟩; rw [H.out.2])
    | (go_at_call 12; refine HP.out.mono ?_; rintro e w2 ⟨rfl, hQ⟩))
  go_ret
  exact ⟨rfl, hQ⟩
theorem double_ok (B b i : Nat) (s : Bg) (p : Lt) (w : World) (h : IsB TB w B b s) (hB : B ≤ w.heap.size) (hi : s.ls[i]? = some p) (hf : s.ls.length < s.n) :
    Calls Try.prog 20 #[.pointer (some ⟨b, 0, none⟩), .int .i64 i] w fun e w' => e = .returned (.int .i64 0) ∧ ∃ s', Step TB w w' B b s s' (s.say ++ [(p.n, p.l)]) :=
  double_post B b i s p 0 _ w h hi (post_ok B b s p.n _ p.l w h hB hf (h.each p (List.mem_of_getElem? hi)).1.rb (h.each p (List.mem_of_getElem? hi)).2)
theorem double_full (B b i : Nat) (s : Bg) (p : Lt) (w : World) (h : IsB TB w B b s) (hi : s.ls[i]? = some p) (hf : s.ls.length = s.n) :
    Calls Try.prog 20 #[.pointer (some ⟨b, 0, none⟩), .int .i64 i] w fun e w' => e = .returned (.int .i64 2) ∧ Below w.heap.size w w' :=
  double_post B b i s p 2 _ w h hi (post_full B b s p.n _ w h hf)

/-- a variable of the call's own is written behind the step -/
theorem Step.poke {T t : TypeId} {w W w' W' : World} {B b k : Nat} {s s' : Bg} {L : List (Int × List Int)} (h : Step T W w' B b s s' L) (h0 : IsB T w B b s) (hb : Below w.heap.size w W) (hk1 : w.heap.size ≤ k) (hk2 : k < W.heap.size) (ht : Tag w' k t) (hu : t ≠ 5) (hP : Only (· = k) w' W') : Step T w W' B b s s' L := by
  have := h0.tb.lt
  refine ⟨h.is.only hP (by omega) (fun q hq e => ?_) (fun q hq _ e => hq.ne ht hu.symm e), h.n, h.say, ?_, ?_, h.kept⟩
  · rcases h.v with e' | e'
    · have := (h0.tv (e' ▸ hq)).lt; omega
    · have := e' q hq; omega
  · have hO := (Only.of hb).trans h.only
    exact ⟨hP.os.trans hO.os, hP.tape.trans hO.tape, hP.output.trans hO.output, Nat.le_trans hO.size hP.size, fun q hq hs => (hP.block q (Nat.lt_of_lt_of_le hq hO.size) (by omega)).trans (hO.block q hq hs)⟩
  · exact h.v.imp id fun e q hq => Nat.le_trans hb.size (e q hq)

/-- ahead of the list's turning: the result's variable, the letter's variable -/
structure TakeMid (w W : World) (k : Nat) (n : Int) (v : Value) (l : List Int) : Prop where
  bel : Below w.heap.size w W
  res : W.heap[w.heap.size]? = some (.cells #[.int .i64 0, .slice none 0 0] 37 (0, 0))
  var : W.heap[k]? = some (.cells #[.int .i64 n, v] 37 (0, 0))
  own : OwnB W (w.heap.size + 1) v l
  k : w.heap.size < k
theorem takeMid {w w1 W : World} {n : Int} {v : Value} {l : List Int} (hb : Below (w.alloc (.cells #[.int .i64 0, .slice none 0 0] 37)).heap.size (w.alloc (.cells #[.int .i64 0, .slice none 0 0] 37)) w1) (ho : OwnB w1 (w.alloc (.cells #[.int .i64 0, .slice none 0 0] 37)).heap.size v l)
    (hW : w1.alloc (.cells #[.int .i64 n, v] 37) = W) : TakeMid w W w1.heap.size n v l := by
  have hz : (w.alloc (.cells #[.int .i64 0, .slice none 0 0] 37)).heap.size = w.heap.size + 1 := by simp
  have hs := hb.size
  rw [hz] at hs ho
  subst hW
  refine ⟨chainB (chainB (below_alloc _ _) hb) (below_alloc _ _), ?_, heap_new _ _, ho.below (below_alloc _ _), by omega⟩
  rw [Below.heap_alloc _ _ _ (by omega), hb.block _ (by rw [hz]; omega)]
  exact heap_new _ _
theorem takeEnd {T : TypeId} {w W w2 W5 : World} {B b k : Nat} {n : Int} {v v' : Value} {l : List Int} {s s' : Bg} {L : List (Int × List Int)} (h : IsB T w B b s) (hT : TakeMid w W k n v l) (hb : Below W.heap.size W w2) (hlb : b < w.heap.size) (hW : w2.setCell ⟨b, 1, none⟩ v' = W5) (hE : Step T W W5 B b s s' L) :
    W5.cell? ⟨k, 0, none⟩ = some (.int .i64 n) ∧ W5.cell? ⟨k, 1, none⟩ = some v ∧ W5.cell? ⟨w.heap.size, 0, none⟩ = some (.int .i64 0) ∧ W5.cell? ⟨w.heap.size, 1, none⟩ = some (.slice none 0 0) ∧ (∀ i, W5.frozen? ⟨w.heap.size, i, none⟩ = false) ∧
    ((W5.setCell ⟨w.heap.size, 0, none⟩ (.int .i64 n)).setCell ⟨w.heap.size, 1, none⟩ v).heap[w.heap.size]? = some (.cells #[.int .i64 n, v] 37 (0, 0)) ∧ OwnB ((W5.setCell ⟨w.heap.size, 0, none⟩ (.int .i64 n)).setCell ⟨w.heap.size, 1, none⟩ v) w.heap.size v l ∧ Step T w ((W5.setCell ⟨w.heap.size, 0, none⟩ (.int .i64 n)).setCell ⟨w.heap.size, 1, none⟩ v) B b s s' L := by
  have hk := hT.k
  have hkW : k < W.heap.size := (Array.getElem?_eq_some_iff.1 hT.var).1
  have hrW : w.heap.size < W.heap.size := by omega
  have hv : W5.heap[k]? = some (.cells #[.int .i64 n, v] 37 (0, 0)) := by rw [← hW, heap_set_ne (by omega), hb.block _ hkW]; exact hT.var
  have hr : W5.heap[w.heap.size]? = some (.cells #[.int .i64 0, .slice none 0 0] 37 (0, 0)) := by rw [← hW, heap_set_ne (by omega), hb.block _ hrW]; exact hT.res
  have hr1 : (W5.setCell ⟨w.heap.size, 0, none⟩ (.int .i64 n)).heap[w.heap.size]? = some (.cells #[.int .i64 n, .slice none 0 0] 37 (0, 0)) := heap_set hr 0 _
  have ho : OwnB W5 (w.heap.size + 1) v l := by rw [← hW]; exact (hT.own.below hb).moved fun q hq => heap_set_ne (by have := (hT.own.at q hq).1; omega)
  refine ⟨by rw [cell_of hv]; rfl, by rw [cell_of hv]; rfl, by rw [cell_of hr]; rfl, by rw [cell_of hr]; rfl, free_of hr, heap_set hr1 1 _, ?_, ?_⟩
  · exact ((ho.le (Nat.le_succ _)).moved fun q hq => heap_set_ne (by have := (ho.at q hq).1; omega)).moved fun q hq => heap_set_ne (by have := (ho.at q hq).1; omega)
  · exact hE.poke h hT.bel (Nat.le_refl _) hrW ⟨_, _, hr⟩ (by decide) ((only1 _ _ _ _).trans (only1 _ _ _ _))

set_option maxHeartbeats 2000000 in
theorem take_ok (B b i : Nat) (s : Bg) (p : Lt) (w : World) (h : IsB TB w B b s) (hi : s.ls[i]? = some p) :
    Calls Try.prog 15 #[.pointer (some ⟨b, 0, none⟩), .int .i64 i] w fun e w' => ∃ v', e = .returned (.tuple #[.agg #[.int .i64 p.n, v'], .int .i64 0]) ∧ OwnB w' w.heap.size v' p.l ∧ ∃ s', Step TB w w' B b s s' (s.say.eraseIdx i) := by
  obtain ⟨N, g, cap, av, cv, hN, hlt, hN64, e, hrow, hcap, hg, ev, c1, k0, k1, hp⟩ := h.letter hi
  obtain ⟨pn, pv, pl'⟩ := p
  simp only at ev k0 k1 hp
  subst ev
  have hlb := h.tb.lt
  have H : Hid (IsB TB w B b s ∧ s.has i = true ∧ s.ls.length = N + 1 ∧ w.ownsRow 0 37 2 (.slice (some ⟨g, 0, none⟩) (N + 1) cap) (N + 1) (lc s.ls) ∧ OwnB w B (.slice av pl'.length cv) pl' ∧ pl'.length ≤ LB) := ⟨h, by rw [has_iff]; exact decide_eq_true (by omega), hN, hrow, hp⟩
  clear h hrow e hN hp hi
  go_enter Try.func15, Try.ntmps15
  go_upto_region 4 with (first
    | (go_at_call 31; refine (has_any B b s i _ (H.out.1.below (below_alloc _ _))).mono ?_; rintro e w0 ⟨rfl, rfl⟩; rw [H.out.2.1])
    | (go_at_call 29; refine (copied_any pn _ pl' _ (H.out.2.2.2.2.1.below (below_alloc _ _)).rb H.out.2.2.2.2.2).mono ?_; rintro e w1 ⟨v1, rfl, ho1, hb1⟩; obtain ⟨a1, c1, rfl⟩ := owns_len ho1))
  obtain ⟨W, hW⟩ : ∃ W, w1.alloc (.cells #[.int .i64 pn, .slice a1 pl'.length c1] 37) = W := ⟨_, rfl⟩
  rw [hW]
  have HT : Hid (TakeMid w W w1.heap.size pn (.slice a1 pl'.length c1) pl') := takeMid hb1 ho1 hW
  have HB : Hid (IsB TB W B b s ∧ W.ownsRow 0 37 2 (.slice (some ⟨g, 0, none⟩) (N + 1) cap) (N + 1) (lc s.ls)) := ⟨H.out.1.below HT.out.bel, owns_below H.out.2.2.2.1 HT.out.bel⟩
  have c2 := (HT.out.bel.cell (p := ⟨b, 1, none⟩) hlb).trans (by assumption)
  clear hW hb1 ho1
  go_upto_region 5 with (go_at_call 32; refine (without_any g cap N i B s.ls _ HB.out.2 H.out.2.2.1 HB.out.1.each hlt (by omega)).mono ?_; rintro e w2 ⟨v', rfl, hown, hb⟩; obtain ⟨d1, d2, HE⟩ := drop_end (by decide) HB.out.1 H.out.2.2.1 hlt (Below.refl _ _) hown hb; obtain ⟨a', c', rfl⟩ := owns_len hown)
  obtain ⟨W5, hW5⟩ : ∃ W5, w2.setCell ⟨b, 1, none⟩ (.slice a' N c') = W5 := ⟨_, rfl⟩
  rw [hW5] at HE ⊢
  obtain ⟨s', hE⟩ := HE.out
  obtain ⟨f0, f1, r0, r1, rf, hend⟩ := takeEnd H.out.1 HT.out hb hlb hW5 hE
  have HF : Hid _ := hend
  clear HE hE hend hW5 hown hb d1 d2
  go_wp2
  refine bodyPost_ret (ret_letter2 rfl _ _ _ rfl HF.out.1) rfl ?_
  exact ⟨_, rfl, HF.out.2.1, s', HF.out.2.2⟩
end Go.Proofs.Ytminjmlneikllaa
