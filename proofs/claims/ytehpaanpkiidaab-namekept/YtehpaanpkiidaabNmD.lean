/- The contracts of package name's Split, Target and Parent. -/
import Derived.Test.YtehpaanpkiidaabNmC
namespace Go.Proofs.Ytehpaanpkiidaab
open Go.RowKit

theorem root_pos {s : ByteArray} (h : rootB s = true) : 0 < s.size := by
  unfold rootB at h; rw [Bool.and_eq_true] at h; exact of_decide_eq_true h.1

theorem split_any (s : ByteArray) (w : World) :
    Calls Try.prog 7 #[.string s] w fun e w' => ∃ v, e = .returned (.tuple #[v, .bool (cutD s (rootB s)), .int .i64 (cutE s (rootB s))]) ∧ Own w' w.heap.size v (cutL s (rootB s)) ∧ Below w.heap.size w w' := by
  go_enter Try.func7, Try.ntmps7
  go_wp2_with (first
    | (go_at_call 15; refine (rooted_any _ _).mono ?_; rintro e w' ⟨rfl, rfl⟩)
    | (go_at_call 14; refine (cut_any _ _ _ root_pos).mono ?_; rintro e w1 ⟨v, rfl, hown, hb⟩))
  go_ret3
  exact ⟨_, rfl, hown, hb⟩

def fullB (s : ByteArray) : Bool := !s.toList.isEmpty
def tgtW (s : ByteArray) : Bool := decide (cutE s (fullB s) = 0) && rootB s
theorem full_iff (s : ByteArray) : fullB s = decide (0 < s.size) := by
  have h := toList_size s
  unfold fullB
  cases hl : s.toList with
  | nil => rw [hl] at h; simp at h; simp [← h]
  | cons a l => rw [hl] at h; simp at h; simp [← h]
theorem full_pos {s : ByteArray} (h : fullB s = true) : 0 < s.size := by rw [full_iff] at h; exact of_decide_eq_true h

theorem results_tmp4 {fn : Func} {t u v x : Tmp} (h : fn.results = #[.tmp t, .tmp u, .tmp v, .tmp x]) (tmps : Array Value) (P : Program) (w : World) :
    (results fn tmps).run P w = .ok (.tuple #[tmps.getD t undef, tmps.getD u undef, tmps.getD v undef, tmps.getD x undef]) w := by
  simp [results, h]

theorem target_any (s : ByteArray) (w : World) :
    Calls Try.prog 8 #[.string s] w fun e w' => ∃ v, e = .returned (.tuple #[v, .bool (tgtW s), .bool (cutD s (fullB s)), .int .i64 (cutE s (fullB s))]) ∧ Own w' w.heap.size v (cutL s (fullB s)) ∧ Below w.heap.size w w' := by
  have hf : (!s.toList.isEmpty) = fullB s := rfl
  have HT : Hid (tgtW s = (decide (cutE s (fullB s) = 0) && rootB s)) := (rfl : tgtW s = _)
  obtain ⟨E, hE⟩ : ∃ E, cutE s (fullB s) = E := ⟨_, rfl⟩
  have HI : Hid (cutE s (fullB s) = E) := hE
  clear hE
  go_enter Try.func8, Try.ntmps8
  by_cases h0 : E = 0
  · go_wp2_with (first
      | (go_at_call 15; refine (rooted_any _ _).mono ?_; rintro e w' ⟨rfl, rfl⟩)
      | (go_at_call 14; refine (cut_any _ (fullB s) _ full_pos).mono ?_; rintro e w1 ⟨v, rfl, hown, hb⟩; rw [HI.out, h0]))
    (try simp only [Exit.inBlock, Exit.then]); refine bodyPost_ret (results_tmp4 rfl _ _ _) rfl ?_
    rw [HT.out, HI.out, h0]
    exact ⟨_, rfl, hown, hb⟩
  · go_wp2_with (first
      | (go_at_call 14; refine (cut_any _ (fullB s) _ full_pos).mono ?_; rintro e w1 ⟨v, rfl, hown, hb⟩; rw [HI.out]))
    (try simp only [Exit.inBlock, Exit.then]); refine bodyPost_ret (results_tmp4 rfl _ _ _) rfl ?_
    rw [HT.out, HI.out, decide_eq_false h0]
    exact ⟨_, rfl, hown, hb⟩

theorem pcs_pos (s : ByteArray) (i : Nat) (hi : i ≤ s.size + 1) : ∀ x ∈ pcs s i, 0 < x.size := by
  induction i with
  | zero => intro x hx; cases hx
  | succ i ih =>
    intro x hx
    simp only [pcs] at hx
    split at hx
    · rename_i h
      rcases List.mem_append.1 hx with hx | hx
      · exact ih (by omega) x hx
      · obtain rfl := List.mem_singleton.1 hx
        rw [ByteArray.size_extract]; omega
    · exact ih (by omega) x hx
theorem last_zero (s : ByteArray) : (lastT (pieces s)).size = 0 ↔ pieces s = [] := by
  constructor
  · intro h
    cases hp : pieces s with
    | nil => rfl
    | cons a l =>
      have hg := lastT_get (l := pieces s) (by rw [hp]; simp)
      have := pcs_pos s (s.size + 1) (Nat.le_refl _) _ (List.mem_of_getElem? hg)
      omega
  · intro h; rw [h]; rfl

theorem Own.pop {w : World} {base : Nat} {a : Option Addr} {l : List ByteArray} {cap : Nat} (h : Own w base (.slice a l.length cap) l) (hl : l ≠ []) : Own w base (.slice a (l.length - 1) cap) l.dropLast := by
  obtain ⟨m, x, rfl⟩ : ∃ m x, l = m ++ [x] := ⟨l.dropLast, l.getLast hl, (List.dropLast_concat_getLast hl).symm⟩
  unfold Own at h ⊢
  rw [List.dropLast_concat]
  rw [List.length_append, List.map_append] at h
  rw [List.length_append]
  rcases h.2 with ⟨_, h2⟩ | ⟨g, cap', cur, hv, r⟩
  · simp at h2
  · cases hv
    exact ownsRow_pop (last := [Value.string x]) (by simp) h
theorem Own.lim {w : World} {base : Nat} {a : Option Addr} {l : List ByteArray} {n cap : Nat} (h : Own w base (.slice a n cap) l) : l.length ≤ cap := by
  rcases h.2 with ⟨_, h2⟩ | ⟨g, cap', cur, hv, _, _, hn, _⟩
  · omega
  · cases hv; exact hn

set_option maxHeartbeats 1000000 in
theorem parent_any (s : ByteArray) (w : World) :
    Calls Try.prog 12 #[.string s] w fun e w' => ∃ v, e = .returned (.tuple #[v, .string (parT s), .int .i64 (parE s)]) ∧ Own w' w.heap.size v (parL s) ∧ Below w.heap.size w w' := by
  obtain ⟨E, hE⟩ : ∃ E, cutE s (rootB s) = E := ⟨_, rfl⟩
  obtain ⟨L, hL⟩ : ∃ L, cutL s (rootB s) = L := ⟨_, rfl⟩
  by_cases h0 : E = 0
  · have hLp : L = pieces s := by rw [← hL]; unfold cutL; rw [hE, h0]; rfl
    have hll : L.length ≤ 97 := by
      rw [hLp]
      have : s.size ≤ 96 := by
        by_cases h : 96 < s.size
        · exfalso; unfold cutE at hE; rw [if_pos h] at hE; omega
        · omega
      exact Nat.le_trans (pcs_len s _) (by omega)
    by_cases hp : L = []
    · have he : parE s = 10 := by unfold parE; rw [hE, h0, if_pos rfl, if_pos (.inl ((last_zero s).2 (by rw [← hLp]; exact hp)))]
      have HE : Hid (parE s = 10 ∧ parL s = [] ∧ parT s = ⟨#[]⟩) := ⟨he, by unfold parL; rw [he]; rfl, by unfold parT; rw [he]; rfl⟩
      have HI : Hid (cutE s (rootB s) = 0 ∧ cutL s (rootB s) = []) := ⟨by rw [hE, h0], by rw [hL, hp]⟩
      clear he hE hL hLp hll hp h0
      go_enter Try.func12, Try.ntmps12
      go_wp2_with (first
        | (go_at_call 7; refine (split_any _ _).mono ?_; rintro e w1 ⟨v, rfl, hown, hb⟩; rw [HI.out.1]; rw [HI.out.2] at hown; obtain ⟨a, cap, rfl, hrow⟩ := hown.row)
        | (go_at_call 18; refine (end_any _ [] _ _ hrow (by simp)).mono ?_; rintro e w' ⟨rfl, rfl⟩; rw [show lastT [] = ⟨#[]⟩ from rfl]))
      go_ret3
      rw [HE.out.1, HE.out.2.1, HE.out.2.2]
      exact ⟨_, rfl, Own.nil _ _, hb⟩
    · have hz : ¬ (lastT (pieces s)).size = 0 := by rw [last_zero, ← hLp]; exact hp
      cases hd : dotsB (lastT L)
      · have he : parE s = 0 := by unfold parE; rw [hE, h0, if_pos rfl, if_neg (by rw [← hLp, hd]; rw [← hLp] at hz; simp [hz])]
        have HE : Hid (parE s = 0 ∧ parL s = L.dropLast ∧ parT s = lastT L) := ⟨he, by unfold parL; rw [he, hLp]; rfl, by unfold parT; rw [he, hLp]; rfl⟩
        have HI : Hid (cutE s (rootB s) = 0 ∧ cutL s (rootB s) = L) := ⟨by rw [hE, h0], by rw [hL]⟩
        have hn : ((lastT L).toList == []) = false := by rw [toList_nil, hLp]; exact decide_eq_false hz
        have hpos : 0 < L.length := List.length_pos_iff.2 hp
        clear he hE hL hLp h0 hz
        go_enter Try.func12, Try.ntmps12
        go_wp2_with (first
          | (go_at_call 7; refine (split_any _ _).mono ?_; rintro e w1 ⟨v, rfl, hown, hb⟩; rw [HI.out.1]; rw [HI.out.2] at hown; obtain ⟨a, cap, rfl, hrow⟩ := hown.row; have hcap := hown.lim)
          | (go_at_call 18; refine (end_any _ L _ _ hrow (by omega)).mono ?_; rintro e w' ⟨rfl, rfl⟩)
          | (go_at_call 16; refine (dots_any _ _).mono ?_; rintro e w' ⟨rfl, rfl⟩; rw [hd]))
        go_ret3
        rw [HE.out.1, HE.out.2.1, HE.out.2.2]
        exact ⟨_, rfl, hown.pop hp, hb⟩
      · have he : parE s = 10 := by unfold parE; rw [hE, h0, if_pos rfl, if_pos (by rw [← hLp, hd]; simp)]
        have HE : Hid (parE s = 10 ∧ parL s = [] ∧ parT s = ⟨#[]⟩) := ⟨he, by unfold parL; rw [he]; rfl, by unfold parT; rw [he]; rfl⟩
        have HI : Hid (cutE s (rootB s) = 0 ∧ cutL s (rootB s) = L) := ⟨by rw [hE, h0], by rw [hL]⟩
        have hn : ((lastT L).toList == []) = false := by rw [toList_nil, hLp]; exact decide_eq_false hz
        clear he hE hL hLp h0 hz
        go_enter Try.func12, Try.ntmps12
        go_wp2_with (first
          | (go_at_call 7; refine (split_any _ _).mono ?_; rintro e w1 ⟨v, rfl, hown, hb⟩; rw [HI.out.1]; rw [HI.out.2] at hown; obtain ⟨a, cap, rfl, hrow⟩ := hown.row)
          | (go_at_call 18; refine (end_any _ L _ _ hrow (by omega)).mono ?_; rintro e w' ⟨rfl, rfl⟩)
          | (go_at_call 16; refine (dots_any _ _).mono ?_; rintro e w' ⟨rfl, rfl⟩; rw [hd]))
        go_ret3
        rw [HE.out.1, HE.out.2.1, HE.out.2.2]
        exact ⟨_, rfl, Own.nil _ _, hb⟩
  · have he : parE s = E := by unfold parE; rw [hE, if_neg h0]
    have HE : Hid (parE s = E ∧ parL s = [] ∧ parT s = ⟨#[]⟩) := ⟨he, by unfold parL; rw [he, if_neg h0], by unfold parT; rw [he, if_neg h0]⟩
    have HI : Hid (cutE s (rootB s) = E) := hE
    clear he hE hL
    go_enter Try.func12, Try.ntmps12
    go_wp2_with (go_at_call 7; refine (split_any _ _).mono ?_; rintro e w1 ⟨v, rfl, hown, hb⟩; rw [HI.out])
    go_ret3
    rw [HE.out.1, HE.out.2.1, HE.out.2.2]
    exact ⟨_, rfl, Own.nil _ _, hb⟩
end Go.Proofs.Ytehpaanpkiidaab
