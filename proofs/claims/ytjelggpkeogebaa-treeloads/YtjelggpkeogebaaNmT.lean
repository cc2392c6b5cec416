/- The contracts of package name's Split, Target and Parent. -/
import Derived.Test.YtjelggpkeogebaaNmC
namespace Go.Proofs.Ytjelggpkeogebaa
open Go.RowKit

theorem root_pos {s : ByteArray} (h : rootB s = true) : 0 < s.size := by
  unfold rootB at h; rw [Bool.and_eq_true] at h; exact of_decide_eq_true h.1

def fullB (s : ByteArray) : Bool := !s.toList.isEmpty
def tgtW (s : ByteArray) : Bool := decide (cutE s (fullB s) = 0) && rootB s
theorem full_iff (s : ByteArray) : fullB s = decide (0 < s.size) := by
  have h := toList_size s
  unfold fullB
  cases hl : s.toList with
  | nil => rw [hl] at h; simp at h; simp [← h]
  | cons a l => rw [hl] at h; simp at h; simp [← h]
theorem full_pos {s : ByteArray} (h : fullB s = true) : 0 < s.size := by rw [full_iff] at h; exact of_decide_eq_true h

theorem results_tmp4 {fn : Func} {t u v x : Tmp} (h : fn.results = #[.tmp t, .tmp u, .tmp v, .tmp x]) (tmps : Array Value) (P : Program) (w : World) :
    (results fn tmps).run P w = .ok (.tuple #[tmps.getD t undef, tmps.getD u undef, tmps.getD v undef, tmps.getD x undef]) w := by
  simp [results, h]

theorem target_any (s : ByteArray) (w : World) :
    Calls Try.prog 70 #[.string s] w fun e w' => ∃ v, e = .returned (.tuple #[v, .bool (tgtW s), .bool (cutD s (fullB s)), .int .i64 (cutE s (fullB s))]) ∧ Own w' w.heap.size v (cutL s (fullB s)) ∧ Below w.heap.size w w' := by
  have hf : (!s.toList.isEmpty) = fullB s := rfl
  have HT : Hid (tgtW s = (decide (cutE s (fullB s) = 0) && rootB s)) := (rfl : tgtW s = _)
  obtain ⟨E, hE⟩ : ∃ E, cutE s (fullB s) = E := ⟨_, rfl⟩
  have HI : Hid (cutE s (fullB s) = E) := hE
  clear hE
  go_enter Try.func70, Try.ntmps70
  by_cases h0 : E = 0
  · go_wp2_with (first
      | (go_at_call 85; refine (rooted_any _ _).mono ?_; rintro e w' ⟨rfl, rfl⟩)
      | (go_at_call 84; refine (cut_any _ (fullB s) _ full_pos).mono ?_; rintro e w1 ⟨v, rfl, hown, hb⟩; rw [HI.out, h0]))
    (try simp only [Exit.inBlock, Exit.then]); refine bodyPost_ret (results_tmp4 rfl _ _ _) rfl ?_
    rw [HT.out, HI.out, h0]
    exact ⟨_, rfl, hown, hb⟩
  · go_wp2_with (first
      | (go_at_call 84; refine (cut_any _ (fullB s) _ full_pos).mono ?_; rintro e w1 ⟨v, rfl, hown, hb⟩; rw [HI.out]))
    (try simp only [Exit.inBlock, Exit.then]); refine bodyPost_ret (results_tmp4 rfl _ _ _) rfl ?_
    rw [HT.out, HI.out, decide_eq_false h0]
    exact ⟨_, rfl, hown, hb⟩

theorem pcs_pos (s : ByteArray) (i : Nat) (hi : i ≤ s.size + 1) : ∀ x ∈ pcs s i, 0 < x.size := by
  induction i with
  | zero => intro x hx; cases hx
  | succ i ih =>
    intro x hx
    simp only [pcs] at hx
    split at hx
    · rename_i h
      rcases List.mem_append.1 hx with hx | hx
      · exact ih (by omega) x hx
      · obtain rfl := List.mem_singleton.1 hx
        rw [ByteArray.size_extract]; omega
    · exact ih (by omega) x hx
theorem last_zero (s : ByteArray) : (lastT (pieces s)).size = 0 ↔ pieces s = [] := by
  constructor
  · intro h
    cases hp : pieces s with
    | nil => rfl
    | cons a l =>
      have hg := lastT_get (l := pieces s) (by rw [hp]; simp)
      have := pcs_pos s (s.size + 1) (Nat.le_refl _) _ (List.mem_of_getElem? hg)
      omega
  · intro h; rw [h]; rfl

theorem Own.pop {w : World} {base : Nat} {a : Option Addr} {l : List ByteArray} {cap : Nat} (h : Own w base (.slice a l.length cap) l) (hl : l ≠ []) : Own w base (.slice a (l.length - 1) cap) l.dropLast := by
  obtain ⟨m, x, rfl⟩ : ∃ m x, l = m ++ [x] := ⟨l.dropLast, l.getLast hl, (List.dropLast_concat_getLast hl).symm⟩
  unfold Own at h ⊢
  rw [List.dropLast_concat]
  rw [List.length_append, List.map_append] at h
  rw [List.length_append]
  rcases h.2 with ⟨_, h2⟩ | ⟨g, cap', cur, hv, r⟩
  · simp at h2
  · cases hv
    exact ownsRow_pop (last := [Value.string x]) (by simp) h
theorem Own.lim {w : World} {base : Nat} {a : Option Addr} {l : List ByteArray} {n cap : Nat} (h : Own w base (.slice a n cap) l) : l.length ≤ cap := by
  rcases h.2 with ⟨_, h2⟩ | ⟨g, cap', cur, hv, _, _, hn, _⟩
  · omega
  · cases hv; exact hn

end Go.Proofs.Ytjelggpkeogebaa
