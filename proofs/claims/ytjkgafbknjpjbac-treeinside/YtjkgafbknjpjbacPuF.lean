/- A chain of directories, plainly. -/
import Derived.Test.YtjkgafbknjpjbacPuE
namespace Go.Proofs.Ytjkgafbknjpjbac
open Go.RowKit

def nmD : ByteArray := ⟨#[100]⟩
def nmE : ByteArray := ⟨#[101]⟩
def chE (i : Nat) : En := ⟨(i : Int) + 1, nmD, false, (i : Int) + 2, 1, 0, ⟨#[]⟩⟩
def ch (k : Nat) : List En := (List.range k).map chE
theorem ch_mem {k : Nat} {x : En} : x ∈ ch k ↔ ∃ i, i < k ∧ x = chE i := by
  unfold ch
  rw [List.mem_map]
  constructor
  · rintro ⟨i, hi, rfl⟩; exact ⟨i, List.mem_range.1 hi, rfl⟩
  · rintro ⟨i, hi, rfl⟩; exact ⟨i, List.mem_range.2 hi, rfl⟩
theorem ch_len (k : Nat) : (ch k).length = k := by unfold ch; simp
theorem ch_snoc (k : Nat) : ch (k + 1) = ch k ++ [chE k] := by unfold ch; rw [List.range_succ, List.map_append]; rfl
theorem ch_rises (k : Nat) : Rises (ch k) := by
  unfold Rises ch
  rw [List.pairwise_map]
  refine List.Pairwise.imp ?_ List.pairwise_lt_range
  intro i j hij
  rw [lessE_iff]
  left
  show (i : Int) + 1 < (j : Int) + 1
  omega
theorem ch_ided (k : Nat) : Ided (ch k) := by
  intro e he f hf hq
  obtain ⟨i, _, rfl⟩ := ch_mem.1 he
  obtain ⟨j, _, rfl⟩ := ch_mem.1 hf
  have : (i : Int) + 2 = (j : Int) + 2 := hq
  rw [show i = j by omega]
theorem ch_node {k i : Nat} (hi : i < k) : nodeE (ch k) ((i : Int) + 2) = some (chE i) := (nodeE_iff (ch_ided k) (by omega) _).2 ⟨ch_mem.2 ⟨i, hi, rfl⟩, rfl⟩
theorem ch_dir {k i : Nat} (hi : i ≤ k) : dirE (ch k) ((i : Int) + 1) = 0 := by
  cases i with
  | zero => rfl
  | succ j =>
    unfold dirE
    rw [show ((j + 1 : Nat) : Int) + 1 = (j : Int) + 2 by omega, ch_node (by omega)]
    rfl
theorem ch_within {k : Nat} (a : Nat) : ∀ {j : Nat}, j ≤ k → ∀ {n : Nat}, j < n → withinF (ch k) n ((j : Int) + 1) ((a : Int) + 2) = decide (a < j)
  | 0, _, n, hn => by
    obtain ⟨m, rfl⟩ : ∃ m, n = m + 1 := ⟨n - 1, by omega⟩
    rw [show ((0 : Nat) : Int) + 1 = 1 by omega, withinF_root _ _ _ (by omega)]
    simp
  | j + 1, hj, n, hn => by
    obtain ⟨m, rfl⟩ : ∃ m, n = m + 1 := ⟨n - 1, by omega⟩
    by_cases hja : j = a
    · subst hja
      rw [show ((j + 1 : Nat) : Int) + 1 = (j : Int) + 2 by omega, withinF_hit]
      simp
    · rw [show ((j + 1 : Nat) : Int) + 1 = (j : Int) + 2 by omega, withinF_up _ _ _ _ (chE j) (by omega) (ch_node (by omega)) (by omega)]
      have := ch_within (k := k) a (j := j) (by omega) (n := m) (by omega)
      have e : (chE j).d = (j : Int) + 1 := rfl
      rw [e, this]
      by_cases h1 : a < j
      · rw [decide_eq_true h1, decide_eq_true (by omega)]
      · rw [decide_eq_false h1, decide_eq_false (by omega)]
def mkO (i : Nat) : Opn := ⟨6, (i : Int) + 1, nmD, 0, ⟨#[]⟩, 0, ⟨#[]⟩⟩
theorem ch_named {M : Nms} {k i : Nat} {nm : ByteArray} (hi : i ≤ k) (hc : M.chk nm = 0) : namedE M (ch k) ((i : Int) + 1) nm = 0 := by unfold namedE; rw [ch_dir hi, if_pos rfl]; exact hc
theorem ch_at {k i : Nat} (hi : i < k) : atE (ch k) ((i : Int) + 1) nmD = some (chE i) := (atE_iff (ch_rises k).keyed _ _ _).2 ⟨ch_mem.2 ⟨i, hi, rfl⟩, rfl, rfl⟩
theorem ch_no {k : Nat} {d : Int} {nm : ByteArray} (h : nm ≠ nmD ∨ (k : Int) + 1 ≤ d) : atE (ch k) d nm = none := by
  rw [atE_none_iff]
  rintro e he ⟨h1, h2⟩
  obtain ⟨j, hj, rfl⟩ := ch_mem.1 he
  rcases h with h | h
  · exact h h2.symm
  · have : (j : Int) + 1 = d := h1
    omega
/-- one directory more -/
theorem ch_step {M : Nms} {s : Tr} {i : Nat} (h1 : s.es = ch i) (h2 : s.next = (i : Int) + 2) (hi : i ≤ 22) (hc : M.chk nmD = 0) : doesE M s (mkO i) = 0 ∧ srt (doesL s (mkO i)) = ch (i + 1) ∧ doesN s (mkO i) = ((i + 1 : Nat) : Int) + 2 := by
  refine ⟨?_, ?_, ?_⟩
  · unfold doesE
    have hn : namedE M s.es (mkO i).dir (mkO i).nm = 0 := by rw [h1]; exact ch_named (Nat.le_refl _) hc
    have ha : atE s.es (mkO i).dir (mkO i).nm = none := by rw [h1]; exact ch_no (.inr (Int.le_refl _))
    rw [hn]
    show (if badM 0 = true then (1 : Int) else madeE s.es (mkO i).dir (mkO i).nm) = 0
    unfold madeE
    rw [ha, h1, ch_len, if_neg (show ¬ badM 0 = true by decide), if_neg (by simp), if_neg (by omega)]
  · have e : doesL s (mkO i) = ch (i + 1) := by
      rw [ch_snoc, ← h1]
      show s.es ++ [(⟨(i : Int) + 1, nmD, false, s.next, 1, 0, ⟨#[]⟩⟩ : En)] = _
      rw [h2]; rfl
    rw [e]; exact srt_self (ch_rises _)
  · show s.next + 1 = _
    rw [h2]; omega
def mvO (a b : Nat) : Opn := ⟨10, (a : Int) + 1, nmD, (b : Int) + 1, nmE, 0, ⟨#[]⟩⟩
theorem ch_move {M : Nms} {s : Tr} {k a b : Nat} (h1 : s.es = ch k) (ha : a < k) (hb : b ≤ k) (hc : M.chk nmD = 0) (hc2 : M.chk nmE = 0) : doesE M s (mvO a b) = if a < b then 45 else 0 := by
  have hn : namedE M s.es (mvO a b).dir (mvO a b).nm = 0 := by rw [h1]; exact ch_named (by omega) hc
  have hn2 : namedE M s.es (mvO a b).dst (mvO a b).new = 0 := by rw [h1]; exact ch_named hb hc2
  unfold doesE
  rw [hn, hn2]
  show renamedE s.es (mvO a b).dir (mvO a b).nm (mvO a b).dst (mvO a b).new = _
  rw [renamedE_at]
  have e1 : atE s.es (mvO a b).dir (mvO a b).nm = some (chE a) := by rw [h1]; exact ch_at ha
  have e2 : atE s.es (mvO a b).dst (mvO a b).new = none := by rw [h1]; exact ch_no (.inl (by show nmE ≠ nmD; decide))
  have e3 : withinF s.es (s.es.length + 1) (mvO a b).dst (chE a).id = decide (a < b) := by rw [h1, ch_len]; exact ch_within a hb (by omega)
  rw [e1]
  simp only [e2, e3]
  by_cases h : a < b
  · simp [h, chE]
  · simp [h, renErr]
/-- and where it is then -/
theorem ch_there {M : Nms} {s : Tr} {k a b : Nat} (wf : WF M s.es s.next) (h1 : s.es = ch k) (ha : a < k) (hE : doesE M s (mvO a b) = 0) : nodeE (srt (doesL s (mvO a b))) ((a : Int) + 2) = some (movedEn (chE a) ((b : Int) + 1) nmE) := by
  have hd := deed wf hE
  have hw := wf.step hd
  have e1 : atE s.es (mvO a b).dir (mvO a b).nm = some (chE a) := by rw [h1]; exact ch_at ha
  have hne : ¬ ((mvO a b).dst = (mvO a b).dir ∧ (mvO a b).new = (mvO a b).nm) := fun h => by
    have : nmE = nmD := h.2
    revert this; decide
  have hm : movedEn (chE a) ((b : Int) + 1) nmE ∈ tellL s (mvO a b) := by
    unfold tellL
    rw [e1]
    show _ ∈ (if (mvO a b).dst = (mvO a b).dir ∧ (mvO a b).new = (mvO a b).nm then [chE a] else if lessK (mvO a b).dir (mvO a b).nm (mvO a b).dst (mvO a b).new then [goneEn (mvO a b).dir (mvO a b).nm, movedEn (chE a) (mvO a b).dst (mvO a b).new] else [movedEn (chE a) (mvO a b).dst (mvO a b).new, goneEn (mvO a b).dir (mvO a b).nm])
    rw [if_neg hne]
    split
    · exact List.mem_cons_of_mem _ (List.mem_singleton.2 rfl)
    · exact List.mem_cons_self ..
  have : movedEn (chE a) ((b : Int) + 1) nmE ∈ srt (doesL s (mvO a b)) := srt_mem.2 ((does_mem wf hd _).2 (.inr ⟨hm, rfl⟩))
  exact hw.node this
end Go.Proofs.Ytjkgafbknjpjbac
