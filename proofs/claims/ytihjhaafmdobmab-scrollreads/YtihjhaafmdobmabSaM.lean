/- Records laid on a disk that may lose its power, plainly. -/
import Derived.Test.YtihjhaafmdobmabSaL
namespace Go.Proofs.Ytihjhaafmdobmab
open Go.RowKit

/-- a disk as it may stand: a fuse burns only while there is power -/
structure Dsk.ok (s : Dsk) (K : Int) : Prop where
  left : s.burns = true → 0 ≤ s.left ∧ s.left ≤ 9223372036854775807
  w0 : 0 ≤ s.writes
  wK : s.writes ≤ K
  dead : s.on = false → s.burns = false
theorem Dsk.ok.good {s : Dsk} {K : Int} (h : s.ok K) (hK : K < 9223372036854775807) : s.good := ⟨h.left, h.w0, by have := h.wK; omega⟩
theorem Dsk.ok.le {s : Dsk} {K L : Int} (h : s.ok K) (hK : K ≤ L) : s.ok L := ⟨h.left, h.w0, by have := h.wK; omega, h.dead⟩
theorem spend_on {s : Dsk} (h : s.spend.on = true) : s.on = true := by
  unfold Dsk.spend Dsk.cut at h
  split at h
  · split at h
    · cases h
    · exact h
  · exact h
theorem Dsk.ok.spend {s : Dsk} {K : Int} (h : s.ok K) : s.spend.ok K := by
  unfold Dsk.spend Dsk.cut
  split
  · rename_i hb
    split
    · exact ⟨(fun e => by cases e), h.w0, h.wK, fun _ => rfl⟩
    · have := h.left hb
      exact ⟨fun _ => ⟨by show 0 ≤ s.left - 1; omega, by show s.left - 1 ≤ _; omega⟩, h.w0, h.wK, h.dead⟩
  · exact h
theorem Dsk.ok.wr {s : Dsk} {K : Int} (h : s.ok K) (i : Int) (l : List Int) : (s.wr i l).ok (K + 1) := by
  unfold Dsk.wr
  have hs := h.spend
  split
  · split
    · split
      · exact ⟨hs.left, by show 0 ≤ s.writes + 1; have := h.w0; omega, by show s.writes + 1 ≤ K + 1; have := h.wK; omega, hs.dead⟩
      · exact hs.le (by omega)
    · exact h.le (by omega)
  · exact h.le (by omega)
theorem wr_dead {s : Dsk} (h1 : s.on = false) (h2 : s.burns = false) (i : Int) (l : List Int) : s.wr i l = s := by
  have e : s.spend = s := by unfold Dsk.spend; rw [h2]; rfl
  unfold Dsk.wr
  rw [e, h1]
  split
  · split
    · rfl
    · rfl
  · rfl
theorem has_in {s : Dsk} {i : Nat} (hi : i < s.cs.length) : s.has i = true := by unfold Dsk.has; simp; exact hi
theorem wr_in {s : Dsk} {i : Nat} (hi : i < s.cs.length) {l : List Int} (hl : l.length = 64) : s.wr i l = if s.spend.on then { s.spend with cs := s.cs.set i l, writes := s.writes + 1 } else s.spend := by
  unfold Dsk.wr; rw [has_in hi, if_pos rfl, if_pos hl, Int.toNat_natCast]
theorem wrE_in {s : Dsk} {i : Nat} (hi : i < s.cs.length) : s.wrE i 64 = if s.spend.on then 0 else 21 := by
  unfold Dsk.wrE; rw [has_in hi, if_pos rfl, if_pos rfl]
theorem wr_on {s : Dsk} {i : Nat} (hi : i < s.cs.length) {l : List Int} (hl : l.length = 64) : (s.wr i l).on = s.spend.on := by
  rw [wr_in hi hl]; split <;> rfl
theorem wr_cs {s : Dsk} {i : Nat} (hi : i < s.cs.length) {l : List Int} (hl : l.length = 64) : (s.wr i l).cs = if s.spend.on then s.cs.set i l else s.cs := by
  rw [wr_in hi hl]; split
  · rfl
  · exact spend_cs s
theorem wr_len (s : Dsk) (i : Int) (l : List Int) : (s.wr i l).cs.length = s.cs.length := by
  unfold Dsk.wr
  split
  · split
    · split
      · exact List.length_set ..
      · rw [spend_cs]
    · rfl
  · rfl

def layD (s : Dsk) (a g r c : Nat) (l : List Int) : Nat → Dsk
  | 0 => s
  | j + 1 => (layD s a g r c l j).wr ((a + j : Nat) : Int) (pieceB g r j c (cutP l j))
theorem layD_len (s : Dsk) (a g r c : Nat) (l : List Int) (m : Nat) : (layD s a g r c l m).cs.length = s.cs.length := by
  induction m with
  | zero => rfl
  | succ m ih => unfold layD; rw [wr_len, ih]
theorem layD_ok {s : Dsk} {K : Int} (h : s.ok K) (a g r c : Nat) (l : List Int) (m : Nat) : (layD s a g r c l m).ok (K + m) := by
  induction m with
  | zero => exact h.le (by omega)
  | succ m ih => unfold layD; exact (ih.wr _ _).le (by omega)
theorem layD_stop {s : Dsk} {K : Int} (h : s.ok K) (a g r c : Nat) (l : List Int) {j m : Nat} (hj : (layD s a g r c l j).on = false) (hm : j ≤ m) : layD s a g r c l m = layD s a g r c l j := by
  induction m with
  | zero => rw [Nat.le_zero.1 hm]
  | succ m ih =>
    by_cases e : j = m + 1
    · rw [e]
    · have hi := ih (by omega)
      show (layD s a g r c l m).wr _ _ = _
      rw [hi]
      exact wr_dead hj ((layD_ok h a g r c l j).dead hj) _ _
theorem layD_cs {s : Dsk} (a g r c : Nat) (l : List Int) (m : Nat) (ha : a + m ≤ s.cs.length) : ∃ j, j ≤ m ∧ (layD s a g r c l m).cs = putP s.cs a g r c l j ∧ ((layD s a g r c l m).on = true → j = m) ∧ ((layD s a g r c l m).on = false → m = 0 ∨ j < m) := by
  induction m with
  | zero => exact ⟨0, Nat.le_refl _, rfl, fun _ => rfl, fun _ => .inl rfl⟩
  | succ m ih =>
    obtain ⟨j, hj, e, h1, h2⟩ := ih (by omega)
    have hi : a + m < (layD s a g r c l m).cs.length := by rw [layD_len]; omega
    have hl : (pieceB g r m c (cutP l m)).length = 64 := pieceB_len (cutP_len _ _)
    have eo := wr_on hi hl
    have ec := wr_cs hi hl
    cases hs : (layD s a g r c l m).spend.on
    · refine ⟨j, by omega, ?_, ?_, fun _ => .inr (by omega)⟩
      · show ((layD s a g r c l m).wr _ _).cs = _
        rw [ec, hs, e]; rfl
      · intro h
        have : ((layD s a g r c l m).wr ((a + m : Nat) : Int) (pieceB g r m c (cutP l m))).on = true := h
        rw [eo, hs] at this; cases this
    · have hm := h1 (spend_on hs)
      subst hm
      refine ⟨j + 1, Nat.le_refl _, ?_, fun _ => rfl, ?_⟩
      · show ((layD s a g r c l j).wr _ _).cs = _
        rw [ec, hs, e]; rfl
      · intro h
        have : ((layD s a g r c l j).wr ((a + j : Nat) : Int) (pieceB g r j c (cutP l j))).on = false := h
        rw [eo, hs] at this; cases this
theorem byt_put {cs : List (List Int)} (h : BytC cs) (a g r c : Nat) {l : List Int} (hl : Byt l) (j : Nat) : BytC (putP cs a g r c l j) := by
  induction j with
  | zero => exact h
  | succ j ih =>
    intro x hx
    unfold putP at hx
    rcases List.mem_or_eq_of_mem_set hx with hx | rfl
    · exact ih x hx
    · exact byt_piece (byt_cut hl j)
end Go.Proofs.Ytihjhaafmdobmab
