/- A Turn with too short a fuse ends without power. -/
import Derived.Test.YtpifjfhlelekjabSbG
namespace Go.Proofs.Ytpifjfhlelekjab
open Go.RowKit

/-- so many writes are left; below 0: there is no power -/
def Bn (s : Dsk) (z : Int) : Prop := (0 ≤ z → s.on = true ∧ s.burns = true ∧ s.left = z) ∧ (z < 0 → s.on = false ∧ s.burns = false)
theorem bn_wr {s : Dsk} {z : Int} (h : Bn s z) {i : Nat} (hi : i < s.cs.length) {l : List Int} (hl : l.length = 64) : Bn (s.wr i l) (z - 1) := by
  by_cases hz : 0 ≤ z
  · obtain ⟨h1, h2, h3⟩ := h.1 hz
    rw [wr_in hi hl]
    by_cases h0 : z = 0
    · have e : s.spend = s.cut := by unfold Dsk.spend; rw [h2, h3, if_pos rfl, if_pos h0]
      rw [e]
      exact ⟨fun hq => by omega, fun _ => ⟨rfl, rfl⟩⟩
    · have e : s.spend = { s with left := s.left - 1 } := by unfold Dsk.spend; rw [h2, if_pos rfl, if_neg (by omega)]
      rw [e]
      rw [if_pos (show s.on = true from h1)]
      exact ⟨fun _ => ⟨h1, h2, by show s.left - 1 = z - 1; rw [h3]⟩, fun hq => by omega⟩
  · obtain ⟨h1, h2⟩ := h.2 (by omega)
    rw [wr_dead h1 h2]
    exact ⟨fun hq => by omega, fun _ => ⟨h1, h2⟩⟩
theorem bn_layD {s : Dsk} {z : Int} (h : Bn s z) (a g r c : Nat) (l : List Int) (m : Nat) (ha : a + m ≤ s.cs.length) : Bn (layD s a g r c l m) (z - m) := by
  induction m with
  | zero => show Bn s (z - 0); rw [Int.sub_zero]; exact h
  | succ m ih =>
    unfold layD
    have := bn_wr (ih (by omega)) (i := a + m) (l := pieceB g r m c (cutP l m)) (by rw [layD_len]; omega) (pieceB_len (cutP_len _ _))
    rw [show z - ((m + 1 : Nat) : Int) = z - m - 1 by omega]
    exact this
theorem bn_laysD {s : Dsk} {z : Int} (h : Bn s z) (A G n u : Nat) (ls : List (List Int)) (ha : A + u + tot ls ≤ s.cs.length) : Bn (laysD s A G n u ls) (z - tot ls) := by
  induction ls generalizing s z n u with
  | nil => rw [tot_nil]; show Bn s (z - 0); rw [Int.sub_zero]; exact h
  | cons a ls ih =>
    have ht : tot (a :: ls) = nb a.length + tot ls := by unfold tot; simp
    unfold laysD
    have h1 := bn_layD h (A + u) G n (nb a.length) a (nb a.length) (by omega)
    have h2 := ih h1 (n + 1) (u + nb a.length) (by rw [layD_len]; omega)
    rw [show z - ((tot (a :: ls) : Nat) : Int) = z - (nb a.length : Nat) - (tot ls : Nat) by omega]
    exact h2
theorem lw_turnB {w0 w : World} {b g sb G Hh u : Nat} {s : Dsk} {R : List (List Int)} {N : Nat} {K : Int} (h : Lw w0 w b g sb G Hh u s R N K) (hon : s.on = true) (hN : N ≤ 1024 ∧ 3 ≤ N) (hK : K + 9000 < 9223372036854775807) (v : Value) (L : List (List Int)) (hv : Rs w v L) (hb : ∀ l ∈ L, Byt l ∧ okR l) (hL : L.length ≤ 1000) (ht : tot L ≤ (N - 1) / 2) (hg : nextG s.cs ≤ 1073741824) (hbu : s.burns = true) (hlf : 0 ≤ s.left ∧ s.left ≤ tot L) :
    Calls Try.prog 9 #[.pointer (some ⟨sb, 0, none⟩), v] w fun e w' => ∃ s2, e = .returned (.int .i64 21) ∧ Lw w0 w' b g sb G Hh u s2 R N (K + 600) ∧ Only (fun x => x = b ∨ x = g ∨ x = sb) w w' ∧ (∀ B, Gb s.cs B → B < 4294967296 → nextG s.cs ≤ B → Gb s2.cs B) := by
  have hHS := h.hS
  obtain ⟨a, cap, rfl, -⟩ := hv.form
  refine (turn_go sb b G Hh R.length u g s a cap L w h.ss h.dk (by rw [h.len]; omega) hv hL (fun l hl => (hb l hl).2) K h.ok (by omega) (by omega) h.by' hg).mono ?_
  rintro e w' ⟨T, hT, rfl, hD, hS', hO⟩
  obtain ⟨a1, a2, a3, a4, a5, -⟩ := sc_turn h.sc h.ok (fun l hl => ⟨(hb l hl).2, (hb l hl).1⟩) h.by' (by omega) hg (by rw [h.len]; omega) hT
  have hGb : ∀ B, Gb s.cs B → B < 4294967296 → nextG s.cs ≤ B → Gb T.cs B := fun B x1 x2 x3 => by rw [hT]; exact gb_wr (gb_laysD x1 x3 x2 _ _ _ _ (by omega)) 0 _ (fun e => absurd e (by decide))
  have hoff : T.on = false := by
    have h0 : Bn s s.left := ⟨fun _ => ⟨hon, hbu, rfl⟩, fun hq => by omega⟩
    have hnh := nextH_le s.cs
    have hlen := h.len
    have h1 := bn_laysD h0 (1 + nextH s.cs * hS s.cs) (nextG s.cs) 0 0 L (by
      have : nextH s.cs * hS s.cs ≤ 1 * hS s.cs := Nat.mul_le_mul_right _ hnh
      rw [hHS] at this ⊢
      omega)
    have h2 := bn_wr h1 (i := 0) (l := hdrB (nextG s.cs) (nextH s.cs)) (by rw [laysD_len, h.len]; omega) (hdrB_len _ _)
    rw [hT]
    exact (h2.2 (by omega)).1
  have hKt : K + (tot L : Nat) + 1 ≤ K + 600 := by omega
  rw [hoff, if_neg (by decide)] at hS'
  rw [hoff]
  exact ⟨T, rfl, ⟨hD, hS', a2 hoff, a5.le hKt, a3, a4.trans h.len, h.move hO, h.lb, h.lg, h.ls⟩, hO, hGb⟩
end Go.Proofs.Ytpifjfhlelekjab
