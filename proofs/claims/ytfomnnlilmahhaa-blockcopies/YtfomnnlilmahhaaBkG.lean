/- A disk under a fuse, behind so many good writes; two disks of the law's own. -/
import Derived.Test.YtfomnnlilmahhaaBkX
namespace Go.Proofs.Ytfomnnlilmahhaa
open Go.RowKit

theorem write_to (b g : Nat) (s : Dsk) (i : Int) (v : Value) (l : List Int) (base : Nat) (w : World) (h : IsD w b g s) (hg : s.good) (hv : OwnB w base v l) (hb : b < base) (hl : l.length = 64) (E : Int) (T : Dsk) (hE : s.wrE i 64 = E) (hT : s.wr i l = T) :
    Calls Try.prog 13 #[.pointer (some ⟨b, 0, none⟩), .int .i64 i, v] w fun e w' => e = .returned (.int .i64 E) ∧ IsD w' b g T ∧ Only (fun x => x = b ∨ x = g) w w' := by
  have h := write_any b g s i v l base w h hg hv hb
  rw [hl, hE, hT] at h
  exact h

/-- blocks behind the first so many of a list of writes -/
def wrt (cs : List (List Int)) (P : Nat → Nat) (F : Nat → Int) : Nat → List (List Int)
  | 0 => cs
  | k + 1 => (wrt cs P F k).set (P k) (bl 64 (F k))
theorem wrt_len (cs : List (List Int)) (P : Nat → Nat) (F : Nat → Int) (k : Nat) : (wrt cs P F k).length = cs.length := by
  induction k with
  | zero => rfl
  | succ k ih => rw [wrt, List.length_set, ih]
theorem wrt_hit (cs : List (List Int)) (P : Nat → Nat) (F : Nat → Int) (k K : Nat) (h : P k = K) (hK : K < cs.length) : (wrt cs P F (k + 1))[K]? = some (bl 64 (F k)) := by
  rw [wrt, h]; exact set_same _ _ _ (by rw [wrt_len]; exact hK)
theorem wrt_miss (cs : List (List Int)) (P : Nat → Nat) (F : Nat → Int) (k K : Nat) (h : P k ≠ K) : (wrt cs P F (k + 1))[K]? = (wrt cs P F k)[K]? := by
  rw [wrt]; exact set_other _ _ _ _ h

/-- under a fuse f (below 0: none), behind k good writes: the first m are done -/
structure Run (f : Int) (N W0 : Nat) (cs : List (List Int)) (P : Nat → Nat) (F : Nat → Int) (s : Dsk) (k m : Nat) : Prop where
  wr : s.writes = W0 + m
  cs : s.cs = wrt cs P F m
  len : s.cs.length = N
  le : m ≤ k
  free : f < 0 → m = k ∧ s.on = true ∧ s.burns = false
  fuse : 0 ≤ f → (m = k ∧ (k : Int) ≤ f ∧ s.on = true ∧ s.burns = true ∧ s.left = f - m) ∨ ((m : Int) = f ∧ m < k ∧ s.on = false ∧ s.burns = false)
theorem Run.good {f : Int} {N W0 : Nat} {cs : List (List Int)} {P : Nat → Nat} {F : Nat → Int} {s : Dsk} {k m : Nat} (h : Run f N W0 cs P F s k m) (hf : f ≤ 9223372036854775807) (hb : W0 + k < 9223372036854775807) : s.good := by
  have := h.le
  refine ⟨fun e => ?_, by rw [h.wr]; omega, by rw [h.wr]; omega⟩
  by_cases h0 : f < 0
  · rw [(h.free h0).2.2] at e; cases e
  · rcases h.fuse (by omega) with ⟨h1, h2, _, _, h3⟩ | ⟨_, _, _, h3⟩
    · rw [h3]; omega
    · rw [h3] at e; cases e
theorem Run.step {f : Int} {N W0 : Nat} {cs : List (List Int)} {P : Nat → Nat} {F : Nat → Int} {s : Dsk} {k m : Nat} (h : Run f N W0 cs P F s k m) (hP : P k < N) :
    ∃ E T m', s.wrE (P k) 64 = E ∧ s.wr (P k) (bl 64 (F k)) = T ∧ Run f N W0 cs P F T (k + 1) m' ∧ ((E = 0 ∧ m' = m + 1) ∨ (E = 21 ∧ m' = m)) := by
  have hh : s.has (P k) = true := has_nat s _ (by rw [h.len]; exact hP)
  have hbl : (bl 64 (F k)).length = 64 := bl_len _ _
  have hW : ∀ e, s.spend.on = e → s.wrE (P k) 64 = (if e = true then 0 else 21) := by
    intro e he; unfold Dsk.wrE; rw [hh, if_pos rfl, if_pos rfl, he]
  have hV : s.spend.on = true → s.wr (P k) (bl 64 (F k)) = { s.spend with cs := s.cs.set (P k) (bl 64 (F k)), writes := s.writes + 1 } := by
    intro he; unfold Dsk.wr; rw [hh, if_pos rfl, if_pos hbl, if_pos he, Int.toNat_natCast]
  have hU : s.spend.on = false → s.wr (P k) (bl 64 (F k)) = s.spend := by
    intro he; unfold Dsk.wr; rw [hh, if_pos rfl, if_pos hbl, if_neg (by rw [he]; decide)]
  by_cases h0 : f < 0
  · obtain ⟨e, ho, hb⟩ := h.free h0
    subst e
    have hs : s.spend = s := plain_spend ⟨ho, hb⟩
    refine ⟨0, _, m + 1, by rw [hW true (by rw [hs]; exact ho)]; rfl, hV (by rw [hs]; exact ho), ⟨?_, ?_, ?_, Nat.le_refl _, fun _ => ⟨rfl, ?_, ?_⟩, fun hf => by omega⟩, .inl ⟨rfl, rfl⟩⟩
    · show s.writes + 1 = _; rw [h.wr]; omega
    · show s.cs.set _ _ = _; rw [h.cs]; rfl
    · show (s.cs.set _ _).length = _; rw [List.length_set]; exact h.len
    · show s.spend.on = true; rw [hs]; exact ho
    · show s.spend.burns = false; rw [hs]; exact hb
  · rcases h.fuse (by omega) with ⟨e, h1, ho, hb, hl⟩ | ⟨e, h1, ho, hb⟩
    · subst e
      by_cases hf : s.left = 0
      · have hs : s.spend = s.cut := by unfold Dsk.spend; rw [hb, if_pos rfl, if_pos hf]
        refine ⟨21, _, m, by rw [hW false (by rw [hs]; rfl)]; rfl, hU (by rw [hs]; rfl), ⟨?_, ?_, ?_, by omega, fun hf => by omega, fun _ => .inr ⟨by omega, by omega, ?_, ?_⟩⟩, .inr ⟨rfl, rfl⟩⟩
        · rw [hs]; exact h.wr
        · rw [hs]; exact h.cs
        · rw [hs]; exact h.len
        · rw [hs]; rfl
        · rw [hs]; rfl
      · have hs : s.spend = { s with left := s.left - 1 } := by unfold Dsk.spend; rw [hb, if_pos rfl, if_neg hf]
        refine ⟨0, _, m + 1, by rw [hW true (by rw [hs]; exact ho)]; rfl, hV (by rw [hs]; exact ho), ⟨?_, ?_, ?_, Nat.le_refl _, fun hf => by omega, fun _ => .inl ⟨rfl, by omega, ?_, ?_, ?_⟩⟩, .inl ⟨rfl, rfl⟩⟩
        · show s.writes + 1 = _; rw [h.wr]; omega
        · show s.cs.set _ _ = _; rw [h.cs]; rfl
        · show (s.cs.set _ _).length = _; rw [List.length_set]; exact h.len
        · show s.spend.on = true; rw [hs]; exact ho
        · show s.spend.burns = true; rw [hs]; exact hb
        · show s.spend.left = _; rw [hs]; show s.left - 1 = _; omega
    · have hs : s.spend = s := dead_spend ⟨ho, hb⟩
      refine ⟨21, _, m, by rw [hW false (by rw [hs]; exact ho)]; rfl, hU (by rw [hs]; exact ho), ⟨?_, ?_, ?_, by omega, fun hf => by omega, fun _ => .inr ⟨by omega, by omega, ?_, ?_⟩⟩, .inr ⟨rfl, rfl⟩⟩
      · rw [hs]; exact h.wr
      · rw [hs]; exact h.cs
      · rw [hs]; exact h.len
      · rw [hs]; exact ho
      · rw [hs]; exact hb
/-- how many are done in the end -/
theorem Run.count {f : Int} {N W0 : Nat} {cs : List (List Int)} {P : Nat → Nat} {F : Nat → Int} {s : Dsk} {k m : Nat} (h : Run f N W0 cs P F s k m) (L : Nat) (hL : k ≤ L) (lf : Int) (hlf : lf = if 0 ≤ f ∧ f < L then f else L) : (m : Int) ≤ lf ∧ ¬ ((m : Int) < lf ∧ m < k) := by
  have := h.le
  by_cases h0 : f < 0
  · have := (h.free h0).1
    rw [if_neg (by omega)] at hlf; omega
  · rcases h.fuse (by omega) with ⟨e, h1, _⟩ | ⟨e, h1, _⟩
    · split at hlf <;> omega
    · split at hlf <;> omega

theorem Inv.only {S : Nat → Prop} {w wr w' : World} {base b g N : Nat} {s : Dsk} (h : Inv w base b g N wr s) (hO : Only S wr w') (hb : ¬ S b) (hg : ¬ S g) (hS : ∀ k, S k → w.heap.size ≤ k) : Inv w base b g N w' s :=
  ⟨h.d.only hO hb hg, hO.below h.bel h.bel.size hS, h.len, h.lb, h.lg, h.hb, h.hg, Nat.le_trans h.le hO.size⟩
/-- two disks, apart -/
structure Two (w : World) (N b g b' g' : Nat) (wr : World) (s s' : Dsk) : Prop where
  one : Inv w wr.heap.size b g N wr s
  two : Inv w wr.heap.size b' g' N wr s'
  bb : b ≠ b'
  bg : b ≠ g'
  gb : g ≠ b'
  gg : g ≠ g'
theorem Inv.wide {w wr : World} {base b g N : Nat} {s : Dsk} (h : Inv w base b g N wr s) : Inv w wr.heap.size b g N wr s := ⟨h.d, h.bel, h.len, h.lb, h.lg, h.d.lb, h.d.lg, Nat.le_refl _⟩
theorem Two.below {w wr w' : World} {N b g b' g' : Nat} {s s' : Dsk} (h : Two w N b g b' g' wr s s') (hb : Below wr.heap.size wr w') : Two w N b g b' g' w' s s' :=
  ⟨(h.one.below hb).wide, (h.two.below hb).wide, h.bb, h.bg, h.gb, h.gg⟩
theorem Two.first {w wr w' : World} {N b g b' g' : Nat} {s s' t : Dsk} (h : Two w N b g b' g' wr s s') (hD : IsD w' b g t) (hO : Only (fun x => x = b ∨ x = g) wr w') (hl : t.cs.length = s.cs.length) : Two w N b g b' g' w' t s' :=
  ⟨(h.one.step hD hO hl).wide, (h.two.only hO (fun e => e.elim (fun e => h.bb e.symm) (fun e => h.gb e.symm)) (fun e => e.elim (fun e => h.bg e.symm) (fun e => h.gg e.symm)) (fun _ e => e.elim (fun e => e ▸ h.one.lb) (fun e => e ▸ h.one.lg))).wide, h.bb, h.bg, h.gb, h.gg⟩
theorem Two.swap {w wr : World} {N b g b' g' : Nat} {s s' : Dsk} (h : Two w N b g b' g' wr s s') : Two w N b' g' b g wr s' s := ⟨h.two, h.one, h.bb.symm, h.gb.symm, h.bg.symm, h.gg.symm⟩
theorem Two.start {w wr w' : World} {base N b g b' g' : Nat} {s : Dsk} (h : Inv w base b g N wr s) (hb' : wr.heap.size ≤ b') (hg' : wr.heap.size ≤ g') (hD : IsD w' b' g' s) (hB : Below wr.heap.size wr w') : Two w N b g b' g' w' s s := by
  have h1 := h.d.lb; have h2 := h.d.lg; have h3 := h.bel.size
  exact ⟨(h.below hB).wide, ⟨hD, chainB h.bel hB, h.len, by omega, by omega, hD.lb, hD.lg, Nat.le_refl _⟩, by omega, by omega, by omega, by omega⟩
end Go.Proofs.Ytfomnnlilmahhaa
