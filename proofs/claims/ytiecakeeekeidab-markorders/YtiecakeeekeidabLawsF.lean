/- The law MarkOrders returns true: the parts of its walk put together. -/
import Derived.Test.YtiecakeeekeidabLawsE
namespace Go.Proofs.Ytiecakeeekeidab
open Go.RowKit

theorem orders_cases (A0 B0 A1 B1 A2 B2 : Nat) (h0 : goodB A0 B0 = true) (h1 : goodB A1 B1 = true) (h2 : goodB A2 B2 = true) :
    (laterB A0 B0 A1 B1 = true ∧ laterB A1 B1 A0 B0 = false ∧ ((FloatKind.f64.format.order A0 A1 == some .eq) && (FloatKind.f64.format.order B0 B1 == some .eq)) = false ∧ laterB A1 B1 A2 B2 = true ∧ laterB A0 B0 A2 B2 = true) ∨
      (laterB A0 B0 A1 B1 = true ∧ laterB A1 B1 A0 B0 = false ∧ ((FloatKind.f64.format.order A0 A1 == some .eq) && (FloatKind.f64.format.order B0 B1 == some .eq)) = false ∧ laterB A1 B1 A2 B2 = false) ∨
      (laterB A0 B0 A1 B1 = false ∧ laterB A1 B1 A0 B0 = true ∧ ((FloatKind.f64.format.order A0 A1 == some .eq) && (FloatKind.f64.format.order B0 B1 == some .eq)) = false) ∨
      (laterB A0 B0 A1 B1 = false ∧ laterB A1 B1 A0 B0 = false ∧ ((FloatKind.f64.format.order A0 A1 == some .eq) && (FloatKind.f64.format.order B0 B1 == some .eq)) = true) := by
  rw [same_iff h0 h1]
  by_cases c1 : part A1 < part A0 ∨ part A0 = part A1 ∧ part B1 < part B0
  · have l1 : laterB A0 B0 A1 B1 = true := (later_iff _ _ _ _).2 ⟨h0, h1, c1⟩
    have l2 : laterB A1 B1 A0 B0 = false := later_not _ _ _ _ (by omega)
    have l3 : decide (part A0 = part A1 ∧ part B0 = part B1) = false := decide_eq_false (by omega)
    by_cases c2 : part A2 < part A1 ∨ part A1 = part A2 ∧ part B2 < part B1
    · exact .inl ⟨l1, l2, l3, (later_iff _ _ _ _).2 ⟨h1, h2, c2⟩, (later_iff _ _ _ _).2 ⟨h0, h2, by omega⟩⟩
    · exact .inr (.inl ⟨l1, l2, l3, later_not _ _ _ _ c2⟩)
  · have l1 : laterB A0 B0 A1 B1 = false := later_not _ _ _ _ c1
    by_cases c2 : part A0 < part A1 ∨ part A1 = part A0 ∧ part B0 < part B1
    · exact .inr (.inr (.inl ⟨l1, (later_iff _ _ _ _).2 ⟨h1, h0, c2⟩, decide_eq_false (by omega)⟩))
    · exact .inr (.inr (.inr ⟨l1, later_not _ _ _ _ c2, decide_eq_true (by omega)⟩))

theorem walk_MarkOrders (a0 b0 a1 b1 a2 b2 : Int) (wa0 : (Lit.int .i64 a0).wf = true) (wb0 : (Lit.int .i64 b0).wf = true) (wa1 : (Lit.int .i64 a1).wf = true) (wb1 : (Lit.int .i64 b1).wf = true) (wa2 : (Lit.int .i64 a2).wf = true) (wb2 : (Lit.int .i64 b2).wf = true) (w : World) :
    Calls Try.prog 3 #[.agg #[.int .i64 a0, .int .i64 b0], .agg #[.int .i64 a1, .int .i64 b1], .agg #[.int .i64 a2, .int .i64 b2]] w fun e w' => e = .returned (.bool true) ∧ Below w.heap.size w w' := by
  have hn0 := fun w => num_any a0 b0 w wa0 wb0
  have hn1 := fun w => num_any a1 b1 w wa1 wb1
  have hn2 := fun w => num_any a2 b2 w wa2 wb2
  generalize qt a0 = A0 at hn0
  generalize qt b0 = B0 at hn0
  generalize qt a1 = A1 at hn1
  generalize qt b1 = B1 at hn1
  generalize qt a2 = A2 at hn2
  generalize qt b2 = B2 at hn2
  cases hg : goodB A0 B0 && goodB A1 B1 && goodB A2 B2
  · exact orders_bad a0 b0 a1 b1 a2 b2 A0 B0 A1 B1 A2 B2 w hn0 hn1 hn2 hg (later_self _ _)
  · simp only [Bool.and_eq_true] at hg
    obtain ⟨⟨h0, h1⟩, h2⟩ := hg
    have hc := orders_cases A0 B0 A1 B1 A2 B2 h0 h1 h2
    have s2 : ∀ s, (∀ x y, goodB x y = true → part x = part A0 → laterB s 0 x y = true) → (part A1 == part A0) = true → laterB s 0 A1 B1 = true := fun s h he => h A1 B1 h1 (by simpa using he)
    rcases next_or A0 B0 h0 with ⟨c, d, hN, hG, n1, n2⟩ | hN
    · rcases restart_or A0 B0 h0 with ⟨s, hR, hZ, s1, s3⟩ | hR
      · exact orders_11 a0 b0 a1 b1 a2 b2 A0 B0 A1 B1 A2 B2 w hn0 hn1 hn2 (later_self _ _) h0 h1 h2 hc c d hN hG n1 (n2 A1 B1) s hR hZ s1 (s2 s s3)
      · exact orders_10 a0 b0 a1 b1 a2 b2 A0 B0 A1 B1 A2 B2 w hn0 hn1 hn2 (later_self _ _) h0 h1 h2 hc c d hN hG n1 (n2 A1 B1) hR
    · rcases restart_or A0 B0 h0 with ⟨s, hR, hZ, s1, s3⟩ | hR
      · exact orders_01 a0 b0 a1 b1 a2 b2 A0 B0 A1 B1 A2 B2 w hn0 hn1 hn2 (later_self _ _) h0 h1 h2 hc hN s hR hZ s1 (s2 s s3)
      · exact orders_00 a0 b0 a1 b1 a2 b2 A0 B0 A1 B1 A2 B2 w hn0 hn1 hn2 (later_self _ _) h0 h1 h2 hc hN hR

end Go.Proofs.Ytiecakeeekeidab
