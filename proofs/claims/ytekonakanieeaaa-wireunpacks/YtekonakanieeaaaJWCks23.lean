/- The document's own Pack. -/
import Derived.Test.YtekonakanieeaaaJWCks20
import Derived.Test.YtekonakanieeaaaJWCks21
import Derived.Test.YtekonakanieeaaaJWCks22
namespace Go.Proofs.Ytekonakanieeaaa
section
open Go.RowKit Go.Lib
attribute [local go_sem ↓ high] loadN

theorem plainNote_d (n : Nt) (w : World) : Calls Try.prog 62 #[.agg n.arr] w fun x w' => x = .returned (.bool (plainN n)) ∧ Below w.heap.size w w' := by
  obtain ⟨kind, epoch, vers, next, client, e, life, seq, err, op⟩ := n
  have key : ∀ (b : Bool), plainN ⟨kind, epoch, vers, next, client, e, life, seq, err, op⟩ = b → (Calls Try.prog 62 #[.agg (Nt.arr ⟨kind, epoch, vers, next, client, e, life, seq, err, op⟩)] w fun x w' => x = .returned (.bool b) ∧ Below w.heap.size w w') → Calls Try.prog 62 #[.agg (Nt.arr ⟨kind, epoch, vers, next, client, e, life, seq, err, op⟩)] w fun x w' => x = .returned (.bool (plainN ⟨kind, epoch, vers, next, client, e, life, seq, err, op⟩)) ∧ Below w.heap.size w w' := fun b h1 h2 => by rw [h1]; exact h2
  have hk : ¬ (kind = 1 ∨ kind = 2 ∨ kind = 3 ∨ kind = 4 ∨ kind = 5) → plainN ⟨kind, epoch, vers, next, client, e, life, seq, err, op⟩ = false := fun h => by
    have : kindN ⟨kind, epoch, vers, next, client, e, life, seq, err, op⟩ = false := by
      unfold kindN; simp only []
      rw [if_neg (fun h' => h (.inl h')), if_neg (fun h' => h (.inr (.inl h'))), if_neg (fun h' => h (.inr (.inr (.inr (.inl h'))))), if_neg (fun h' => h (.inr (.inr (.inl h')))), if_neg (fun h' => h (.inr (.inr (.inr (.inr h')))))]
    unfold plainN
    rw [this]
    simp
  cases hE : eqNt ⟨kind, epoch, vers, next, client, e, life, seq, err, op⟩ (onlyF ⟨kind, epoch, vers, next, client, e, life, seq, err, op⟩) with
  | false =>
    refine key false ?_ (plainNote_dne kind epoch vers next client e life seq err op w hE)
    by_cases h : kind = 1 ∨ kind = 2 ∨ kind = 3 ∨ kind = 4 ∨ kind = 5
    · exact plainN_0 (by rw [show onlyF ⟨kind, epoch, vers, next, client, e, life, seq, err, op⟩ = onlyN ⟨kind, epoch, vers, next, client, e, life, seq, err, op⟩ from if_pos h] at hE; exact hE)
    · exact hk h
  | true =>
    by_cases hK : kind = 0
    · exact key false (hk (by omega)) (plainNote_dk0 kind epoch vers next client e life seq err op w hE hK)
    have h5 : kind = 1 ∨ kind = 2 ∨ kind = 3 ∨ kind = 4 ∨ kind = 5 := by
      by_cases h : kind = 1 ∨ kind = 2 ∨ kind = 3 ∨ kind = 4 ∨ kind = 5
      · exact h
      · have h9 := (eqNt_iff _ _).1 hE
        rw [show onlyF ⟨kind, epoch, vers, next, client, e, life, seq, err, op⟩ = zeroNt from if_neg h] at h9
        exact absurd (congrArg Nt.kind h9) hK
    have hE2 : eqNt ⟨kind, epoch, vers, next, client, e, life, seq, err, op⟩ (onlyN ⟨kind, epoch, vers, next, client, e, life, seq, err, op⟩) = true := by rw [show onlyF ⟨kind, epoch, vers, next, client, e, life, seq, err, op⟩ = onlyN ⟨kind, epoch, vers, next, client, e, life, seq, err, op⟩ from if_pos h5] at hE; exact hE
    by_cases h0 : numOk epoch
    case neg => exact key false (plainN_1 (by simp [numsOkB, h0])) (plainNote_d0 kind epoch vers next client e life seq err op w hE hK  h0)
    by_cases h1 : numOk vers
    case neg => exact key false (plainN_1 (by simp [numsOkB, h1])) (plainNote_d1 kind epoch vers next client e life seq err op w hE hK h0 h1)
    by_cases h2 : numOk next
    case neg => exact key false (plainN_1 (by simp [numsOkB, h2])) (plainNote_d2 kind epoch vers next client e life seq err op w hE hK h0 h1 h2)
    by_cases h3 : numOk client
    case neg => exact key false (plainN_1 (by simp [numsOkB, h3])) (plainNote_d3 kind epoch vers next client e life seq err op w hE hK h0 h1 h2 h3)
    by_cases h4 : numOk life
    case neg => exact key false (plainN_1 (by simp [numsOkB, h4])) (plainNote_d4 kind epoch vers next client e life seq err op w hE hK h0 h1 h2 h3 h4)
    by_cases h5' : numOk seq
    case neg => exact key false (plainN_1 (by simp [numsOkB, h5'])) (plainNote_d5 kind epoch vers next client e life seq err op w hE hK h0 h1 h2 h3 h4 h5')
    by_cases h6 : numOk err
    case neg => exact key false (plainN_1 (by simp [numsOkB, h6])) (plainNote_d6 kind epoch vers next client e life seq err op w hE hK h0 h1 h2 h3 h4 h5' h6)
    exact key _ (plainN_2 hE2 (by simp [numsOkB, h0, h1, h2, h3, h4, h5', h6])) (plainNote_dok kind epoch vers next client e life seq err op w hE hK h0 h1 h2 h3 h4 h5' h6)
end
end Go.Proofs.Ytekonakanieeaaa
