/- A list of ints that came in; the law TreeFull's inner function. -/
import Derived.Test.YtjkgafbknjpjbabTqF
import Derived.Test.YtjkgafbknjpjbabTqP
namespace Go.Proofs.Ytjkgafbknjpjbab
open Go.RowKit

def RowI (w : World) (a : Option Addr) (len : Nat) (A : Nat → Int) : Prop :=
  len = 0 ∨ ∃ b off, a = some ⟨b, off, none⟩ ∧ b < w.heap.size ∧ ∀ i, i < len → w.cell? ⟨b, off + i, none⟩ = some (.int .i64 (A i)) ∧ (Lit.int .i64 (A i)).wf = true
theorem RowI.below {w w' : World} {a : Option Addr} {len : Nat} {A : Nat → Int} (h : RowI w a len A) (hb : Below w.heap.size w w') : RowI w' a len A := by
  rcases h with h | ⟨b, off, rfl, hs, hc⟩
  · exact .inl h
  · exact .inr ⟨b, off, rfl, Nat.lt_of_lt_of_le hs hb.size, fun i hi => ⟨(hb.cell (p := ⟨b, off + i, none⟩) hs).trans (hc i hi).1, (hc i hi).2⟩⟩
set_option maxRecDepth 20000 in
set_option maxHeartbeats 4000000 in
theorem kind_p (B : Nat) (a : Option Addr) (len cap : Nat) (A : Nat → Int) (i : Nat) (w : World) (hB : w.cell? ⟨B, 0, none⟩ = some (.slice a len cap)) (row : RowI w a len A) (_ : i < 1000) (_ : len * 8 ≤ 140737488351232) :
    Calls Try.prog 24 #[.int .i64 (i : Int), .pointer (some ⟨B, 0, none⟩)] w fun e w' => ∃ P : Int, e = .returned (.int .i64 (5 + P)) ∧ (0 ≤ P ∧ P < 3) ∧ Below w.heap.size w w' := by
  by_cases h0 : len = 0
  · subst h0
    clear row
    go_enter Try.func24, Try.ntmps24
    go_wp2
    go_ret
    exact ⟨0, rfl, by omega, Below.refl _ _⟩
  · rcases row with h | ⟨b, off, rfl, hb, hc⟩
    · exact absurd h h0
    · have hlt : i % len < len := Nat.mod_lt _ (by omega)
      obtain ⟨q, hq⟩ : ∃ q, i % len = q := ⟨_, rfl⟩
      rw [hq] at hlt
      have hx := (hc q hlt).1
      have htm : (i : Int).tmod (len : Int) = (q : Int) := by rw [← hq]; exact (Int.ofNat_tmod i len).symm
      obtain ⟨P, hP⟩ : ∃ P, placeV (A q) 3 = P := ⟨_, rfl⟩
      have pk := placeV_bd (A q) 3 (by omega)
      rw [hP] at pk
      have HPl : Hid (∀ w, Calls Try.prog 22 #[.int .i64 (A q), .int .i64 3] w fun e w' => e = .returned (.int .i64 P) ∧ w = w') := fun w => by rw [← hP]; exact (place_any (A q) 3 w (by omega) (by omega)).mono fun _ _ h => ⟨h.1, h.2.symm⟩
      have hlb : ((len : Int) == 0) = false := by simp; omega
      have hl0 : (len : Int) ≠ 0 := by omega
      have hqi : (q : Int) < (len : Int) := by omega
      have hq0 : (0 : Int) ≤ (q : Int) := by omega
      have hwr : IntKind.i64.wrap ((i : Int).tmod (len : Int)) = (q : Int) := (IntWalk.i64_in _ (by rw [htm]; omega)).trans htm
      have hw5 : IntKind.i64.wrap (5 + P) = 5 + P := IntWalk.i64_in _ (by omega)
      clear hc hq hP
      go_enter Try.func24, Try.ntmps24
      go_upto_region 3 with fail
      have k0 : w.drew.cell? ⟨B, 0, none⟩ = some (.slice (some ⟨b, off, none⟩) len cap) ∧ w.drew.cell? ⟨b, off + q, none⟩ = some (.int .i64 (A q)) := ⟨hB, hx⟩
      go_region_held3 (fun w' => w'.cell? ⟨B, 0, none⟩ = some (.slice (some ⟨b, off, none⟩) len cap) ∧ w'.cell? ⟨b, off + q, none⟩ = some (.int .i64 (A q)))
        (with_reducible first | exact k0)
        (first | (go_at_call 22; refine (HPl.out _).mono ?_; rintro x w4 ⟨rfl, rfl⟩))
      go_wp2
      go_ret
      exact ⟨P, rfl, pk, (Below.refl _ _).drew⟩
end Go.Proofs.Ytjkgafbknjpjbab
