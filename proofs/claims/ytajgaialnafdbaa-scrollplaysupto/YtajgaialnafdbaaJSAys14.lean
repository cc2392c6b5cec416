/- The contract of package scroll's Turn. -/
import Derived.Test.YtajgaialnafdbaaJSAys13
namespace Go.Proofs.Ytajgaialnafdbaa
section
open Go.RowKit

def okR (l : List Int) : Prop := 1 ≤ l.length ∧ l.length ≤ 424
theorem Rs.at {w : World} {a : Option Addr} {L : List (List Int)} {n cap : Nat} (h : Rs w (.slice a n cap) L) {k : Nat} {l : List Int} (hl : L[k]? = some l) : ∃ g off x, a = some ⟨g, off, none⟩ ∧ w.cell? ⟨g, off + k, none⟩ = some x ∧ RT w x l := by
  obtain ⟨a', cap', e, hq⟩ := h.form
  cases e
  rcases hq with rfl | ⟨g, off, rfl, _, hc⟩
  · simp at hl
  · obtain ⟨x, h1, h2⟩ := hc k l hl
    exact ⟨g, off, x, rfl, h1, h2⟩
theorem nb_le424 {l : List Int} (h : okR l) : 1 ≤ nb l.length ∧ nb l.length ≤ 8 := ⟨nb_pos h.1, nb_le h.2⟩
theorem tot_bound {ls : List (List Int)} (h : ∀ l ∈ ls, l.length ≤ 1000000) : tot ls ≤ ls.length * 20000 := by
  induction ls with
  | nil => exact Nat.zero_le _
  | cons a ls ih =>
    have h1 := ih (fun l hl => h l (by simp [hl]))
    have h2 := h a (by simp)
    have h3 : nb a.length ≤ 20000 := by unfold nb; omega
    have : tot (a :: ls) = nb a.length + tot ls := by unfold tot; simp
    rw [this, List.length_cons]; omega
set_option maxHeartbeats 1000000 in
theorem turn_bad (sb : Nat) (a : Option Addr) (cap : Nat) (L : List (List Int)) (w : World) (hr : Rs w (.slice a L.length cap) L) (hL : L.length ≤ 1000) (hb : ∀ l ∈ L, l.length ≤ 1000000) (q : Nat) (lq : List Int) (hq : L[q]? = some lq) (hbad : ¬ okR lq) (hfirst : ∀ i l, i < q → L[i]? = some l → okR l) :
    Calls Try.prog 11 #[.pointer (some ⟨sb, 0, none⟩), .slice a L.length cap] w fun e w' => e = .returned (.int .i64 61) ∧ w' = w := by
  obtain ⟨n, hn⟩ : ∃ n, L.length = n := ⟨_, rfl⟩
  have hqn : q < n := by rw [← hn]; exact (List.getElem?_eq_some_iff.1 hq).1
  have H : Hid (Rs w (.slice a n cap) L ∧ (∀ l ∈ L, l.length ≤ 1000000) ∧ L[q]? = some lq ∧ ¬ okR lq ∧ (∀ i l, i < q → L[i]? = some l → okR l) ∧ L.length = n) := ⟨by rw [← hn]; exact hr, hb, hq, hbad, hfirst, hn⟩
  rw [hn] at hL ⊢
  clear hr hb hq hbad hfirst hn
  go_enter Try.func11, Try.ntmps11
  go_wp2
  go_loopw [5, 17] (fun p i wr => ∃ k : Nat, k ≤ q ∧ i = .int .i64 k ∧ p = .int .i64 (tot (L.take k) : Nat) ∧ w = wr) (fun _ i _ => n - (intOf i).toNat)
  case atStart => exact ⟨0, Nat.zero_le _, rfl, rfl, rfl⟩
  case round =>
    obtain ⟨k, hk, rfl, rfl, rfl⟩ := hrel
    obtain ⟨l, hl⟩ : ∃ l, L[k]? = some l := ⟨_, List.getElem?_eq_getElem (by rw [H.out.2.2.2.2.2]; omega)⟩
    obtain ⟨g, off, x, rfl, hx, hrt⟩ := H.out.1.at hl
    have hlb := H.out.2.1 l (List.mem_of_getElem? hl)
    have hkn : (k : Int) < (n : Int) := by omega
    have HR : Hid (Calls Try.prog 36 #[x] w fun e w' => e = .returned (.bool (decide (1 ≤ l.length ∧ l.length ≤ 424))) ∧ w = w') := (right_any x l w hrt.rb hlb).mono fun e w2 hq => ⟨hq.1, hq.2.symm⟩
    have HB : Hid (Calls Try.prog 37 #[x] w fun e w' => e = .returned (.int .i64 (nb l.length : Nat)) ∧ w = w') := (blocks_any x l w hrt.rb hlb).mono fun e w2 hq => ⟨hq.1, hq.2.symm⟩
    have ht1 := tot_take hl
    have ht2 : tot (L.take k) ≤ 20000000 := by
      have := tot_bound (ls := L.take k) (fun l hl => H.out.2.1 l (List.mem_of_mem_take hl))
      rw [List.length_take] at this
      have : min k L.length ≤ 1000 := by omega
      omega
    have hn2 : nb l.length ≤ 20000 := by unfold nb; omega
    obtain ⟨P, hP⟩ : ∃ P, tot (L.take k) = P := ⟨_, rfl⟩
    obtain ⟨C, hC⟩ : ∃ C, nb l.length = C := ⟨_, rfl⟩
    have HT : Hid (tot (L.take (k + 1)) = P + C) := by show _ = _; rw [← hP, ← hC]; exact ht1
    rw [hC] at HB hn2
    rw [hP] at ht2 ⊢
    clear ht1 hP hC hrt
    by_cases hkq : k = q
    · subst hkq
      have hd : decide (1 ≤ l.length ∧ l.length ≤ 424) = false := decide_eq_false (by have := H.out.2.2.1; rw [hl] at this; cases this; exact H.out.2.2.2.1)
      rw [hd] at HR
      clear hd hl
      go_wp2_with (go_at_call 36; refine HR.out.mono ?_; rintro e w2 ⟨rfl, rfl⟩)
      go_ret
      exact ⟨rfl, rfl⟩
    · have hd : decide (1 ≤ l.length ∧ l.length ≤ 424) = true := decide_eq_true (H.out.2.2.2.2.1 k l (by omega) hl)
      rw [hd] at HR
      clear hd hl
      go_wp2_with (first
        | (go_at_call 36; refine HR.out.mono ?_; rintro e w2 ⟨rfl, rfl⟩)
        | (go_at_call 37; refine HB.out.mono ?_; rintro e w3 ⟨rfl, rfl⟩))
      go_roundw
      case rel => exact ⟨k + 1, by omega, by go_num, by rw [HT.out, Int.natCast_add], trivial⟩
      case measure => simp [intOf]; omega
end
end Go.Proofs.Ytajgaialnafdbaa
