/- The contract of the chapter's own Last: it answers the last one of the list, as lastF tells it. -/
import Derived.Test.YtiecakeeekeidaaRefs
import Derived.Test.YtiecakeeekeidaaLastSpec
import Derived.Deep.QuietTactic
import Derived.BigQuiet
namespace Go.Proofs.Ytiecakeeekeidaa
open Go.RowKit

def topF (F G : Nat → Nat) (i : Nat) : Nat → Bool
  | 0 => goodB (F i) (G i)
  | j + 1 => topF F G i j && !laterB (F j) (G j) (F i) (G i)

theorem topF_true {F G : Nat → Nat} {i : Nat} : ∀ {n : Nat}, topF F G i n = true → goodB (F i) (G i) = true ∧ ∀ j, j < n → laterB (F j) (G j) (F i) (G i) = false
  | 0, h => ⟨h, fun j hj => by omega⟩
  | n + 1, h => by
    simp only [topF, Bool.and_eq_true] at h
    obtain ⟨h1, h2⟩ := topF_true h.1
    refine ⟨h1, fun j hj => ?_⟩
    by_cases c : j = n
    · rw [c]; simpa using h.2
    · exact h2 j (by omega)
theorem topF_false {F G : Nat → Nat} {i : Nat} : ∀ {n : Nat}, topF F G i n = false → goodB (F i) (G i) = true → ∃ j, j < n ∧ laterB (F j) (G j) (F i) (G i) = true
  | 0, h, hg => by simp only [topF] at h; rw [h] at hg; cases hg
  | n + 1, h, hg => by
    simp only [topF, Bool.and_eq_false_iff] at h
    rcases h with h | h
    · obtain ⟨j, hj, hl⟩ := topF_false h hg
      exact ⟨j, by omega, hl⟩
    · exact ⟨n, by omega, by simpa using h⟩

def epV (a b : Nat) : Int := if goodB a b then part a else 0
def nuV (a b : Nat) : Int := if goodB a b then part b else 0
theorem parts_v (a b : Nat) (w : World) : Calls Try.prog 11 #[.complex .f64 a b] w fun e w' => e = .returned (.tuple #[.int .i64 (epV a b), .int .i64 (nuV a b), .bool (goodB a b)]) ∧ w' = w := parts_any a b w

theorem drewN_cell {w wr : World} {p : Addr} {v : Value} (h : Hid (∃ m, wr = w.drewN m)) (hc : w.cell? p = some v) : wr.cell? p = some v := by
  obtain ⟨m, rfl⟩ := h.out
  exact hc
theorem drewN_more {w wr : World} {q : Nat} (h : Hid (∃ m, wr = w.drewN m)) : Hid (∃ m, wr.drewN q = w.drewN m) := by
  obtain ⟨m, rfl⟩ := h.out
  exact ⟨m + q, World.drewN_drewN ..⟩

set_option maxHeartbeats 2000000 in
theorem rlast_core (a : Option Addr) (n cap : Nat) (F G : Nat → Nat) (w : World) (b off : Nat) (ha : a = some ⟨b, off, none⟩) (hc : ∀ i, i < n → w.cell? ⟨b, off + i, none⟩ = some (.complex .f64 (F i) (G i))) (hlen : n * 16 ≤ 140737488355328) :
    Calls Try.prog 27 #[.slice a n cap] w fun e w' => e = .returned (.tuple #[.complex .f64 (lastRe (lastF F G n)) (lastIm (lastF F G n)), .bool (lastF F G n).isSome]) ∧ ∃ m, w' = w.drewN m := by
  subst ha
  have HC : Hid (∀ i, i < n → w.cell? ⟨b, off + i, none⟩ = some (.complex .f64 (F i) (G i))) := hc
  clear hc
  go_enter Try.func27, Try.ntmps27
  go_wp2
  go_loopw [4] (fun t wr => ∃ (i : Nat), i ≤ n ∧ t = .int .i64 i ∧ Hid (∃ m, wr = w.drewN m) ∧ Hid (∀ i', i' < i → topF F G i' n = false)) (fun t _ => n - (intOf t).toNat)
  case atStart => exact ⟨0, Nat.zero_le _, rfl, ⟨0, rfl⟩, fun i' hi => by omega⟩
  case round =>
    obtain ⟨i, hi, rfl, hw, hno⟩ := hrel
    by_cases hlt : i < n
    · have d1 := drewN_cell hw (HC.out i hlt)
      go_wp2_with (go_at_call 11; refine (parts_v _ _ _).mono ?_; rintro e w' ⟨rfl, rfl⟩)
      clear d1
      go_loopw [8, 9] (fun t s wr => ∃ (j : Nat), j ≤ n ∧ s = .int .i64 j ∧ t = .bool (topF F G i j) ∧ Hid (∃ m, wr = w.drewN m)) (fun _ s _ => n - (intOf s).toNat)
      case atStart => exact ⟨0, Nat.zero_le _, rfl, rfl, hw⟩
      case round =>
        clear hw
        obtain ⟨j, hj, rfl, rfl, hw⟩ := hrel
        by_cases hjt : j < n
        · have d1 := drewN_cell hw (HC.out i hlt)
          have d2 := drewN_cell hw (HC.out j hjt)
          have hi2 : (i : Int) < (n : Int) := by omega
          have hj2 : (j : Int) < (n : Int) := by omega
          cases ht : topF F G i j
          · have hs : topF F G i (j + 1) = false := by simp only [topF, ht, Bool.false_and]
            go_wp2
            go_quiet (fail)
            go_wp2
            go_roundw
            case rel => exact ⟨j + 1, by omega, by go_num, by rw [hs], drewN_more hw⟩
            case measure => simp [intOf]; omega
          · have hs : topF F G i (j + 1) = !laterB (F j) (G j) (F i) (G i) := by simp only [topF, ht, Bool.true_and]
            go_wp2
            go_quiet ((go_at_call 24; exact Calls.quiet_of_same (rlater_any _ _ _ _ _)))
            go_wp2
            go_roundw
            case rel => exact ⟨j + 1, by omega, by go_num, by rw [hs], drewN_more hw⟩
            case measure => simp [intOf]; omega
        · have hjn : j = n := by omega
          subst hjn
          cases ht : topF F G i j
          · go_wp2
            go_roundw
            case rel => exact ⟨i + 1, by omega, by go_num, hw, fun i' hi' => if c : i' = i then by rw [c]; exact ht else hno i' (by omega)⟩
            case measure => simp [intOf]; omega
          · obtain ⟨hg, hl⟩ := topF_true ht
            have hlast : lastF F G j = some (part (F i), part (G i)) := lastF_top F G j i hlt hg hl
            have e1 : epV (F i) (G i) = part (F i) := by unfold epV; rw [hg]; rfl
            have e2 : nuV (F i) (G i) = part (G i) := by unfold nuV; rw [hg]; rfl
            have HL : Hid (lastF F G j = some (part (F i), part (G i))) := hlast
            clear hl hg hlast
            go_wp2
            go_ret2
            refine ⟨?_, hw⟩
            rw [HL.out]
            rfl
    · have hin : i = n := by omega
      subst hin
      have hnone : Hid (lastF F G i = none) := lastF_notop F G i (fun k hk hg => topF_false (hno k hk) hg)
      clear hno
      go_wp2
      go_ret2
      refine ⟨?_, hw⟩
      rw [hnone.out]
      rfl

theorem rlast_any (a : Option Addr) (n cap : Nat) (F G : Nat → Nat) (w : World) (hrow : RowC w a n F G) (hlen : n * 16 ≤ 140737488355328) :
    Calls Try.prog 27 #[.slice a n cap] w fun e w' => e = .returned (.tuple #[.complex .f64 (lastRe (lastF F G n)) (lastIm (lastF F G n)), .bool (lastF F G n).isSome]) ∧ ∃ m, w' = w.drewN m := by
  rcases hrow with rfl | ⟨b, off, ha, _, hc⟩
  · have h0 : lastF F G 0 = none := rfl
    rw [h0]
    go_enter Try.func27, Try.ntmps27
    go_wp2
    go_loopw [4] (fun t wr => t = .int .i64 0 ∧ wr = w) (fun t _ => 0)
    case atStart => exact ⟨rfl, rfl⟩
    case round =>
      obtain ⟨rfl, rfl⟩ := hrel
      go_wp2
      go_ret2
      exact ⟨rfl, 0, rfl⟩
  · exact rlast_core a n cap F G w b off ha hc hlen

end Go.Proofs.Ytiecakeeekeidaa
