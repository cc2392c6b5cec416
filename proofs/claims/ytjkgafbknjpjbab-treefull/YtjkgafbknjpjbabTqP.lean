/- Place. -/
import Derived.Test.YtjkgafbknjpjbabBgP
namespace Go.Proofs.Ytjkgafbknjpjbab
open Go.RowKit

def placeV (v n : Int) : Int := if v.tmod n < 0 then v.tmod n + n else v.tmod n
theorem placeV_bd (v n : Int) (h : 0 < n) : 0 ≤ placeV v n ∧ placeV v n < n := by
  unfold placeV
  have h1 := Int.tmod_lt_of_pos v h
  have h2 : -n < v.tmod n := by
    have := Int.tmod_lt_of_pos (-v) h
    rw [Int.neg_tmod] at this
    omega
  split <;> omega

set_option maxHeartbeats 400000 in
theorem place_core (v n k : Int) (w : World) (hn : 0 < n) (hn2 : n ≤ 1000) (hk : v.tmod n = k) (h1 : -1000 < k) (h2 : k < 1000) :
    Calls Try.prog 22 #[.int .i64 v, .int .i64 n] w fun e w' => e = .returned (.int .i64 (if k < 0 then k + n else k)) ∧ w' = w := by
  by_cases c : k < 0
  · rw [if_pos c]
    go_enter Try.func22, Try.ntmps22
    go_wp2
    go_ret
    exact ⟨rfl, rfl⟩
  · rw [if_neg c]
    go_enter Try.func22, Try.ntmps22
    go_wp2
    go_ret
    exact ⟨rfl, rfl⟩

theorem place_any (v n : Int) (w : World) (hn : 0 < n) (hn2 : n ≤ 1000) :
    Calls Try.prog 22 #[.int .i64 v, .int .i64 n] w fun e w' => e = .returned (.int .i64 (placeV v n)) ∧ w' = w := by
  have h1 := Int.tmod_lt_of_pos v hn
  have h2 : -n < v.tmod n := by
    have := Int.tmod_lt_of_pos (-v) hn
    rw [Int.neg_tmod] at this
    omega
  exact place_core v n _ w hn hn2 rfl (by omega) (by omega)

end Go.Proofs.Ytjkgafbknjpjbab
