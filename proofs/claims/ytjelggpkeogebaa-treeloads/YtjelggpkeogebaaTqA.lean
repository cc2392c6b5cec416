/- Lists of entries compared. -/
import Derived.Test.YtjelggpkeogebaaEnM
namespace Go.Proofs.Ytjelggpkeogebaa
open Go.RowKit
attribute [local go_sem high] eqK neqK eqE neqE eqN neqN guardK guardE guardN

/-- are two lists the same -/
def sameEs : List En → List En → Bool
  | [], [] => true
  | a :: l, b :: m => eqEn a b && sameEs l m
  | _, _ => false
theorem sameEs_iff : ∀ (l m : List En), sameEs l m = true ↔ l = m
  | [], [] => by simp [sameEs]
  | [], b :: m => by simp [sameEs]
  | a :: l, [] => by simp [sameEs]
  | a :: l, b :: m => by
    rw [sameEs, Bool.and_eq_true, sameEs_iff l m]
    rw [eqEn_iff, List.cons.injEq]
theorem sameEs_no {l m : List En} (h : ¬ l = m) : sameEs l m = false := by
  cases k : sameEs l m with
  | false => rfl
  | true => exact absurd ((sameEs_iff l m).1 k) h
set_option maxHeartbeats 4000000 in
theorem sameE_any (v v' : Value) (l l' : List En) (base base' : Nat) (w : World) (h : Row7 w base v l) (h' : Row7 w base' v' l') (hl : l.length ≤ 1000000000) (hl' : l'.length ≤ 1000000000) :
    Calls Try.prog 12 #[v, v'] w fun e w' => e = .returned (.bool (sameEs l l')) ∧ Below w.heap.size w w' := by
  obtain ⟨a, cap, rfl⟩ := owns_len h
  obtain ⟨a', cap', rfl⟩ := owns_len h'
  by_cases hn : l.length = l'.length
  · obtain ⟨n, hn1⟩ : ∃ n, l.length = n := ⟨_, rfl⟩
    have hn2 : l'.length = n := by omega
    rw [hn1] at hl
    have HC : Hid (Row7 w base (.slice a n cap) l ∧ Row7 w base' (.slice a' n cap') l' ∧ l.length = n ∧ l'.length = n) := ⟨by rw [← hn1]; exact h, by rw [← hn2]; exact h', hn1, hn2⟩
    rw [hn1, hn2]
    clear h h' hn hn1 hn2 hl'
    go_enter Try.func12, Try.ntmps12
    go_wp2
    go_loopw [5] (fun i wr => ∃ k : Nat, k ≤ n ∧ i = .int .i64 k ∧ l.take k = l'.take k ∧ Below w.heap.size w wr) (fun i _ => n - (intOf i).toNat)
    case atStart => exact ⟨0, Nat.zero_le _, rfl, rfl, Below.refl _ _⟩
    case round =>
      obtain ⟨k, hk, rfl, ht, hb⟩ := hrel
      by_cases hlt : k < n
      · obtain ⟨e, he⟩ : ∃ x, l[k]? = some x := ⟨_, List.getElem?_eq_getElem (by rw [HC.out.2.2.1]; exact hlt)⟩
        obtain ⟨f, hf⟩ : ∃ x, l'[k]? = some x := ⟨_, List.getElem?_eq_getElem (by rw [HC.out.2.2.2]; exact hlt)⟩
        obtain ⟨g, rfl, -, -, -, hc, -⟩ := owns_entry (HC.out.1.below hb) he
        obtain ⟨g', rfl, -, -, -, hc', -⟩ := owns_entry (HC.out.2.1.below hb) hf
        have x0 := hc.c0
        have x1 := hc.c1
        have x2 := hc.c2
        have x3 := hc.c3
        have x4 := hc.c4
        have x5 := hc.c5
        have x6 := hc.c6
        have y0 := hc'.c0
        have y1 := hc'.c1
        have y2 := hc'.c2
        have y3 := hc'.c3
        have y4 := hc'.c4
        have y5 := hc'.c5
        have y6 := hc'.c6
        have hki : (k : Int) < (n : Int) := by omega
        by_cases hxx : e = f
        · have HT : Hid (l.take (k + 1) = l'.take (k + 1)) := take_snocE ht he (hxx ▸ hf)
          subst hxx
          obtain ⟨e0, e1, e2, e3, e4, e5, e6⟩ := e
          have heq : eqEn ⟨e0, e1, e2, e3, e4, e5, e6⟩ ⟨e0, e1, e2, e3, e4, e5, e6⟩ = true := (eqEn_iff _ _).2 rfl
          clear he hf ht hc hc'
          go_upto_region 6 with fail
          go_quiet (fail)
          go_wp2
          exact ⟨⟨k + 1, by omega, by simp, HT.out, below_drewN hb _⟩, by simp [intOf]; omega⟩
        · have HE : Hid (sameEs l l' = false) := sameEs_no (by rintro rfl; rw [he] at hf; exact hxx (Option.some.inj hf))
          obtain ⟨e0, e1, e2, e3, e4, e5, e6⟩ := e
          obtain ⟨f0, f1, f2, f3, f4, f5, f6⟩ := f
          have hne : eqEn ⟨e0, e1, e2, e3, e4, e5, e6⟩ ⟨f0, f1, f2, f3, f4, f5, f6⟩ = false := eqEn_no hxx
          clear he hf ht hc hc' hxx
          go_upto_region 6 with fail
          go_quiet (fail)
          go_wp2
          go_ret
          exact ⟨by rw [HE.out]; rfl, below_drewN hb _⟩
      · have hkl : k = n := by omega
        subst hkl
        have HE : Hid (sameEs l l' = true) := (sameEs_iff l l').2 (take_eqE ht HC.out.2.2.1.symm HC.out.2.2.2.symm)
        clear ht
        go_wp2
        go_ret
        exact ⟨by rw [HE.out]; rfl, hb⟩
  · have HE : Hid (sameEs l l' = false) := sameEs_no (by rintro rfl; exact hn rfl)
    have hne : ((l.length : Int) != (l'.length : Int)) = true := by simp; omega
    clear h h'
    go_enter Try.func12, Try.ntmps12
    go_wp2
    go_ret
    exact ⟨by rw [HE.out]; rfl, Below.refl _ _⟩
end Go.Proofs.Ytjelggpkeogebaa
