/- What the laws share: copies, comparisons. -/
import Derived.Test.YtihjhaafmdobmaaWsH
import Derived.Test.YtihjhaafmdobmaaTqA
import Derived.Test.YtihjhaafmdobmaaTqB
namespace Go.Proofs.Ytihjhaafmdobmaa
open Go.RowKit Go.Lib

/-- how long bytes may be -/
def LB : Nat := 140737488351232

theorem copyB_any (v : Value) (l : List Int) (w : World) (h : RB w v l) (hl : l.length ≤ LB) :
    Calls Try.prog 30 #[v] w fun e w' => ∃ v', e = .returned v' ∧ OwnB w' w.heap.size v' l ∧ Below w.heap.size w w' := by
  obtain ⟨i0, hi, hz0, hz1, hz2⟩ := info_parts Try.infoU
  have hL : l.length ≤ 140737488351232 := hl
  obtain ⟨a, cap, rfl, _⟩ := id h
  rcases h.src with ⟨rfl, rfl⟩ | ⟨ad, rfl, hc⟩
  · clear h hl
    go_enter Try.func30, Try.ntmps30
    go_wp2
    go_ret
    exact ⟨_, rfl, OwnB.nil _ _, Below.refl _ _⟩
  · have HC : Hid (∀ j u, (ub l)[j]? = some u → w.cell? (ad.add j) = some u) := hc
    clear hc h hl
    go_enter Try.func30, Try.ntmps30
    go_wp2_with (at_builtin; refine wpList_append_own _ rfl _ _ 53 rfl w.heap.size 5 i0 (.int .u8 0) 1 1 Try.underlying53 hi hz0 hz1 hz2 rfl (by decide) _ _ _ rfl (World.ownsRow_nil _ _ _ _) ad l.length cap (ub l) rfl (by rw [ub_len, Nat.mul_one]) HC.out (ub_one l) (by unfold maxLen; omega) (by omega) (Nat.le_refl _) ?_; intro v' w1 hown hgrow _)
    go_ret
    refine ⟨_, rfl, ?_, below_grown hgrow⟩
    rw [Nat.zero_add, List.nil_append] at hown
    exact hown

theorem take_len_eq {l l' : List Int} {k : Nat} (h : l.take k = l'.take k) (hk : k = l.length) (hk' : k = l'.length) : l = l' := by
  rw [List.take_of_length_le (by omega), List.take_of_length_le (by omega)] at h; exact h
theorem take_snoc {l l' : List Int} {k : Nat} {x : Int} (h : l.take k = l'.take k) (h1 : l[k]? = some x) (h2 : l'[k]? = some x) : l.take (k + 1) = l'.take (k + 1) := by
  rw [List.take_add_one, List.take_add_one, h, h1, h2]
set_option maxHeartbeats 1000000 in
theorem same_any (v v' : Value) (l l' : List Int) (w : World) (h : RB w v l) (h' : RB w v' l') (hl : l.length ≤ LB) (hl' : l'.length ≤ LB) :
    Calls Try.prog 27 #[v, v'] w fun e w' => e = .returned (.bool (decide (l = l'))) ∧ Below w.heap.size w w' := by
  have hL : l.length ≤ 140737488351232 := hl
  have hL' : l'.length ≤ 140737488351232 := hl'
  obtain ⟨a, cap, rfl, h1⟩ := h
  obtain ⟨a', cap', rfl, h1'⟩ := h'
  clear hl hl'
  by_cases hn : l.length = l'.length
  · have HC : Hid (∀ k x, l[k]? = some x → ∃ g off, a = some ⟨g, off, none⟩ ∧ g < w.heap.size ∧ w.cell? ⟨g, off + k, none⟩ = some (.int .u8 x)) := fun k x hx => by
      rcases h1 with rfl | ⟨g, off, e, hg, hc⟩
      · simp at hx
      · exact ⟨g, off, e, hg, hc k x hx⟩
    have HC' : Hid (∀ k x, l'[k]? = some x → ∃ g off, a' = some ⟨g, off, none⟩ ∧ g < w.heap.size ∧ w.cell? ⟨g, off + k, none⟩ = some (.int .u8 x)) := fun k x hx => by
      rcases h1' with rfl | ⟨g, off, e, hg, hc⟩
      · simp at hx
      · exact ⟨g, off, e, hg, hc k x hx⟩
    obtain ⟨n, hn1⟩ : ∃ n, l.length = n := ⟨_, rfl⟩
    have hn2 : l'.length = n := by omega
    have HN : Hid (l.length = n ∧ l'.length = n) := ⟨hn1, hn2⟩
    rw [hn1] at hL
    rw [hn1, hn2]
    clear h1 h1' hn hn1 hn2 hL'
    go_enter Try.func27, Try.ntmps27
    go_wp2
    go_loopw [5] (fun i wr => ∃ k : Nat, k ≤ n ∧ i = .int .i64 k ∧ l.take k = l'.take k ∧ Below w.heap.size w wr) (fun i _ => n - (intOf i).toNat)
    case atStart => exact ⟨0, Nat.zero_le _, rfl, rfl, Below.refl _ _⟩
    case round =>
      obtain ⟨k, hk, rfl, ht, hb⟩ := hrel
      by_cases hlt : k < n
      · obtain ⟨x, hx⟩ : ∃ x, l[k]? = some x := ⟨_, List.getElem?_eq_getElem (by rw [HN.out.1]; exact hlt)⟩
        obtain ⟨x', hx'⟩ : ∃ x, l'[k]? = some x := ⟨_, List.getElem?_eq_getElem (by rw [HN.out.2]; exact hlt)⟩
        obtain ⟨g, off, rfl, hg, c1⟩ := HC.out k x hx
        obtain ⟨g', off', rfl, hg', c2⟩ := HC'.out k x' hx'
        have d1 := (hb.cell (p := ⟨g, off + k, none⟩) hg).trans c1
        have d2 := (hb.cell (p := ⟨g', off' + k, none⟩) hg').trans c2
        have hki : (k : Int) < (n : Int) := by omega
        by_cases hxx : x = x'
        · subst hxx
          have HT : Hid (l.take (k + 1) = l'.take (k + 1)) := take_snoc ht hx hx'
          clear hx hx' c1 c2 ht
          go_wp2
          go_quiet (fail)
          go_wp2
          go_roundw
          case rel => exact ⟨k + 1, by omega, by go_num, HT.out, below_drewN hb _⟩
          case measure => simp [intOf]; omega
        · have hne : (x != x') = true := by simpa using hxx
          have HE : Hid (decide (l = l') = false) := decide_eq_false (by rintro rfl; rw [hx] at hx'; exact hxx (Option.some.inj hx'))
          clear hx hx' c1 c2 ht hxx
          go_wp2
          go_quiet (fail)
          go_wp2
          go_ret
          exact ⟨by rw [HE.out]; rfl, below_drewN hb _⟩
      · have hkl : k = n := by omega
        subst hkl
        have HE : Hid (decide (l = l') = true) := decide_eq_true (take_len_eq ht HN.out.1.symm HN.out.2.symm)
        go_wp2
        go_ret
        exact ⟨by rw [HE.out]; rfl, hb⟩
  · have HE : Hid (decide (l = l') = false) := decide_eq_false (by rintro rfl; exact hn rfl)
    have hne : ((l.length : Int) != (l'.length : Int)) = true := by simp; omega
    clear h1 h1'
    go_enter Try.func27, Try.ntmps27
    go_wp2
    go_ret
    exact ⟨by rw [HE.out]; rfl, Below.refl _ _⟩


/-- entries, keys that came in -/
def ArgE (w : World) (v : Value) (es : List En) : Prop := ∃ a cap, v = .slice a es.length cap ∧ es.length * 72 ≤ 140737488351232 ∧ (es = [] ∨ ∃ b off, a = some ⟨b, off, none⟩ ∧ b < w.heap.size ∧ ∀ j u, (ec es)[j]? = some u → w.cell? ⟨b, off + j, none⟩ = some u)
def ArgK (w : World) (v : Value) (ks : List Ky) : Prop := ∃ a cap, v = .slice a ks.length cap ∧ ks.length * 24 ≤ 140737488351232 ∧ (ks = [] ∨ ∃ b off, a = some ⟨b, off, none⟩ ∧ b < w.heap.size ∧ ∀ j u, (kc ks)[j]? = some u → w.cell? ⟨b, off + j, none⟩ = some u)
theorem ArgE.below {w w' : World} {v : Value} {es : List En} (h : ArgE w v es) (hb : Below w.heap.size w w') : ArgE w' v es := by
  obtain ⟨a, cap, rfl, hl, h⟩ := h
  refine ⟨a, cap, rfl, hl, ?_⟩
  rcases h with h | ⟨b, off, rfl, hg, hc⟩
  · exact .inl h
  · exact .inr ⟨b, off, rfl, Nat.lt_of_lt_of_le hg hb.size, fun j u hu => (hb.cell (p := ⟨b, off + j, none⟩) hg).trans (hc j u hu)⟩
theorem ArgK.below {w w' : World} {v : Value} {es : List Ky} (h : ArgK w v es) (hb : Below w.heap.size w w') : ArgK w' v es := by
  obtain ⟨a, cap, rfl, hl, h⟩ := h
  refine ⟨a, cap, rfl, hl, ?_⟩
  rcases h with h | ⟨b, off, rfl, hg, hc⟩
  · exact .inl h
  · exact .inr ⟨b, off, rfl, Nat.lt_of_lt_of_le hg hb.size, fun j u hu => (hb.cell (p := ⟨b, off + j, none⟩) hg).trans (hc j u hu)⟩
theorem kc_one (ks : List Ky) : ∀ u ∈ kc ks, u.oneCell' = true := by
  intro u hu
  unfold kc at hu
  obtain ⟨p, _, hp⟩ := List.mem_flatMap.1 hu
  exact two_cells p u hp
set_option maxRecDepth 20000 in
set_option maxHeartbeats 4000000 in
theorem copyE_any (v : Value) (es : List En) (w : World) (h : ArgE w v es) :
    Calls Try.prog 10 #[v] w fun e w' => ∃ v', e = .returned v' ∧ Row7 w' w.heap.size v' es ∧ Below w.heap.size w w' := by
  obtain ⟨i1, hi1, hw0, hw1, hw2⟩ := info_parts Try.infoE
  obtain ⟨a, cap, rfl, hl, hc⟩ := h
  by_cases h0 : a = none
  · subst h0
    have he : es = [] := by
      rcases hc with h | ⟨b, off, e, _⟩
      · exact h
      · cases e
    subst he
    clear hc
    go_enter Try.func10, Try.ntmps10
    go_wp2
    go_ret
    exact ⟨_, rfl, World.ownsRow_nil _ _ _ _, Below.refl _ _⟩
  · obtain ⟨ad, rfl⟩ : ∃ ad, a = some ad := by cases a with | none => exact absurd rfl h0 | some x => exact ⟨x, rfl⟩
    have HC : Hid (∀ j u, (ec es)[j]? = some u → w.cell? (ad.add j) = some u) := by
      rcases hc with h | ⟨b, off, e, _, hc⟩
      · subst h; intro j u hu; simp [ec] at hu
      · cases e; intro j u hu; rw [add_plain']; exact hc j u hu
    obtain ⟨n, hn⟩ : ∃ n, es.length = n := ⟨_, rfl⟩
    have HN : Hid (es.length = n ∧ (ec es).length = n * 7) := ⟨hn, by rw [ec_len, hn]⟩
    rw [hn] at hl ⊢
    clear hc h0 hn
    go_enter Try.func10, Try.ntmps10
    go_wp2_with (at_builtin; refine wpList_append_own _ rfl _ _ 22 rfl w.heap.size 77 i1 _ 7 72 Try.underlying22 hi1 hw0 hw1 hw2 rfl (by decide) _ 0 [] rfl (World.ownsRow_nil _ _ _ _) ad n cap (ec es) rfl HN.out.2 HC.out (ec_one es) (by unfold maxLen; omega) (by omega) (Nat.le_refl _) ?_; intro v' w1 hown hgrow _; obtain ⟨av, cv, hv⟩ := owns_len hown; subst hv)
    go_ret
    refine ⟨_, rfl, ?_, below_grown hgrow⟩
    rw [Nat.zero_add, List.nil_append] at hown
    show World.ownsRow _ _ _ _ _ _ _
    rw [HN.out.1]; exact hown
set_option maxRecDepth 20000 in
set_option maxHeartbeats 4000000 in
theorem copyK_any (v : Value) (es : List Ky) (w : World) (h : ArgK w v es) :
    Calls Try.prog 56 #[v] w fun e w' => ∃ v', e = .returned v' ∧ RowK w' w.heap.size v' es ∧ Below w.heap.size w w' := by
  obtain ⟨i1, hi1, hw0, hw1, hw2⟩ := info_parts Try.infoKy
  obtain ⟨a, cap, rfl, hl, hc⟩ := h
  by_cases h0 : a = none
  · subst h0
    have he : es = [] := by
      rcases hc with h | ⟨b, off, e, _⟩
      · exact h
      · cases e
    subst he
    clear hc
    go_enter Try.func56, Try.ntmps56
    go_wp2
    go_ret
    exact ⟨_, rfl, World.ownsRow_nil _ _ _ _, Below.refl _ _⟩
  · obtain ⟨ad, rfl⟩ : ∃ ad, a = some ad := by cases a with | none => exact absurd rfl h0 | some x => exact ⟨x, rfl⟩
    have HC : Hid (∀ j u, (kc es)[j]? = some u → w.cell? (ad.add j) = some u) := by
      rcases hc with h | ⟨b, off, e, _, hc⟩
      · subst h; intro j u hu; simp [kc] at hu
      · cases e; intro j u hu; rw [add_plain']; exact hc j u hu
    obtain ⟨n, hn⟩ : ∃ n, es.length = n := ⟨_, rfl⟩
    have HN : Hid (es.length = n ∧ (kc es).length = n * 2) := ⟨hn, by rw [kc_len, hn]⟩
    rw [hn] at hl ⊢
    clear hc h0 hn
    go_enter Try.func56, Try.ntmps56
    go_wp2_with (at_builtin; refine wpList_append_own _ rfl _ _ 34 rfl w.heap.size 73 i1 _ 2 24 Try.underlying34 hi1 hw0 hw1 hw2 rfl (by decide) _ 0 [] rfl (World.ownsRow_nil _ _ _ _) ad n cap (kc es) rfl HN.out.2 HC.out (kc_one es) (by unfold maxLen; omega) (by omega) (Nat.le_refl _) ?_; intro v' w1 hown hgrow _; obtain ⟨av, cv, hv⟩ := owns_len hown; subst hv)
    go_ret
    refine ⟨_, rfl, ?_, below_grown hgrow⟩
    rw [Nat.zero_add, List.nil_append] at hown
    show World.ownsRow _ _ _ _ _ _ _
    rw [HN.out.1]; exact hown
theorem mark_any (a b : Int) (w : World) : Calls Try.prog 55 #[.int .i64 a, .int .i64 b] w fun e w' => e = .returned (.complex .f64 (floatOfInt .f64 a) (floatOfInt .f64 b)) ∧ w = w' := by
  go_enter Try.func55, Try.ntmps55
  go_wp2
  go_ret
  exact ⟨rfl, rfl⟩
end Go.Proofs.Ytihjhaafmdobmaa
