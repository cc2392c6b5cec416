/- The contract of the chapter's own Span: it answers how far the good ones lie apart, as boxF tells it. -/
import Derived.Test.YtiecakeeekeidaaRefLast
namespace Go.Proofs.Ytiecakeeekeidaa
open Go.RowKit

/-- the greatest difference, as the chapter's two loops gather it: g: which are good; p: their parts -/
def inP (g : Nat → Bool) (p : Nat → Int) (i : Nat) (v : Int) : Nat → Int
  | 0 => v
  | j + 1 => if (g i && g j && decide (inP g p i v j < p i - p j)) then p i - p j else inP g p i v j
def outP (g : Nat → Bool) (p : Nat → Int) (n : Nat) : Nat → Int
  | 0 => 0
  | i + 1 => inP g p i (outP g p n i) n

theorem inP_spec (g : Nat → Bool) (p : Nat → Int) (i : Nat) (v : Int) : ∀ j, v ≤ inP g p i v j ∧ (∀ k, k < j → g i = true → g k = true → p i - p k ≤ inP g p i v j) ∧ (inP g p i v j = v ∨ ∃ k, k < j ∧ g i = true ∧ g k = true ∧ inP g p i v j = p i - p k)
  | 0 => ⟨Int.le_refl _, fun k hk => by omega, .inl rfl⟩
  | j + 1 => by
    obtain ⟨h1, h2, h3⟩ := inP_spec g p i v j
    simp only [inP]
    cases hc : (g i && g j && decide (inP g p i v j < p i - p j))
    · simp only [Bool.false_eq_true, if_false]
      refine ⟨h1, fun k hk hi hg => ?_, ?_⟩
      · by_cases c : k = j
        · subst c
          rw [hi, hg] at hc
          simp at hc
          exact hc
        · exact h2 k (by omega) hi hg
      · rcases h3 with h3 | ⟨k, hk, h4⟩
        · exact .inl h3
        · exact .inr ⟨k, by omega, h4⟩
    · simp only [if_true]
      simp only [Bool.and_eq_true, decide_eq_true_eq] at hc
      refine ⟨by omega, fun k hk hi hg => ?_, .inr ⟨j, by omega, hc.1.1, hc.1.2, rfl⟩⟩
      by_cases c : k = j
      · subst c; omega
      · have := h2 k (by omega) hi hg; omega

theorem outP_spec (g : Nat → Bool) (p : Nat → Int) (n : Nat) : ∀ i, 0 ≤ outP g p n i ∧ (∀ l k, l < i → k < n → g l = true → g k = true → p l - p k ≤ outP g p n i) ∧ (outP g p n i = 0 ∨ ∃ l k, l < i ∧ k < n ∧ g l = true ∧ g k = true ∧ outP g p n i = p l - p k)
  | 0 => ⟨Int.le_refl _, fun l k hl => by omega, .inl rfl⟩
  | i + 1 => by
    obtain ⟨h1, h2, h3⟩ := outP_spec g p n i
    obtain ⟨q1, q2, q3⟩ := inP_spec g p i (outP g p n i) n
    simp only [outP]
    refine ⟨by omega, fun l k hl hk hgl hgk => ?_, ?_⟩
    · by_cases c : l = i
      · subst c; exact q2 k hk hgl hgk
      · have := h2 l k (by omega) hk hgl hgk; omega
    · rcases q3 with q3 | ⟨k, hk, hi, hg, q4⟩
      · rw [q3]
        rcases h3 with h3 | ⟨l, k, hl, hk, h4⟩
        · exact .inl h3
        · exact .inr ⟨l, k, by omega, hk, h4⟩
      · exact .inr ⟨i, k, by omega, hk, hi, hg, q4⟩

theorem boxF_none (F G : Nat → Nat) (n : Nat) (h : boxF F G n = none) : ∀ i, i < n → goodB (F i) (G i) = false := by
  induction n with
  | zero => intro i hi; omega
  | succ n ih =>
    simp only [boxF] at h
    cases hg : goodB (F n) (G n)
    · rw [hg] at h
      intro i hi
      by_cases c : i = n
      · rw [c]; exact hg
      · exact ih (by simpa using h) i (by omega)
    · rw [hg] at h; simp at h

theorem boxF_some (F G : Nat → Nat) (n : Nat) (b : Box) (h : boxF F G n = some b) :
    (∃ i, i < n ∧ goodB (F i) (G i) = true ∧ part (F i) = b.e0) ∧ (∃ i, i < n ∧ goodB (F i) (G i) = true ∧ part (F i) = b.e1) ∧
    (∃ i, i < n ∧ goodB (F i) (G i) = true ∧ part (G i) = b.n0) ∧ (∃ i, i < n ∧ goodB (F i) (G i) = true ∧ part (G i) = b.n1) ∧
    ∀ j, j < n → goodB (F j) (G j) = true → b.e0 ≤ part (F j) ∧ part (F j) ≤ b.e1 ∧ b.n0 ≤ part (G j) ∧ part (G j) ≤ b.n1 := by
  induction n generalizing b with
  | zero => simp [boxF] at h
  | succ n ih =>
    simp only [boxF] at h
    cases hg : goodB (F n) (G n)
    · rw [hg] at h
      obtain ⟨⟨i1, a1, b1⟩, ⟨i2, a2, b2⟩, ⟨i3, a3, b3⟩, ⟨i4, a4, b4⟩, hj⟩ := ih b (by simpa using h)
      refine ⟨⟨i1, by omega, b1⟩, ⟨i2, by omega, b2⟩, ⟨i3, by omega, b3⟩, ⟨i4, by omega, b4⟩, fun j hjn hgj => ?_⟩
      by_cases c : j = n
      · rw [c, hg] at hgj; cases hgj
      · exact hj j (by omega) hgj
    · rw [hg] at h
      simp only [if_true, Option.some.injEq] at h
      cases hl : boxF F G n with
      | none =>
        rw [hl] at h
        subst h
        refine ⟨⟨n, by omega, hg, rfl⟩, ⟨n, by omega, hg, rfl⟩, ⟨n, by omega, hg, rfl⟩, ⟨n, by omega, hg, rfl⟩, fun j hjn hgj => ?_⟩
        by_cases c : j = n
        · subst c; simp only [boxStep]; omega
        · have := boxF_none F G n hl j (by omega); rw [this] at hgj; cases hgj
      | some c =>
        rw [hl] at h
        subst h
        obtain ⟨⟨i1, a1, g1, b1⟩, ⟨i2, a2, g2, b2⟩, ⟨i3, a3, g3, b3⟩, ⟨i4, a4, g4, b4⟩, hj⟩ := ih c hl
        simp only [boxStep]
        refine ⟨?_, ?_, ?_, ?_, fun j hjn hgj => ?_⟩
        · by_cases q : c.e0 ≤ part (F n)
          · exact ⟨i1, by omega, g1, by omega⟩
          · exact ⟨n, by omega, hg, by omega⟩
        · by_cases q : part (F n) ≤ c.e1
          · exact ⟨i2, by omega, g2, by omega⟩
          · exact ⟨n, by omega, hg, by omega⟩
        · by_cases q : c.n0 ≤ part (G n)
          · exact ⟨i3, by omega, g3, by omega⟩
          · exact ⟨n, by omega, hg, by omega⟩
        · by_cases q : part (G n) ≤ c.n1
          · exact ⟨i4, by omega, g4, by omega⟩
          · exact ⟨n, by omega, hg, by omega⟩
        · by_cases q : j = n
          · subst q; omega
          · have := hj j (by omega) hgj; omega

theorem outP_E (F G : Nat → Nat) (n : Nat) : outP (fun i => goodB (F i) (G i)) (fun i => part (F i)) n n = boxE (boxF F G n) := by
  obtain ⟨h1, h2, h3⟩ := outP_spec (fun i => goodB (F i) (G i)) (fun i => part (F i)) n n
  cases hb : boxF F G n with
  | none =>
    rcases h3 with h3 | ⟨l, k, hl, hk, hg, _⟩
    · exact h3
    · have := boxF_none F G n hb l hl; simp only [this] at hg; cases hg
  | some b =>
    obtain ⟨⟨i1, a1, g1, b1⟩, ⟨i2, a2, g2, b2⟩, _, _, hj⟩ := boxF_some F G n b hb
    have q1 := h2 i2 i1 a2 a1 g2 g1
    simp only [boxE]
    rcases h3 with h3 | ⟨l, k, hl, hk, hg1, hg2, h4⟩
    · have := hj i1 a1 g1; omega
    · have t1 := hj l hl hg1; have t2 := hj k hk hg2; omega

theorem outP_N (F G : Nat → Nat) (n : Nat) : outP (fun i => goodB (F i) (G i)) (fun i => part (G i)) n n = boxN (boxF F G n) := by
  obtain ⟨h1, h2, h3⟩ := outP_spec (fun i => goodB (F i) (G i)) (fun i => part (G i)) n n
  cases hb : boxF F G n with
  | none =>
    rcases h3 with h3 | ⟨l, k, hl, hk, hg, _⟩
    · exact h3
    · have := boxF_none F G n hb l hl; simp only [this] at hg; cases hg
  | some b =>
    obtain ⟨_, _, ⟨i1, a1, g1, b1⟩, ⟨i2, a2, g2, b2⟩, hj⟩ := boxF_some F G n b hb
    have q1 := h2 i2 i1 a2 a1 g2 g1
    simp only [boxN]
    rcases h3 with h3 | ⟨l, k, hl, hk, hg1, hg2, h4⟩
    · have := hj i1 a1 g1; omega
    · have t1 := hj l hl hg1; have t2 := hj k hk hg2; omega

theorem inP_congr (g : Nat → Bool) (p p' : Nat → Int) (h : ∀ i, g i = true → p i = p' i) (i : Nat) (v : Int) : ∀ j, inP g p i v j = inP g p' i v j
  | 0 => rfl
  | j + 1 => by
    simp only [inP, inP_congr g p p' h i v j]
    cases hi : g i
    · rfl
    · cases hj : g j
      · rfl
      · rw [h i hi, h j hj]
theorem outP_congr (g : Nat → Bool) (p p' : Nat → Int) (h : ∀ i, g i = true → p i = p' i) (n : Nat) : ∀ i, outP g p n i = outP g p' n i
  | 0 => rfl
  | i + 1 => by simp only [outP, outP_congr g p p' h n i, inP_congr g p p' h]

theorem epV_bd (a b : Nat) : 0 ≤ epV a b ∧ epV a b ≤ 1099511627776 ∧ 0 ≤ nuV a b ∧ nuV a b ≤ 1099511627776 := by
  unfold epV nuV
  cases h : goodB a b
  · simp
  · have := good_parts h
    simp only [if_true]
    omega

set_option maxHeartbeats 4000000 in
theorem rspan_core (a : Option Addr) (n cap : Nat) (F G : Nat → Nat) (g : Nat → Bool) (p q : Nat → Int) (w : World) (b off : Nat) (ha : a = some ⟨b, off, none⟩) (hc : ∀ i, i < n → w.cell? ⟨b, off + i, none⟩ = some (.complex .f64 (F i) (G i))) (hlen : n * 16 ≤ 140737488355328)
    (hg : ∀ i, goodB (F i) (G i) = g i) (hp : ∀ i, epV (F i) (G i) = p i) (hq : ∀ i, nuV (F i) (G i) = q i) (hb : ∀ i, 0 ≤ p i ∧ p i ≤ 1099511627776 ∧ 0 ≤ q i ∧ q i ≤ 1099511627776) :
    Calls Try.prog 29 #[.slice a n cap] w fun e w' => e = .returned (.complex .f64 (floatOfInt .f64 (outP g p n n)) (floatOfInt .f64 (outP g q n n))) ∧ w' = w := by
  subst ha
  have HC : Hid (∀ i, i < n → w.cell? ⟨b, off + i, none⟩ = some (.complex .f64 (F i) (G i))) := hc
  have HB : Hid (∀ i, 0 ≤ p i ∧ p i ≤ 1099511627776 ∧ 0 ≤ q i ∧ q i ≤ 1099511627776) := hb
  clear hc hb
  go_enter Try.func29, Try.ntmps29
  go_wp2
  go_loop [3, 4, 5] (fun s t r => ∃ (i : Nat), i ≤ n ∧ r = .int .i64 i ∧ s = .int .i64 (outP g p n i) ∧ t = .int .i64 (outP g q n i)) (fun _ _ r => n - (intOf r).toNat)
  case atStart => exact ⟨0, Nat.zero_le _, rfl, rfl, rfl⟩
  case round =>
    obtain ⟨i, hi, rfl, rfl, rfl⟩ := hrel
    by_cases hlt : i < n
    · have d1 := HC.out i hlt
      go_wp2_with (go_at_call 11; refine (parts_v _ _ _).mono ?_; rintro e w' ⟨rfl, rfl⟩)
      clear d1
      go_loop [3, 4, 9] (fun s t r => ∃ (j : Nat), j ≤ n ∧ r = .int .i64 j ∧ s = .int .i64 (inP g p i (outP g p n i) j) ∧ t = .int .i64 (inP g q i (outP g q n i) j)) (fun _ _ r => n - (intOf r).toNat)
      case atStart => exact ⟨0, Nat.zero_le _, rfl, rfl, rfl⟩
      case round =>
        obtain ⟨j, hj, rfl, rfl, rfl⟩ := hrel
        by_cases hjt : j < n
        · have d2 := HC.out j hjt
          have s1 : Hid (inP g p i (outP g p n i) (j + 1) = if (g i && g j && decide (inP g p i (outP g p n i) j < p i - p j)) then p i - p j else inP g p i (outP g p n i) j) := (show inP g p i (outP g p n i) (j + 1) = _ from rfl)
          have s2 : Hid (inP g q i (outP g q n i) (j + 1) = if (g i && g j && decide (inP g q i (outP g q n i) j < q i - q j)) then q i - q j else inP g q i (outP g q n i) j) := (show inP g q i (outP g q n i) (j + 1) = _ from rfl)
          cases hgi : g i
          · have r1 : Hid (inP g p i (outP g p n i) (j + 1) = inP g p i (outP g p n i) j) := by have := s1.out; rw [hgi] at this; exact this
            have r2 : Hid (inP g q i (outP g q n i) (j + 1) = inP g q i (outP g q n i) j) := by have := s2.out; rw [hgi] at this; exact this
            clear s1 s2
            go_wp2_with (go_at_call 11; refine (parts_v _ _ _).mono ?_; rintro e w' ⟨rfl, rfl⟩)
            go_round
            case rel => exact ⟨j + 1, by omega, by go_num, by rw [r1.out], by rw [r2.out]⟩
            case measure => simp [intOf]; omega
          cases hgj : g j
          · have r1 : Hid (inP g p i (outP g p n i) (j + 1) = inP g p i (outP g p n i) j) := by have := s1.out; rw [hgi, hgj] at this; exact this
            have r2 : Hid (inP g q i (outP g q n i) (j + 1) = inP g q i (outP g q n i) j) := by have := s2.out; rw [hgi, hgj] at this; exact this
            clear s1 s2
            go_wp2_with (go_at_call 11; refine (parts_v _ _ _).mono ?_; rintro e w' ⟨rfl, rfl⟩)
            go_round
            case rel => exact ⟨j + 1, by omega, by go_num, by rw [r1.out], by rw [r2.out]⟩
            case measure => simp [intOf]; omega
          obtain ⟨b1, b2, b3, b4⟩ := HB.out i
          obtain ⟨c1, c2, c3, c4⟩ := HB.out j
          rw [hgi, hgj, Bool.true_and, Bool.true_and] at s1 s2
          by_cases k1 : inP g p i (outP g p n i) j < p i - p j
          · have r1 : Hid (inP g p i (outP g p n i) (j + 1) = p i - p j) := by have := s1.out; rw [decide_eq_true k1] at this; exact this
            by_cases k2 : inP g q i (outP g q n i) j < q i - q j
            · have r2 : Hid (inP g q i (outP g q n i) (j + 1) = q i - q j) := by have := s2.out; rw [decide_eq_true k2] at this; exact this
              clear s1 s2
              go_wp2_with (go_at_call 11; refine (parts_v _ _ _).mono ?_; rintro e w' ⟨rfl, rfl⟩)
              go_round
              case rel => exact ⟨j + 1, by omega, by go_num, by rw [r1.out], by rw [r2.out]⟩
              case measure => simp [intOf]; omega
            · have r2 : Hid (inP g q i (outP g q n i) (j + 1) = inP g q i (outP g q n i) j) := by have := s2.out; rw [decide_eq_false k2] at this; exact this
              clear s1 s2
              go_wp2_with (go_at_call 11; refine (parts_v _ _ _).mono ?_; rintro e w' ⟨rfl, rfl⟩)
              go_round
              case rel => exact ⟨j + 1, by omega, by go_num, by rw [r1.out], by rw [r2.out]⟩
              case measure => simp [intOf]; omega
          · have r1 : Hid (inP g p i (outP g p n i) (j + 1) = inP g p i (outP g p n i) j) := by have := s1.out; rw [decide_eq_false k1] at this; exact this
            by_cases k2 : inP g q i (outP g q n i) j < q i - q j
            · have r2 : Hid (inP g q i (outP g q n i) (j + 1) = q i - q j) := by have := s2.out; rw [decide_eq_true k2] at this; exact this
              clear s1 s2
              go_wp2_with (go_at_call 11; refine (parts_v _ _ _).mono ?_; rintro e w' ⟨rfl, rfl⟩)
              go_round
              case rel => exact ⟨j + 1, by omega, by go_num, by rw [r1.out], by rw [r2.out]⟩
              case measure => simp [intOf]; omega
            · have r2 : Hid (inP g q i (outP g q n i) (j + 1) = inP g q i (outP g q n i) j) := by have := s2.out; rw [decide_eq_false k2] at this; exact this
              clear s1 s2
              go_wp2_with (go_at_call 11; refine (parts_v _ _ _).mono ?_; rintro e w' ⟨rfl, rfl⟩)
              go_round
              case rel => exact ⟨j + 1, by omega, by go_num, by rw [r1.out], by rw [r2.out]⟩
              case measure => simp [intOf]; omega
        · have hjn : j = n := by omega
          subst hjn
          go_wp2
          go_round
          case rel => exact ⟨i + 1, by omega, by go_num, rfl, rfl⟩
          case measure => simp [intOf]; omega
    · have hin : i = n := by omega
      subst hin
      go_wp2
      go_ret
      exact ⟨rfl, rfl⟩

theorem rspan_any (a : Option Addr) (n cap : Nat) (F G : Nat → Nat) (w : World) (hrow : RowC w a n F G) (hlen : n * 16 ≤ 140737488355328) :
    Calls Try.prog 29 #[.slice a n cap] w fun e w' => e = .returned (.complex .f64 (floatOfInt .f64 (boxE (boxF F G n))) (floatOfInt .f64 (boxN (boxF F G n)))) ∧ w' = w := by
  rcases hrow with rfl | ⟨b, off, ha, _, hc⟩
  · have h0 : boxF F G 0 = none := rfl
    rw [h0]
    go_enter Try.func29, Try.ntmps29
    go_wp2
    go_loop [3, 4, 5] (fun s t r => s = .int .i64 0 ∧ t = .int .i64 0 ∧ r = .int .i64 0) (fun _ _ _ => 0)
    case atStart => exact ⟨rfl, rfl, rfl⟩
    case round =>
      obtain ⟨rfl, rfl, rfl⟩ := hrel
      go_wp2
      go_ret
      exact ⟨rfl, rfl⟩
  · have := rspan_core a n cap F G (fun i => goodB (F i) (G i)) (fun i => epV (F i) (G i)) (fun i => nuV (F i) (G i)) w b off ha hc hlen (fun _ => rfl) (fun _ => rfl) (fun _ => rfl) (fun i => epV_bd _ _)
    have e1 : ∀ i, goodB (F i) (G i) = true → epV (F i) (G i) = part (F i) := fun i hi => by unfold epV; rw [hi]; rfl
    have e2 : ∀ i, goodB (F i) (G i) = true → nuV (F i) (G i) = part (G i) := fun i hi => by unfold nuV; rw [hi]; rfl
    rw [outP_congr _ _ (fun i => part (F i)) e1, outP_congr _ _ (fun i => part (G i)) e2, outP_E, outP_N] at this
    exact this

end Go.Proofs.Ytiecakeeekeidaa
