/- The contracts of nums (the law's list of numbers), and of package mark's Last and Span over a list in memory. -/
import Derived.Test.YtiecakeeekeidabMarks
namespace Go.Proofs.Ytiecakeeekeidab
open Go.RowKit

/-- a list of pairs that came in: nothing, or its cells -/
def RowP (w : World) (a : Option Addr) (len : Nat) (A B : Nat → Int) : Prop :=
  len = 0 ∨ ∃ b off, a = some ⟨b, off, none⟩ ∧ b < w.heap.size ∧ ∀ i, i < len → w.cell? ⟨b, off + i * 2, none⟩ = some (.int .i64 (A i)) ∧ w.cell? ⟨b, off + i * 2 + 1, none⟩ = some (.int .i64 (B i)) ∧ (Lit.int .i64 (A i)).wf = true ∧ (Lit.int .i64 (B i)).wf = true

/-- complex numbers as cells -/
def CL (F G : Nat → Nat) (n : Nat) : List Value := (List.range n).map fun i => .complex .f64 (F i) (G i)
theorem CL_succ (F G : Nat → Nat) (n : Nat) : CL F G (n + 1) = CL F G n ++ [.complex .f64 (F n) (G n)] := by
  unfold CL; rw [List.range_succ, List.map_append]; rfl
theorem CL_len (F G : Nat → Nat) (n : Nat) : (CL F G n).length = n := by unfold CL; simp
theorem CL_get (F G : Nat → Nat) (n i : Nat) (h : i < n) : (CL F G n)[i]? = some (.complex .f64 (F i) (G i)) := by unfold CL; simp [h]

theorem Try.infoC : (Try.prog.info? 24).map (fun i => (i.zero, i.size, i.bytes)) = some (some (.complex .f64 0 0), 1, 16) := by kernel_rfl

set_option maxHeartbeats 2000000 in
theorem nums_any (a : Option Addr) (len cap : Nat) (A B : Nat → Int) (w : World) (hrow : RowP w a len A B) (hlen : len * 16 ≤ 140737488351232) :
    Calls Try.prog 17 #[.slice a len cap] w fun e w' => ∃ v, e = .returned v ∧ w'.ownsRow w.heap.size 24 1 v len (CL (fun i => qt (A i)) (fun i => qt (B i)) len) ∧ Below w.heap.size w w' := by
  obtain ⟨i0, hi, hz0, hz1, hz2⟩ := info_parts Try.infoC
  go_enter Try.func17, Try.ntmps17
  go_wp2
  go_loopw [3, 4] (fun v i wr => ∃ k : Nat, k ≤ len ∧ i = .int .i64 k ∧ wr.ownsRow w.heap.size 24 1 v k (CL (fun i => qt (A i)) (fun i => qt (B i)) k) ∧ Below w.heap.size w wr) (fun _ i _ => len - (intOf i).toNat)
  case atStart => exact ⟨0, Nat.zero_le _, rfl, World.ownsRow_nil _ _ _ _, Below.refl _ _⟩
  case round =>
    obtain ⟨k, hk, rfl, hown, hb⟩ := hrel
    by_cases hlt : k < len
    · rcases hrow with h0 | ⟨b, off, rfl, hbs, hc⟩
      · omega
      obtain ⟨c1, c2, w1, w2⟩ := hc k hlt
      have d1 : wr.cell? ⟨b, off + k * 2, none⟩ = some (.int .i64 (A k)) := (hb.cell (by exact hbs)).trans c1
      have d2 : wr.cell? ⟨b, off + k * 2 + 1, none⟩ = some (.int .i64 (B k)) := (hb.cell (by exact hbs)).trans c2
      have hn := fun w => num_any (A k) (B k) w w1 w2
      clear hc c1 c2 w1 w2
      go_wp2_with (first
        | (go_at_call 8; refine (hn _).mono ?_; rintro e w' ⟨rfl, rfl⟩)
        | (at_builtin; refine wpList_append_own _ rfl _ _ 37 rfl w.heap.size 24 i0 (.complex .f64 0 0) 1 16 Try.underlying37 hi hz0 hz1 hz2 rfl (by decide) _ _ _ rfl ((hown.alloc _).alloc _) ⟨wr.heap.size + 1, 0, none⟩ 1 1 [.complex .f64 (qt (A k)) (qt (B k))] rfl rfl ?c1 ?c2 ?c3 ?c4 ?c5 ?_))
      case c1 =>
        intro j u hj
        match j, hj with
        | 0, hj => simp at hj; subst hj; simp [Addr.add]
      case c2 => intro u hu; simp at hu; subst hu; rfl
      case c3 => unfold maxLen; omega
      case c4 => omega
      case c5 => have := hb.size; simp; omega
      intro v' w1 hown' hgrow _
      have hb1 : Below w.heap.size w w1 := Below.grown (hb.alloc hb.size _ |>.alloc (by have := hb.size; simp; omega) _) hgrow (by have := hb.size; simp; omega) (fun q hq => (hown.lt q hq).1)
      have hown2 : w1.ownsRow w.heap.size 24 1 v' (k + 1) (CL (fun i => qt (A i)) (fun i => qt (B i)) (k + 1)) := by rw [CL_succ]; exact hown'
      clear hown' hgrow hown hn d1 d2 hb
      go_wp2
      go_roundw
      case rel => exact ⟨k + 1, by omega, by go_num, hown2, hb1⟩
      case measure => simp [intOf]; omega
    · have hkl : k = len := by omega
      subst hkl
      clear hrow
      go_wp2
      go_ret
      exact ⟨_, rfl, hown, hb⟩

/-- a list of complex numbers in memory -/
def RowC (w : World) (a : Option Addr) (n : Nat) (F G : Nat → Nat) : Prop :=
  n = 0 ∨ ∃ b off, a = some ⟨b, off, none⟩ ∧ b < w.heap.size ∧ ∀ i, i < n → w.cell? ⟨b, off + i, none⟩ = some (.complex .f64 (F i) (G i))

theorem RowC.of_owns {w : World} {base : Nat} {v : Value} {n : Nat} {F G : Nat → Nat} (h : w.ownsRow base 24 1 v n (CL F G n)) : ∃ a cap, v = .slice a n cap ∧ RowC w a n F G := by
  have h' := h
  obtain ⟨_, h2⟩ := h
  rcases h2 with ⟨rfl, rfl⟩ | ⟨g, cap, cur, rfl, hg, hh, r⟩
  · exact ⟨none, 0, rfl, .inl rfl⟩
  · refine ⟨some ⟨g, 0, none⟩, cap, rfl, .inr ⟨g, 0, rfl, ?_, ?_⟩⟩
    · exact (h'.lt g rfl).2
    · intro i hi
      rw [Nat.zero_add]
      exact (h'.cellAt i (by omega)).trans (CL_get F G n i hi)

theorem RowC.below {w w' : World} {a : Option Addr} {n : Nat} {F G : Nat → Nat} (h : RowC w a n F G) (hb : Below w.heap.size w w') : RowC w' a n F G := by
  rcases h with h | ⟨b, off, rfl, hs, hc⟩
  · exact .inl h
  · exact .inr ⟨b, off, rfl, Nat.lt_of_lt_of_le hs hb.size, fun i hi => (hb.cell (by exact hs)).trans (hc i hi)⟩

/-- the last one of the first k: its parts -/
def lastStep (e' n' : Int) : Option (Int × Int) → Option (Int × Int)
  | none => some (e', n')
  | some (e, n) => if e < e' ∨ e' = e ∧ n < n' then some (e', n') else some (e, n)
def lastF (F G : Nat → Nat) : Nat → Option (Int × Int)
  | 0 => none
  | k + 1 => if goodB (F k) (G k) then lastStep (part (F k)) (part (G k)) (lastF F G k) else lastF F G k
def lastRe : Option (Int × Int) → Nat
  | none => 0
  | some (e, _) => floatOfInt .f64 e
def lastIm : Option (Int × Int) → Nat
  | none => 0
  | some (_, n) => floatOfInt .f64 n

/-- what is found is a mark -/
theorem lastF_bd (F G : Nat → Nat) (k : Nat) (e n : Int) (h : lastF F G k = some (e, n)) : 0 ≤ e ∧ e ≤ 1099511627776 ∧ 0 ≤ n ∧ n ≤ 1099511627776 := by
  induction k generalizing e n with
  | zero => simp [lastF] at h
  | succ k ih =>
    simp only [lastF] at h
    cases hg : goodB (F k) (G k)
    · rw [hg] at h; exact ih e n (by simpa using h)
    · rw [hg] at h
      have hp := good_parts hg
      simp only [if_true] at h
      cases hl : lastF F G k with
      | none => rw [hl] at h; simp only [lastStep, Option.some.injEq, Prod.mk.injEq] at h; obtain ⟨rfl, rfl⟩ := h; exact ⟨hp.1, hp.2.1, hp.2.2.1, hp.2.2.2.1⟩
      | some x =>
        obtain ⟨e', n'⟩ := x
        rw [hl] at h
        simp only [lastStep] at h
        split at h
        · simp only [Option.some.injEq, Prod.mk.injEq] at h; obtain ⟨rfl, rfl⟩ := h; exact ⟨hp.1, hp.2.1, hp.2.2.1, hp.2.2.2.1⟩
        · simp only [Option.some.injEq, Prod.mk.injEq] at h; obtain ⟨rfl, rfl⟩ := h; exact ih _ _ hl

set_option maxHeartbeats 400000 in
theorem plain_any (a b : Nat) (w : World) (h : goodB a b = true) :
    Calls Try.prog 24 #[.complex .f64 a b] w fun e w' => e = .returned (.complex .f64 (floatOfInt .f64 (part a)) (floatOfInt .f64 (part b))) ∧ w' = w := by
  go_enter Try.func24, Try.ntmps24
  go_wp2_with (first
    | (go_at_call 15; refine (epoch_any _ _ _).mono ?_; rintro e w' ⟨rfl, rfl⟩)
    | (go_at_call 16; refine (number_any _ _ _).mono ?_; rintro e w' ⟨rfl, rfl⟩))
  go_ret
  exact ⟨rfl, rfl⟩

theorem later_of {a b : Nat} {e n : Int} (h : goodB a b = true) (he : 0 ≤ e ∧ e ≤ 1099511627776 ∧ 0 ≤ n ∧ n ≤ 1099511627776) :
    laterB a b (floatOfInt .f64 e) (floatOfInt .f64 n) = decide (e < part a ∨ part a = e ∧ n < part b) := by
  have v1 := ofInt_val e (by omega)
  have v2 := ofInt_val n (by omega)
  have hg : goodB (floatOfInt .f64 e) (floatOfInt .f64 n) = true := by rw [good_of v1 v2]; exact decide_eq_true he
  unfold laterB
  rw [h, hg, part_of v1, part_of v2]
  rfl

set_option maxHeartbeats 2000000 in
theorem last_any (a : Option Addr) (n cap : Nat) (F G : Nat → Nat) (w : World) (hrow : RowC w a n F G) (hlen : n * 16 ≤ 140737488355328) :
    Calls Try.prog 18 #[.slice a n cap] w fun e w' => e = .returned (.tuple #[.complex .f64 (lastRe (lastF F G n)) (lastIm (lastF F G n)), .bool (lastF F G n).isSome]) ∧ w' = w := by
  go_enter Try.func18, Try.ntmps18
  go_wp2
  go_loop [4, 5, 10] (fun t f i => ∃ (k : Nat) (o : Option (Int × Int)), k ≤ n ∧ i = .int .i64 k ∧ Hid (o = lastF F G k) ∧ t = .complex .f64 (lastRe o) (lastIm o) ∧ f = .bool o.isSome) (fun _ _ i => n - (intOf i).toNat)
  case atStart => exact ⟨0, none, Nat.zero_le _, rfl, rfl, rfl, rfl⟩
  case round =>
    obtain ⟨k, o, hk, rfl, ho, rfl, rfl⟩ := hrel
    by_cases hlt : k < n
    · rcases hrow with h0 | ⟨b, off, rfl, hbs, hc⟩
      · omega
      have d1 := hc k hlt
      clear hc
      have hstep : Hid (lastF F G (k + 1) = if goodB (F k) (G k) then lastStep (part (F k)) (part (G k)) o else o) := by
        have h1 := ho.out
        subst h1
        exact (show lastF F G (k + 1) = _ from rfl)
      cases hg : goodB (F k) (G k)
      · have hs : Hid (o = lastF F G (k + 1)) := by have := hstep.out; rw [hg] at this; exact this.symm
        clear hstep ho
        go_wp2_with (go_at_call 9; refine (good_any _ _ _).mono ?_; rintro e w' ⟨rfl, rfl⟩)
        go_round
        case rel => exact ⟨k + 1, o, by omega, by go_num, hs, rfl, rfl⟩
        case measure => simp [intOf]; omega
      · have hp := fun w => plain_any (F k) (G k) w hg
        cases o with
        | none =>
          have hs : Hid (some (part (F k), part (G k)) = lastF F G (k + 1)) := by have := hstep.out; rw [hg] at this; exact this.symm
          clear hstep ho
          simp only [lastRe, lastIm, Option.isSome_none]
          go_wp2_with (first
            | (go_at_call 9; refine (good_any _ _ _).mono ?_; rintro e w' ⟨rfl, rfl⟩)
            | (go_at_call 24; refine (hp _).mono ?_; rintro e w' ⟨rfl, rfl⟩))
          go_round
          case rel => exact ⟨k + 1, _, by omega, by go_num, hs, rfl, rfl⟩
          case measure => simp [intOf]; omega
        | some x =>
          obtain ⟨e, m⟩ := x
          have hl := later_of hg (lastF_bd F G k e m ho.out.symm)
          by_cases hc : e < part (F k) ∨ part (F k) = e ∧ m < part (G k)
          · have hs : Hid (some (part (F k), part (G k)) = lastF F G (k + 1)) := by have := hstep.out; rw [hg] at this; simp only [if_true, lastStep] at this; rw [if_pos hc] at this; exact this.symm
            rw [decide_eq_true hc] at hl
            clear hstep ho hc
            simp only [lastRe, lastIm, Option.isSome_some]
            go_wp2_with (first
              | (go_at_call 9; refine (good_any _ _ _).mono ?_; rintro e w' ⟨rfl, rfl⟩)
              | (go_at_call 10; refine (later_any _ _ _ _ _).mono ?_; rintro e w' ⟨rfl, rfl⟩)
              | (go_at_call 24; refine (hp _).mono ?_; rintro e w' ⟨rfl, rfl⟩))
            go_round
            case rel => exact ⟨k + 1, _, by omega, by go_num, hs, rfl, rfl⟩
            case measure => simp [intOf]; omega
          · have hs : Hid (some (e, m) = lastF F G (k + 1)) := by have := hstep.out; rw [hg] at this; simp only [if_true, lastStep] at this; rw [if_neg hc] at this; exact this.symm
            rw [decide_eq_false hc] at hl
            clear hstep ho hc
            simp only [lastRe, lastIm, Option.isSome_some]
            go_wp2_with (first
              | (go_at_call 9; refine (good_any _ _ _).mono ?_; rintro e w' ⟨rfl, rfl⟩)
              | (go_at_call 10; refine (later_any _ _ _ _ _).mono ?_; rintro e w' ⟨rfl, rfl⟩))
            go_round
            case rel => exact ⟨k + 1, _, by omega, by go_num, hs, rfl, rfl⟩
            case measure => simp [intOf]; omega
    · have hkl : k = n := by omega
      subst hkl
      have h1 := ho.out
      subst h1
      clear hrow ho
      go_wp2
      go_ret2
      exact ⟨rfl, rfl⟩

end Go.Proofs.Ytiecakeeekeidab
