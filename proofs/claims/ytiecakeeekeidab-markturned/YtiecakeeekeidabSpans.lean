/- The contract of package mark's Span over a list in memory: how far the good ones lie apart. -/
import Derived.Test.YtiecakeeekeidabLists
namespace Go.Proofs.Ytiecakeeekeidab
open Go.RowKit

def pickMin (x y : Nat) : Ordering → Nat
  | .lt => x
  | .gt => y
  | .eq => if (FloatKind.f64.decode x).neg then x else y
def pickMax (x y : Nat) : Ordering → Nat
  | .lt => y
  | .gt => x
  | .eq => if (FloatKind.f64.decode x).neg then y else x
theorem min_run {P : Program} (x y : Nat) (c : Ordering) (h : FloatKind.f64.format.order x y = some c) (ts : Array TypeId) (t : TypeId) (w : World) :
    (Builtin.min_ ts t #[.float .f64 x, .float .f64 y]).run P w = .ok (.float .f64 (pickMin x y c)) w := by
  have e : Builtin.min_ ts t #[.float .f64 x, .float .f64 y] = [Value.float .f64 y].foldlM Builtin.min2 (.float .f64 x) := rfl
  rw [e]
  simp only [List.foldlM_cons, List.foldlM_nil, Builtin.min2, h]
  cases c <;> rfl
theorem max_run {P : Program} (x y : Nat) (c : Ordering) (h : FloatKind.f64.format.order x y = some c) (ts : Array TypeId) (t : TypeId) (w : World) :
    (Builtin.max_ ts t #[.float .f64 x, .float .f64 y]).run P w = .ok (.float .f64 (pickMax x y c)) w := by
  have e : Builtin.max_ ts t #[.float .f64 x, .float .f64 y] = [Value.float .f64 y].foldlM Builtin.max2 (.float .f64 x) := rfl
  rw [e]
  simp only [List.foldlM_cons, List.foldlM_nil, Builtin.max2, h]
  cases c <;> rfl

theorem min_law {x y : Nat} {a b : Int} (hx : fval x = some (a * U)) (hy : fval y = some (b * U)) :
    ∃ r, fval r = some (min a b * U) ∧ ∀ (ts : Array TypeId) (t : TypeId) (w : World), (Builtin.min_ ts t #[.float .f64 x, .float .f64 y]).run Try.prog w = .ok (.float .f64 r) w := by
  have h := order_whole hx hy
  refine ⟨_, ?_, min_run x y _ h⟩
  rcases Int.lt_trichotomy a b with c | c | c
  · rw [cmp_lt c, show min a b = a by omega]; exact hx
  · subst c
    rw [cmp_eq rfl, show min a a = a by omega]
    simp only [pickMin]
    split
    · exact hx
    · exact hy
  · rw [cmp_gt c, show min a b = b by omega]; exact hy
theorem max_law {x y : Nat} {a b : Int} (hx : fval x = some (a * U)) (hy : fval y = some (b * U)) :
    ∃ r, fval r = some (max a b * U) ∧ ∀ (ts : Array TypeId) (t : TypeId) (w : World), (Builtin.max_ ts t #[.float .f64 x, .float .f64 y]).run Try.prog w = .ok (.float .f64 r) w := by
  have h := order_whole hx hy
  refine ⟨_, ?_, max_run x y _ h⟩
  rcases Int.lt_trichotomy a b with c | c | c
  · rw [cmp_lt c, show max a b = b by omega]; exact hy
  · subst c
    rw [cmp_eq rfl, show max a a = a by omega]
    simp only [pickMax]
    split
    · exact hy
    · exact hx
  · rw [cmp_gt c, show max a b = a by omega]; exact hx

/-- the least and the greatest parts of the first k -/
structure Box where
  e0 : Int
  n0 : Int
  e1 : Int
  n1 : Int
def boxStep (e n : Int) : Option Box → Box
  | none => ⟨e, n, e, n⟩
  | some b => ⟨min b.e0 e, min b.n0 n, max b.e1 e, max b.n1 n⟩
def boxF (F G : Nat → Nat) : Nat → Option Box
  | 0 => none
  | k + 1 => if goodB (F k) (G k) then some (boxStep (part (F k)) (part (G k)) (boxF F G k)) else boxF F G k
def boxE : Option Box → Int
  | none => 0
  | some b => b.e1 - b.e0
def boxN : Option Box → Int
  | none => 0
  | some b => b.n1 - b.n0

/-- the bits stand for the box -/
def Fits (o : Option Box) (lr li mr mi : Nat) : Prop :=
  match o with
  | none => lr = 0 ∧ li = 0 ∧ mr = 0 ∧ mi = 0
  | some b => fval lr = some (b.e0 * U) ∧ fval li = some (b.n0 * U) ∧ fval mr = some (b.e1 * U) ∧ fval mi = some (b.n1 * U)

theorem box_bd (F G : Nat → Nat) (k : Nat) (b : Box) (h : boxF F G k = some b) : 0 ≤ b.e0 ∧ b.e0 ≤ b.e1 ∧ b.e1 ≤ 1099511627776 ∧ 0 ≤ b.n0 ∧ b.n0 ≤ b.n1 ∧ b.n1 ≤ 1099511627776 := by
  induction k generalizing b with
  | zero => simp [boxF] at h
  | succ k ih =>
    simp only [boxF] at h
    cases hg : goodB (F k) (G k)
    · rw [hg] at h; exact ih b (by simpa using h)
    · rw [hg] at h
      have hp := good_parts hg
      simp only [if_true, Option.some.injEq] at h
      cases hl : boxF F G k with
      | none =>
        rw [hl] at h; subst h
        simp only [boxStep]
        omega
      | some c =>
        rw [hl] at h; subst h
        have := ih c hl
        simp only [boxStep]
        omega

/-- what a round does to the bits -/
theorem box_round {o : Option Box} {lr li mr mi x y : Nat} (lr' li' mr' mi' : Nat) (hg : goodB x y = true) (hf : Fits o lr li mr mi)
    (hn : o = none → lr' = x ∧ li' = y ∧ mr' = x ∧ mi' = y) (hs : ∀ b, o = some b → lr' = lr ∧ li' = li ∧ mr' = mr ∧ mi' = mi) :
    ∃ r1 r2 r3 r4, Fits (some (boxStep (part x) (part y) o)) r1 r2 r3 r4 ∧
      (∀ (ts : Array TypeId) (t : TypeId) (w : World), (Builtin.min_ ts t #[.float .f64 lr', .float .f64 x]).run Try.prog w = .ok (.float .f64 r1) w) ∧
      (∀ (ts : Array TypeId) (t : TypeId) (w : World), (Builtin.min_ ts t #[.float .f64 li', .float .f64 y]).run Try.prog w = .ok (.float .f64 r2) w) ∧
      (∀ (ts : Array TypeId) (t : TypeId) (w : World), (Builtin.max_ ts t #[.float .f64 mr', .float .f64 x]).run Try.prog w = .ok (.float .f64 r3) w) ∧
      (∀ (ts : Array TypeId) (t : TypeId) (w : World), (Builtin.max_ ts t #[.float .f64 mi', .float .f64 y]).run Try.prog w = .ok (.float .f64 r4) w) := by
  obtain ⟨_, _, _, _, vx, vy⟩ := good_parts hg
  cases o with
  | none =>
    obtain ⟨rfl, rfl, rfl, rfl⟩ := hn rfl
    obtain ⟨r1, f1, l1⟩ := min_law vx vx
    obtain ⟨r2, f2, l2⟩ := min_law vy vy
    obtain ⟨r3, f3, l3⟩ := max_law vx vx
    obtain ⟨r4, f4, l4⟩ := max_law vy vy
    refine ⟨r1, r2, r3, r4, ?_, l1, l2, l3, l4⟩
    simp only [boxStep, Fits]
    rw [Int.min_self] at f1 f2
    rw [Int.max_self] at f3 f4
    exact ⟨f1, f2, f3, f4⟩
  | some b =>
    obtain ⟨rfl, rfl, rfl, rfl⟩ := hs b rfl
    obtain ⟨g1, g2, g3, g4⟩ := hf
    obtain ⟨r1, f1, l1⟩ := min_law g1 vx
    obtain ⟨r2, f2, l2⟩ := min_law g2 vy
    obtain ⟨r3, f3, l3⟩ := max_law g3 vx
    obtain ⟨r4, f4, l4⟩ := max_law g4 vy
    exact ⟨r1, r2, r3, r4, ⟨f1, f2, f3, f4⟩, l1, l2, l3, l4⟩

theorem box_end (F G : Nat → Nat) (k : Nat) {lr li mr mi : Nat} (hf : Fits (boxF F G k) lr li mr mi) :
    ∃ x y, fval x = some (boxE (boxF F G k) * U) ∧ fval y = some (boxN (boxF F G k) * U) ∧ cSumBits .sub .f64 mr mi lr li = some (x, y) := by
  cases h : boxF F G k with
  | none =>
    rw [h] at hf
    obtain ⟨rfl, rfl, rfl, rfl⟩ := hf
    obtain ⟨x, hx, vx⟩ := sub_whole val_zeroU val_zeroU (by omega)
    refine ⟨x, x, vx, vx, ?_⟩
    unfold cSumBits; rw [hx]; rfl
  | some b =>
    rw [h] at hf
    have hb := box_bd F G k b h
    obtain ⟨g1, g2, g3, g4⟩ := hf
    obtain ⟨x, hx, vx⟩ := sub_whole g3 g1 (by omega)
    obtain ⟨y, hy, vy⟩ := sub_whole g4 g2 (by omega)
    refine ⟨x, y, vx, vy, ?_⟩
    unfold cSumBits; rw [hx, hy]; rfl

set_option maxHeartbeats 2000000 in
theorem span_any (a : Option Addr) (n cap : Nat) (F G : Nat → Nat) (w : World) (hrow : RowC w a n F G) (hlen : n * 16 ≤ 140737488355328) :
    Calls Try.prog 19 #[.slice a n cap] w fun e w' => ∃ x y, e = .returned (.complex .f64 x y) ∧ fval x = some (boxE (boxF F G n) * U) ∧ fval y = some (boxN (boxF F G n) * U) ∧ w' = w := by
  go_enter Try.func19, Try.ntmps19
  go_wp2
  go_loop [3, 4, 5, 10] (fun s t f i => ∃ (k lr li mr mi : Nat) (o : Option Box), k ≤ n ∧ i = .int .i64 k ∧ Hid (o = boxF F G k) ∧ s = .complex .f64 lr li ∧ t = .complex .f64 mr mi ∧ f = .bool o.isSome ∧ Hid (Fits o lr li mr mi)) (fun _ _ _ i => n - (intOf i).toNat)
  case atStart => exact ⟨0, 0, 0, 0, 0, none, Nat.zero_le _, rfl, rfl, rfl, rfl, rfl, ⟨rfl, rfl, rfl, rfl⟩⟩
  case round =>
    obtain ⟨k, lr, li, mr, mi, o, hk, rfl, ho, rfl, rfl, rfl, hf⟩ := hrel
    by_cases hlt : k < n
    · rcases hrow with h0 | ⟨b, off, rfl, hbs, hc⟩
      · omega
      have d1 := hc k hlt
      clear hc
      have hstep : Hid (boxF F G (k + 1) = if goodB (F k) (G k) then some (boxStep (part (F k)) (part (G k)) o) else o) := by
        have h1 := ho.out
        subst h1
        exact (show boxF F G (k + 1) = _ from rfl)
      cases hg : goodB (F k) (G k)
      · have hs : Hid (o = boxF F G (k + 1)) := by have := hstep.out; rw [hg] at this; exact this.symm
        clear hstep ho
        go_wp2_with (go_at_call 9; refine (good_any _ _ _).mono ?_; rintro e w' ⟨rfl, rfl⟩)
        go_round
        case rel => exact ⟨k + 1, lr, li, mr, mi, o, by omega, by go_num, hs, rfl, rfl, rfl, hf⟩
        case measure => simp [intOf]; omega
      · have hs : Hid (some (boxStep (part (F k)) (part (G k)) o) = boxF F G (k + 1)) := by have := hstep.out; rw [hg] at this; exact this.symm
        clear hstep ho
        cases o with
        | none =>
          obtain ⟨r1, r2, r3, r4, hF, l1, l2, l3, l4⟩ := box_round (F k) (G k) (F k) (G k) hg hf.out (fun _ => ⟨rfl, rfl, rfl, rfl⟩) (fun b h => by cases h)
          have HF : Hid (Fits (some (boxStep (part (F k)) (part (G k)) none)) r1 r2 r3 r4) := hF
          clear hF hf
          simp only [Option.isSome_none]
          go_wp2_with (go_at_call 9; refine (good_any _ _ _).mono ?_; rintro e w' ⟨rfl, rfl⟩)
          go_round
          case rel => exact ⟨k + 1, r1, r2, r3, r4, _, by omega, by go_num, hs, rfl, rfl, rfl, HF⟩
          case measure => simp [intOf]; omega
        | some bx =>
          obtain ⟨r1, r2, r3, r4, hF, l1, l2, l3, l4⟩ := box_round lr li mr mi hg hf.out (fun h => by cases h) (fun b h => ⟨rfl, rfl, rfl, rfl⟩)
          have HF : Hid (Fits (some (boxStep (part (F k)) (part (G k)) (some bx))) r1 r2 r3 r4) := hF
          clear hF hf
          simp only [Option.isSome_some]
          go_wp2_with (go_at_call 9; refine (good_any _ _ _).mono ?_; rintro e w' ⟨rfl, rfl⟩)
          go_round
          case rel => exact ⟨k + 1, r1, r2, r3, r4, _, by omega, by go_num, hs, rfl, rfl, rfl, HF⟩
          case measure => simp [intOf]; omega
    · have hkl : k = n := by omega
      subst hkl
      have h1 := ho.out
      subst h1
      obtain ⟨x, y, vx, vy, hs⟩ := box_end F G k hf.out
      have hS := fun w => run_complex_sum (P := Try.prog) w .sub (.inr rfl) 24 .f64 mr mi lr li x y hs
      have VX : Hid (fval x = some (boxE (boxF F G k) * U)) := vx
      have VY : Hid (fval y = some (boxN (boxF F G k) * U)) := vy
      clear hrow ho hs hf vx vy
      go_wp2
      go_ret
      exact ⟨x, y, rfl, VX, VY, rfl⟩

end Go.Proofs.Ytiecakeeekeidab
