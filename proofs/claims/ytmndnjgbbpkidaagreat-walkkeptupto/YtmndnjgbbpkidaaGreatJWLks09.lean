/- Ranges over the cache: Len, Negatives. -/
import Derived.Test.YtmndnjgbbpkidaaGreatJWLks08
import Derived.Deep.LoopGhost
import Derived.Test.YtmndnjgbbpkidaaGreatJWLks02
import Derived.Deep.RegionHeld3
import Derived.Sort.Grow
import Derived.Sort.Row
namespace Go.Proofs.YtmndnjgbbpkidaaGreat
section
open Go.RowKit
attribute [local go_sem ↓ high] loadEn storeEn loadCa storeCa buildCa
attribute [local go_sem high] eqMN

theorem om2_split {R : Pm} {A B : List (Int × Nat)} {x : Int × Nat} (h : om2 R = A ++ x :: B) : ∃ A' y B', R = A' ++ y :: B' ∧ om2 A' = A ∧ om2 B' = B ∧ x = (y.1, y.2.1) := by
  unfold om2 at h
  obtain ⟨A', R', rfl, hA, hR⟩ := List.map_eq_append_iff.1 h
  obtain ⟨y, B', rfl, hy, hB⟩ := List.map_eq_cons_iff.1 hR
  exact ⟨A', y, B', rfl, hA, hB, hy.symm⟩
theorem om2_app (a b : Pm) : om2 (a ++ b) = om2 a ++ om2 b := by unfold om2; rw [List.map_append]
theorem cont_perm {a b : Pm} (h : a.Perm b) : (cont a).Perm (cont b) := by unfold cont; exact h.flatMap_right _
/-- a range over the directories under way: D have come, R are still to come -/
structure RgO (wr : World) (p : Nat) (c : Pc) (r : Nat) (D R : Pm) : Prop where
  rg : Rng (Value.int .i64) mvM wr (some c.g0) r (om2 R)
  all : (D ++ R).Perm c.om
theorem RgO.next {D A B : Pm} {y : Int × Nat × List (ByteArray × En × Nat)} {om : Pm} (h : (D ++ (A ++ y :: B)).Perm om) : ((D ++ [y]) ++ (A ++ B)).Perm om := by
  refine List.Perm.trans ?_ h
  rw [List.append_assoc]
  refine List.Perm.append_left D ?_
  exact (List.perm_middle (a := y) (l₁ := A) (l₂ := B)).symm
theorem RgO.mem {D A B : Pm} {y : Int × Nat × List (ByteArray × En × Nat)} {om : Pm} (h : (D ++ (A ++ y :: B)).Perm om) : y ∈ om := h.mem_iff.1 (by simp)
set_option maxHeartbeats 4000000 in
theorem len_p (p : Nat) (c : Pc) (s : Cs) (w : World) (h : IsC w p c) (hs : Says c s) (hl : s.L.length ≤ 1000000000000000) : Calls Tryz.prog 37 #[.pointer (some ⟨p, 0, none⟩)] w fun x w' => x = .returned (.int .i64 s.L.length) ∧ Below w.heap.size w w' := by
  obtain ⟨c0, -, -, -⟩ := h.cells
  obtain ⟨n, hn⟩ : ∃ n, s.L.length = n := ⟨_, rfl⟩
  rw [hn] at hl ⊢
  have HI : Hid (IsC w p c ∧ (cont c.om).length = n ∧ MapV (Value.int .i64) mvM w (some c.g0) (om2 c.om)) := ⟨h, by rw [hs.rep.len, hn], h.outer⟩
  clear h hs hn
  go_enter Tryz.func37, Tryz.ntmps37
  go_wp2_with (first
    | (at_range; refine wpList_rangeM _ rfl _ _ rfl _ _ undO (some c.g0) (om2 c.om) rfl HI.out.2.2 ?_; intro w0 hr0 hb0 hs0; have H0 : Hid (Rng (Value.int .i64) mvM w0 (some c.g0) w.heap.size (om2 c.om) ∧ Below w.heap.size w w0 ∧ w0.heap.size = w.heap.size + 1) := ⟨hr0, hb0, hs0⟩; clear hr0 hb0 hs0)
    | go_in)
  go_frame
  go_loopw [3, 5] (fun s3 _ wr => ∃ m : Nat, s3 = .int .i64 m ∧ Hid (∃ D R, RgO wr p c w.heap.size D R ∧ (cont D).length = m ∧ Below w.heap.size w wr)) (fun _ _ wr => rngLeft wr w.heap.size)
  case atStart => exact ⟨0, rfl, [], c.om, ⟨H0.out.1, List.Perm.refl _⟩, rfl, H0.out.2.1⟩
  case round =>
    obtain ⟨m, rfl, HR⟩ := hrel
    obtain ⟨D, R, hR, hm, hb⟩ := HR.out
    have hrg := hR.rg
    go_wp2_with (first
      | (at_next; refine wpList_nextM _ rfl _ rfl (some c.g0) w.heap.size _ rfl hrg ?_ ?_)
      | go_in)
    · intro hl0
      have HE : Hid (m = n ∧ Below w.heap.size w wr) := by
        refine ⟨?_, hb⟩
        have hR0 : R = [] := by
          unfold om2 at hl0
          exact List.map_eq_nil_iff.1 hl0
        have := hR.all
        rw [hR0, List.append_nil] at this
        rw [← hm, ← HI.out.2.1, (cont_perm this).length_eq]
      clear hrg hR HR hm hb
      obtain ⟨h1, h2⟩ := HE.out
      subst h1
      go_wp2
      go_ret
      exact ⟨rfl, h2⟩
    · intro A d g B w1 hx hrg1 hO1 hs1 hen
      obtain ⟨A', y, B', hRe, hA, hB, hxy⟩ := om2_split hx
      obtain ⟨rfl, rfl⟩ : d = y.1 ∧ g = y.2.1 := ⟨congrArg Prod.fst hxy, congrArg Prod.snd hxy⟩
      rw [hRe] at hR
      have hy := RgO.mem hR.all
      have hb1 : Below w.heap.size w w1 := Only.below hb hO1 hb.size (fun k e => Nat.le_of_eq e.symm)
      have i1 := HI.out.1.below hb1
      have hlen : ∀ ty, (Builtin.len_ #[97] ty #[.map (some y.2.1)]).run Tryz.prog w1 = .ok (.int .i64 y.2.2.length) w1 := fun ty => lenM undI ty w1 (some y.2.1) y.2.2 (i1.inner y hy)
      have hle : m + y.2.2.length ≤ n := by
        have h1 := (cont_perm (RgO.next hR.all)).length_eq
        rw [cont_app, cont_app, cont_cons] at h1
        simp only [List.length_append, List.length_map] at h1
        have h3 := HI.out.2.1
        omega
      have hw : IntKind.i64.wrap ((m : Int) + (y.2.2.length : Int)) = ((m + y.2.2.length : Nat) : Int) := by
        rw [show ((m + y.2.2.length : Nat) : Int) = (m : Int) + (y.2.2.length : Int) by omega]; exact IntWalk.i64_in _ (by omega)
      have H2 : Hid (∃ D R, RgO w1 p c w.heap.size D R ∧ (cont D).length = m + y.2.2.length ∧ Below w.heap.size w w1) := by
        refine ⟨D ++ [y], A' ++ B', ⟨by rw [om2_app, hA, hB]; exact hrg1, RgO.next hR.all⟩, ?_, hb1⟩
        rw [cont_app, cont_cons, List.length_append, List.length_append, List.length_map, hm]
        simp [cont]
      have hme : rngLeft w1 w.heap.size < rngLeft wr w.heap.size := by
        rw [hrg1.left, hrg.left, hx]
        simp
      unfold mvM at hen
      obtain ⟨M, hM⟩ : ∃ M, m + y.2.2.length = M := ⟨_, rfl⟩
      rw [hM] at hw H2
      clear hrg hR HR hm hb hx hrg1 hO1 hs1 hRe hA hB hy hb1 i1 hle hM
      unfold mvM
      go_wp2
      go_roundw
      case rel => exact ⟨M, rfl, H2⟩
      case measure => exact hme
end
section
open Go.RowKit Go.Sort

def cmpI (a b : Int) : Int := if a < b then -1 else if b < a then 1 else 0
def cmpS (x y : ByteArray) : Int := if Op.bytesLess x.toList y.toList then -1 else if x.toList == y.toList then 0 else 1
theorem cmpI_p (a b : Int) (w : World) : Calls Tryz.prog 64 #[.int .i64 a, .int .i64 b] w fun e w' => e = .returned (.int .i64 (cmpI a b)) ∧ w' = w := by
  have hn : ∀ x w, Calls Tryz.prog 85 #[.int .i64 x] w fun e w' => e = .returned (.bool false) ∧ w' = w := by
    intro x w
    go_enter Tryz.func85, Tryz.ntmps85
    go_wp2
    go_ret
    exact ⟨by simp, rfl⟩
  have HN : Hid (∀ x w, Calls Tryz.prog 85 #[.int .i64 x] w fun e w' => e = .returned (.bool false) ∧ w' = w) := hn
  clear hn
  unfold cmpI
  by_cases h1 : a < b
  · rw [if_pos h1]
    go_enter Tryz.func64, Tryz.ntmps64
    go_wp2_with (go_at_call 85; refine (HN.out _ _).mono ?_; rintro x w1 ⟨rfl, rfl⟩)
    go_ret
    exact ⟨rfl, rfl⟩
  · rw [if_neg h1]
    by_cases h2 : b < a
    · rw [if_pos h2]
      go_enter Tryz.func64, Tryz.ntmps64
      go_wp2_with (go_at_call 85; refine (HN.out _ _).mono ?_; rintro x w1 ⟨rfl, rfl⟩)
      go_ret
      exact ⟨rfl, rfl⟩
    · rw [if_neg h2]
      go_enter Tryz.func64, Tryz.ntmps64
      go_wp2_with (go_at_call 85; refine (HN.out _ _).mono ?_; rintro x w1 ⟨rfl, rfl⟩)
      go_ret
      exact ⟨rfl, rfl⟩
theorem cmpS_p (x y : ByteArray) (w : World) : Calls Tryz.prog 67 #[.string x, .string y] w fun e w' => e = .returned (.int .i64 (cmpS x y)) ∧ w' = w := by
  have hn : ∀ x w, Calls Tryz.prog 87 #[.string x] w fun e w' => e = .returned (.bool false) ∧ w' = w := by
    intro x w
    go_enter Tryz.func87, Tryz.ntmps87
    go_wp2
    go_ret
    exact ⟨by simp, rfl⟩
  have HN : Hid (∀ x w, Calls Tryz.prog 87 #[.string x] w fun e w' => e = .returned (.bool false) ∧ w' = w) := hn
  clear hn
  unfold cmpS
  cases h1 : Op.bytesLess x.toList y.toList with
  | true =>
    simp only [if_true]
    go_enter Tryz.func67, Tryz.ntmps67
    go_wp2_with (go_at_call 87; refine (HN.out _ _).mono ?_; rintro z w1 ⟨rfl, rfl⟩)
    go_ret
    exact ⟨rfl, rfl⟩
  | false =>
    simp only [Bool.false_eq_true, if_false]
    cases h2 : x.toList == y.toList with
    | true =>
      simp only [if_true]
      go_enter Tryz.func67, Tryz.ntmps67
      go_wp2_with (go_at_call 87; refine (HN.out _ _).mono ?_; rintro z w1 ⟨rfl, rfl⟩)
      go_ret
      exact ⟨rfl, rfl⟩
    | false =>
      simp only [Bool.false_eq_true, if_false]
      go_enter Tryz.func67, Tryz.ntmps67
      go_wp2_with (go_at_call 87; refine (HN.out _ _).mono ?_; rintro z w1 ⟨rfl, rfl⟩)
      go_ret
      exact ⟨rfl, rfl⟩
theorem cmpI_neg (a b : Int) : (cmpI a b < 0) = (a < b) := by
  unfold cmpI
  by_cases h1 : a < b
  · simp [h1]
  · by_cases h2 : b < a <;> simp [h1, h2]
theorem cmpI_zero (a b : Int) : cmpI a b = 0 ↔ a = b := by
  unfold cmpI
  by_cases h1 : a < b
  · rw [if_pos h1]; constructor <;> intro h <;> omega
  · by_cases h2 : b < a
    · rw [if_neg h1, if_pos h2]; constructor <;> intro h <;> omega
    · rw [if_neg h1, if_neg h2]; constructor <;> intro h <;> omega
theorem cmpS_neg (x y : ByteArray) : decide (cmpS x y < 0) = Op.bytesLess x.toList y.toList := by
  unfold cmpS
  cases Op.bytesLess x.toList y.toList with
  | true => rfl
  | false => cases x.toList == y.toList <;> rfl
theorem take_put (cur : Array Value) (l : List Value) (h : l.length ≤ cur.size) : (putCells id 0 l.toArray cur).toList.take l.length = l := by
  apply List.ext_getElem?
  intro j
  by_cases hj : j < l.length
  · rw [List.getElem?_take_of_lt hj, Array.getElem?_toList]
    simp [putCells, hj, show j < cur.size by omega]
  · rw [List.getElem?_take_eq_none (by omega), List.getElem?_eq_none (by omega)]

theorem grow2 (w : World) (o1 o2 : Obj) : (w.alloc o1).alloc o2 = grow w (#[o1] ++ #[o2]) := by rw [alloc_eq_grow, alloc_eq_grow, grow_grow]
theorem snoc_mid {α : Type} {D A B l : List α} {y : α} (h : (D ++ (A ++ y :: B)).Perm l) : ((D ++ [y]) ++ (A ++ B)).Perm l := by
  refine List.Perm.trans ?_ h
  rw [List.append_assoc]
  refine List.Perm.append_left D ?_
  exact (List.perm_middle (a := y) (l₁ := A) (l₂ := B)).symm
end
section
open Go.RowKit
attribute [local go_sem ↓ high] loadEn storeEn loadCa storeCa buildCa
attribute [local go_sem high] eqMN

def negC (C : List (En × Nat)) : Nat := (C.filter fun x => x.1.neg).length
theorem negC_app (a b : List (En × Nat)) : negC (a ++ b) = negC a + negC b := by unfold negC; rw [List.filter_append, List.length_append]
theorem negC_perm {a b : List (En × Nat)} (h : a.Perm b) : negC a = negC b := (h.filter _).length_eq
theorem negC_one (x : En × Nat) : negC [x] = if x.1.neg then 1 else 0 := by
  unfold negC
  cases h : x.1.neg <;> simp [h]
theorem negC_le (a : List (En × Nat)) : negC a ≤ a.length := List.length_filter_le _ _
theorem negC_rep {C : List (En × Nat)} {n : Nat} {L : List En} (h : RepL C n L) : negC C = negN L := by
  obtain ⟨U, _, _, h3, rfl⟩ := h
  rw [← negC_perm h3]
  unfold negC negN
  rw [List.filter_map, List.length_map]
  rfl
set_option maxHeartbeats 8000000 in
theorem negatives_p (p : Nat) (c : Pc) (s : Cs) (w : World) (h : IsC w p c) (hs : Says c s) (hl : s.L.length ≤ 1000000000000000) : Calls Tryz.prog 38 #[.pointer (some ⟨p, 0, none⟩)] w fun x w' => x = .returned (.int .i64 (negN s.L)) ∧ Below w.heap.size w w' := by
  obtain ⟨c0, -, -, -⟩ := h.cells
  have bx := box8
  have HI : Hid (IsC w p c ∧ negC (cont c.om) = negN s.L ∧ MapV (Value.int .i64) mvM w (some c.g0) (om2 c.om) ∧ (cont c.om).length ≤ 1000000000000000) := ⟨h, negC_rep hs.rep, h.outer, by rw [hs.rep.len]; exact hl⟩
  obtain ⟨n, hn⟩ : ∃ n, negN s.L = n := ⟨_, rfl⟩
  rw [hn] at HI ⊢
  clear h hs hn hl
  go_enter Tryz.func38, Tryz.ntmps38
  go_wp2_with (first
    | (at_range; refine wpList_rangeM _ rfl _ _ rfl _ _ undO (some c.g0) (om2 c.om) rfl HI.out.2.2.1 ?_; intro w0 hr0 hb0 hs0; have H0 : Hid (Rng (Value.int .i64) mvM w0 (some c.g0) w.heap.size (om2 c.om) ∧ Below w.heap.size w w0 ∧ w0.heap.size = w.heap.size + 1) := ⟨hr0, hb0, hs0⟩; clear hr0 hb0 hs0)
    | go_in)
  go_frame
  go_loopw [3, 5] (fun s3 _ wr => ∃ m : Nat, s3 = .int .i64 m ∧ Hid (∃ D R, RgO wr p c w.heap.size D R ∧ negC (cont D) = m ∧ Below w.heap.size w wr)) (fun _ _ wr => rngLeft wr w.heap.size)
  case atStart => exact ⟨0, rfl, [], c.om, ⟨H0.out.1, List.Perm.refl _⟩, rfl, H0.out.2.1⟩
  case round =>
    obtain ⟨m, rfl, HR⟩ := hrel
    obtain ⟨D, R, hR, hm, hb⟩ := HR.out
    have hrg := hR.rg
    go_wp2_with (first
      | (at_next; refine wpList_nextM _ rfl _ rfl (some c.g0) w.heap.size _ rfl hrg ?_ ?_)
      | go_in)
    · intro hl0
      have HE : Hid (m = n ∧ Below w.heap.size w wr) := by
        refine ⟨?_, hb⟩
        have hR0 : R = [] := by
          unfold om2 at hl0
          exact List.map_eq_nil_iff.1 hl0
        have := hR.all
        rw [hR0, List.append_nil] at this
        rw [← hm, ← HI.out.2.1, negC_perm (cont_perm this)]
      clear hrg hR HR hm hb
      obtain ⟨h1, h2⟩ := HE.out
      subst h1
      go_wp2
      go_ret
      exact ⟨rfl, h2⟩
    · intro A d g B w1 hx hrg1 hO1 hs1 hen
      obtain ⟨A', y, B', hRe, hA, hB, hxy⟩ := om2_split hx
      obtain ⟨rfl, rfl⟩ : d = y.1 ∧ g = y.2.1 := ⟨congrArg Prod.fst hxy, congrArg Prod.snd hxy⟩
      rw [hRe] at hR
      have hy := RgO.mem hR.all
      have hb1 : Below w.heap.size w w1 := Only.below hb hO1 hb.size (fun k e => Nat.le_of_eq e.symm)
      have i1 := HI.out.1.below hb1
      have HY : Hid (MapV Value.string mvC w1 (some y.2.1) y.2.2) := i1.inner y hy
      have HX : Hid (Rng (Value.int .i64) mvM w1 (some c.g0) w.heap.size (om2 (A' ++ B')) ∧ Below w.heap.size w w1 ∧ ((D ++ [y]) ++ (A' ++ B')).Perm c.om ∧ rngLeft wr w.heap.size = (om2 (A' ++ B')).length + 1 ∧ negC (cont D) = m ∧ y.2.1 < w.heap.size ∧ c.g0 < w.heap.size ∧ w.heap.size < w1.heap.size ∧ negC (cont D) + y.2.2.length ≤ 1000000000000000) := by
        refine ⟨by rw [om2_app, hA, hB]; exact hrg1, hb1, RgO.next hR.all, ?_, hm, (HI.out.1.inner y hy).lt, HI.out.1.outer.lt, hrg1.lt, ?_⟩
        · rw [hrg.left, hx, om2_app, hA, hB]
          simp
          omega
        · have h1 := (cont_perm (RgO.next hR.all)).length_eq
          rw [cont_app, cont_app, cont_cons] at h1
          simp only [List.length_append, List.length_map] at h1
          have h3 := HI.out.2.2.2
          have h4 := negC_le (cont D)
          omega
      unfold mvM at hen
      clear hrg hR HR hm hb hx hrg1 hO1 hs1 hRe hA hB hy hb1 i1
      unfold mvM
      obtain ⟨w7, hw7⟩ : ∃ w7, w7 = wr := ⟨_, rfl⟩
      subst hw7
      go_wp2_with (first
        | (at_range; refine wpList_rangeM _ rfl _ _ rfl _ _ undI (some y.2.1) y.2.2 rfl HY.out ?_; intro w2 hr2 hb2 hs2; have H2 : Hid (Rng Value.string mvC w2 (some y.2.1) w1.heap.size y.2.2 ∧ Below w1.heap.size w1 w2) := ⟨hr2, hb2⟩; clear hr2 hb2 hs2)
        | go_in)
      (try go_frame)
      go_loopw [3, 7] (fun s3 _ wi => ∃ i : Nat, s3 = .int .i64 i ∧ Hid (∃ E F, Rng Value.string mvC wi (some y.2.1) w1.heap.size F ∧ (E ++ F).Perm y.2.2 ∧ m + negC (E.map (·.2)) = i ∧ Below w1.heap.size w1 wi)) (fun _ _ wi => rngLeft wi w1.heap.size)
      case atStart => exact ⟨m, rfl, [], y.2.2, H2.out.1, List.Perm.refl _, rfl, H2.out.2⟩
      case round =>
        obtain ⟨i, rfl, HR⟩ := hrel
        obtain ⟨E, F, hF, hEF, hi, hbi⟩ := HR.out
        go_wp2_with (first
          | (at_next; refine wpList_nextM _ rfl _ rfl (some y.2.1) w1.heap.size _ rfl hF ?_ ?_)
          | go_in)
        · intro hl0
          have HE : Hid (∃ D R, RgO wr p c w.heap.size D R ∧ negC (cont D) = i ∧ Below w.heap.size w wr) := by
            obtain ⟨x1, x2, x3, x4, x5, x6, x7, x8, x9⟩ := HX.out
            refine ⟨D ++ [y], A' ++ B', ⟨x1.moved (hbi.block _ x8) (fun g e => hbi.block _ (by cases e; omega)), x3⟩, ?_, chainB x2 hbi⟩
            rw [hl0, List.append_nil] at hEF
            rw [cont_app, negC_app, x5, cont_cons, ← hi, negC_perm (hEF.map (·.2))]
            simp [cont]
          have hme : rngLeft wr w.heap.size < rngLeft w7 w.heap.size := by
            obtain ⟨x1, x2, x3, x4, x5, x6, x7, x8, x9⟩ := HX.out
            have := (x1.moved (hbi.block _ x8) (fun g e => hbi.block _ (by cases e; omega))).left
            rw [this, x4]
            omega
          clear hF hEF hi hbi HR
          go_wp2
          go_roundw
          case rel => exact ⟨i, rfl, HE⟩
          case measure => exact hme
        · intro A2 nm e u B2 w3 hx hF3 hO3 hs3 hen3
          have hO3' := Only.below hbi hO3 hbi.size (fun k e => Nat.le_of_eq e.symm)
          obtain ⟨w4, hw4⟩ : ∃ w4, w3.alloc (.cells (cvals (e, u)).toArray 99) = w4 := ⟨_, rfl⟩
          have b4 := boxO hw4
          have cs := (cells7_c b4.1).1
          have q2 := cs.c2
          have b34 : Below w1.heap.size w1 w4 := chainB hO3' b4.2.1
          have F4 : Rng Value.string mvC w4 (some y.2.1) w1.heap.size (A2 ++ B2) := hF3.moved (b4.2.1.block _ hF3.lt) (fun g eg => b4.2.1.block _ (by
            obtain ⟨x1, x2, x3, x4, x5, x6, x7, x8, x9⟩ := HX.out
            have := hO3'.size
            cases eg; omega))
          have hle : i + 1 ≤ 1000000000000001 := by
            obtain ⟨x1, x2, x3, x4, x5, x6, x7, x8, x9⟩ := HX.out
            have h1 := hEF.length_eq
            have h2 := negC_le (E.map (·.2))
            simp only [List.length_append, List.length_map] at h1 h2
            omega
          have H4 : Hid (∀ j, j = (i + if e.neg then 1 else 0) → ∃ E F, Rng Value.string mvC w4 (some y.2.1) w1.heap.size F ∧ (E ++ F).Perm y.2.2 ∧ m + negC (E.map (·.2)) = j ∧ Below w1.heap.size w1 w4) := fun j hj => by
            refine ⟨E ++ [(nm, e, u)], A2 ++ B2, F4, snoc_mid (by rw [← hx]; exact hEF), ?_, b34⟩
            rw [List.map_append, negC_app, List.map_cons, List.map_nil, negC_one, hj, ← hi]
            exact (Nat.add_assoc _ _ _).symm
          have hme : rngLeft w4 w1.heap.size < rngLeft wr w1.heap.size := by
            rw [F4.left, hF.left, hx]
            simp
          clear hF hEF hi hbi HR hx hF3 hO3 hs3 hO3' b4 cs b34 F4
          have bx3 := bx w3 (e, u)
          rw [hw4] at bx3
          unfold mvC at hen3 bx3
          unfold mvC
          simp only at hen3 bx3 ⊢
          cases hneg : e.neg with
          | true =>
            rw [show ((e, u) : En × Nat).1.neg = true from hneg] at q2
            rw [hneg] at hen3 bx3
            have hw : IntKind.i64.wrap ((i : Int) + 1) = ((i + 1 : Nat) : Int) := by
              rw [show ((i + 1 : Nat) : Int) = (i : Int) + 1 by omega]; exact IntWalk.i64_in _ (by omega)
            have H5 := H4.out (i + 1) (by rw [hneg]; rfl)
            obtain ⟨I, hI⟩ : ∃ I, i + 1 = I := ⟨_, rfl⟩
            rw [hI] at hw H5
            have H6 : Hid _ := H5
            clear H5 H4 hI hw4
            go_wp2
            go_roundw
            case rel => exact ⟨I, rfl, H6⟩
            case measure => exact hme
          | false =>
            rw [show ((e, u) : En × Nat).1.neg = false from hneg] at q2
            rw [hneg] at hen3 bx3
            have H6 : Hid _ := H4.out i (by rw [hneg]; rfl)
            clear H4 hw4
            go_wp2
            go_roundw
            case rel => exact ⟨i, rfl, H6⟩
            case measure => exact hme
end
end Go.Proofs.YtmndnjgbbpkidaaGreat
