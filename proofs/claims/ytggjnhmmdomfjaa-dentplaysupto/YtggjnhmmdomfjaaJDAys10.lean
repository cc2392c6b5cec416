/- Ranges over the cache: Len, Negatives. -/
import Derived.Test.YtggjnhmmdomfjaaJDAys09
import Derived.Deep.LoopGhost
import Derived.Shelf.SlSortCmp.WholeK
import Derived.Shelf.SlSortCmp.NoneTotal
import Derived.Test.YtggjnhmmdomfjaaProg
namespace Go.Proofs.Ytggjnhmmdomfjaa
section
open Go.RowKit
attribute [local go_sem ↓ high] loadEn storeEn loadCa storeCa buildCa
attribute [local go_sem high] eqMN

theorem om2_split {R : Pm} {A B : List (Int × Nat)} {x : Int × Nat} (h : om2 R = A ++ x :: B) : ∃ A' y B', R = A' ++ y :: B' ∧ om2 A' = A ∧ om2 B' = B ∧ x = (y.1, y.2.1) := by
  unfold om2 at h
  obtain ⟨A', R', rfl, hA, hR⟩ := List.map_eq_append_iff.1 h
  obtain ⟨y, B', rfl, hy, hB⟩ := List.map_eq_cons_iff.1 hR
  exact ⟨A', y, B', rfl, hA, hB, hy.symm⟩
theorem om2_app (a b : Pm) : om2 (a ++ b) = om2 a ++ om2 b := by unfold om2; rw [List.map_append]
theorem cont_perm {a b : Pm} (h : a.Perm b) : (cont a).Perm (cont b) := by unfold cont; exact h.flatMap_right _
/-- a range over the directories under way: D have come, R are still to come -/
structure RgO (wr : World) (p : Nat) (c : Pc) (r : Nat) (D R : Pm) : Prop where
  rg : Rng (Value.int .i64) mvM wr (some c.g0) r (om2 R)
  all : (D ++ R).Perm c.om
theorem RgO.next {D A B : Pm} {y : Int × Nat × List (ByteArray × En × Nat)} {om : Pm} (h : (D ++ (A ++ y :: B)).Perm om) : ((D ++ [y]) ++ (A ++ B)).Perm om := by
  refine List.Perm.trans ?_ h
  rw [List.append_assoc]
  refine List.Perm.append_left D ?_
  exact (List.perm_middle (a := y) (l₁ := A) (l₂ := B)).symm
theorem RgO.mem {D A B : Pm} {y : Int × Nat × List (ByteArray × En × Nat)} {om : Pm} (h : (D ++ (A ++ y :: B)).Perm om) : y ∈ om := h.mem_iff.1 (by simp)
set_option maxHeartbeats 4000000 in
theorem len_p (p : Nat) (c : Pc) (s : Cs) (w : World) (h : IsC w p c) (hs : Says c s) (hl : s.L.length ≤ 1000000000000000) : Calls Try.prog 27 #[.pointer (some ⟨p, 0, none⟩)] w fun x w' => x = .returned (.int .i64 s.L.length) ∧ Below w.heap.size w w' := by
  obtain ⟨c0, -, -, -⟩ := h.cells
  obtain ⟨n, hn⟩ : ∃ n, s.L.length = n := ⟨_, rfl⟩
  rw [hn] at hl ⊢
  have HI : Hid (IsC w p c ∧ (cont c.om).length = n ∧ MapV (Value.int .i64) mvM w (some c.g0) (om2 c.om)) := ⟨h, by rw [hs.rep.len, hn], h.outer⟩
  clear h hs hn
  go_enter Try.func27, Try.ntmps27
  go_wp2_with (first
    | (at_range; refine wpList_rangeM _ rfl _ _ rfl _ _ undO (some c.g0) (om2 c.om) rfl HI.out.2.2 ?_; intro w0 hr0 hb0 hs0; have H0 : Hid (Rng (Value.int .i64) mvM w0 (some c.g0) w.heap.size (om2 c.om) ∧ Below w.heap.size w w0 ∧ w0.heap.size = w.heap.size + 1) := ⟨hr0, hb0, hs0⟩; clear hr0 hb0 hs0)
    | go_in)
  go_frame
  go_loopw [3, 5] (fun s3 _ wr => ∃ m : Nat, s3 = .int .i64 m ∧ Hid (∃ D R, RgO wr p c w.heap.size D R ∧ (cont D).length = m ∧ Below w.heap.size w wr)) (fun _ _ wr => rngLeft wr w.heap.size)
  case atStart => exact ⟨0, rfl, [], c.om, ⟨H0.out.1, List.Perm.refl _⟩, rfl, H0.out.2.1⟩
  case round =>
    obtain ⟨m, rfl, HR⟩ := hrel
    obtain ⟨D, R, hR, hm, hb⟩ := HR.out
    have hrg := hR.rg
    go_wp2_with (first
      | (at_next; refine wpList_nextM _ rfl _ rfl (some c.g0) w.heap.size _ rfl hrg ?_ ?_)
      | go_in)
    · intro hl0
      have HE : Hid (m = n ∧ Below w.heap.size w wr) := by
        refine ⟨?_, hb⟩
        have hR0 : R = [] := by
          unfold om2 at hl0
          exact List.map_eq_nil_iff.1 hl0
        have := hR.all
        rw [hR0, List.append_nil] at this
        rw [← hm, ← HI.out.2.1, (cont_perm this).length_eq]
      clear hrg hR HR hm hb
      obtain ⟨h1, h2⟩ := HE.out
      subst h1
      go_wp2
      go_ret
      exact ⟨rfl, h2⟩
    · intro A d g B w1 hx hrg1 hO1 hs1 hen
      obtain ⟨A', y, B', hRe, hA, hB, hxy⟩ := om2_split hx
      obtain ⟨rfl, rfl⟩ : d = y.1 ∧ g = y.2.1 := ⟨congrArg Prod.fst hxy, congrArg Prod.snd hxy⟩
      rw [hRe] at hR
      have hy := RgO.mem hR.all
      have hb1 : Below w.heap.size w w1 := Only.below hb hO1 hb.size (fun k e => Nat.le_of_eq e.symm)
      have i1 := HI.out.1.below hb1
      have hlen : ∀ ty, (Builtin.len_ #[77] ty #[.map (some y.2.1)]).run Try.prog w1 = .ok (.int .i64 y.2.2.length) w1 := fun ty => lenM undI ty w1 (some y.2.1) y.2.2 (i1.inner y hy)
      have hle : m + y.2.2.length ≤ n := by
        have h1 := (cont_perm (RgO.next hR.all)).length_eq
        rw [cont_app, cont_app, cont_cons] at h1
        simp only [List.length_append, List.length_map] at h1
        have h3 := HI.out.2.1
        omega
      have hw : IntKind.i64.wrap ((m : Int) + (y.2.2.length : Int)) = ((m + y.2.2.length : Nat) : Int) := by
        rw [show ((m + y.2.2.length : Nat) : Int) = (m : Int) + (y.2.2.length : Int) by omega]; exact IntWalk.i64_in _ (by omega)
      have H2 : Hid (∃ D R, RgO w1 p c w.heap.size D R ∧ (cont D).length = m + y.2.2.length ∧ Below w.heap.size w w1) := by
        refine ⟨D ++ [y], A' ++ B', ⟨by rw [om2_app, hA, hB]; exact hrg1, RgO.next hR.all⟩, ?_, hb1⟩
        rw [cont_app, cont_cons, List.length_append, List.length_append, List.length_map, hm]
        simp [cont]
      have hme : rngLeft w1 w.heap.size < rngLeft wr w.heap.size := by
        rw [hrg1.left, hrg.left, hx]
        simp
      unfold mvM at hen
      obtain ⟨M, hM⟩ : ∃ M, m + y.2.2.length = M := ⟨_, rfl⟩
      rw [hM] at hw H2
      clear hrg hR HR hm hb hx hrg1 hO1 hs1 hRe hA hB hy hb1 i1 hle hM
      unfold mvM
      go_wp2
      go_roundw
      case rel => exact ⟨M, rfl, H2⟩
      case measure => exact hme
end
section
open Go.RowKit
attribute [local go_sem ↓ high] loadEn storeEn loadCa storeCa buildCa
attribute [local go_sem high] eqMN

def negC (C : List (En × Nat)) : Nat := (C.filter fun x => x.1.neg).length
theorem negC_app (a b : List (En × Nat)) : negC (a ++ b) = negC a + negC b := by unfold negC; rw [List.filter_append, List.length_append]
theorem negC_perm {a b : List (En × Nat)} (h : a.Perm b) : negC a = negC b := (h.filter _).length_eq
theorem negC_one (x : En × Nat) : negC [x] = if x.1.neg then 1 else 0 := by
  unfold negC
  cases h : x.1.neg <;> simp [h]
theorem negC_le (a : List (En × Nat)) : negC a ≤ a.length := List.length_filter_le _ _
theorem negC_rep {C : List (En × Nat)} {n : Nat} {L : List En} (h : RepL C n L) : negC C = negN L := by
  obtain ⟨U, _, _, h3, rfl⟩ := h
  rw [← negC_perm h3]
  unfold negC negN
  rw [List.filter_map, List.length_map]
  rfl
/-- a range over one directory's names under way -/
theorem snoc_mid {α : Type} {D A B l : List α} {y : α} (h : (D ++ (A ++ y :: B)).Perm l) : ((D ++ [y]) ++ (A ++ B)).Perm l := by
  refine List.Perm.trans ?_ h
  rw [List.append_assoc]
  refine List.Perm.append_left D ?_
  exact (List.perm_middle (a := y) (l₁ := A) (l₂ := B)).symm
set_option maxHeartbeats 8000000 in
theorem negatives_p (p : Nat) (c : Pc) (s : Cs) (w : World) (h : IsC w p c) (hs : Says c s) (hl : s.L.length ≤ 1000000000000000) : Calls Try.prog 28 #[.pointer (some ⟨p, 0, none⟩)] w fun x w' => x = .returned (.int .i64 (negN s.L)) ∧ Below w.heap.size w w' := by
  obtain ⟨c0, -, -, -⟩ := h.cells
  have bx := box8
  have HI : Hid (IsC w p c ∧ negC (cont c.om) = negN s.L ∧ MapV (Value.int .i64) mvM w (some c.g0) (om2 c.om) ∧ (cont c.om).length ≤ 1000000000000000) := ⟨h, negC_rep hs.rep, h.outer, by rw [hs.rep.len]; exact hl⟩
  obtain ⟨n, hn⟩ : ∃ n, negN s.L = n := ⟨_, rfl⟩
  rw [hn] at HI ⊢
  clear h hs hn hl
  go_enter Try.func28, Try.ntmps28
  go_wp2_with (first
    | (at_range; refine wpList_rangeM _ rfl _ _ rfl _ _ undO (some c.g0) (om2 c.om) rfl HI.out.2.2.1 ?_; intro w0 hr0 hb0 hs0; have H0 : Hid (Rng (Value.int .i64) mvM w0 (some c.g0) w.heap.size (om2 c.om) ∧ Below w.heap.size w w0 ∧ w0.heap.size = w.heap.size + 1) := ⟨hr0, hb0, hs0⟩; clear hr0 hb0 hs0)
    | go_in)
  go_frame
  go_loopw [3, 5] (fun s3 _ wr => ∃ m : Nat, s3 = .int .i64 m ∧ Hid (∃ D R, RgO wr p c w.heap.size D R ∧ negC (cont D) = m ∧ Below w.heap.size w wr)) (fun _ _ wr => rngLeft wr w.heap.size)
  case atStart => exact ⟨0, rfl, [], c.om, ⟨H0.out.1, List.Perm.refl _⟩, rfl, H0.out.2.1⟩
  case round =>
    obtain ⟨m, rfl, HR⟩ := hrel
    obtain ⟨D, R, hR, hm, hb⟩ := HR.out
    have hrg := hR.rg
    go_wp2_with (first
      | (at_next; refine wpList_nextM _ rfl _ rfl (some c.g0) w.heap.size _ rfl hrg ?_ ?_)
      | go_in)
    · intro hl0
      have HE : Hid (m = n ∧ Below w.heap.size w wr) := by
        refine ⟨?_, hb⟩
        have hR0 : R = [] := by
          unfold om2 at hl0
          exact List.map_eq_nil_iff.1 hl0
        have := hR.all
        rw [hR0, List.append_nil] at this
        rw [← hm, ← HI.out.2.1, negC_perm (cont_perm this)]
      clear hrg hR HR hm hb
      obtain ⟨h1, h2⟩ := HE.out
      subst h1
      go_wp2
      go_ret
      exact ⟨rfl, h2⟩
    · intro A d g B w1 hx hrg1 hO1 hs1 hen
      obtain ⟨A', y, B', hRe, hA, hB, hxy⟩ := om2_split hx
      obtain ⟨rfl, rfl⟩ : d = y.1 ∧ g = y.2.1 := ⟨congrArg Prod.fst hxy, congrArg Prod.snd hxy⟩
      rw [hRe] at hR
      have hy := RgO.mem hR.all
      have hb1 : Below w.heap.size w w1 := Only.below hb hO1 hb.size (fun k e => Nat.le_of_eq e.symm)
      have i1 := HI.out.1.below hb1
      have HY : Hid (MapV Value.string mvC w1 (some y.2.1) y.2.2) := i1.inner y hy
      have HX : Hid (Rng (Value.int .i64) mvM w1 (some c.g0) w.heap.size (om2 (A' ++ B')) ∧ Below w.heap.size w w1 ∧ ((D ++ [y]) ++ (A' ++ B')).Perm c.om ∧ rngLeft wr w.heap.size = (om2 (A' ++ B')).length + 1 ∧ negC (cont D) = m ∧ y.2.1 < w.heap.size ∧ c.g0 < w.heap.size ∧ w.heap.size < w1.heap.size ∧ negC (cont D) + y.2.2.length ≤ 1000000000000000) := by
        refine ⟨by rw [om2_app, hA, hB]; exact hrg1, hb1, RgO.next hR.all, ?_, hm, (HI.out.1.inner y hy).lt, HI.out.1.outer.lt, hrg1.lt, ?_⟩
        · rw [hrg.left, hx, om2_app, hA, hB]
          simp
          omega
        · have h1 := (cont_perm (RgO.next hR.all)).length_eq
          rw [cont_app, cont_app, cont_cons] at h1
          simp only [List.length_append, List.length_map] at h1
          have h3 := HI.out.2.2.2
          have h4 := negC_le (cont D)
          omega
      unfold mvM at hen
      clear hrg hR HR hm hb hx hrg1 hO1 hs1 hRe hA hB hy hb1 i1
      unfold mvM
      obtain ⟨w7, hw7⟩ : ∃ w7, w7 = wr := ⟨_, rfl⟩
      subst hw7
      go_wp2_with (first
        | (at_range; refine wpList_rangeM _ rfl _ _ rfl _ _ undI (some y.2.1) y.2.2 rfl HY.out ?_; intro w2 hr2 hb2 hs2; have H2 : Hid (Rng Value.string mvC w2 (some y.2.1) w1.heap.size y.2.2 ∧ Below w1.heap.size w1 w2) := ⟨hr2, hb2⟩; clear hr2 hb2 hs2)
        | go_in)
      (try go_frame)
      go_loopw [3, 7] (fun s3 _ wi => ∃ i : Nat, s3 = .int .i64 i ∧ Hid (∃ E F, Rng Value.string mvC wi (some y.2.1) w1.heap.size F ∧ (E ++ F).Perm y.2.2 ∧ m + negC (E.map (·.2)) = i ∧ Below w1.heap.size w1 wi)) (fun _ _ wi => rngLeft wi w1.heap.size)
      case atStart => exact ⟨m, rfl, [], y.2.2, H2.out.1, List.Perm.refl _, rfl, H2.out.2⟩
      case round =>
        obtain ⟨i, rfl, HR⟩ := hrel
        obtain ⟨E, F, hF, hEF, hi, hbi⟩ := HR.out
        go_wp2_with (first
          | (at_next; refine wpList_nextM _ rfl _ rfl (some y.2.1) w1.heap.size _ rfl hF ?_ ?_)
          | go_in)
        · intro hl0
          have HE : Hid (∃ D R, RgO wr p c w.heap.size D R ∧ negC (cont D) = i ∧ Below w.heap.size w wr) := by
            obtain ⟨x1, x2, x3, x4, x5, x6, x7, x8, x9⟩ := HX.out
            refine ⟨D ++ [y], A' ++ B', ⟨x1.moved (hbi.block _ x8) (fun g e => hbi.block _ (by cases e; omega)), x3⟩, ?_, chainB x2 hbi⟩
            rw [hl0, List.append_nil] at hEF
            rw [cont_app, negC_app, x5, cont_cons, ← hi, negC_perm (hEF.map (·.2))]
            simp [cont]
          have hme : rngLeft wr w.heap.size < rngLeft w7 w.heap.size := by
            obtain ⟨x1, x2, x3, x4, x5, x6, x7, x8, x9⟩ := HX.out
            have := (x1.moved (hbi.block _ x8) (fun g e => hbi.block _ (by cases e; omega))).left
            rw [this, x4]
            omega
          clear hF hEF hi hbi HR
          go_wp2
          go_roundw
          case rel => exact ⟨i, rfl, HE⟩
          case measure => exact hme
        · intro A2 nm e u B2 w3 hx hF3 hO3 hs3 hen3
          have hO3' := Only.below hbi hO3 hbi.size (fun k e => Nat.le_of_eq e.symm)
          obtain ⟨w4, hw4⟩ : ∃ w4, w3.alloc (.cells (cvals (e, u)).toArray 79) = w4 := ⟨_, rfl⟩
          have b4 := boxO hw4
          have cs := (cells7_c b4.1).1
          have q2 := cs.c2
          have b34 : Below w1.heap.size w1 w4 := chainB hO3' b4.2.1
          have F4 : Rng Value.string mvC w4 (some y.2.1) w1.heap.size (A2 ++ B2) := hF3.moved (b4.2.1.block _ hF3.lt) (fun g eg => b4.2.1.block _ (by
            obtain ⟨x1, x2, x3, x4, x5, x6, x7, x8, x9⟩ := HX.out
            have := hO3'.size
            cases eg; omega))
          have hle : i + 1 ≤ 1000000000000001 := by
            obtain ⟨x1, x2, x3, x4, x5, x6, x7, x8, x9⟩ := HX.out
            have h1 := hEF.length_eq
            have h2 := negC_le (E.map (·.2))
            simp only [List.length_append, List.length_map] at h1 h2
            omega
          have H4 : Hid (∀ j, j = (i + if e.neg then 1 else 0) → ∃ E F, Rng Value.string mvC w4 (some y.2.1) w1.heap.size F ∧ (E ++ F).Perm y.2.2 ∧ m + negC (E.map (·.2)) = j ∧ Below w1.heap.size w1 w4) := fun j hj => by
            refine ⟨E ++ [(nm, e, u)], A2 ++ B2, F4, snoc_mid (by rw [← hx]; exact hEF), ?_, b34⟩
            rw [List.map_append, negC_app, List.map_cons, List.map_nil, negC_one, hj, ← hi]
            exact (Nat.add_assoc _ _ _).symm
          have hme : rngLeft w4 w1.heap.size < rngLeft wr w1.heap.size := by
            rw [F4.left, hF.left, hx]
            simp
          clear hF hEF hi hbi HR hx hF3 hO3 hs3 hO3' b4 cs b34 F4
          have bx3 := bx w3 (e, u)
          rw [hw4] at bx3
          unfold mvC at hen3 bx3
          unfold mvC
          simp only at hen3 bx3 ⊢
          cases hneg : e.neg with
          | true =>
            rw [show ((e, u) : En × Nat).1.neg = true from hneg] at q2
            rw [hneg] at hen3 bx3
            have hw : IntKind.i64.wrap ((i : Int) + 1) = ((i + 1 : Nat) : Int) := by
              rw [show ((i + 1 : Nat) : Int) = (i : Int) + 1 by omega]; exact IntWalk.i64_in _ (by omega)
            have H5 := H4.out (i + 1) (by rw [hneg]; rfl)
            obtain ⟨I, hI⟩ : ∃ I, i + 1 = I := ⟨_, rfl⟩
            rw [hI] at hw H5
            have H6 : Hid _ := H5
            clear H5 H4 hI hw4
            go_wp2
            go_roundw
            case rel => exact ⟨I, rfl, H6⟩
            case measure => exact hme
          | false =>
            rw [show ((e, u) : En × Nat).1.neg = false from hneg] at q2
            rw [hneg] at hen3 bx3
            have H6 : Hid _ := H4.out i (by rw [hneg]; rfl)
            clear H4 hw4
            go_wp2
            go_roundw
            case rel => exact ⟨i, rfl, H6⟩
            case measure => exact hme
end
section
open Go.Shelf
def Try.sortC_ren : Go.Shelf.Ren := ⟨fun | 6 => 50 | 15 => 63 | 14 => 62 | 28 => 80 | 29 => 81 | 20 => 72 | 21 => 73 | 22 => 74 | 23 => 75 | 24 => 76 | 25 => 77 | 26 => 78 | 27 => 79 | 46 => 93 | 47 => 94 | 48 => 95 | 49 => 96 | 50 => 97 | 57 => 105 | n => n, fun | 22 => 76 | 24 => 79 | 25 => 81 | 3 => 3 | 39 => 96 | 0 => 0 | 53 => 113 | 55 => 115 | 4 => 4 | 46 => 106 | 45 => 105 | 50 => 110 | 5 => 5 | 9 => 9 | 66 => 123 | 70 => 127 | 76 => 134 | 77 => 135 | n => n, fun | n => n⟩
theorem Try.sortC : Go.Proofs.SlLaysF0.n6 Try.prog Try.sortC_ren := {
  mixed := by kernel_rfl
  f6 := ⟨Try.f50.name, by decide, Try.func50.trans (congrArg some (by kernel_rfl))⟩
  f14 := ⟨Try.f62.name, by decide, Try.func62.trans (congrArg some (by kernel_rfl))⟩
  f15 := Try.func63.trans (congrArg some (by kernel_rfl))
  f20 := ⟨Try.f72.name, by decide, Try.func72.trans (congrArg some (by kernel_rfl))⟩
  f21 := ⟨Try.f73.name, by decide, Try.func73.trans (congrArg some (by kernel_rfl))⟩
  f22 := ⟨Try.f74.name, by decide, Try.func74.trans (congrArg some (by kernel_rfl))⟩
  f23 := ⟨Try.f75.name, by decide, Try.func75.trans (congrArg some (by kernel_rfl))⟩
  f24 := ⟨Try.f76.name, by decide, Try.func76.trans (congrArg some (by kernel_rfl))⟩
  f25 := ⟨Try.f77.name, by decide, Try.func77.trans (congrArg some (by kernel_rfl))⟩
  f26 := ⟨Try.f78.name, by decide, Try.func78.trans (congrArg some (by kernel_rfl))⟩
  f27 := ⟨Try.f79.name, by decide, Try.func79.trans (congrArg some (by kernel_rfl))⟩
  f28 := Try.func80.trans (congrArg some (by kernel_rfl))
  f29 := Try.func81.trans (congrArg some (by kernel_rfl))
  f46 := ⟨Try.f93.name, by decide, Try.func93.trans (congrArg some (by kernel_rfl))⟩
  f47 := Try.func94.trans (congrArg some (by kernel_rfl))
  f48 := Try.func95.trans (congrArg some (by kernel_rfl))
  f49 := ⟨Try.f96.name, by decide, Try.func96.trans (congrArg some (by kernel_rfl))⟩
  f50 := ⟨Try.f97.name, by decide, Try.func97.trans (congrArg some (by kernel_rfl))⟩
  f57 := ⟨Try.f105.name, by decide, Try.func105.trans (congrArg some (by kernel_rfl))⟩
  t0 := Try.underlying0
  a0 := Try.isAgg0
  z0 := Try.sizeOf0
  v0 := Try.zeroValue0
  t3 := Try.underlying3
  a3 := Try.isAgg3
  z3 := Try.sizeOf3
  v3 := Try.zeroValue3
  t4 := Try.underlying4
  a4 := Try.isAgg4
  z4 := Try.sizeOf4
  v4 := Try.zeroValue4
  t5 := Try.underlying5
  a5 := Try.isAgg5
  z5 := Try.sizeOf5
  v5 := Try.zeroValue5
  t9 := Try.underlying9
  a9 := Try.isAgg9
  z9 := Try.sizeOf9
  v9 := Try.zeroValue9
  t22 := Try.underlying76
  a22 := Try.isAgg76
  z22 := Try.sizeOf76
  v22 := Try.zeroValue76
  t25 := Try.underlying81
  a25 := Try.isAgg81
  z25 := Try.sizeOf81
  v25 := Try.zeroValue81
  t39 := Try.underlying96
  a39 := Try.isAgg96
  z39 := Try.sizeOf96
  v39 := Try.zeroValue96
  t45 := Try.underlying105
  a45 := Try.isAgg105
  z45 := Try.sizeOf105
  v45 := Try.zeroValue105
  t46 := Try.underlying106
  a46 := Try.isAgg106
  z46 := Try.sizeOf106
  v46 := Try.zeroValue106
  t50 := Try.underlying110
  a50 := Try.isAgg110
  z50 := Try.sizeOf110
  v50 := Try.zeroValue110
  t53 := Try.underlying113
  a53 := Try.isAgg113
  z53 := Try.sizeOf113
  v53 := Try.zeroValue113
  t55 := Try.underlying115
  a55 := Try.isAgg115
  z55 := Try.sizeOf115
  v55 := Try.zeroValue115
  t66 := Try.underlying123
  a66 := Try.isAgg123
  z66 := Try.sizeOf123
  v66 := Try.zeroValue123
  t70 := Try.underlying127
  a70 := Try.isAgg127
  z70 := Try.sizeOf127
  v70 := Try.zeroValue127
  t76 := Try.underlying134
  a76 := Try.isAgg134
  z76 := Try.sizeOf134
  v76 := Try.zeroValue134
  t77 := Try.underlying135
  a77 := Try.isAgg135
  z77 := Try.sizeOf135
  v77 := Try.zeroValue135 }
def Try.sortE_ren : Go.Shelf.Ren := ⟨fun | 6 => 53 | 15 => 63 | 14 => 65 | 28 => 80 | 29 => 81 | 20 => 82 | 21 => 83 | 22 => 84 | 23 => 85 | 24 => 86 | 25 => 87 | 26 => 88 | 27 => 89 | 46 => 98 | 47 => 94 | 48 => 95 | 49 => 99 | 50 => 100 | 57 => 106 | n => n, fun | 22 => 36 | 24 => 42 | 25 => 84 | 3 => 3 | 39 => 96 | 0 => 0 | 53 => 113 | 55 => 115 | 4 => 4 | 46 => 106 | 45 => 105 | 50 => 110 | 5 => 5 | 9 => 9 | 66 => 123 | 70 => 127 | 76 => 134 | 77 => 135 | n => n, fun | n => n⟩
theorem Try.sortE : Go.Proofs.SlLaysF0.n6 Try.prog Try.sortE_ren := {
  mixed := by kernel_rfl
  f6 := ⟨Try.f53.name, by decide, Try.func53.trans (congrArg some (by kernel_rfl))⟩
  f14 := ⟨Try.f65.name, by decide, Try.func65.trans (congrArg some (by kernel_rfl))⟩
  f15 := Try.func63.trans (congrArg some (by kernel_rfl))
  f20 := ⟨Try.f82.name, by decide, Try.func82.trans (congrArg some (by kernel_rfl))⟩
  f21 := ⟨Try.f83.name, by decide, Try.func83.trans (congrArg some (by kernel_rfl))⟩
  f22 := ⟨Try.f84.name, by decide, Try.func84.trans (congrArg some (by kernel_rfl))⟩
  f23 := ⟨Try.f85.name, by decide, Try.func85.trans (congrArg some (by kernel_rfl))⟩
  f24 := ⟨Try.f86.name, by decide, Try.func86.trans (congrArg some (by kernel_rfl))⟩
  f25 := ⟨Try.f87.name, by decide, Try.func87.trans (congrArg some (by kernel_rfl))⟩
  f26 := ⟨Try.f88.name, by decide, Try.func88.trans (congrArg some (by kernel_rfl))⟩
  f27 := ⟨Try.f89.name, by decide, Try.func89.trans (congrArg some (by kernel_rfl))⟩
  f28 := Try.func80.trans (congrArg some (by kernel_rfl))
  f29 := Try.func81.trans (congrArg some (by kernel_rfl))
  f46 := ⟨Try.f98.name, by decide, Try.func98.trans (congrArg some (by kernel_rfl))⟩
  f47 := Try.func94.trans (congrArg some (by kernel_rfl))
  f48 := Try.func95.trans (congrArg some (by kernel_rfl))
  f49 := ⟨Try.f99.name, by decide, Try.func99.trans (congrArg some (by kernel_rfl))⟩
  f50 := ⟨Try.f100.name, by decide, Try.func100.trans (congrArg some (by kernel_rfl))⟩
  f57 := ⟨Try.f106.name, by decide, Try.func106.trans (congrArg some (by kernel_rfl))⟩
  t0 := Try.underlying0
  a0 := Try.isAgg0
  z0 := Try.sizeOf0
  v0 := Try.zeroValue0
  t3 := Try.underlying3
  a3 := Try.isAgg3
  z3 := Try.sizeOf3
  v3 := Try.zeroValue3
  t4 := Try.underlying4
  a4 := Try.isAgg4
  z4 := Try.sizeOf4
  v4 := Try.zeroValue4
  t5 := Try.underlying5
  a5 := Try.isAgg5
  z5 := Try.sizeOf5
  v5 := Try.zeroValue5
  t9 := Try.underlying9
  a9 := Try.isAgg9
  z9 := Try.sizeOf9
  v9 := Try.zeroValue9
  t22 := Try.underlying36
  a22 := Try.isAgg36
  z22 := Try.sizeOf36
  v22 := Try.zeroValue36
  t25 := Try.underlying84
  a25 := Try.isAgg84
  z25 := Try.sizeOf84
  v25 := Try.zeroValue84
  t39 := Try.underlying96
  a39 := Try.isAgg96
  z39 := Try.sizeOf96
  v39 := Try.zeroValue96
  t45 := Try.underlying105
  a45 := Try.isAgg105
  z45 := Try.sizeOf105
  v45 := Try.zeroValue105
  t46 := Try.underlying106
  a46 := Try.isAgg106
  z46 := Try.sizeOf106
  v46 := Try.zeroValue106
  t50 := Try.underlying110
  a50 := Try.isAgg110
  z50 := Try.sizeOf110
  v50 := Try.zeroValue110
  t53 := Try.underlying113
  a53 := Try.isAgg113
  z53 := Try.sizeOf113
  v53 := Try.zeroValue113
  t55 := Try.underlying115
  a55 := Try.isAgg115
  z55 := Try.sizeOf115
  v55 := Try.zeroValue115
  t66 := Try.underlying123
  a66 := Try.isAgg123
  z66 := Try.sizeOf123
  v66 := Try.zeroValue123
  t70 := Try.underlying127
  a70 := Try.isAgg127
  z70 := Try.sizeOf127
  v70 := Try.zeroValue127
  t76 := Try.underlying134
  a76 := Try.isAgg134
  z76 := Try.sizeOf134
  v76 := Try.zeroValue134
  t77 := Try.underlying135
  a77 := Try.isAgg135
  z77 := Try.sizeOf135
  v77 := Try.zeroValue135 }
end
end Go.Proofs.Ytggjnhmmdomfjaa
