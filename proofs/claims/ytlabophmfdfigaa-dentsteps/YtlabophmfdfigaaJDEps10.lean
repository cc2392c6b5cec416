/- Ranges over the cache: Len, Negatives. -/
import Derived.Test.YtlabophmfdfigaaJDEps09
import Derived.Deep.LoopGhost
import Derived.Shelf.SlSortCmp.WholeK
import Derived.Shelf.SlSortCmp.NoneTotal
import Derived.Test.YtlabophmfdfigaaProg
namespace Go.Proofs.Ytlabophmfdfigaa
section
open Go.RowKit
attribute [local go_sem ↓ high] loadEn storeEn loadCa storeCa buildCa
attribute [local go_sem high] eqMN

theorem om2_split {R : Pm} {A B : List (Int × Nat)} {x : Int × Nat} (h : om2 R = A ++ x :: B) : ∃ A' y B', R = A' ++ y :: B' ∧ om2 A' = A ∧ om2 B' = B ∧ x = (y.1, y.2.1) := by
  unfold om2 at h
  obtain ⟨A', R', rfl, hA, hR⟩ := List.map_eq_append_iff.1 h
  obtain ⟨y, B', rfl, hy, hB⟩ := List.map_eq_cons_iff.1 hR
  exact ⟨A', y, B', rfl, hA, hB, hy.symm⟩
theorem om2_app (a b : Pm) : om2 (a ++ b) = om2 a ++ om2 b := by unfold om2; rw [List.map_append]
theorem cont_perm {a b : Pm} (h : a.Perm b) : (cont a).Perm (cont b) := by unfold cont; exact h.flatMap_right _
/-- a range over the directories under way: D have come, R are still to come -/
structure RgO (wr : World) (p : Nat) (c : Pc) (r : Nat) (D R : Pm) : Prop where
  rg : Rng (Value.int .i64) mvM wr (some c.g0) r (om2 R)
  all : (D ++ R).Perm c.om
theorem RgO.next {D A B : Pm} {y : Int × Nat × List (ByteArray × En × Nat)} {om : Pm} (h : (D ++ (A ++ y :: B)).Perm om) : ((D ++ [y]) ++ (A ++ B)).Perm om := by
  refine List.Perm.trans ?_ h
  rw [List.append_assoc]
  refine List.Perm.append_left D ?_
  exact (List.perm_middle (a := y) (l₁ := A) (l₂ := B)).symm
theorem RgO.mem {D A B : Pm} {y : Int × Nat × List (ByteArray × En × Nat)} {om : Pm} (h : (D ++ (A ++ y :: B)).Perm om) : y ∈ om := h.mem_iff.1 (by simp)
set_option maxHeartbeats 4000000 in
theorem len_p (p : Nat) (c : Pc) (s : Cs) (w : World) (h : IsC w p c) (hs : Says c s) (hl : s.L.length ≤ 1000000000000000) : Calls Try.prog 34 #[.pointer (some ⟨p, 0, none⟩)] w fun x w' => x = .returned (.int .i64 s.L.length) ∧ Below w.heap.size w w' := by
  obtain ⟨c0, -, -, -⟩ := h.cells
  obtain ⟨n, hn⟩ : ∃ n, s.L.length = n := ⟨_, rfl⟩
  rw [hn] at hl ⊢
  have HI : Hid (IsC w p c ∧ (cont c.om).length = n ∧ MapV (Value.int .i64) mvM w (some c.g0) (om2 c.om)) := ⟨h, by rw [hs.rep.len, hn], h.outer⟩
  clear h hs hn
  go_enter Try.func34, Try.ntmps34
  go_wp2_with (first
    | (at_range; refine wpList_rangeM _ rfl _ _ rfl _ _ undO (some c.g0) (om2 c.om) rfl HI.out.2.2 ?_; intro w0 hr0 hb0 hs0; have H0 : Hid (Rng (Value.int .i64) mvM w0 (some c.g0) w.heap.size (om2 c.om) ∧ Below w.heap.size w w0 ∧ w0.heap.size = w.heap.size + 1) := ⟨hr0, hb0, hs0⟩; clear hr0 hb0 hs0)
    | go_in)
  go_frame
  go_loopw [3, 5] (fun s3 _ wr => ∃ m : Nat, s3 = .int .i64 m ∧ Hid (∃ D R, RgO wr p c w.heap.size D R ∧ (cont D).length = m ∧ Below w.heap.size w wr)) (fun _ _ wr => rngLeft wr w.heap.size)
  case atStart => exact ⟨0, rfl, [], c.om, ⟨H0.out.1, List.Perm.refl _⟩, rfl, H0.out.2.1⟩
  case round =>
    obtain ⟨m, rfl, HR⟩ := hrel
    obtain ⟨D, R, hR, hm, hb⟩ := HR.out
    have hrg := hR.rg
    go_wp2_with (first
      | (at_next; refine wpList_nextM _ rfl _ rfl (some c.g0) w.heap.size _ rfl hrg ?_ ?_)
      | go_in)
    · intro hl0
      have HE : Hid (m = n ∧ Below w.heap.size w wr) := by
        refine ⟨?_, hb⟩
        have hR0 : R = [] := by
          unfold om2 at hl0
          exact List.map_eq_nil_iff.1 hl0
        have := hR.all
        rw [hR0, List.append_nil] at this
        rw [← hm, ← HI.out.2.1, (cont_perm this).length_eq]
      clear hrg hR HR hm hb
      obtain ⟨h1, h2⟩ := HE.out
      subst h1
      go_wp2
      go_ret
      exact ⟨rfl, h2⟩
    · intro A d g B w1 hx hrg1 hO1 hs1 hen
      obtain ⟨A', y, B', hRe, hA, hB, hxy⟩ := om2_split hx
      obtain ⟨rfl, rfl⟩ : d = y.1 ∧ g = y.2.1 := ⟨congrArg Prod.fst hxy, congrArg Prod.snd hxy⟩
      rw [hRe] at hR
      have hy := RgO.mem hR.all
      have hb1 : Below w.heap.size w w1 := Only.below hb hO1 hb.size (fun k e => Nat.le_of_eq e.symm)
      have i1 := HI.out.1.below hb1
      have hlen : ∀ ty, (Builtin.len_ #[69] ty #[.map (some y.2.1)]).run Try.prog w1 = .ok (.int .i64 y.2.2.length) w1 := fun ty => lenM undI ty w1 (some y.2.1) y.2.2 (i1.inner y hy)
      have hle : m + y.2.2.length ≤ n := by
        have h1 := (cont_perm (RgO.next hR.all)).length_eq
        rw [cont_app, cont_app, cont_cons] at h1
        simp only [List.length_append, List.length_map] at h1
        have h3 := HI.out.2.1
        omega
      have hw : IntKind.i64.wrap ((m : Int) + (y.2.2.length : Int)) = ((m + y.2.2.length : Nat) : Int) := by
        rw [show ((m + y.2.2.length : Nat) : Int) = (m : Int) + (y.2.2.length : Int) by omega]; exact IntWalk.i64_in _ (by omega)
      have H2 : Hid (∃ D R, RgO w1 p c w.heap.size D R ∧ (cont D).length = m + y.2.2.length ∧ Below w.heap.size w w1) := by
        refine ⟨D ++ [y], A' ++ B', ⟨by rw [om2_app, hA, hB]; exact hrg1, RgO.next hR.all⟩, ?_, hb1⟩
        rw [cont_app, cont_cons, List.length_append, List.length_append, List.length_map, hm]
        simp [cont]
      have hme : rngLeft w1 w.heap.size < rngLeft wr w.heap.size := by
        rw [hrg1.left, hrg.left, hx]
        simp
      unfold mvM at hen
      obtain ⟨M, hM⟩ : ∃ M, m + y.2.2.length = M := ⟨_, rfl⟩
      rw [hM] at hw H2
      clear hrg hR HR hm hb hx hrg1 hO1 hs1 hRe hA hB hy hb1 i1 hle hM
      unfold mvM
      go_wp2
      go_roundw
      case rel => exact ⟨M, rfl, H2⟩
      case measure => exact hme
end
section
open Go.RowKit
attribute [local go_sem ↓ high] loadEn storeEn loadCa storeCa buildCa
attribute [local go_sem high] eqMN

def negC (C : List (En × Nat)) : Nat := (C.filter fun x => x.1.neg).length
theorem negC_app (a b : List (En × Nat)) : negC (a ++ b) = negC a + negC b := by unfold negC; rw [List.filter_append, List.length_append]
theorem negC_perm {a b : List (En × Nat)} (h : a.Perm b) : negC a = negC b := (h.filter _).length_eq
theorem negC_one (x : En × Nat) : negC [x] = if x.1.neg then 1 else 0 := by
  unfold negC
  cases h : x.1.neg <;> simp [h]
theorem negC_le (a : List (En × Nat)) : negC a ≤ a.length := List.length_filter_le _ _
theorem negC_rep {C : List (En × Nat)} {n : Nat} {L : List En} (h : RepL C n L) : negC C = negN L := by
  obtain ⟨U, _, _, h3, rfl⟩ := h
  rw [← negC_perm h3]
  unfold negC negN
  rw [List.filter_map, List.length_map]
  rfl
/-- a range over one directory's names under way -/
theorem snoc_mid {α : Type} {D A B l : List α} {y : α} (h : (D ++ (A ++ y :: B)).Perm l) : ((D ++ [y]) ++ (A ++ B)).Perm l := by
  refine List.Perm.trans ?_ h
  rw [List.append_assoc]
  refine List.Perm.append_left D ?_
  exact (List.perm_middle (a := y) (l₁ := A) (l₂ := B)).symm
set_option maxHeartbeats 8000000 in
theorem negatives_p (p : Nat) (c : Pc) (s : Cs) (w : World) (h : IsC w p c) (hs : Says c s) (hl : s.L.length ≤ 1000000000000000) : Calls Try.prog 35 #[.pointer (some ⟨p, 0, none⟩)] w fun x w' => x = .returned (.int .i64 (negN s.L)) ∧ Below w.heap.size w w' := by
  obtain ⟨c0, -, -, -⟩ := h.cells
  have bx := box8
  have HI : Hid (IsC w p c ∧ negC (cont c.om) = negN s.L ∧ MapV (Value.int .i64) mvM w (some c.g0) (om2 c.om) ∧ (cont c.om).length ≤ 1000000000000000) := ⟨h, negC_rep hs.rep, h.outer, by rw [hs.rep.len]; exact hl⟩
  obtain ⟨n, hn⟩ : ∃ n, negN s.L = n := ⟨_, rfl⟩
  rw [hn] at HI ⊢
  clear h hs hn hl
  go_enter Try.func35, Try.ntmps35
  go_wp2_with (first
    | (at_range; refine wpList_rangeM _ rfl _ _ rfl _ _ undO (some c.g0) (om2 c.om) rfl HI.out.2.2.1 ?_; intro w0 hr0 hb0 hs0; have H0 : Hid (Rng (Value.int .i64) mvM w0 (some c.g0) w.heap.size (om2 c.om) ∧ Below w.heap.size w w0 ∧ w0.heap.size = w.heap.size + 1) := ⟨hr0, hb0, hs0⟩; clear hr0 hb0 hs0)
    | go_in)
  go_frame
  go_loopw [3, 5] (fun s3 _ wr => ∃ m : Nat, s3 = .int .i64 m ∧ Hid (∃ D R, RgO wr p c w.heap.size D R ∧ negC (cont D) = m ∧ Below w.heap.size w wr)) (fun _ _ wr => rngLeft wr w.heap.size)
  case atStart => exact ⟨0, rfl, [], c.om, ⟨H0.out.1, List.Perm.refl _⟩, rfl, H0.out.2.1⟩
  case round =>
    obtain ⟨m, rfl, HR⟩ := hrel
    obtain ⟨D, R, hR, hm, hb⟩ := HR.out
    have hrg := hR.rg
    go_wp2_with (first
      | (at_next; refine wpList_nextM _ rfl _ rfl (some c.g0) w.heap.size _ rfl hrg ?_ ?_)
      | go_in)
    · intro hl0
      have HE : Hid (m = n ∧ Below w.heap.size w wr) := by
        refine ⟨?_, hb⟩
        have hR0 : R = [] := by
          unfold om2 at hl0
          exact List.map_eq_nil_iff.1 hl0
        have := hR.all
        rw [hR0, List.append_nil] at this
        rw [← hm, ← HI.out.2.1, negC_perm (cont_perm this)]
      clear hrg hR HR hm hb
      obtain ⟨h1, h2⟩ := HE.out
      subst h1
      go_wp2
      go_ret
      exact ⟨rfl, h2⟩
    · intro A d g B w1 hx hrg1 hO1 hs1 hen
      obtain ⟨A', y, B', hRe, hA, hB, hxy⟩ := om2_split hx
      obtain ⟨rfl, rfl⟩ : d = y.1 ∧ g = y.2.1 := ⟨congrArg Prod.fst hxy, congrArg Prod.snd hxy⟩
      rw [hRe] at hR
      have hy := RgO.mem hR.all
      have hb1 : Below w.heap.size w w1 := Only.below hb hO1 hb.size (fun k e => Nat.le_of_eq e.symm)
      have i1 := HI.out.1.below hb1
      have HY : Hid (MapV Value.string mvC w1 (some y.2.1) y.2.2) := i1.inner y hy
      have HX : Hid (Rng (Value.int .i64) mvM w1 (some c.g0) w.heap.size (om2 (A' ++ B')) ∧ Below w.heap.size w w1 ∧ ((D ++ [y]) ++ (A' ++ B')).Perm c.om ∧ rngLeft wr w.heap.size = (om2 (A' ++ B')).length + 1 ∧ negC (cont D) = m ∧ y.2.1 < w.heap.size ∧ c.g0 < w.heap.size ∧ w.heap.size < w1.heap.size ∧ negC (cont D) + y.2.2.length ≤ 1000000000000000) := by
        refine ⟨by rw [om2_app, hA, hB]; exact hrg1, hb1, RgO.next hR.all, ?_, hm, (HI.out.1.inner y hy).lt, HI.out.1.outer.lt, hrg1.lt, ?_⟩
        · rw [hrg.left, hx, om2_app, hA, hB]
          simp
          omega
        · have h1 := (cont_perm (RgO.next hR.all)).length_eq
          rw [cont_app, cont_app, cont_cons] at h1
          simp only [List.length_append, List.length_map] at h1
          have h3 := HI.out.2.2.2
          have h4 := negC_le (cont D)
          omega
      unfold mvM at hen
      clear hrg hR HR hm hb hx hrg1 hO1 hs1 hRe hA hB hy hb1 i1
      unfold mvM
      obtain ⟨w7, hw7⟩ : ∃ w7, w7 = wr := ⟨_, rfl⟩
      subst hw7
      go_wp2_with (first
        | (at_range; refine wpList_rangeM _ rfl _ _ rfl _ _ undI (some y.2.1) y.2.2 rfl HY.out ?_; intro w2 hr2 hb2 hs2; have H2 : Hid (Rng Value.string mvC w2 (some y.2.1) w1.heap.size y.2.2 ∧ Below w1.heap.size w1 w2) := ⟨hr2, hb2⟩; clear hr2 hb2 hs2)
        | go_in)
      (try go_frame)
      go_loopw [3, 7] (fun s3 _ wi => ∃ i : Nat, s3 = .int .i64 i ∧ Hid (∃ E F, Rng Value.string mvC wi (some y.2.1) w1.heap.size F ∧ (E ++ F).Perm y.2.2 ∧ m + negC (E.map (·.2)) = i ∧ Below w1.heap.size w1 wi)) (fun _ _ wi => rngLeft wi w1.heap.size)
      case atStart => exact ⟨m, rfl, [], y.2.2, H2.out.1, List.Perm.refl _, rfl, H2.out.2⟩
      case round =>
        obtain ⟨i, rfl, HR⟩ := hrel
        obtain ⟨E, F, hF, hEF, hi, hbi⟩ := HR.out
        go_wp2_with (first
          | (at_next; refine wpList_nextM _ rfl _ rfl (some y.2.1) w1.heap.size _ rfl hF ?_ ?_)
          | go_in)
        · intro hl0
          have HE : Hid (∃ D R, RgO wr p c w.heap.size D R ∧ negC (cont D) = i ∧ Below w.heap.size w wr) := by
            obtain ⟨x1, x2, x3, x4, x5, x6, x7, x8, x9⟩ := HX.out
            refine ⟨D ++ [y], A' ++ B', ⟨x1.moved (hbi.block _ x8) (fun g e => hbi.block _ (by cases e; omega)), x3⟩, ?_, chainB x2 hbi⟩
            rw [hl0, List.append_nil] at hEF
            rw [cont_app, negC_app, x5, cont_cons, ← hi, negC_perm (hEF.map (·.2))]
            simp [cont]
          have hme : rngLeft wr w.heap.size < rngLeft w7 w.heap.size := by
            obtain ⟨x1, x2, x3, x4, x5, x6, x7, x8, x9⟩ := HX.out
            have := (x1.moved (hbi.block _ x8) (fun g e => hbi.block _ (by cases e; omega))).left
            rw [this, x4]
            omega
          clear hF hEF hi hbi HR
          go_wp2
          go_roundw
          case rel => exact ⟨i, rfl, HE⟩
          case measure => exact hme
        · intro A2 nm e u B2 w3 hx hF3 hO3 hs3 hen3
          have hO3' := Only.below hbi hO3 hbi.size (fun k e => Nat.le_of_eq e.symm)
          obtain ⟨w4, hw4⟩ : ∃ w4, w3.alloc (.cells (cvals (e, u)).toArray 71) = w4 := ⟨_, rfl⟩
          have b4 := boxO hw4
          have cs := (cells7_c b4.1).1
          have q2 := cs.c2
          have b34 : Below w1.heap.size w1 w4 := chainB hO3' b4.2.1
          have F4 : Rng Value.string mvC w4 (some y.2.1) w1.heap.size (A2 ++ B2) := hF3.moved (b4.2.1.block _ hF3.lt) (fun g eg => b4.2.1.block _ (by
            obtain ⟨x1, x2, x3, x4, x5, x6, x7, x8, x9⟩ := HX.out
            have := hO3'.size
            cases eg; omega))
          have hle : i + 1 ≤ 1000000000000001 := by
            obtain ⟨x1, x2, x3, x4, x5, x6, x7, x8, x9⟩ := HX.out
            have h1 := hEF.length_eq
            have h2 := negC_le (E.map (·.2))
            simp only [List.length_append, List.length_map] at h1 h2
            omega
          have H4 : Hid (∀ j, j = (i + if e.neg then 1 else 0) → ∃ E F, Rng Value.string mvC w4 (some y.2.1) w1.heap.size F ∧ (E ++ F).Perm y.2.2 ∧ m + negC (E.map (·.2)) = j ∧ Below w1.heap.size w1 w4) := fun j hj => by
            refine ⟨E ++ [(nm, e, u)], A2 ++ B2, F4, snoc_mid (by rw [← hx]; exact hEF), ?_, b34⟩
            rw [List.map_append, negC_app, List.map_cons, List.map_nil, negC_one, hj, ← hi]
            exact (Nat.add_assoc _ _ _).symm
          have hme : rngLeft w4 w1.heap.size < rngLeft wr w1.heap.size := by
            rw [F4.left, hF.left, hx]
            simp
          clear hF hEF hi hbi HR hx hF3 hO3 hs3 hO3' b4 cs b34 F4
          have bx3 := bx w3 (e, u)
          rw [hw4] at bx3
          unfold mvC at hen3 bx3
          unfold mvC
          simp only at hen3 bx3 ⊢
          cases hneg : e.neg with
          | true =>
            rw [show ((e, u) : En × Nat).1.neg = true from hneg] at q2
            rw [hneg] at hen3 bx3
            have hw : IntKind.i64.wrap ((i : Int) + 1) = ((i + 1 : Nat) : Int) := by
              rw [show ((i + 1 : Nat) : Int) = (i : Int) + 1 by omega]; exact IntWalk.i64_in _ (by omega)
            have H5 := H4.out (i + 1) (by rw [hneg]; rfl)
            obtain ⟨I, hI⟩ : ∃ I, i + 1 = I := ⟨_, rfl⟩
            rw [hI] at hw H5
            have H6 : Hid _ := H5
            clear H5 H4 hI hw4
            go_wp2
            go_roundw
            case rel => exact ⟨I, rfl, H6⟩
            case measure => exact hme
          | false =>
            rw [show ((e, u) : En × Nat).1.neg = false from hneg] at q2
            rw [hneg] at hen3 bx3
            have H6 : Hid _ := H4.out i (by rw [hneg]; rfl)
            clear H4 hw4
            go_wp2
            go_roundw
            case rel => exact ⟨i, rfl, H6⟩
            case measure => exact hme
end
section
open Go.Shelf
def Try.sortC_ren : Go.Shelf.Ren := ⟨fun | 6 => 41 | 15 => 53 | 14 => 52 | 28 => 66 | 29 => 67 | 20 => 58 | 21 => 59 | 22 => 60 | 23 => 61 | 24 => 62 | 25 => 63 | 26 => 64 | 27 => 65 | 46 => 76 | 47 => 77 | 48 => 78 | 49 => 79 | 50 => 80 | 57 => 84 | n => n, fun | 22 => 64 | 24 => 71 | 25 => 73 | 3 => 3 | 39 => 85 | 0 => 0 | 53 => 98 | 55 => 100 | 4 => 4 | 46 => 91 | 45 => 90 | 50 => 95 | 5 => 5 | 9 => 9 | 66 => 106 | 70 => 110 | 76 => 114 | 77 => 115 | n => n, fun | n => n⟩
theorem Try.sortC : Go.Proofs.SlLaysF0.n6 Try.prog Try.sortC_ren := {
  mixed := by kernel_rfl
  f6 := ⟨Try.f41.name, by decide, Try.func41.trans (congrArg some (by kernel_rfl))⟩
  f14 := ⟨Try.f52.name, by decide, Try.func52.trans (congrArg some (by kernel_rfl))⟩
  f15 := Try.func53.trans (congrArg some (by kernel_rfl))
  f20 := ⟨Try.f58.name, by decide, Try.func58.trans (congrArg some (by kernel_rfl))⟩
  f21 := ⟨Try.f59.name, by decide, Try.func59.trans (congrArg some (by kernel_rfl))⟩
  f22 := ⟨Try.f60.name, by decide, Try.func60.trans (congrArg some (by kernel_rfl))⟩
  f23 := ⟨Try.f61.name, by decide, Try.func61.trans (congrArg some (by kernel_rfl))⟩
  f24 := ⟨Try.f62.name, by decide, Try.func62.trans (congrArg some (by kernel_rfl))⟩
  f25 := ⟨Try.f63.name, by decide, Try.func63.trans (congrArg some (by kernel_rfl))⟩
  f26 := ⟨Try.f64.name, by decide, Try.func64.trans (congrArg some (by kernel_rfl))⟩
  f27 := ⟨Try.f65.name, by decide, Try.func65.trans (congrArg some (by kernel_rfl))⟩
  f28 := Try.func66.trans (congrArg some (by kernel_rfl))
  f29 := Try.func67.trans (congrArg some (by kernel_rfl))
  f46 := ⟨Try.f76.name, by decide, Try.func76.trans (congrArg some (by kernel_rfl))⟩
  f47 := Try.func77.trans (congrArg some (by kernel_rfl))
  f48 := Try.func78.trans (congrArg some (by kernel_rfl))
  f49 := ⟨Try.f79.name, by decide, Try.func79.trans (congrArg some (by kernel_rfl))⟩
  f50 := ⟨Try.f80.name, by decide, Try.func80.trans (congrArg some (by kernel_rfl))⟩
  f57 := ⟨Try.f84.name, by decide, Try.func84.trans (congrArg some (by kernel_rfl))⟩
  t0 := Try.underlying0
  a0 := Try.isAgg0
  z0 := Try.sizeOf0
  v0 := Try.zeroValue0
  t3 := Try.underlying3
  a3 := Try.isAgg3
  z3 := Try.sizeOf3
  v3 := Try.zeroValue3
  t4 := Try.underlying4
  a4 := Try.isAgg4
  z4 := Try.sizeOf4
  v4 := Try.zeroValue4
  t5 := Try.underlying5
  a5 := Try.isAgg5
  z5 := Try.sizeOf5
  v5 := Try.zeroValue5
  t9 := Try.underlying9
  a9 := Try.isAgg9
  z9 := Try.sizeOf9
  v9 := Try.zeroValue9
  t22 := Try.underlying64
  a22 := Try.isAgg64
  z22 := Try.sizeOf64
  v22 := Try.zeroValue64
  t25 := Try.underlying73
  a25 := Try.isAgg73
  z25 := Try.sizeOf73
  v25 := Try.zeroValue73
  t39 := Try.underlying85
  a39 := Try.isAgg85
  z39 := Try.sizeOf85
  v39 := Try.zeroValue85
  t45 := Try.underlying90
  a45 := Try.isAgg90
  z45 := Try.sizeOf90
  v45 := Try.zeroValue90
  t46 := Try.underlying91
  a46 := Try.isAgg91
  z46 := Try.sizeOf91
  v46 := Try.zeroValue91
  t50 := Try.underlying95
  a50 := Try.isAgg95
  z50 := Try.sizeOf95
  v50 := Try.zeroValue95
  t53 := Try.underlying98
  a53 := Try.isAgg98
  z53 := Try.sizeOf98
  v53 := Try.zeroValue98
  t55 := Try.underlying100
  a55 := Try.isAgg100
  z55 := Try.sizeOf100
  v55 := Try.zeroValue100
  t66 := Try.underlying106
  a66 := Try.isAgg106
  z66 := Try.sizeOf106
  v66 := Try.zeroValue106
  t70 := Try.underlying110
  a70 := Try.isAgg110
  z70 := Try.sizeOf110
  v70 := Try.zeroValue110
  t76 := Try.underlying114
  a76 := Try.isAgg114
  z76 := Try.sizeOf114
  v76 := Try.zeroValue114
  t77 := Try.underlying115
  a77 := Try.isAgg115
  z77 := Try.sizeOf115
  v77 := Try.zeroValue115 }
def Try.sortE_ren : Go.Shelf.Ren := ⟨fun | 6 => 46 | 15 => 53 | 14 => 55 | 28 => 66 | 29 => 67 | 20 => 68 | 21 => 69 | 22 => 70 | 23 => 71 | 24 => 72 | 25 => 73 | 26 => 74 | 27 => 75 | 46 => 81 | 47 => 77 | 48 => 78 | 49 => 82 | 50 => 83 | 57 => 85 | n => n, fun | 22 => 41 | 24 => 37 | 25 => 80 | 3 => 3 | 39 => 85 | 0 => 0 | 53 => 98 | 55 => 100 | 4 => 4 | 46 => 91 | 45 => 90 | 50 => 95 | 5 => 5 | 9 => 9 | 66 => 106 | 70 => 110 | 76 => 114 | 77 => 115 | n => n, fun | n => n⟩
theorem Try.sortE : Go.Proofs.SlLaysF0.n6 Try.prog Try.sortE_ren := {
  mixed := by kernel_rfl
  f6 := ⟨Try.f46.name, by decide, Try.func46.trans (congrArg some (by kernel_rfl))⟩
  f14 := ⟨Try.f55.name, by decide, Try.func55.trans (congrArg some (by kernel_rfl))⟩
  f15 := Try.func53.trans (congrArg some (by kernel_rfl))
  f20 := ⟨Try.f68.name, by decide, Try.func68.trans (congrArg some (by kernel_rfl))⟩
  f21 := ⟨Try.f69.name, by decide, Try.func69.trans (congrArg some (by kernel_rfl))⟩
  f22 := ⟨Try.f70.name, by decide, Try.func70.trans (congrArg some (by kernel_rfl))⟩
  f23 := ⟨Try.f71.name, by decide, Try.func71.trans (congrArg some (by kernel_rfl))⟩
  f24 := ⟨Try.f72.name, by decide, Try.func72.trans (congrArg some (by kernel_rfl))⟩
  f25 := ⟨Try.f73.name, by decide, Try.func73.trans (congrArg some (by kernel_rfl))⟩
  f26 := ⟨Try.f74.name, by decide, Try.func74.trans (congrArg some (by kernel_rfl))⟩
  f27 := ⟨Try.f75.name, by decide, Try.func75.trans (congrArg some (by kernel_rfl))⟩
  f28 := Try.func66.trans (congrArg some (by kernel_rfl))
  f29 := Try.func67.trans (congrArg some (by kernel_rfl))
  f46 := ⟨Try.f81.name, by decide, Try.func81.trans (congrArg some (by kernel_rfl))⟩
  f47 := Try.func77.trans (congrArg some (by kernel_rfl))
  f48 := Try.func78.trans (congrArg some (by kernel_rfl))
  f49 := ⟨Try.f82.name, by decide, Try.func82.trans (congrArg some (by kernel_rfl))⟩
  f50 := ⟨Try.f83.name, by decide, Try.func83.trans (congrArg some (by kernel_rfl))⟩
  f57 := ⟨Try.f85.name, by decide, Try.func85.trans (congrArg some (by kernel_rfl))⟩
  t0 := Try.underlying0
  a0 := Try.isAgg0
  z0 := Try.sizeOf0
  v0 := Try.zeroValue0
  t3 := Try.underlying3
  a3 := Try.isAgg3
  z3 := Try.sizeOf3
  v3 := Try.zeroValue3
  t4 := Try.underlying4
  a4 := Try.isAgg4
  z4 := Try.sizeOf4
  v4 := Try.zeroValue4
  t5 := Try.underlying5
  a5 := Try.isAgg5
  z5 := Try.sizeOf5
  v5 := Try.zeroValue5
  t9 := Try.underlying9
  a9 := Try.isAgg9
  z9 := Try.sizeOf9
  v9 := Try.zeroValue9
  t22 := Try.underlying41
  a22 := Try.isAgg41
  z22 := Try.sizeOf41
  v22 := Try.zeroValue41
  t25 := Try.underlying80
  a25 := Try.isAgg80
  z25 := Try.sizeOf80
  v25 := Try.zeroValue80
  t39 := Try.underlying85
  a39 := Try.isAgg85
  z39 := Try.sizeOf85
  v39 := Try.zeroValue85
  t45 := Try.underlying90
  a45 := Try.isAgg90
  z45 := Try.sizeOf90
  v45 := Try.zeroValue90
  t46 := Try.underlying91
  a46 := Try.isAgg91
  z46 := Try.sizeOf91
  v46 := Try.zeroValue91
  t50 := Try.underlying95
  a50 := Try.isAgg95
  z50 := Try.sizeOf95
  v50 := Try.zeroValue95
  t53 := Try.underlying98
  a53 := Try.isAgg98
  z53 := Try.sizeOf98
  v53 := Try.zeroValue98
  t55 := Try.underlying100
  a55 := Try.isAgg100
  z55 := Try.sizeOf100
  v55 := Try.zeroValue100
  t66 := Try.underlying106
  a66 := Try.isAgg106
  z66 := Try.sizeOf106
  v66 := Try.zeroValue106
  t70 := Try.underlying110
  a70 := Try.isAgg110
  z70 := Try.sizeOf110
  v70 := Try.zeroValue110
  t76 := Try.underlying114
  a76 := Try.isAgg114
  z76 := Try.sizeOf114
  v76 := Try.zeroValue114
  t77 := Try.underlying115
  a77 := Try.isAgg115
  z77 := Try.sizeOf115
  v77 := Try.zeroValue115 }
end
end Go.Proofs.Ytlabophmfdfigaa
