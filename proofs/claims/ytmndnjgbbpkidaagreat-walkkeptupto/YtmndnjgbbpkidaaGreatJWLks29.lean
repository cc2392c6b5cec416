/- slices.Concat of two lists of texts. -/
import Derived.Test.YtmndnjgbbpkidaaGreatJWLks28
import Derived.Lib.AppendZeros
namespace Go.Proofs.YtmndnjgbbpkidaaGreat
section
open Go.RowKit

theorem str_one (l : List ByteArray) : ∀ u ∈ l.map Value.string, u.oneCell' = true := by
  intro u hu
  obtain ⟨x, _, rfl⟩ := List.mem_map.1 hu
  rfl
theorem appS {w : World} {B : Nat} {v : Value} {l l2 : List ByteArray} {ad : Addr} {c : Nat} (h : Own w B v l) (h2 : ∀ j u, (l2.map Value.string)[j]? = some u → w.cell? (ad.add j) = some u) (hB : B ≤ w.heap.size) (hl : (l.length + l2.length) * 16 ≤ 140737488355328) :
    ∃ v3 W, (∀ ty, (Builtin.append_ #[46, 46] ty #[v, .slice (some ad) l2.length c]).run Tryz.prog w = .ok v3 W) ∧ Own W B v3 (l ++ l2) ∧ Only (fun k => v.ownBlock = some k) w W := by
  obtain ⟨i1, hi1, hw0, hw1, hw2⟩ := info_parts Tryz.infoS
  obtain ⟨v', W, a1, a2, a3, _, a5⟩ := run_append_own_at (P := Tryz.prog) w B 46 0 9 i1 _ 1 16 Tryz.underlying46 hi1 hw0 hw1 hw2 rfl (by decide) v l.length (l.map Value.string) h ad l2.length c (l2.map Value.string) (by simp) h2 (str_one l2) (by unfold maxLen; omega) hl hB
  refine ⟨v', W, fun ty => ?_, ?_, only_grown a3⟩
  · have : (Builtin.append_ #[46, 46] ty #[v, .slice (some ad) l2.length c]).run Tryz.prog w = (Builtin.append_ #[46, 46] 0 #[v, .slice (some ad) l2.length c]).run Tryz.prog w := rfl
    rw [this]; exact a1
  · show World.ownsRow _ _ _ _ _ _ _
    rw [List.length_append, List.map_append]; exact a2
theorem appS_none {w : World} {B : Nat} {v : Value} {l : List ByteArray} (h : Own w B v l) (c : Nat) (ty : TypeId) : (Builtin.append_ #[46, 46] ty #[v, .slice none 0 c]).run Tryz.prog w = .ok v w := by
  obtain ⟨i, hi, hz, -, hb⟩ := info_parts Tryz.infoS
  rcases h.2 with ⟨rfl, h0⟩ | ⟨g, cap, cur, rfl, hbg, hg, hnc, hcm, hcs, htake⟩
  · simp [Builtin.append_, run_underlying Tryz.underlying46, sizeOf, typeInfo, zeroValue, hi, hz, hb, Builtin.lenOf, run_firstCells_none]
  · simp [storeCells, Builtin.append_, run_underlying Tryz.underlying46, sizeOf, typeInfo, zeroValue, hi, hz, hb, hnc, Builtin.lenOf, run_firstCells_none]
/-- append of texts that can be read -/
theorem appS_any {w : World} {B : Nat} {v : Value} {l l2 : List ByteArray} {a : Option Addr} {c : Nat} (h : Own w B v l) (h2 : RowS w a l2) (hB : B ≤ w.heap.size) (hl : (l.length + l2.length) * 16 ≤ 140737488355328) :
    ∃ a6 N6 c6 W, (∀ ty, (Builtin.append_ #[46, 46] ty #[v, .slice a l2.length c]).run Tryz.prog w = .ok (.slice a6 N6 c6) W) ∧ Own W B (.slice a6 N6 c6) (l ++ l2) ∧ Only (fun k => v.ownBlock = some k) w W := by
  cases a with
  | none =>
    have he : l2 = [] := by
      rcases h2 with h2 | ⟨b, off, e, _⟩
      · exact h2
      · cases e
    subst he
    obtain ⟨a6, c6, rfl⟩ := owns_len h
    refine ⟨a6, _, c6, w, fun ty => appS_none h c ty, by rw [List.append_nil]; exact h, Only.refl _ _⟩
  | some ad =>
    obtain ⟨v3, W, r3, o3, k3⟩ := appS (ad := ad) (c := c) h (by
      intro j u hu
      rcases h2 with h2 | ⟨b, off, e, hs, hc⟩
      · rw [h2] at hu; simp at hu
      · cases e
        rw [add_plain']
        rw [List.getElem?_map] at hu
        cases hx : l2[j]? with
        | none => rw [hx] at hu; cases hu
        | some x =>
          rw [hx] at hu
          cases hu
          exact hc j x hx) hB hl
    obtain ⟨a6, c6, rfl⟩ := owns_len o3
    exact ⟨a6, _, c6, W, r3, o3, k3⟩
set_option maxHeartbeats 2000000 in
theorem grow_p (n : Nat) (w : World) (hn : n ≤ 2000000000000) : Calls Tryz.prog 90 #[.slice none 0 0, .int .i64 n] w fun r w' => ∃ v, r = .returned v ∧ Own w' w.heap.size v [] ∧ Below w.heap.size w w' := by
  have h0 : ¬ (n : Int) < 0 := by omega
  by_cases hz : n = 0
  · subst hz
    go_enter Tryz.func90, Tryz.ntmps90
    go_wp2
    go_ret
    exact ⟨_, rfl, Own.nil _ _, Below.refl _ _⟩
  · have hpz : (0 : Int) < (n : Int) := by omega
    obtain ⟨i, hi, hzz, hs, hb⟩ := info_parts Tryz.infoS
    have hr := fun ty => Lib.run_append_nil_zeros (P := Tryz.prog) w 46 3 ty 9 i (.string ⟨#[]⟩) .i64 .i64 Tryz.underlying46 Tryz.underlying3 hi hzz n (by omega) (by omega) (by omega) (by rw [hb]; omega)
    have hge := grownCap_ge w n 0 9
    obtain ⟨cp, hcp⟩ : ∃ c, grownCap w n 0 9 = c := ⟨_, rfl⟩
    have hcm2 : grownCap w n 0 9 ≤ maxLen := grownCap_le_maxLen w n 0 9 (by unfold maxLen; omega)
    obtain ⟨W, hW⟩ : ∃ W, w.drew.alloc (.cells (Builtin.zeroCells (Value.string ⟨#[]⟩).cells n ++ Builtin.zeroCells (Value.string ⟨#[]⟩).cells (grownCap w n 0 9 - n)) 9) = W := ⟨_, rfl⟩
    rw [hW, hcp] at hr
    have HO : Hid (Own W w.heap.size (.slice (some ⟨w.heap.size, 0, none⟩) 0 cp) [] ∧ Below w.heap.size w W) := by
      rw [← hW]
      refine ⟨⟨rfl, .inr ⟨w.heap.size, cp, _, rfl, Nat.le_refl _, heap_alloc_new w.drew _, Nat.zero_le _, by rw [← hcp]; exact hcm2, ?_, by simp⟩⟩, (Below.refl _ w).drew.alloc (Nat.le_refl _) _⟩
      rw [← hcp]
      simp only [Array.size_append, size_zeroCells]
      show n * 1 + _ * 1 = _
      omega
    have hcz : (0 : Int) ≤ (cp : Int) := by omega
    rw [hcp] at hge
    clear hcp hcm2 hW hi hzz hs hb hz
    go_enter Tryz.func90, Tryz.ntmps90
    go_wp2_with (at_builtin; refine Lib.wpList_append_run _ rfl _ _ 46 3 rfl _ _ rfl rfl _ _ (hr _) ?_)
    go_ret
    exact ⟨_, rfl, HO.out⟩
set_option maxRecDepth 20000 in
set_option maxHeartbeats 8000000 in
theorem concat_p (gb c1 c2 : Nat) (a1 a2 : Option Addr) (l1 l2 : List ByteArray) (w : World) (hg : w.heap[gb]? = some (.cells #[.slice a1 l1.length c1, .slice a2 l2.length c2] 46 (0, 0))) (h1 : RowS w a1 l1) (h2 : RowS w a2 l2) (hl : l1.length + l2.length ≤ 1000000000000) :
    Calls Tryz.prog 76 #[.slice (some ⟨gb, 0, none⟩) 2 2] w fun r w' => ∃ v, r = .returned v ∧ Own w' w.heap.size v (l1 ++ l2) ∧ Below w.heap.size w w' := by
  obtain ⟨n1, hn1⟩ : ∃ n, l1.length = n := ⟨_, rfl⟩
  obtain ⟨n2, hn2⟩ : ∃ n, l2.length = n := ⟨_, rfl⟩
  have HR : Hid (∀ W, Below w.heap.size w W → RowS W a1 l1 ∧ RowS W a2 l2 ∧ W.cell? ⟨gb, 0, none⟩ = some (.slice a1 n1 c1) ∧ W.cell? ⟨gb, 1, none⟩ = some (.slice a2 n2 c2)) := fun W hW => by
    have hh := hkeep hg hW
    rw [hn1, hn2] at hh
    exact ⟨h1.below hW, h2.below hW, by rw [cell_of hh]; rfl, by rw [cell_of hh]; rfl⟩
  have HN : Hid (l1.length = n1 ∧ l2.length = n2) := ⟨hn1, hn2⟩
  rw [hn1, hn2] at hl
  obtain ⟨n3, hn3⟩ : ∃ n, n1 + n2 = n := ⟨_, rfl⟩
  have hw1 : IntKind.i64.wrap (n1 : Int) = (n1 : Int) := IntWalk.i64_in _ (by omega)
  have hw0 : wrap64 (n1 : Int) = (n1 : Int) := IntWalk.wrap64_in _ (by omega)
  have hw2 : IntKind.i64.wrap ((n1 : Int) + (n2 : Int)) = (n3 : Int) := by rw [show (n1 : Int) + (n2 : Int) = (n3 : Int) by omega]; exact IntWalk.i64_in _ (by omega)
  have hz1 : ¬ (n1 : Int) < 0 := by omega
  have hz3 : ¬ (n3 : Int) < 0 := by omega
  have HG : Hid (∀ W, Below w.heap.size w W → Calls Tryz.prog 90 #[.slice none 0 0, .int .i64 n3] W fun r w' => ∃ a6 c6, r = .returned (.slice a6 0 c6) ∧ Own w' w.heap.size (.slice a6 0 c6) [] ∧ Below w.heap.size w w') := fun W hW => by
    refine (grow_p n3 W (by omega)).mono ?_
    rintro r w' ⟨v, rfl, ho, hb⟩
    obtain ⟨a6, c6, rfl⟩ := owns_len ho
    exact ⟨a6, c6, rfl, Own.le ho hW.size, chainB hW hb⟩
  have hB0 : Below w.heap.size w w := Below.refl _ _
  have HL : Hid (n1 + n2 ≤ 1000000000000) := hl
  clear hg h1 h2 hn1 hn2 hn3 hl
  go_enter Tryz.func76, Tryz.ntmps76
  go_wp2
  go_loopw [3, 11] (fun s3 s11 wr => ∃ j : Nat, j ≤ 2 ∧ s11 = .int .i64 j ∧ ∃ z : Int, s3 = .int .i64 z ∧ Hid (Below w.heap.size w wr ∧ (j = 0 → z = 0) ∧ (j = 1 → z = n1) ∧ (j = 2 → z = n3))) (fun _ s11 _ => 2 - (intOf s11).toNat)
  case atStart => exact ⟨0, by omega, rfl, 0, rfl, hB0, fun _ => rfl, fun h => by omega, fun h => by omega⟩
  case round =>
    clear hB0
    obtain ⟨j, hj, rfl, z, rfl, HJ⟩ := hrel
    obtain ⟨w7, hw7⟩ : ∃ w7, w7 = wr := ⟨_, rfl⟩
    subst hw7
    obtain ⟨-, -, p0, p1⟩ := HR.out w7 HJ.out.1
    have HB7 : Hid (Below w.heap.size w w7) := HJ.out.1
    have hcase : j = 0 ∨ j = 1 ∨ j = 2 := by omega
    rcases hcase with rfl | rfl | rfl
    · have hz0 : z = 0 := HJ.out.2.1 rfl
      subst hz0
      clear HJ
      go_wp2
      go_roundw
      case rel => exact ⟨1, by omega, rfl, n1, rfl, HB7.out, fun h => by omega, fun _ => rfl, fun h => by omega⟩
      case measure => simp [intOf]
    · have hz0 : z = n1 := HJ.out.2.2.1 rfl
      subst hz0
      clear HJ
      go_wp2
      go_roundw
      case rel => exact ⟨2, by omega, rfl, n3, rfl, HB7.out, fun h => by omega, fun h => by omega, fun _ => rfl⟩
      case measure => simp [intOf]
    · have hz0 : z = n3 := HJ.out.2.2.2 rfl
      subst hz0
      clear HJ
      go_wp2_with (go_at_call 90; refine (HG.out _ HB7.out).mono ?_; rintro r w1 ⟨a6, c6, rfl, ho, hb⟩; have H1 : Hid (Own w1 w.heap.size (.slice a6 0 c6) [] ∧ Below w.heap.size w w1) := ⟨ho, hb⟩; clear ho hb)
      go_loopw [6, 27] (fun s6 s27 wk => ∃ j : Nat, j ≤ 2 ∧ s27 = .int .i64 j ∧ ∃ a7 N7 c7, s6 = .slice a7 N7 c7 ∧ Hid (Below w.heap.size w wk ∧ ∃ l, Own wk w.heap.size (.slice a7 N7 c7) l ∧ (j = 0 → l = []) ∧ (j = 1 → l = l1) ∧ (j = 2 → l = l1 ++ l2))) (fun _ s27 _ => 2 - (intOf s27).toNat)
      case atStart => exact ⟨0, by omega, rfl, _, _, _, rfl, H1.out.2, [], H1.out.1, fun _ => rfl, fun h => by omega, fun h => by omega⟩
      case round =>
        clear H1
        obtain ⟨j, hj, rfl, a7, N7, c7, rfl, HJ⟩ := hrel
        have hcase : j = 0 ∨ j = 1 ∨ j = 2 := by omega
        obtain ⟨hb, l, ho, k0, k1, k2⟩ := HJ.out
        obtain ⟨r1, r2, q0, q1⟩ := HR.out _ hb
        rcases hcase with rfl | rfl | rfl
        · obtain rfl : l = [] := k0 rfl
          obtain ⟨a6', N6, c6', Z, hr, hoZ, hOZ⟩ := appS_any (c := c1) ho r1 hb.size (by have := HL.out; have := HN.out; simp only [List.length_nil]; omega)
          rw [HN.out.1] at hr
          have HZ : Hid (Below w.heap.size w Z ∧ ∃ l, Own Z w.heap.size (.slice a6' N6 c6') l ∧ (1 = 0 → l = []) ∧ (1 = 1 → l = l1) ∧ (1 = 2 → l = l1 ++ l2)) := ⟨hOZ.below hb hb.size fun b hb' => (World.ownsRow.lt ho b hb').1, _, hoZ, fun h => by omega, fun _ => List.nil_append _, fun h => by omega⟩
          clear HJ hb ho k0 k1 k2 r1 r2 hoZ hOZ
          go_wp2_with (at_builtin; refine wpList_apR rfl (.tmp 31) (.tmp 32) 46 rfl _ _ (.slice a6' N6 c6') Z (by simp [Act.eval]) (by simp [Act.eval]) hr ?_)
          go_roundw
          case rel => exact ⟨1, by omega, rfl, _, _, _, rfl, HZ⟩
          case measure => simp [intOf]
        · obtain rfl : l = l1 := k1 rfl
          obtain ⟨a6', N6, c6', Z, hr, hoZ, hOZ⟩ := appS_any (c := c2) ho r2 hb.size (by have := HL.out; have := HN.out; omega)
          rw [HN.out.2] at hr
          have HZ : Hid (Below w.heap.size w Z ∧ ∃ l', Own Z w.heap.size (.slice a6' N6 c6') l' ∧ (2 = 0 → l' = []) ∧ (2 = 1 → l' = l) ∧ (2 = 2 → l' = l ++ l2)) := ⟨hOZ.below hb hb.size fun b hb' => (World.ownsRow.lt ho b hb').1, _, hoZ, fun h => by omega, fun h => by omega, fun _ => rfl⟩
          clear HJ hb ho k0 k1 k2 r1 r2 hoZ hOZ
          go_wp2_with (at_builtin; refine wpList_apR rfl (.tmp 31) (.tmp 32) 46 rfl _ _ (.slice a6' N6 c6') Z (by simp [Act.eval]) (by simp [Act.eval]) hr ?_)
          go_roundw
          case rel => exact ⟨2, by omega, rfl, _, _, _, rfl, HZ⟩
          case measure => simp [intOf]
        · obtain rfl : l = l1 ++ l2 := k2 rfl
          have HZ : Hid (Own wr w.heap.size (.slice a7 N7 c7) (l1 ++ l2) ∧ Below w.heap.size w wr) := ⟨ho, hb⟩
          clear HJ hb ho k0 k1 k2 r1 r2
          go_wp2
          go_ret
          exact ⟨_, rfl, HZ.out⟩
end
end Go.Proofs.YtmndnjgbbpkidaaGreat
