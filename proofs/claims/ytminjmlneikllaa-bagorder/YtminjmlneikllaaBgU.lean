/- The contracts of the two lists without an element. -/
import Derived.Test.YtminjmlneikllaaBgT
namespace Go.Proofs.Ytminjmlneikllaa
open Go.RowKit

theorem made_lc (n : Nat) : (madeCells (Value.agg #[.int .i64 0, .slice none 0 0]).cells (n * 2)).toList.length = n * 2 := by rw [Array.length_toList, size_madeCells]
theorem lc_one {w : World} {B : Nat} {ls : List Lt} (h : ∀ p ∈ ls, OwnB w B p.v p.l ∧ p.l.length ≤ LB) : ∀ u ∈ lc ls, u.oneCell' = true := by
  intro u hu
  obtain ⟨p, hp, hu⟩ := List.mem_flatMap.1 hu
  obtain ⟨a, c, e⟩ := owns_len (h p hp).1
  rw [e] at hu
  simp at hu
  rcases hu with rfl | rfl <;> rfl
theorem lc_take_mem {ls : List Lt} {P : Lt → Prop} (h : ∀ p ∈ ls, P p) (i : Nat) : (∀ p ∈ ls.take i, P p) ∧ (∀ p ∈ ls.drop i, P p) ∧ ∀ p ∈ ls.eraseIdx i, P p :=
  ⟨fun p hp => h p (List.mem_of_mem_take hp), fun p hp => h p (List.mem_of_mem_drop hp), fun p hp => h p (List.mem_of_mem_eraseIdx hp)⟩
/-- the two copies fill the row -/
theorem two_splices (Z X Y : List Value) (hZ : Z.length = X.length + Y.length) : splice (splice Z 0 X) X.length Y = X ++ Y := by
  have e : splice Z 0 X = X ++ Z.drop X.length := by unfold splice; simp
  rw [e]
  unfold splice
  rw [List.take_left, List.drop_eq_nil_of_le (by simp; omega), List.append_nil]
theorem lc_erase (ls : List Lt) (i : Nat) : lc (ls.take i) ++ lc (ls.drop (i + 1)) = lc (ls.eraseIdx i) := by
  rw [List.eraseIdx_eq_take_drop_succ, lc_app]

theorem src_below {W W' : World} {g off : Nat} {cs : List Value} (h : ∀ j v, cs[j]? = some v → W.cell? ((⟨g, off, none⟩ : Addr).add j) = some v) (hg : g < W.heap.size) (hb : Below W.heap.size W W') : ∀ j v, cs[j]? = some v → W'.cell? ((⟨g, off, none⟩ : Addr).add j) = some v := by
  intro j v hv
  have := h j v hv
  rw [add_plain'] at this ⊢
  rw [hb.cell (p := ⟨g, off + j, none⟩) hg]; exact this

theorem without_end {w w2 w3 : World} {N i : Nat} {A1 A2 A3 : List Value} (h1 : A1.length = i * 2) (h2 : A2.length = (N - i) * 2) (h3 : A1 ++ A2 = A3) (hi : i ≤ N) (hN : N ≤ 64) (hb : Below w.heap.size w w2)
    (hg : w3.heap[w.heap.size]? = some (.cells (splice (splice (madeCells (Value.agg #[.int .i64 0, .slice none 0 0]).cells (N * 2)).toList 0 A1) A1.length A2).toArray 37 (0, 0))) (hO : Only (· = w.heap.size) w2.drew w3) :
    ∃ v', Ending.returned (.slice (some ⟨w.heap.size, 0, none⟩) N N) = .returned v' ∧ w3.ownsRow w.heap.size 37 2 v' N A3 ∧ Below w.heap.size w w3 := by
  rw [two_splices _ _ _ (by rw [made_lc]; omega), h3] at hg
  refine ⟨_, rfl, owns_whole (Nat.le_refl _) hg (by rw [← h3, List.length_append]; omega) (by unfold maxLen; omega), ?_⟩
  have hb' : Below w.heap.size w w2.drew := hb.drew
  exact hO.below hb' hb'.size (fun k hk => by omega)

set_option maxHeartbeats 1000000 in
theorem without_any (g cap N i B : Nat) (ls : List Lt) (w : World) (h : w.ownsRow 0 37 2 (.slice (some ⟨g, 0, none⟩) (N + 1) cap) (N + 1) (lc ls)) (hls : ls.length = N + 1) (he : ∀ p ∈ ls, OwnB w B p.v p.l ∧ p.l.length ≤ LB) (hi : i < N + 1) (hN : N ≤ 64) :
    Calls Try.prog 32 #[.slice (some ⟨g, 0, none⟩) (N + 1) cap, .int .i64 i] w fun e w' => ∃ v', e = .returned v' ∧ w'.ownsRow w.heap.size 37 2 v' N (lc (ls.eraseIdx i)) ∧ Below w.heap.size w w' := by
  obtain ⟨i1, hi1, hw0, hw1, hw2⟩ := info_parts Try.infoL
  obtain ⟨hc, _, hcap, _, _, hg⟩ := owns_cells h
  have one := lc_one he
  have X1 : Hid (∀ j v, (lc (ls.take i))[j]? = some v → w.cell? ((⟨g, 0, none⟩ : Addr).add j) = some v) := fun j v hv => by
    rw [add_plain', Nat.zero_add]
    refine hc j v ?_
    rw [← lc_take, List.getElem?_take] at hv
    split at hv
    · exact hv
    · cases hv
  have X2 : Hid (∀ j v, (lc (ls.drop (i + 1)))[j]? = some v → w.cell? ((⟨g, (i + 1) * 2, none⟩ : Addr).add j) = some v) := fun j v hv => by
    rw [add_plain']
    refine hc _ v ?_
    rw [← lc_drop, List.getElem?_drop] at hv
    exact hv
  have HE : Hid ((∀ u ∈ lc (ls.take i), u.oneCell' = true) ∧ (∀ u ∈ lc (ls.drop (i + 1)), u.oneCell' = true) ∧ (lc (ls.take i)).length = i * 2 ∧ (lc (ls.drop (i + 1))).length = (N - i) * 2 ∧ lc (ls.take i) ++ lc (ls.drop (i + 1)) = lc (ls.eraseIdx i)) :=
    ⟨fun u hu => one u (by rw [← lc_take] at hu; exact List.mem_of_mem_take hu), fun u hu => one u (by rw [← lc_drop] at hu; exact List.mem_of_mem_drop hu), by rw [lc_len, List.length_take, hls]; omega, by rw [lc_len, List.length_drop, hls]; omega, lc_erase _ _⟩
  obtain ⟨A1, hA1⟩ : ∃ x, lc (ls.take i) = x := ⟨_, rfl⟩
  obtain ⟨A2, hA2⟩ : ∃ x, lc (ls.drop (i + 1)) = x := ⟨_, rfl⟩
  obtain ⟨A3, hA3⟩ : ∃ x, lc (ls.eraseIdx i) = x := ⟨_, rfl⟩
  rw [hA1] at X1 HE
  rw [hA2] at X2 HE
  rw [hA3] at HE ⊢
  clear hc one h he hls hA1 hA2 hA3
  go_enter Try.func32, Try.ntmps32
  go_upto_region 3 with (first
    | (at_make; refine wpList_make_full _ rfl (.tmp 8) (.tmp 8) 48 rfl _ 37 i1 (.agg #[.int .i64 0, .slice none 0 0]) 2 Try.underlying48 hi1 hw0 hw1 .i64 .i64 _ _ N rfl rfl (by omega) (by omega) (by rw [hw2]; omega) (by unfold maxLen; omega) (Nat.le_refl _) ?_; intro w1 hown hgrow; have hb1 := below_grown hgrow; have HM : Hid _ := owns_all hown; clear hown hgrow)
    | (refine wpList_copy_spliceK rfl (.tmp 10) (.tmp 13) _ _ rfl 2 37 Try.underlying48 Try.sizeL (some ⟨w.heap.size, 0, none⟩) (some ⟨g, 0, none⟩) N N i cap rfl rfl i w.heap.size 0 _ 37 HM.out A1 (Nat.min_eq_left (by omega)) HE.out.2.2.1 (fun _ => ⟨rfl, _, rfl, src_below X1.out hg hb1⟩) (by rw [HE.out.2.2.1, made_lc]; omega) HE.out.1 ?_; intro w2 hg2 hO2))
  simp only [Act.put, List.setIfInBounds_toArray, List.set_cons_zero, List.set_cons_succ]
  have hb2 : Below w.heap.size w w2 := hO2.below hb1 hb1.size (fun k hk => by omega)
  have hwr : IntKind.i64.wrap ((i : Int) + 1) = (i : Int) + 1 := IntWalk.i64_in _ (by omega)
  have hi0 : (0 : Int) ≤ (i : Int) + 1 := by omega
  have htn : ((i : Int) + 1).toNat = i + 1 := by omega
  clear HM hO2 hb1
  by_cases hiN : i = N
  · subst hiN
    by_cases hic : cap = i + 1
    · subst hic
      go_region_law (refine step_copy_spliceK rfl (.tmp 17) (.tmp 21) 48 48 rfl 2 37 Try.underlying48 Try.sizeL (some ⟨w.heap.size, 0, none⟩) (some ⟨g, 0, none⟩) 0 0 0 0 (by simp [Act.eval, Act.put]) (by simp [Act.eval, Act.put]) 0 w.heap.size A1.length _ 37 hg2.out A2 rfl (by rw [HE.out.2.2.2.1]; omega) (fun h => by omega) (by rw [HE.out.2.2.1, HE.out.2.2.2.1, length_splice _ _ _ (by rw [HE.out.2.2.1, made_lc]; omega), made_lc]; omega) HE.out.2.1 ?_; intro w3 hg3 hO3)
      go_wp2
      go_ret
      exact without_end HE.out.2.2.1 HE.out.2.2.2.1 HE.out.2.2.2.2 (by omega) (by omega) hb2 hg3.out hO3
    · go_region_law (refine step_copy_spliceK rfl (.tmp 17) (.tmp 21) 48 48 rfl 2 37 Try.underlying48 Try.sizeL (some ⟨w.heap.size, 0, none⟩) (some ⟨g, (i + 1) * 2, none⟩) 0 0 0 (cap - (i + 1)) (by simp [Act.eval, Act.put]) (by simp [Act.eval, Act.put]) 0 w.heap.size A1.length _ 37 hg2.out A2 rfl (by rw [HE.out.2.2.2.1]; omega) (fun h => by omega) (by rw [HE.out.2.2.1, HE.out.2.2.2.1, length_splice _ _ _ (by rw [HE.out.2.2.1, made_lc]; omega), made_lc]; omega) HE.out.2.1 ?_; intro w3 hg3 hO3)
      go_wp2
      go_ret
      exact without_end HE.out.2.2.1 HE.out.2.2.2.1 HE.out.2.2.2.2 (by omega) (by omega) hb2 hg3.out hO3
  · have hiN' : ¬ N = i := fun e => hiN e.symm
    have hic : ¬ cap = i + 1 := by omega
    have hii : (i : Int) ≤ (N : Int) := by omega
    have hin : (i : Int) + 1 ≤ (N : Int) + 1 := by omega
    go_region_law (refine step_copy_spliceK rfl (.tmp 17) (.tmp 21) 48 48 rfl 2 37 Try.underlying48 Try.sizeL (some ⟨w.heap.size, i * 2, none⟩) (some ⟨g, (i + 1) * 2, none⟩) (N - i) (N - i) (N + 1 - (i + 1)) (cap - (i + 1)) (by simp [Act.eval, Act.put]) (by simp [Act.eval, Act.put]) (N - i) w.heap.size (i * 2) _ 37 hg2.out A2 (by simp) HE.out.2.2.2.1 (fun _ => ⟨rfl, _, rfl, src_below X2.out hg hb2.drew⟩) (by rw [HE.out.2.2.2.1, length_splice _ _ _ (by rw [HE.out.2.2.1, made_lc]; omega), made_lc]; omega) HE.out.2.1 ?_; intro w3 hg3 hO3)
    rw [← HE.out.2.2.1] at hg3
    go_wp2
    go_ret
    exact without_end HE.out.2.2.1 HE.out.2.2.2.1 HE.out.2.2.2.2 (by omega) (by omega) hb2 hg3.out hO3

theorem rw_src {w w1 : World} {g i N cap : Nat} {A2 : List Value} (h : ∀ j v, A2[j]? = some v → w.cell? ((⟨g, (i + 1) * 2, none⟩ : Addr).add j) = some v) (hg : g < w.heap.size) (hb : Below w.heap.size w w1) (hl : A2.length = (N - i) * 2) (hcap : N + 1 ≤ cap) (hi : i < N + 1) :
    ∃ ad, (if cap = i + 1 then some (⟨g, 0, none⟩ : Addr) else some ⟨g, (i + 1) * 2, none⟩) = some ad ∧ ∀ j v, A2[j]? = some v → w1.cell? (ad.add j) = some v := by
  by_cases hc : cap = i + 1
  · rw [if_pos hc]
    refine ⟨_, rfl, fun j v hv => ?_⟩
    have : A2 = [] := List.eq_nil_of_length_eq_zero (by rw [hl]; omega)
    rw [this] at hv; cases hv
  · rw [if_neg hc]
    exact ⟨_, rfl, src_below h hg hb⟩

set_option maxHeartbeats 1000000 in
theorem rwithout_any (B b N i : Nat) (s : Bg) (w : World) (h : IsB TR w B b s) (hls : s.ls.length = N + 1) (hi : i < N + 1) :
    Calls Try.prog 33 #[.pointer (some ⟨b, 0, none⟩), .int .i64 i] w fun e w' => ∃ v', e = .returned v' ∧ w'.ownsRow w.heap.size 37 2 v' N (lc (s.ls.eraseIdx i)) ∧ Below w.heap.size w w' := by
  obtain ⟨i1, hi1, hw0, hw1, hw2⟩ := info_parts Try.infoL
  obtain ⟨_, c1, _⟩ := h.cells
  have hrow := h.row
  rw [hls] at hrow
  obtain ⟨g, cap, e⟩ := owns_form hrow
  rw [e] at hrow c1
  obtain ⟨hc, _, hcap, _, _, hg⟩ := owns_cells hrow
  have one := lc_one h.each
  have hN : N + 1 ≤ 64 := by have := h.few; have := h.lim; omega
  have hlb := h.tb.lt
  have X1 : Hid (∀ j v, (lc (s.ls.take i))[j]? = some v → w.cell? ((⟨g, 0, none⟩ : Addr).add j) = some v) := fun j v hv => by
    rw [add_plain', Nat.zero_add]
    refine hc j v ?_
    rw [← lc_take, List.getElem?_take] at hv
    split at hv
    · exact hv
    · cases hv
  have X2 : Hid (∀ j v, (lc (s.ls.drop (i + 1)))[j]? = some v → w.cell? ((⟨g, (i + 1) * 2, none⟩ : Addr).add j) = some v) := fun j v hv => by
    rw [add_plain']
    refine hc _ v ?_
    rw [← lc_drop, List.getElem?_drop] at hv
    exact hv
  have HE : Hid ((∀ u ∈ lc (s.ls.take i), u.oneCell' = true) ∧ (∀ u ∈ lc (s.ls.drop (i + 1)), u.oneCell' = true) ∧ (lc (s.ls.take i)).length = i * 2 ∧ (lc (s.ls.drop (i + 1))).length = (N - i) * 2 ∧ lc (s.ls.take i) ++ lc (s.ls.drop (i + 1)) = lc (s.ls.eraseIdx i)) :=
    ⟨fun u hu => one u (by rw [← lc_take] at hu; exact List.mem_of_mem_take hu), fun u hu => one u (by rw [← lc_drop] at hu; exact List.mem_of_mem_drop hu), by rw [lc_len, List.length_take, hls]; omega, by rw [lc_len, List.length_drop, hls]; omega, lc_erase _ _⟩
  obtain ⟨A1, hA1⟩ : ∃ x, lc (s.ls.take i) = x := ⟨_, rfl⟩
  obtain ⟨A2, hA2⟩ : ∃ x, lc (s.ls.drop (i + 1)) = x := ⟨_, rfl⟩
  obtain ⟨A3, hA3⟩ : ∃ x, lc (s.ls.eraseIdx i) = x := ⟨_, rfl⟩
  rw [hA1] at X1 HE
  rw [hA2] at X2 HE
  rw [hA3] at HE ⊢
  have hwr : IntKind.i64.wrap ((i : Int) + 1) = (i : Int) + 1 := IntWalk.i64_in _ (by omega)
  have hi0 : (0 : Int) ≤ (i : Int) + 1 := by omega
  have htn : ((i : Int) + 1).toNat = i + 1 := by omega
  have hii : (i : Int) ≤ (cap : Int) := by omega
  have hin : (i : Int) + 1 ≤ (N : Int) + 1 := by omega
  clear hc one h hls hA1 hA2 hA3 hrow e
  go_enter Try.func33, Try.ntmps33
  go_wp2_with (first
    | (at_builtin; refine wpList_append_own _ rfl (.tmp 6) (.tmp 12) 48 rfl w.heap.size 37 i1 (.agg #[.int .i64 0, .slice none 0 0]) 2 32 Try.underlying48 hi1 hw0 hw1 hw2 rfl (by decide) _ _ _ rfl (World.ownsRow_nil _ _ _ _) ⟨g, 0, none⟩ i cap A1 rfl HE.out.2.2.1 X1.out HE.out.1 (by unfold maxLen; omega) (by omega) (Nat.le_refl _) ?_; intro v1 w1 hown1 hgrow1 _; have hb1 := below_grown hgrow1; have e1 := (hb1.cell (p := ⟨b, 1, none⟩) hlb).trans c1; obtain ⟨ad, had, hsrc⟩ := rw_src X2.out hg hb1 HE.out.2.2.2.1 hcap hi; have HS : Hid _ := hsrc; clear hsrc hgrow1)
    | (at_builtin; refine wpList_append_own _ rfl (.tmp 14) (.tmp 21) 48 rfl w.heap.size 37 i1 (.agg #[.int .i64 0, .slice none 0 0]) 2 32 Try.underlying48 hi1 hw0 hw1 hw2 rfl (by decide) _ _ _ rfl hown1 ad (N - i) (cap - (i + 1)) A2 (by simp [Act.eval]) HE.out.2.2.2.1 HS.out HE.out.2.1 (by unfold maxLen; omega) (by omega) (by have := hb1.size; omega) ?_; intro v2 w2 hown2 hgrow2 _))
  go_ret
  refine ⟨_, rfl, ?_, hb1.grown hgrow2 hb1.size (fun k hk => (World.ownsRow.lt hown1 k hk).1)⟩
  rw [List.nil_append, HE.out.2.2.2.2, show 0 + i + (N - i) = N by omega] at hown2
  exact hown2
end Go.Proofs.Ytminjmlneikllaa
