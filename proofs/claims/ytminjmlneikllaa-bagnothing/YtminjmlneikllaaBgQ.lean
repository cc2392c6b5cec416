/- The contracts of the helpers: Place, CopyBytes, SameBytes; and of the two that copy a letter. -/
import Derived.Test.YtminjmlneikllaaBgP
import Derived.Laws.ResultCell
namespace Go.Proofs.Ytminjmlneikllaa
open Go.RowKit

theorem Try.infoU : (Try.prog.info? 5).map (fun i => (i.zero, i.size, i.bytes)) = some (some (.int .u8 0), 1, 1) := by kernel_rfl
theorem Try.sizeU : (Try.prog.info? 5).map (·.size) = some 1 := by kernel_rfl
theorem Try.infoL : (Try.prog.info? 37).map (fun i => (i.zero, i.size, i.bytes)) = some (some (.agg #[.int .i64 0, .slice none 0 0]), 2, 32) := by kernel_rfl
theorem Try.sizeL : (Try.prog.info? 37).map (·.size) = some 2 := by kernel_rfl

def pl (v : Int) (n : Nat) : Nat := (if v.tmod n < 0 then v.tmod n + n else v.tmod n).toNat
theorem pl_lt (v : Int) (n : Nat) (h : 1 ≤ n) : pl v n < n := by
  have h1 := Int.tmod_lt_of_pos v (show (0 : Int) < n by omega)
  have h2 := Int.lt_tmod_of_pos v (show (0 : Int) < n by omega)
  unfold pl
  split <;> omega
theorem place_any (v : Int) (n : Nat) (w : World) (h : 1 ≤ n) (h2 : n ≤ 1024) :
    Calls Try.prog 11 #[.int .i64 v, .int .i64 n] w fun e w' => e = .returned (.int .i64 (pl v n)) ∧ w' = w := by
  have b1 := Int.tmod_lt_of_pos v (show (0 : Int) < n by omega)
  have b2 := Int.lt_tmod_of_pos v (show (0 : Int) < n by omega)
  by_cases hm : v.tmod n < 0
  · have e : (pl v n : Int) = v.tmod n + n := by unfold pl; rw [if_pos hm]; omega
    rw [e]
    clear e
    go_enter Try.func11, Try.ntmps11
    go_wp2
    go_ret
    exact ⟨rfl, rfl⟩
  · have e : (pl v n : Int) = v.tmod n := by unfold pl; rw [if_neg hm]; omega
    rw [e]
    clear e
    go_enter Try.func11, Try.ntmps11
    go_wp2
    go_ret
    exact ⟨rfl, rfl⟩

/-- how long bytes may be -/
def LB : Nat := 140737488351232

theorem copyB_any (v : Value) (l : List Int) (w : World) (h : RB w v l) (hl : l.length ≤ LB) :
    Calls Try.prog 27 #[v] w fun e w' => ∃ v', e = .returned v' ∧ OwnB w' w.heap.size v' l ∧ Below w.heap.size w w' := by
  obtain ⟨i0, hi, hz0, hz1, hz2⟩ := info_parts Try.infoU
  have hL : l.length ≤ 140737488351232 := hl
  obtain ⟨a, cap, rfl, _⟩ := id h
  rcases h.src with ⟨rfl, rfl⟩ | ⟨ad, rfl, hc⟩
  · clear h hl
    go_enter Try.func27, Try.ntmps27
    go_wp2
    go_ret
    exact ⟨_, rfl, OwnB.nil _ _, Below.refl _ _⟩
  · have HC : Hid (∀ j u, (ub l)[j]? = some u → w.cell? (ad.add j) = some u) := hc
    clear hc h hl
    go_enter Try.func27, Try.ntmps27
    go_wp2_with (at_builtin; refine wpList_append_own _ rfl _ _ 31 rfl w.heap.size 5 i0 (.int .u8 0) 1 1 Try.underlying31 hi hz0 hz1 hz2 rfl (by decide) _ _ _ rfl (World.ownsRow_nil _ _ _ _) ad l.length cap (ub l) rfl (by rw [ub_len, Nat.mul_one]) HC.out (ub_one l) (by unfold maxLen; omega) (by omega) (Nat.le_refl _) ?_; intro v' w1 hown hgrow _)
    go_ret
    refine ⟨_, rfl, ?_, below_grown hgrow⟩
    rw [Nat.zero_add, List.nil_append] at hown
    exact hown

theorem take_len_eq {l l' : List Int} {k : Nat} (h : l.take k = l'.take k) (hk : k = l.length) (hk' : k = l'.length) : l = l' := by
  rw [List.take_of_length_le (by omega), List.take_of_length_le (by omega)] at h; exact h
theorem take_snoc {l l' : List Int} {k : Nat} {x : Int} (h : l.take k = l'.take k) (h1 : l[k]? = some x) (h2 : l'[k]? = some x) : l.take (k + 1) = l'.take (k + 1) := by
  rw [List.take_add_one, List.take_add_one, h, h1, h2]
set_option maxHeartbeats 1000000 in
theorem same_any (v v' : Value) (l l' : List Int) (w : World) (h : RB w v l) (h' : RB w v' l') (hl : l.length ≤ LB) (hl' : l'.length ≤ LB) :
    Calls Try.prog 17 #[v, v'] w fun e w' => e = .returned (.bool (decide (l = l'))) ∧ Below w.heap.size w w' := by
  have hL : l.length ≤ 140737488351232 := hl
  have hL' : l'.length ≤ 140737488351232 := hl'
  obtain ⟨a, cap, rfl, h1⟩ := h
  obtain ⟨a', cap', rfl, h1'⟩ := h'
  clear hl hl'
  by_cases hn : l.length = l'.length
  · have HC : Hid (∀ k x, l[k]? = some x → ∃ g off, a = some ⟨g, off, none⟩ ∧ g < w.heap.size ∧ w.cell? ⟨g, off + k, none⟩ = some (.int .u8 x)) := fun k x hx => by
      rcases h1 with rfl | ⟨g, off, e, hg, hc⟩
      · simp at hx
      · exact ⟨g, off, e, hg, hc k x hx⟩
    have HC' : Hid (∀ k x, l'[k]? = some x → ∃ g off, a' = some ⟨g, off, none⟩ ∧ g < w.heap.size ∧ w.cell? ⟨g, off + k, none⟩ = some (.int .u8 x)) := fun k x hx => by
      rcases h1' with rfl | ⟨g, off, e, hg, hc⟩
      · simp at hx
      · exact ⟨g, off, e, hg, hc k x hx⟩
    obtain ⟨n, hn1⟩ : ∃ n, l.length = n := ⟨_, rfl⟩
    have hn2 : l'.length = n := by omega
    have HN : Hid (l.length = n ∧ l'.length = n) := ⟨hn1, hn2⟩
    rw [hn1] at hL
    rw [hn1, hn2]
    clear h1 h1' hn hn1 hn2 hL'
    go_enter Try.func17, Try.ntmps17
    go_wp2
    go_loopw [5] (fun i wr => ∃ k : Nat, k ≤ n ∧ i = .int .i64 k ∧ l.take k = l'.take k ∧ Below w.heap.size w wr) (fun i _ => n - (intOf i).toNat)
    case atStart => exact ⟨0, Nat.zero_le _, rfl, rfl, Below.refl _ _⟩
    case round =>
      obtain ⟨k, hk, rfl, ht, hb⟩ := hrel
      by_cases hlt : k < n
      · obtain ⟨x, hx⟩ : ∃ x, l[k]? = some x := ⟨_, List.getElem?_eq_getElem (by rw [HN.out.1]; exact hlt)⟩
        obtain ⟨x', hx'⟩ : ∃ x, l'[k]? = some x := ⟨_, List.getElem?_eq_getElem (by rw [HN.out.2]; exact hlt)⟩
        obtain ⟨g, off, rfl, hg, c1⟩ := HC.out k x hx
        obtain ⟨g', off', rfl, hg', c2⟩ := HC'.out k x' hx'
        have d1 := (hb.cell (p := ⟨g, off + k, none⟩) hg).trans c1
        have d2 := (hb.cell (p := ⟨g', off' + k, none⟩) hg').trans c2
        have hki : (k : Int) < (n : Int) := by omega
        by_cases hxx : x = x'
        · subst hxx
          have HT : Hid (l.take (k + 1) = l'.take (k + 1)) := take_snoc ht hx hx'
          clear hx hx' c1 c2 ht
          go_wp2
          go_quiet (fail)
          go_wp2
          go_roundw
          case rel => exact ⟨k + 1, by omega, by go_num, HT.out, below_drewN hb _⟩
          case measure => simp [intOf]; omega
        · have hne : (x != x') = true := by simpa using hxx
          have HE : Hid (decide (l = l') = false) := decide_eq_false (by rintro rfl; rw [hx] at hx'; exact hxx (Option.some.inj hx'))
          clear hx hx' c1 c2 ht hxx
          go_wp2
          go_quiet (fail)
          go_wp2
          go_ret
          exact ⟨by rw [HE.out]; rfl, below_drewN hb _⟩
      · have hkl : k = n := by omega
        subst hkl
        have HE : Hid (decide (l = l') = true) := decide_eq_true (take_len_eq ht HN.out.1.symm HN.out.2.symm)
        go_wp2
        go_ret
        exact ⟨by rw [HE.out]; rfl, hb⟩
  · have HE : Hid (decide (l = l') = false) := decide_eq_false (by rintro rfl; exact hn rfl)
    have hne : ((l.length : Int) != (l'.length : Int)) = true := by simp; omega
    clear h1 h1'
    go_enter Try.func17, Try.ntmps17
    go_wp2
    go_ret
    exact ⟨by rw [HE.out]; rfl, Below.refl _ _⟩

theorem made_len (n : Nat) : (madeCells (Value.int .u8 0).cells (n * 1)).toList.length = n := by rw [Array.length_toList, size_madeCells, Nat.mul_one]
theorem splice_full (cur cs : List Value) (h : cur.length = cs.length) : splice cur 0 cs = cs := by
  unfold splice
  rw [List.take_zero, Nat.zero_add, List.drop_eq_nil_of_le (by omega), List.append_nil, List.nil_append]

/-- a letter returned out of its variable -/
theorem ret_letter {fn : Func} {p : Tmp} (h : fn.results = #[.cell p 37]) (tmps : Array Value) (w : World) (g : Nat) {t : TypeId} {cs : Array Value} {fr : Nat × Nat} (hp : tmps.getD p undef = .pointer (some ⟨g, 0, none⟩)) (hg : w.heap[g]? = some (.cells cs t fr)) (hs : cs.size = 2 := by rfl) :
    (results fn tmps).run Try.prog w = .ok (.agg cs) w :=
  results_cell_row h tmps w g t cs fr _ hp hg Try.underlying37 rfl (by rw [hs]; exact Try.sizeL)
theorem ret_letter2 {fn : Func} {p u : Tmp} (h : fn.results = #[.cell p 37, .tmp u]) (tmps : Array Value) (w : World) (g : Nat) {t : TypeId} {cs : Array Value} {fr : Nat × Nat} (hp : tmps.getD p undef = .pointer (some ⟨g, 0, none⟩)) (hg : w.heap[g]? = some (.cells cs t fr)) (hs : cs.size = 2 := by rfl) :
    (results fn tmps).run Try.prog w = .ok (.tuple #[.agg cs, tmps.getD u undef]) w := by
  rw [results_cell_tmp h, hp]
  simp [asAddr, run_loadVar_row w g t 37 cs fr _ hg Try.underlying37 rfl (by rw [hs]; exact Try.sizeL), Result.andThen]

/-- what stands behind two boxes and a row -/
theorem copied_mid {w w1 : World} {x y x' y' : Value} {n : Nat} {t1 t2 : TypeId} {cs : List Value}
    (hown : w1.ownsRow ((w.alloc (.cells #[x, y] t1)).alloc (.cells #[x', y'] t2)).heap.size 5 1 (.slice (some ⟨((w.alloc (.cells #[x, y] t1)).alloc (.cells #[x', y'] t2)).heap.size, 0, none⟩) n n) n cs)
    (hgrow : ((w.alloc (.cells #[x, y] t1)).alloc (.cells #[x', y'] t2)).grownBy w1 none) :
    w1.heap[w.heap.size]? = some (.cells #[x, y] t1 (0, 0)) ∧ w1.heap[w.heap.size + 1]? = some (.cells #[x', y'] t2 (0, 0)) ∧ w1.heap[w.heap.size + 1 + 1]? = some (.cells cs.toArray 5 (0, 0)) ∧ Below w.heap.size w w1 := by
  have hb := below_grown hgrow
  have hz : ((w.alloc (.cells #[x, y] t1)).alloc (.cells #[x', y'] t2)).heap.size = w.heap.size + 1 + 1 := by simp
  have h0 : (w.alloc (.cells #[x, y] t1)).heap.size = w.heap.size + 1 := by simp
  have hall := owns_all hown
  rw [hz] at hall
  refine ⟨?_, ?_, hall, (((Below.refl _ w).alloc (Nat.le_refl _) _).alloc (by simp) _).trans (hb.mono (by simp; omega))⟩
  · rw [hb.block _ (by rw [hz]; omega), Below.heap_alloc _ _ _ (by rw [h0]; omega)]
    exact heap_new _ _
  · rw [hb.block _ (by rw [hz]; omega), ← h0]
    exact heap_new _ _
theorem copied_end {w w1 w2 : World} {x y x' y' : Value} {t1 t2 : TypeId} {l : List Int} {cs : List Value} (h0 : w1.heap[w.heap.size]? = some (.cells #[x, y] t1 (0, 0))) (h1 : w1.heap[w.heap.size + 1]? = some (.cells #[x', y'] t2 (0, 0))) (hb : Below w.heap.size w w1)
    (hl : cs.length = l.length) (hlb : l.length ≤ 140737488351232)
    (h : w2.heap[w.heap.size + 1 + 1]? = some (.cells (splice cs 0 (ub l)).toArray 5 (0, 0))) (hO : Only (· = w.heap.size + 1 + 1) w1 w2) :
    w2.heap[w.heap.size]? = some (.cells #[x, y] t1 (0, 0)) ∧ w2.heap[w.heap.size + 1]? = some (.cells #[x', y'] t2 (0, 0)) ∧ OwnB w2 w.heap.size (.slice (some ⟨w.heap.size + 1 + 1, 0, none⟩) l.length l.length) l ∧ Below w.heap.size w w2 := by
  refine ⟨(hO.block _ (Array.getElem?_eq_some_iff.1 h0).1 (by omega)).trans h0, (hO.block _ (Array.getElem?_eq_some_iff.1 h1).1 (by omega)).trans h1, ?_, hO.below hb hb.size (fun k hk => by omega)⟩
  rw [splice_full _ _ (by rw [ub_len, hl])] at h
  exact owns_whole (by omega) h (by rw [ub_len, Nat.mul_one]) (by unfold maxLen; omega)

set_option maxHeartbeats 1000000 in
theorem copied_any (t : Int) (v : Value) (l : List Int) (w : World) (h : RB w v l) (hl : l.length ≤ LB) :
    Calls Try.prog 29 #[.agg #[.int .i64 t, v]] w fun e w' => ∃ v', e = .returned (.agg #[.int .i64 t, v']) ∧ OwnB w' w.heap.size v' l ∧ Below w.heap.size w w' := by
  obtain ⟨i0, hi0, hz0, hz1, hz2⟩ := info_parts Try.infoU
  have hL : l.length ≤ 140737488351232 := hl
  obtain ⟨a, cap, rfl, _⟩ := id h
  have H : Hid (RB w (.slice a l.length cap) l) := h
  obtain ⟨n, hn⟩ : ∃ n, l.length = n := ⟨_, rfl⟩
  rw [hn] at hL
  have HN : Hid (l.length = n) := hn
  rw [hn]
  clear h hl hn
  go_enter Try.func29, Try.ntmps29
  go_wp2_with (first
    | (at_make; go_loud (refine wpList_make_full _ rfl (.tmp 6) (.tmp 6) 31 rfl _ 5 i0 (.int .u8 0) 1 Try.underlying31 hi0 hz0 hz1 .i64 .i64 n n n rfl rfl rfl rfl (by rw [hz2]; omega) (by unfold maxLen; omega) (Nat.le_refl _) ?_; intro w1 hown hgrow; obtain ⟨m0, m1, m2, hb1⟩ := copied_mid hown hgrow; have c1 := cell_of m0 1; simp at c1; have HM : Hid _ := And.intro m0 (And.intro m1 m2); clear hown hgrow m0 m1 m2))
    | (refine wpList_copy_spliceK rfl (.tmp 8) (.tmp 10) _ _ rfl 1 5 Try.underlying31 Try.sizeU (some ⟨w.heap.size + 1 + 1, 0, none⟩) a n n n cap rfl rfl n (w.heap.size + 1 + 1) 0 _ 5 HM.out.2.2 (ub l) (Nat.min_self n) (by rw [ub_len, HN.out, Nat.mul_one]) (fun hp => ⟨rfl, ?_⟩) (by rw [ub_len, HN.out, made_len]; omega) (ub_one l) ?_; (rcases (H.out.below hb1).src with ⟨_, e⟩ | ⟨ad, e, hs⟩; (exfalso; have := HN.out; rw [e] at this; simp at this; omega); exact ⟨ad, e, hs⟩); intro w2 hg2 hO2; obtain ⟨m0, m1, ho2, hb2⟩ := copied_end HM.out.1 HM.out.2.1 hb1 (by rw [made_len, HN.out]) (by rw [HN.out]; exact hL) hg2.out hO2; have d0 := cell_of m0 0; have d1 := cell_of m1 0; have d2 := cell_of m1 1; have d3 := free_of m1; simp at d0 d1 d2; rw [HN.out] at ho2; have HM1 : Hid _ := m1; clear HM m0 m1 hg2 hO2 c1))
  refine bodyPost_ret (ret_letter rfl _ _ _ rfl ((heap_set (heap_set HM1.out 0 _) 1 _))) rfl ?_
  exact ⟨_, rfl, (ho2.moved fun k hk => heap_set_ne (by have : w.heap.size + 1 + 1 = k := Option.some.inj hk; omega)).moved fun k hk => heap_set_ne (by have : w.heap.size + 1 + 1 = k := Option.some.inj hk; omega), (hb2.setCell (p := ⟨w.heap.size + 1, 0, none⟩) (by simp) _).setCell (p := ⟨w.heap.size + 1, 1, none⟩) (by simp) _⟩
end Go.Proofs.Ytminjmlneikllaa
