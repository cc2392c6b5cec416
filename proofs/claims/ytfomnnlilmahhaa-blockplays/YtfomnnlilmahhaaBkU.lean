/- The contracts of the law's helpers: Place, bytes, SameBytes. -/
import Derived.Test.YtfomnnlilmahhaaBkT
namespace Go.Proofs.Ytfomnnlilmahhaa
open Go.RowKit

def pl (v : Int) (n : Nat) : Nat := (if v.tmod n < 0 then v.tmod n + n else v.tmod n).toNat
theorem pl_lt (v : Int) (n : Nat) (h : 1 ≤ n) : pl v n < n := by
  have h1 := Int.tmod_lt_of_pos v (show (0 : Int) < n by omega)
  have h2 := Int.lt_tmod_of_pos v (show (0 : Int) < n by omega)
  unfold pl
  split <;> omega
theorem place_any (v : Int) (n : Nat) (w : World) (h : 1 ≤ n) (h2 : n ≤ 1024) :
    Calls Try.prog 12 #[.int .i64 v, .int .i64 n] w fun e w' => e = .returned (.int .i64 (pl v n)) ∧ w' = w := by
  have b1 := Int.tmod_lt_of_pos v (show (0 : Int) < n by omega)
  have b2 := Int.lt_tmod_of_pos v (show (0 : Int) < n by omega)
  by_cases hm : v.tmod n < 0
  · have e : (pl v n : Int) = v.tmod n + n := by unfold pl; rw [if_pos hm]; omega
    rw [e]
    clear e
    go_enter Try.func12, Try.ntmps12
    go_wp2
    go_ret
    exact ⟨rfl, rfl⟩
  · have e : (pl v n : Int) = v.tmod n := by unfold pl; rw [if_neg hm]; omega
    rw [e]
    clear e
    go_enter Try.func12, Try.ntmps12
    go_wp2
    go_ret
    exact ⟨rfl, rfl⟩

theorem OwnB.put {w : World} {base g cap n : Nat} {l : List Int} (h : OwnB w base (.slice (some ⟨g, 0, none⟩) n cap) l) (hn : l.length = n) (i : Nat) (x : Int) : OwnB (w.setCell ⟨g, i, none⟩ (.int .u8 x)) base (.slice (some ⟨g, 0, none⟩) n cap) (l.set i x) := by
  subst hn
  unfold OwnB at h ⊢
  rw [List.length_set]
  obtain ⟨s1, _⟩ := h.stored i (.int .u8 x)
  have e : ub (l.set i x) = (ub l).set i (.int .u8 x) := by unfold ub; rw [List.map_set]
  rw [e]; exact s1

def bt (fill : Int) (j : Nat) : Int := wrap64 (fill + wrap64 (j * wrap64 (fill.tmod 7 + 1))) % 256
def bl (n : Nat) (fill : Int) : List Int := (List.range n).map (bt fill)
def half (fill : Int) (n k : Nat) : List Int := (List.range n).map fun j => if j < k then bt fill j else 0
theorem half_len (fill : Int) (n k : Nat) : (half fill n k).length = n := by unfold half; simp
theorem half_get (fill : Int) (n k j : Nat) : (half fill n k)[j]? = if j < n then some (if j < k then bt fill j else 0) else none := by
  unfold half
  rw [List.getElem?_map]
  by_cases h : j < n
  · rw [List.getElem?_range h, if_pos h]; rfl
  · rw [List.getElem?_eq_none (by simpa using h), if_neg h]; rfl
theorem half_zero (fill : Int) (n : Nat) : half fill n 0 = List.replicate n 0 := by
  apply List.ext_getElem?
  intro j
  rw [half_get, List.getElem?_replicate]
  rfl
theorem half_full (fill : Int) (n : Nat) : half fill n n = bl n fill := by
  unfold half bl
  apply List.map_congr_left
  intro j hj
  rw [if_pos (List.mem_range.1 hj)]
theorem half_step (fill : Int) (n k : Nat) : (half fill n k).set k (bt fill k) = half fill n (k + 1) := by
  apply List.ext_getElem?
  intro j
  rw [List.getElem?_set, half_get, half_get, half_len]
  by_cases e : k = j
  · subst e
    rw [if_pos rfl, if_pos (show k < k + 1 by omega)]
  · rw [if_neg e]
    by_cases e2 : j < k
    · rw [if_pos e2, if_pos (show j < k + 1 by omega)]
    · rw [if_neg e2, if_neg (show ¬ j < k + 1 by omega)]
theorem made_u8 (n : Nat) : (madeCells (Value.int .u8 0).cells (n * 1)).toList = ub (List.replicate n 0) := by
  apply List.ext_getElem
  · simp [madeCells, ub]
  · intro i h1 h2
    simp only [madeCells, Array.toList_map, List.getElem_map, Array.getElem_toList, Array.getElem_range, ub, List.getElem_replicate]
    have e2 : (Value.int .u8 0).cells = #[.int .u8 0] := rfl
    rw [e2]
    have : i % (#[Value.int .u8 0]).size = 0 := Nat.mod_one i
    rw [this]; rfl
theorem OwnB.made {w : World} {base n m : Nat} (h : w.ownsRow base 5 1 (.slice (some ⟨m, 0, none⟩) n n) n (madeCells (Value.int .u8 0).cells (n * 1)).toList) : OwnB w base (.slice (some ⟨m, 0, none⟩) n n) (List.replicate n 0) := by
  unfold OwnB
  rw [List.length_replicate, ← made_u8]; exact h

set_option maxHeartbeats 1000000 in
theorem bytes_in (n : Nat) (fill : Int) (w : World) (hn : n ≤ 130) :
    Calls Try.prog 14 #[.int .i64 n, .int .i64 fill] w fun e w' => ∃ v, e = .returned v ∧ OwnB w' w.heap.size v (bl n fill) ∧ Below w.heap.size w w' := by
  obtain ⟨i0, hi0, hz0, hz1, hz2⟩ := info_parts Try.infoU
  have hd : decide (130 < (n : Int)) = false := by simp; omega
  have hd2 : decide ((n : Int) < 0) = false := by simp
  go_enter Try.func14, Try.ntmps14
  go_wp2_with (at_make; refine wpList_make_full _ rfl (.tmp 13) (.tmp 13) 37 rfl _ 5 i0 (.int .u8 0) 1 Try.underlying37 hi0 hz0 hz1 .i64 .i64 n n n rfl rfl rfl rfl (by rw [hz2]; omega) (by unfold maxLen; omega) (Nat.le_refl _) ?_; intro w1 hown hgrow; have hb1 := below_grown hgrow; have ho1 := OwnB.made hown; clear hown hgrow)
  go_loopw [6] (fun i wr => ∃ k : Nat, k ≤ n ∧ i = .int .i64 k ∧ OwnB wr w.heap.size (.slice (some ⟨w.heap.size, 0, none⟩) n n) (half fill n k) ∧ Below w.heap.size w wr) (fun i _ => n - (intOf i).toNat)
  case atStart => exact ⟨0, Nat.zero_le _, rfl, by rw [half_zero]; exact ho1, hb1⟩
  case round =>
    clear ho1 hb1
    obtain ⟨k, hk, rfl, ho, hb⟩ := hrel
    by_cases hlt : k < n
    · have hp := ho.put (half_len _ _ _) k (bt fill k)
      rw [half_step] at hp
      unfold bt at hp
      rcases ho.form with ⟨e, _⟩ | ⟨g, cap, e, _, hsz, _, hc, hf⟩
      · cases e
      rw [half_len] at e
      cases e
      have hcell := hc k 0 (by rw [half_get, if_pos hlt, if_neg (by omega)])
      have hfr := hf k
      have hki : (k : Int) < n := by omega
      have HP : Hid _ := hp
      clear hc hf ho hp
      go_wp2
      go_roundw
      case rel => exact ⟨k + 1, by omega, by go_num, HP.out, hb.setCell (p := ⟨w.heap.size, k, none⟩) (Nat.le_refl _) _⟩
      case measure => simp [intOf]; omega
    · obtain rfl : k = n := by omega
      go_wp2
      go_ret
      exact ⟨_, rfl, by rw [half_full] at ho; exact ho, hb⟩
set_option maxHeartbeats 1000000 in
theorem bytes_neg (n : Int) (fill : Int) (w : World) (hn : n < 0) :
    Calls Try.prog 14 #[.int .i64 n, .int .i64 fill] w fun e w' => ∃ v, e = .returned v ∧ OwnB w' w.heap.size v (bl 64 fill) ∧ Below w.heap.size w w' := by
  obtain ⟨i0, hi0, hz0, hz1, hz2⟩ := info_parts Try.infoU
  have hd2 : decide (n < 0) = true := by simp; omega
  go_enter Try.func14, Try.ntmps14
  go_wp2_with (at_make; refine wpList_make_full _ rfl (.tmp 13) (.tmp 13) 37 rfl _ 5 i0 (.int .u8 0) 1 Try.underlying37 hi0 hz0 hz1 .i64 .i64 64 64 64 rfl rfl rfl rfl (by rw [hz2]; omega) (by unfold maxLen; omega) (Nat.le_refl _) ?_; intro w1 hown hgrow; have hb1 := below_grown hgrow; have ho1 := OwnB.made hown; clear hown hgrow)
  go_loopw [6] (fun i wr => ∃ k : Nat, k ≤ 64 ∧ i = .int .i64 k ∧ OwnB wr w.heap.size (.slice (some ⟨w.heap.size, 0, none⟩) 64 64) (half fill 64 k) ∧ Below w.heap.size w wr) (fun i _ => 64 - (intOf i).toNat)
  case atStart => exact ⟨0, Nat.zero_le _, rfl, by rw [half_zero]; exact ho1, hb1⟩
  case round =>
    clear ho1 hb1
    obtain ⟨k, hk, rfl, ho, hb⟩ := hrel
    by_cases hlt : k < 64
    · have hp := ho.put (half_len _ _ _) k (bt fill k)
      rw [half_step] at hp
      unfold bt at hp
      rcases ho.form with ⟨e, _⟩ | ⟨g, cap, e, _, hsz, _, hc, hf⟩
      · cases e
      rw [half_len] at e
      cases e
      have hcell := hc k 0 (by rw [half_get, if_pos hlt, if_neg (by omega)])
      have hfr := hf k
      have hki : (k : Int) < 64 := by omega
      have HP : Hid _ := hp
      clear hc hf ho hp
      go_wp2
      go_roundw
      case rel => exact ⟨k + 1, by omega, by go_num, HP.out, hb.setCell (p := ⟨w.heap.size, k, none⟩) (Nat.le_refl _) _⟩
      case measure => simp [intOf]; omega
    · obtain rfl : k = 64 := by omega
      go_wp2
      go_ret
      exact ⟨_, rfl, by rw [half_full] at ho; exact ho, hb⟩
set_option maxHeartbeats 1000000 in
theorem bytes_big (n : Int) (fill : Int) (w : World) (hn : 130 < n) :
    Calls Try.prog 14 #[.int .i64 n, .int .i64 fill] w fun e w' => ∃ v, e = .returned v ∧ OwnB w' w.heap.size v (bl 64 fill) ∧ Below w.heap.size w w' := by
  obtain ⟨i0, hi0, hz0, hz1, hz2⟩ := info_parts Try.infoU
  have hd : decide (130 < n) = true := by simp; omega
  have hd2 : decide (n < 0) = false := by simp; omega
  go_enter Try.func14, Try.ntmps14
  go_wp2_with (at_make; refine wpList_make_full _ rfl (.tmp 13) (.tmp 13) 37 rfl _ 5 i0 (.int .u8 0) 1 Try.underlying37 hi0 hz0 hz1 .i64 .i64 64 64 64 rfl rfl rfl rfl (by rw [hz2]; omega) (by unfold maxLen; omega) (Nat.le_refl _) ?_; intro w1 hown hgrow; have hb1 := below_grown hgrow; have ho1 := OwnB.made hown; clear hown hgrow)
  go_loopw [6] (fun i wr => ∃ k : Nat, k ≤ 64 ∧ i = .int .i64 k ∧ OwnB wr w.heap.size (.slice (some ⟨w.heap.size, 0, none⟩) 64 64) (half fill 64 k) ∧ Below w.heap.size w wr) (fun i _ => 64 - (intOf i).toNat)
  case atStart => exact ⟨0, Nat.zero_le _, rfl, by rw [half_zero]; exact ho1, hb1⟩
  case round =>
    clear ho1 hb1
    obtain ⟨k, hk, rfl, ho, hb⟩ := hrel
    by_cases hlt : k < 64
    · have hp := ho.put (half_len _ _ _) k (bt fill k)
      rw [half_step] at hp
      unfold bt at hp
      rcases ho.form with ⟨e, _⟩ | ⟨g, cap, e, _, hsz, _, hc, hf⟩
      · cases e
      rw [half_len] at e
      cases e
      have hcell := hc k 0 (by rw [half_get, if_pos hlt, if_neg (by omega)])
      have hfr := hf k
      have hki : (k : Int) < 64 := by omega
      have HP : Hid _ := hp
      clear hc hf ho hp
      go_wp2
      go_roundw
      case rel => exact ⟨k + 1, by omega, by go_num, HP.out, hb.setCell (p := ⟨w.heap.size, k, none⟩) (Nat.le_refl _) _⟩
      case measure => simp [intOf]; omega
    · obtain rfl : k = 64 := by omega
      go_wp2
      go_ret
      exact ⟨_, rfl, by rw [half_full] at ho; exact ho, hb⟩
def bn (n : Int) : Nat := if n < 0 ∨ 130 < n then 64 else n.toNat
theorem bytes_any (n fill : Int) (w : World) :
    Calls Try.prog 14 #[.int .i64 n, .int .i64 fill] w fun e w' => ∃ v, e = .returned v ∧ OwnB w' w.heap.size v (bl (bn n) fill) ∧ Below w.heap.size w w' := by
  by_cases h1 : n < 0
  · have e : bn n = 64 := by unfold bn; rw [if_pos (.inl h1)]
    rw [e]; exact bytes_neg n fill w h1
  · by_cases h2 : 130 < n
    · have e : bn n = 64 := by unfold bn; rw [if_pos (.inr h2)]
      rw [e]; exact bytes_big n fill w h2
    · have e : bn n = n.toNat := by unfold bn; rw [if_neg (by omega)]
      rw [e]
      obtain ⟨m, rfl⟩ := Int.eq_ofNat_of_zero_le (show 0 ≤ n by omega)
      exact bytes_in m fill w (by omega)
theorem bl_len (n : Nat) (fill : Int) : (bl n fill).length = n := by unfold bl; simp
theorem bytes_64 (fill : Int) (w : World) :
    Calls Try.prog 14 #[.int .i64 64, .int .i64 fill] w fun e w' => ∃ v, e = .returned v ∧ OwnB w' w.heap.size v (bl 64 fill) ∧ Below w.heap.size w w' := bytes_any 64 fill w

theorem same_any (v v' : Value) (l : List Int) (base base' : Nat) (w : World) (h : OwnB w base v l) (h' : OwnB w base' v' l) (hl : l.length ≤ 1000000) :
    Calls Try.prog 18 #[v, v'] w fun e w' => e = .returned (.bool true) ∧ Below w.heap.size w w' := by
  have key : ∀ (a a' : Option Addr) (cap cap' : Nat), (∀ k x, l[k]? = some x → ∃ g g' , a = some ⟨g, 0, none⟩ ∧ a' = some ⟨g', 0, none⟩ ∧ g < w.heap.size ∧ g' < w.heap.size ∧ w.cell? ⟨g, k, none⟩ = some (.int .u8 x) ∧ w.cell? ⟨g', k, none⟩ = some (.int .u8 x)) →
      Calls Try.prog 18 #[.slice a l.length cap, .slice a' l.length cap'] w fun e w' => e = .returned (.bool true) ∧ Below w.heap.size w w' := by
    intro a a' cap cap' hc
    clear h h'
    have HC : Hid (∀ k x, l[k]? = some x → ∃ g g' , a = some ⟨g, 0, none⟩ ∧ a' = some ⟨g', 0, none⟩ ∧ g < w.heap.size ∧ g' < w.heap.size ∧ w.cell? ⟨g, k, none⟩ = some (.int .u8 x) ∧ w.cell? ⟨g', k, none⟩ = some (.int .u8 x)) := hc
    clear hc
    go_enter Try.func18, Try.ntmps18
    go_wp2
    go_loopw [5] (fun i wr => ∃ k : Nat, k ≤ l.length ∧ i = .int .i64 k ∧ Below w.heap.size w wr) (fun i _ => l.length - (intOf i).toNat)
    case atStart => exact ⟨0, Nat.zero_le _, rfl, Below.refl _ _⟩
    case round =>
      obtain ⟨k, hk, rfl, hb⟩ := hrel
      by_cases hlt : k < l.length
      · obtain ⟨x, hx⟩ : ∃ x, l[k]? = some x := ⟨_, List.getElem?_eq_getElem hlt⟩
        obtain ⟨g, g', rfl, rfl, hg, hg', c1, c2⟩ := HC.out k x hx
        have d1 := (hb.cell (p := ⟨g, k, none⟩) hg).trans c1
        have d2 := (hb.cell (p := ⟨g', k, none⟩) hg').trans c2
        have hki : (k : Int) < (l.length : Int) := by omega
        clear hx c1 c2
        go_wp2
        go_quiet (fail)
        go_wp2
        go_roundw
        case rel => exact ⟨k + 1, by omega, by go_num, below_drewN hb _⟩
        case measure => simp [intOf]; omega
      · have hkl : k = l.length := by omega
        subst hkl
        go_wp2
        go_ret
        exact ⟨rfl, hb⟩
  rcases h.form with ⟨rfl, rfl⟩ | ⟨g, cap, rfl, _, hg, _, hc, _⟩
  · rcases h'.form with ⟨rfl, _⟩ | ⟨g', cap', rfl, _, hg', _, hc', _⟩
    · exact key _ _ _ _ (fun k x hx => by simp at hx)
    · exact key _ _ _ _ (fun k x hx => by simp at hx)
  · rcases h'.form with ⟨rfl, rfl⟩ | ⟨g', cap', rfl, _, hg', _, hc', _⟩
    · exact key _ _ _ _ (fun k x hx => by simp at hx)
    · exact key _ _ _ _ (fun k x hx => ⟨g, g', rfl, rfl, hg, hg', hc k x hx, hc' k x hx⟩)
end Go.Proofs.Ytfomnnlilmahhaa
