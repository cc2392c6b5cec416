/- The contracts of the laws' helpers: Place, SameBytes, SameRows, record. -/
import Derived.Test.YtajgaialnafdbaaJSAys15
namespace Go.Proofs.Ytajgaialnafdbaa
section
open Go.RowKit

def pl (v : Int) (n : Nat) : Nat := (if v.tmod n < 0 then v.tmod n + n else v.tmod n).toNat
theorem pl_lt (v : Int) (n : Nat) (h : 1 ≤ n) : pl v n < n := by
  have h1 := Int.tmod_lt_of_pos v (show (0 : Int) < n by omega)
  have h2 := Int.lt_tmod_of_pos v (show (0 : Int) < n by omega)
  unfold pl
  split <;> omega
theorem place_any (v : Int) (n : Nat) (w : World) (h : 1 ≤ n) (h2 : n ≤ 1024) :
    Calls Try.prog 7 #[.int .i64 v, .int .i64 n] w fun e w' => e = .returned (.int .i64 (pl v n)) ∧ w' = w := by
  have b1 := Int.tmod_lt_of_pos v (show (0 : Int) < n by omega)
  have b2 := Int.lt_tmod_of_pos v (show (0 : Int) < n by omega)
  by_cases hm : v.tmod n < 0
  · have e : (pl v n : Int) = v.tmod n + n := by unfold pl; rw [if_pos hm]; omega
    rw [e]
    clear e
    go_enter Try.func7, Try.ntmps7
    go_wp2
    go_ret
    exact ⟨rfl, rfl⟩
  · have e : (pl v n : Int) = v.tmod n := by unfold pl; rw [if_neg hm]; omega
    rw [e]
    clear e
    go_enter Try.func7, Try.ntmps7
    go_wp2
    go_ret
    exact ⟨rfl, rfl⟩

theorem take_len_eq {l l' : List Int} {k : Nat} (h : l.take k = l'.take k) (hk : k = l.length) (hk' : k = l'.length) : l = l' := by
  rw [List.take_of_length_le (by omega), List.take_of_length_le (by omega)] at h; exact h
theorem take_snoc {l l' : List Int} {k : Nat} {x : Int} (h : l.take k = l'.take k) (h1 : l[k]? = some x) (h2 : l'[k]? = some x) : l.take (k + 1) = l'.take (k + 1) := by
  rw [List.take_add_one, List.take_add_one, h, h1, h2]
set_option maxHeartbeats 1000000 in
theorem same_any (v v' : Value) (l l' : List Int) (w : World) (h : RB w v l) (h' : RB w v' l') (hl : l.length ≤ 1000000) (hl' : l'.length ≤ 1000000) :
    Calls Try.prog 31 #[v, v'] w fun e w' => e = .returned (.bool (decide (l = l'))) ∧ Below w.heap.size w w' := by
  have hL : l.length ≤ 1000000 := hl
  have hL' : l'.length ≤ 1000000 := hl'
  obtain ⟨a, cap, rfl, h1⟩ := h
  obtain ⟨a', cap', rfl, h1'⟩ := h'
  clear hl hl'
  by_cases hn : l.length = l'.length
  · have HC : Hid (∀ k x, l[k]? = some x → ∃ g off, a = some ⟨g, off, none⟩ ∧ g < w.heap.size ∧ w.cell? ⟨g, off + k, none⟩ = some (.int .u8 x)) := fun k x hx => by
      rcases h1 with rfl | ⟨g, off, e, hg, hc⟩
      · simp at hx
      · exact ⟨g, off, e, hg, hc k x hx⟩
    have HC' : Hid (∀ k x, l'[k]? = some x → ∃ g off, a' = some ⟨g, off, none⟩ ∧ g < w.heap.size ∧ w.cell? ⟨g, off + k, none⟩ = some (.int .u8 x)) := fun k x hx => by
      rcases h1' with rfl | ⟨g, off, e, hg, hc⟩
      · simp at hx
      · exact ⟨g, off, e, hg, hc k x hx⟩
    obtain ⟨n, hn1⟩ : ∃ n, l.length = n := ⟨_, rfl⟩
    have hn2 : l'.length = n := by omega
    have HN : Hid (l.length = n ∧ l'.length = n) := ⟨hn1, hn2⟩
    rw [hn1] at hL
    rw [hn1, hn2]
    clear h1 h1' hn hn1 hn2 hL'
    go_enter Try.func31, Try.ntmps31
    go_wp2
    go_loopw [5] (fun i wr => ∃ k : Nat, k ≤ n ∧ i = .int .i64 k ∧ l.take k = l'.take k ∧ Below w.heap.size w wr) (fun i _ => n - (intOf i).toNat)
    case atStart => exact ⟨0, Nat.zero_le _, rfl, rfl, Below.refl _ _⟩
    case round =>
      obtain ⟨k, hk, rfl, ht, hb⟩ := hrel
      by_cases hlt : k < n
      · obtain ⟨x, hx⟩ : ∃ x, l[k]? = some x := ⟨_, List.getElem?_eq_getElem (by rw [HN.out.1]; exact hlt)⟩
        obtain ⟨x', hx'⟩ : ∃ x, l'[k]? = some x := ⟨_, List.getElem?_eq_getElem (by rw [HN.out.2]; exact hlt)⟩
        obtain ⟨g, off, rfl, hg, c1⟩ := HC.out k x hx
        obtain ⟨g', off', rfl, hg', c2⟩ := HC'.out k x' hx'
        have d1 := (hb.cell (p := ⟨g, off + k, none⟩) hg).trans c1
        have d2 := (hb.cell (p := ⟨g', off' + k, none⟩) hg').trans c2
        have hki : (k : Int) < (n : Int) := by omega
        by_cases hxx : x = x'
        · subst hxx
          have HT : Hid (l.take (k + 1) = l'.take (k + 1)) := take_snoc ht hx hx'
          clear hx hx' c1 c2 ht
          go_wp2
          go_quiet (fail)
          go_wp2
          go_roundw
          case rel => exact ⟨k + 1, by omega, by go_num, HT.out, below_drewN hb _⟩
          case measure => simp [intOf]; omega
        · have hne : (x != x') = true := by simpa using hxx
          have HE : Hid (decide (l = l') = false) := decide_eq_false (by rintro rfl; rw [hx] at hx'; exact hxx (Option.some.inj hx'))
          clear hx hx' c1 c2 ht hxx
          go_wp2
          go_quiet (fail)
          go_wp2
          go_ret
          exact ⟨by rw [HE.out]; rfl, below_drewN hb _⟩
      · have hkl : k = n := by omega
        subst hkl
        have HE : Hid (decide (l = l') = true) := decide_eq_true (take_len_eq ht HN.out.1.symm HN.out.2.symm)
        go_wp2
        go_ret
        exact ⟨by rw [HE.out]; rfl, hb⟩
  · have HE : Hid (decide (l = l') = false) := decide_eq_false (by rintro rfl; exact hn rfl)
    have hne : ((l.length : Int) != (l'.length : Int)) = true := by simp; omega
    clear h1 h1'
    go_enter Try.func31, Try.ntmps31
    go_wp2
    go_ret
    exact ⟨by rw [HE.out]; rfl, Below.refl _ _⟩


def bt (fill : Int) (j : Nat) : Int := wrap64 (fill + wrap64 (j * wrap64 (fill.tmod 5 + 1))) % 256
def bl (n : Nat) (fill : Int) : List Int := (List.range n).map (bt fill)
def half (fill : Int) (n k : Nat) : List Int := (List.range n).map fun j => if j < k then bt fill j else 0
theorem half_len (fill : Int) (n k : Nat) : (half fill n k).length = n := by unfold half; simp
theorem half_get (fill : Int) (n k j : Nat) : (half fill n k)[j]? = if j < n then some (if j < k then bt fill j else 0) else none := by
  unfold half
  rw [List.getElem?_map]
  by_cases h : j < n
  · rw [List.getElem?_range h, if_pos h]; rfl
  · rw [List.getElem?_eq_none (by simpa using h), if_neg h]; rfl
theorem half_zero (fill : Int) (n : Nat) : half fill n 0 = List.replicate n 0 := by
  apply List.ext_getElem?
  intro j
  rw [half_get, List.getElem?_replicate]
  rfl
theorem half_full (fill : Int) (n : Nat) : half fill n n = bl n fill := by
  unfold half bl
  apply List.map_congr_left
  intro j hj
  rw [if_pos (List.mem_range.1 hj)]
theorem half_step (fill : Int) (n k : Nat) : (half fill n k).set k (bt fill k) = half fill n (k + 1) := by
  apply List.ext_getElem?
  intro j
  rw [List.getElem?_set, half_get, half_get, half_len]
  by_cases e : k = j
  · subst e
    rw [if_pos rfl, if_pos (show k < k + 1 by omega)]
  · rw [if_neg e]
    by_cases e2 : j < k
    · rw [if_pos e2, if_pos (show j < k + 1 by omega)]
    · rw [if_neg e2, if_neg (show ¬ j < k + 1 by omega)]
set_option maxHeartbeats 1000000 in
theorem record_in (n : Nat) (fill : Int) (w : World) (hn : n ≤ 500) :
    Calls Try.prog 9 #[.int .i64 n, .int .i64 fill] w fun e w' => ∃ v, e = .returned v ∧ OwnB w' w.heap.size v (bl n fill) ∧ Below w.heap.size w w' := by
  obtain ⟨i0, hi0, hz0, hz1, hz2⟩ := info_parts Try.infoU
  have hd : decide (500 < (n : Int)) = false := by simp; omega
  have hd2 : decide ((n : Int) < 0) = false := by simp
  go_enter Try.func9, Try.ntmps9
  go_wp2_with (at_make; refine wpList_make_full _ rfl (.tmp 13) (.tmp 13) 22 rfl _ 5 i0 (.int .u8 0) 1 Try.underlying22 hi0 hz0 hz1 .i64 .i64 n n n rfl rfl rfl rfl (by rw [hz2]; omega) (by unfold maxLen; omega) (Nat.le_refl _) ?_; intro w1 hown hgrow; have hb1 := below_grown hgrow; have ho1 := OwnB.made hown; clear hown hgrow)
  go_loopw [6] (fun i wr => ∃ k : Nat, k ≤ n ∧ i = .int .i64 k ∧ OwnB wr w.heap.size (.slice (some ⟨w.heap.size, 0, none⟩) n n) (half fill n k) ∧ Below w.heap.size w wr) (fun i _ => n - (intOf i).toNat)
  case atStart => exact ⟨0, Nat.zero_le _, rfl, by rw [half_zero]; exact ho1, hb1⟩
  case round =>
    clear ho1 hb1
    obtain ⟨k, hk, rfl, ho, hb⟩ := hrel
    by_cases hlt : k < n
    · have hp := ho.put (half_len _ _ _) k (bt fill k)
      rw [half_step] at hp
      unfold bt at hp
      rcases ho.form with ⟨e, _⟩ | ⟨g, cap, e, _, hsz, _, hc, hf⟩
      · cases e
      rw [half_len] at e
      cases e
      have hcell := hc k 0 (by rw [half_get, if_pos hlt, if_neg (by omega)])
      have hfr := hf k
      have hki : (k : Int) < n := by omega
      have HP : Hid _ := hp
      clear hc hf ho hp
      go_wp2
      go_roundw
      case rel => exact ⟨k + 1, by omega, by go_num, HP.out, hb.setCell (p := ⟨w.heap.size, k, none⟩) (Nat.le_refl _) _⟩
      case measure => simp [intOf]; omega
    · obtain rfl : k = n := by omega
      go_wp2
      go_ret
      exact ⟨_, rfl, by rw [half_full] at ho; exact ho, hb⟩
set_option maxHeartbeats 1000000 in
theorem record_neg (n : Int) (fill : Int) (w : World) (hn : n < 0) :
    Calls Try.prog 9 #[.int .i64 n, .int .i64 fill] w fun e w' => ∃ v, e = .returned v ∧ OwnB w' w.heap.size v (bl 60 fill) ∧ Below w.heap.size w w' := by
  obtain ⟨i0, hi0, hz0, hz1, hz2⟩ := info_parts Try.infoU
  have hd2 : decide (n < 0) = true := by simp; omega
  go_enter Try.func9, Try.ntmps9
  go_wp2_with (at_make; refine wpList_make_full _ rfl (.tmp 13) (.tmp 13) 22 rfl _ 5 i0 (.int .u8 0) 1 Try.underlying22 hi0 hz0 hz1 .i64 .i64 60 60 60 rfl rfl rfl rfl (by rw [hz2]; omega) (by unfold maxLen; omega) (Nat.le_refl _) ?_; intro w1 hown hgrow; have hb1 := below_grown hgrow; have ho1 := OwnB.made hown; clear hown hgrow)
  go_loopw [6] (fun i wr => ∃ k : Nat, k ≤ 60 ∧ i = .int .i64 k ∧ OwnB wr w.heap.size (.slice (some ⟨w.heap.size, 0, none⟩) 60 60) (half fill 60 k) ∧ Below w.heap.size w wr) (fun i _ => 60 - (intOf i).toNat)
  case atStart => exact ⟨0, Nat.zero_le _, rfl, by rw [half_zero]; exact ho1, hb1⟩
  case round =>
    clear ho1 hb1
    obtain ⟨k, hk, rfl, ho, hb⟩ := hrel
    by_cases hlt : k < 60
    · have hp := ho.put (half_len _ _ _) k (bt fill k)
      rw [half_step] at hp
      unfold bt at hp
      rcases ho.form with ⟨e, _⟩ | ⟨g, cap, e, _, hsz, _, hc, hf⟩
      · cases e
      rw [half_len] at e
      cases e
      have hcell := hc k 0 (by rw [half_get, if_pos hlt, if_neg (by omega)])
      have hfr := hf k
      have hki : (k : Int) < 60 := by omega
      have HP : Hid _ := hp
      clear hc hf ho hp
      go_wp2
      go_roundw
      case rel => exact ⟨k + 1, by omega, by go_num, HP.out, hb.setCell (p := ⟨w.heap.size, k, none⟩) (Nat.le_refl _) _⟩
      case measure => simp [intOf]; omega
    · obtain rfl : k = 60 := by omega
      go_wp2
      go_ret
      exact ⟨_, rfl, by rw [half_full] at ho; exact ho, hb⟩
set_option maxHeartbeats 1000000 in
theorem record_big (n : Int) (fill : Int) (w : World) (hn : 500 < n) :
    Calls Try.prog 9 #[.int .i64 n, .int .i64 fill] w fun e w' => ∃ v, e = .returned v ∧ OwnB w' w.heap.size v (bl 60 fill) ∧ Below w.heap.size w w' := by
  obtain ⟨i0, hi0, hz0, hz1, hz2⟩ := info_parts Try.infoU
  have hd : decide (500 < n) = true := by simp; omega
  have hd2 : decide (n < 0) = false := by simp; omega
  go_enter Try.func9, Try.ntmps9
  go_wp2_with (at_make; refine wpList_make_full _ rfl (.tmp 13) (.tmp 13) 22 rfl _ 5 i0 (.int .u8 0) 1 Try.underlying22 hi0 hz0 hz1 .i64 .i64 60 60 60 rfl rfl rfl rfl (by rw [hz2]; omega) (by unfold maxLen; omega) (Nat.le_refl _) ?_; intro w1 hown hgrow; have hb1 := below_grown hgrow; have ho1 := OwnB.made hown; clear hown hgrow)
  go_loopw [6] (fun i wr => ∃ k : Nat, k ≤ 60 ∧ i = .int .i64 k ∧ OwnB wr w.heap.size (.slice (some ⟨w.heap.size, 0, none⟩) 60 60) (half fill 60 k) ∧ Below w.heap.size w wr) (fun i _ => 60 - (intOf i).toNat)
  case atStart => exact ⟨0, Nat.zero_le _, rfl, by rw [half_zero]; exact ho1, hb1⟩
  case round =>
    clear ho1 hb1
    obtain ⟨k, hk, rfl, ho, hb⟩ := hrel
    by_cases hlt : k < 60
    · have hp := ho.put (half_len _ _ _) k (bt fill k)
      rw [half_step] at hp
      unfold bt at hp
      rcases ho.form with ⟨e, _⟩ | ⟨g, cap, e, _, hsz, _, hc, hf⟩
      · cases e
      rw [half_len] at e
      cases e
      have hcell := hc k 0 (by rw [half_get, if_pos hlt, if_neg (by omega)])
      have hfr := hf k
      have hki : (k : Int) < 60 := by omega
      have HP : Hid _ := hp
      clear hc hf ho hp
      go_wp2
      go_roundw
      case rel => exact ⟨k + 1, by omega, by go_num, HP.out, hb.setCell (p := ⟨w.heap.size, k, none⟩) (Nat.le_refl _) _⟩
      case measure => simp [intOf]; omega
    · obtain rfl : k = 60 := by omega
      go_wp2
      go_ret
      exact ⟨_, rfl, by rw [half_full] at ho; exact ho, hb⟩
def bn (n : Int) : Nat := if n < 0 ∨ 500 < n then 60 else n.toNat
theorem bn_le (n : Int) : bn n ≤ 500 := by unfold bn; split <;> omega
theorem bl_len (n : Nat) (fill : Int) : (bl n fill).length = n := by unfold bl; simp
theorem bl_byt (n : Nat) (fill : Int) : Byt (bl n fill) := fun x hx => by
  unfold bl at hx
  obtain ⟨j, _, rfl⟩ := List.mem_map.1 hx
  unfold bt; omega
theorem record_any (n fill : Int) (w : World) :
    Calls Try.prog 9 #[.int .i64 n, .int .i64 fill] w fun e w' => ∃ v, e = .returned v ∧ OwnB w' w.heap.size v (bl (bn n) fill) ∧ Below w.heap.size w w' := by
  by_cases h1 : n < 0
  · have e : bn n = 60 := by unfold bn; rw [if_pos (.inl h1)]
    rw [e]; exact record_neg n fill w h1
  · by_cases h2 : 500 < n
    · have e : bn n = 60 := by unfold bn; rw [if_pos (.inr h2)]
      rw [e]; exact record_big n fill w h2
    · have e : bn n = n.toNat := by unfold bn; rw [if_neg (by omega)]
      rw [e]
      obtain ⟨m, rfl⟩ := Int.eq_ofNat_of_zero_le (show 0 ≤ n by omega)
      exact record_in m fill w (by omega)

theorem take_eq_of {L L' : List (List Int)} {k : Nat} (h : L.take k = L'.take k) (hk : k = L.length) (hk' : k = L'.length) : L = L' := by
  rw [List.take_of_length_le (by omega), List.take_of_length_le (by omega)] at h; exact h
theorem take_more {L L' : List (List Int)} {k : Nat} {x : List Int} (h : L.take k = L'.take k) (h1 : L[k]? = some x) (h2 : L'[k]? = some x) : L.take (k + 1) = L'.take (k + 1) := by
  rw [List.take_add_one, List.take_add_one, h, h1, h2]
set_option maxRecDepth 100000 in
set_option maxHeartbeats 2000000 in
theorem sameRows_any (v v' : Value) (L L' : List (List Int)) (w : World) (h : Rs w v L) (h' : Rs w v' L') (hl : L.length ≤ 1000000) (hl' : L'.length ≤ 1000000) (hb : ∀ l ∈ L, l.length ≤ 1000000) (hb' : ∀ l ∈ L', l.length ≤ 1000000) :
    Calls Try.prog 33 #[v, v'] w fun e w' => e = .returned (.bool (decide (L = L'))) ∧ Below w.heap.size w w' := by
  obtain ⟨a, cap, rfl, _⟩ := h.form
  obtain ⟨a', cap', rfl, _⟩ := h'.form
  by_cases hn : L.length = L'.length
  · obtain ⟨n, hn1⟩ : ∃ n, L.length = n := ⟨_, rfl⟩
    have hn2 : L'.length = n := by omega
    have HN : Hid (L.length = n ∧ L'.length = n ∧ Rs w (.slice a n cap) L ∧ Rs w (.slice a' n cap') L' ∧ (∀ l ∈ L, l.length ≤ 1000000) ∧ (∀ l ∈ L', l.length ≤ 1000000)) := ⟨hn1, hn2, by rw [← hn1]; exact h, by rw [← hn2]; exact h', hb, hb'⟩
    rw [hn1] at hl
    rw [hn1, hn2]
    clear h h' hn hn1 hn2 hl' hb hb'
    go_enter Try.func33, Try.ntmps33
    go_wp2
    go_loopw [5] (fun i wr => ∃ k : Nat, k ≤ n ∧ i = .int .i64 k ∧ L.take k = L'.take k ∧ Below w.heap.size w wr) (fun i _ => n - (intOf i).toNat)
    case atStart => exact ⟨0, Nat.zero_le _, rfl, rfl, Below.refl _ _⟩
    case round =>
      obtain ⟨k, hk, rfl, ht, hbw⟩ := hrel
      by_cases hlt : k < n
      · obtain ⟨l, hx⟩ : ∃ x, L[k]? = some x := ⟨_, List.getElem?_eq_getElem (by rw [HN.out.1]; exact hlt)⟩
        obtain ⟨l', hx'⟩ : ∃ x, L'[k]? = some x := ⟨_, List.getElem?_eq_getElem (by rw [HN.out.2.1]; exact hlt)⟩
        obtain ⟨g, off, y, rfl, c1, r1⟩ := (HN.out.2.2.1.below hbw).at hx
        obtain ⟨g', off', y', rfl, c2, r2⟩ := (HN.out.2.2.2.1.below hbw).at hx'
        have hki : (k : Int) < (n : Int) := by omega
        have HS : Hid (∀ w', Same wr w' → Calls Try.prog 31 #[y, y'] w' fun e w2 => e = .returned (.bool (decide (l = l'))) ∧ Below wr.heap.size wr w2) := fun w' hw => (same_any y y' l l' w' (r1.rb.below hw.below) (r2.rb.below hw.below) (HN.out.2.2.2.2.1 l (List.mem_of_getElem? hx)) (HN.out.2.2.2.2.2 l' (List.mem_of_getElem? hx'))).mono fun e w2 hq => ⟨hq.1, chainB hw.below hq.2⟩
        have k0 : wr.drew.cell? ⟨g, off + k, none⟩ = some y ∧ wr.drew.cell? ⟨g', off' + k, none⟩ = some y' ∧ Same wr wr.drew := ⟨c1, c2, ⟨rfl, rfl, rfl, rfl⟩⟩
        by_cases hxx : l = l'
        · subst hxx
          have HT : Hid (L.take (k + 1) = L'.take (k + 1)) := take_more ht hx hx'
          rw [decide_eq_true rfl] at HS
          clear hx hx' ht r1 r2
          go_upto_region 6 with fail
          go_region_held3 (fun w' => w'.cell? ⟨g, off + k, none⟩ = some y ∧ w'.cell? ⟨g', off' + k, none⟩ = some y')
            (with_reducible first | exact ⟨k0.1, k0.2.1⟩ | exact k1)
            (first | (go_at_call 31; refine (HS.out _ k0.2.2).mono ?_; rintro e w2 ⟨rfl, hb2⟩; have k1 : w2.cell? ⟨g, off + k, none⟩ = some y ∧ w2.cell? ⟨g', off' + k, none⟩ = some y' := ⟨(hb2.cell (p := ⟨g, off + k, none⟩) (cellLt c1)).trans c1, (hb2.cell (p := ⟨g', off' + k, none⟩) (cellLt c2)).trans c2⟩))
          go_wp2
          go_roundw
          case rel => exact ⟨k + 1, by omega, by go_num, HT.out, chainB hbw hb2⟩
          case measure => simp [intOf]; omega
        · have HE : Hid (decide (L = L') = false) := decide_eq_false (by rintro rfl; rw [hx] at hx'; exact hxx (Option.some.inj hx'))
          rw [decide_eq_false hxx] at HS
          clear hx hx' ht r1 r2 hxx
          go_upto_region 6 with fail
          go_region_held3 (fun w' => w'.cell? ⟨g, off + k, none⟩ = some y ∧ w'.cell? ⟨g', off' + k, none⟩ = some y')
            (with_reducible first | exact ⟨k0.1, k0.2.1⟩ | exact k1)
            (first | (go_at_call 31; refine (HS.out _ k0.2.2).mono ?_; rintro e w2 ⟨rfl, hb2⟩; have k1 : w2.cell? ⟨g, off + k, none⟩ = some y ∧ w2.cell? ⟨g', off' + k, none⟩ = some y' := ⟨(hb2.cell (p := ⟨g, off + k, none⟩) (cellLt c1)).trans c1, (hb2.cell (p := ⟨g', off' + k, none⟩) (cellLt c2)).trans c2⟩))
          go_wp2
          go_ret
          exact ⟨by rw [HE.out]; rfl, chainB hbw hb2⟩
      · have hkl : n = k := by omega
        subst hkl
        have HE : Hid (decide (L = L') = true) := decide_eq_true (take_eq_of ht HN.out.1.symm HN.out.2.1.symm)
        go_wp2
        go_ret
        exact ⟨by rw [HE.out]; rfl, hbw⟩
  · have HE : Hid (decide (L = L') = false) := decide_eq_false (by rintro rfl; exact hn rfl)
    have hne : ((L.length : Int) != (L'.length : Int)) = true := by simp; omega
    clear h h'
    go_enter Try.func33, Try.ntmps33
    go_wp2
    go_ret
    exact ⟨by rw [HE.out]; rfl, Below.refl _ _⟩
end
end Go.Proofs.Ytajgaialnafdbaa
