/- slices.Clone, Index, Contains at lists of keys and breaks. -/
import Derived.Test.YtaofhjckliobpaaVoB
import Derived.Test.YtaofhjckliobpaaVoL
namespace Go.Proofs.Ytaofhjckliobpaa
open Go.RowKit Go.Shelf
attribute [local go_sem high] eqK neqK guardK

theorem clone_k (v : Value) (ks : List Ky) (w : World) (h : RdK w v ks) (hl : ks.length * 24 ≤ 140737488351232) :
    Calls Try.prog 47 #[v] w fun e w' => ∃ v', e = .returned v' ∧ RowK w' w.heap.size v' ks ∧ Below w.heap.size w w' := by
  obtain ⟨i1, hi1, hw0, hw1, hw2⟩ := info_parts Try.infoKy
  obtain ⟨a, cap, rfl, h⟩ := h
  rcases h with ⟨rfl, rfl⟩ | ⟨g, off, rfl, hg, hc⟩
  · have hcon := AnyE.slices_Clone_nil Try.cloneK 0 cap w
    change Calls Try.prog 47 _ _ _ at hcon
    refine hcon.mono ?_
    rintro e w' ⟨rfl, rfl⟩
    exact ⟨_, rfl, World.ownsRow_nil _ _ _ _, Below.refl _ _⟩
  · have hcon := AnyE.slices_Clone Try.cloneK i1 _ 2 24 hi1 hw0 hw1 hw2 rfl (by decide) Try.sizeOf36 g off ks.length cap (kc ks) w (kc_len ks) (by unfold maxLen; omega) (by omega) hc (kc_one ks)
    change Calls Try.prog 47 _ _ _ at hcon
    refine hcon.mono ?_
    rintro e w' ⟨v', rfl, h1, _, h2⟩
    exact ⟨v', rfl, h1, h2⟩
def RowB (w : World) (base : Nat) (v : Value) (bs : List Br) : Prop := w.ownsRow base 57 4 v bs.length (bc bs)
theorem RowB.below {w w' : World} {base : Nat} {v : Value} {bs : List Br} (h : RowB w base v bs) (hb : Below w.heap.size w w') : RowB w' base v bs := owns_below h hb
theorem RowB.moved {w w' : World} {base : Nat} {v : Value} {bs : List Br} (h : RowB w base v bs) (hk : ∀ k, v.ownBlock = some k → w'.heap[k]? = w.heap[k]?) : RowB w' base v bs := owns_moved h hk
theorem RowB.lt {w : World} {base : Nat} {v : Value} {bs : List Br} (h : RowB w base v bs) {k : Nat} (hk : v.ownBlock = some k) : base ≤ k ∧ k < w.heap.size := World.ownsRow.lt h k hk
theorem clone_b (v : Value) (bs : List Br) (base : Nat) (w : World) (h : RowB w base v bs) (hl : bs.length ≤ 1000000) :
    Calls Try.prog 63 #[v] w fun e w' => ∃ v', e = .returned v' ∧ RowB w' w.heap.size v' bs ∧ Below w.heap.size w w' := by
  obtain ⟨i1, hi1, hw0, hw1, hw2⟩ := info_parts Try.infoBr
  have h' := h
  rcases h.2 with ⟨rfl, h2⟩ | ⟨g, cap, cur, rfl, _⟩
  · obtain rfl := List.length_eq_zero_iff.1 h2
    have hcon := AnyE.slices_Clone_nil Try.cloneB 0 0 w
    change Calls Try.prog 63 _ _ _ at hcon
    refine hcon.mono ?_
    rintro e w' ⟨rfl, rfl⟩
    exact ⟨_, rfl, World.ownsRow_nil _ _ _ _, Below.refl _ _⟩
  · obtain ⟨hc, _⟩ := owns_cells h'
    have hcon := AnyE.slices_Clone Try.cloneB i1 _ 4 56 hi1 hw0 hw1 hw2 rfl (by decide) Try.sizeOf57 g 0 bs.length cap (bc bs) w (bc_len bs) (by unfold maxLen; omega) (by omega) (fun j u hu => by rw [Nat.zero_add]; exact hc j u hu) (bc_one bs)
    change Calls Try.prog 63 _ _ _ at hcon
    refine hcon.mono ?_
    rintro e w' ⟨v', rfl, k1, _, k2⟩
    exact ⟨v', rfl, k1, k2⟩

/-- the place of a key -/
def idxK (ks : List Ky) (k : Ky) : Int := match ks.findIdx? (fun x => eqKy k x) with | some i => (i : Int) | none => -1
theorem idxK_hit (ks : List Ky) (k x : Ky) (i : Nat) (he : ks[i]? = some x) (hq : eqKy k x = true) (hno : ∀ (j : Nat) (e : Ky), j < i → ks[j]? = some e → eqKy k e = false) : idxK ks k = (i : Int) := by
  have : ks.findIdx? (fun x => eqKy k x) = some i := by
    rw [List.findIdx?_eq_some_iff_getElem]
    have hk := (List.getElem?_eq_some_iff.1 he).1
    refine ⟨hk, ?_, fun j hj => ?_⟩
    · rw [(List.getElem?_eq_some_iff.1 he).2]; exact hq
    · rw [hno j _ hj (List.getElem?_eq_getElem (by omega))]; simp
  unfold idxK; rw [this]
theorem idxK_miss (ks : List Ky) (k : Ky) (hno : ∀ (j : Nat) (e : Ky), ks[j]? = some e → eqKy k e = false) : idxK ks k = -1 := by
  have : ks.findIdx? (fun x => eqKy k x) = none := by
    rw [List.findIdx?_eq_none_iff]
    intro x hx
    obtain ⟨j, hj⟩ := List.getElem?_of_mem hx
    exact hno j x hj
  unfold idxK; rw [this]
theorem idxK_in (ks : List Ky) (k : Ky) : decide (0 ≤ idxK ks k) = inK ks k := by
  unfold idxK inK
  cases h : ks.findIdx? (fun x => eqKy k x) with
  | none =>
    rw [List.findIdx?_eq_none_iff] at h
    symm
    simp only [show ¬ (0 : Int) ≤ -1 by omega, decide_false]
    rw [List.any_eq_false]
    intro x hx
    rw [eqKy_comm x k, h x hx]; simp
  | some i =>
    rw [List.findIdx?_eq_some_iff_getElem] at h
    obtain ⟨hi, hq, _⟩ := h
    simp only [show (0 : Int) ≤ (i : Int) by omega, decide_true]
    symm
    rw [List.any_eq_true]
    exact ⟨ks[i], by simp, by rw [eqKy_comm]; exact hq⟩
set_option maxHeartbeats 2000000 in
theorem index_k (v : Value) (k : Ky) (ks : List Ky) (w : World) (h : RdK w v ks) (hl : ks.length ≤ 1000000000000) :
    Calls Try.prog 52 #[v, k.agg] w fun e w' => e = .returned (.int .i64 (idxK ks k)) ∧ Below w.heap.size w w' := by
  obtain ⟨a, cap, rfl⟩ := h.form
  obtain ⟨n, hn⟩ : ∃ n, ks.length = n := ⟨_, rfl⟩
  rw [hn] at hl h ⊢
  have HR : Hid (RdK w (.slice a n cap) ks ∧ ks.length = n) := ⟨h, hn⟩
  clear h hn
  unfold Ky.agg
  go_enter Try.func52, Try.ntmps52
  go_wp2
  go_loopw [5, 8] (fun _ i wr => ∃ j : Nat, j ≤ n ∧ i = .int .i64 j ∧ (∀ (m : Nat) (e : Ky), m < j → ks[m]? = some e → eqKy k e = false) ∧ wr.heap[w.heap.size]? = some (.cells #[.int .i64 k.d, .string k.nm] 36 (0, 0)) ∧ Below w.heap.size w wr) (fun _ i _ => n - (intOf i).toNat)
  case atStart => exact ⟨0, Nat.zero_le _, rfl, fun m e hm => absurd hm (by omega), heap_new _ _, below_alloc _ _⟩
  case round =>
    obtain ⟨j, hj, rfl, hno, hbx, hb⟩ := hrel
    by_cases hlt : j < n
    · obtain ⟨x, hx⟩ : ∃ x, ks[j]? = some x := ⟨_, List.getElem?_eq_getElem (by rw [HR.out.2]; exact hlt)⟩
      obtain ⟨g, off, rfl, -, x0, x1⟩ := (HR.out.1.below hb).key hx
      have hki : (j : Int) < (n : Int) := by omega
      have b0 := cell_of hbx 0
      have b1 := cell_of hbx 1
      simp at b0 b1
      cases hq : eqKy k x with
      | true =>
        have HE : Hid (idxK ks k = (j : Int)) := idxK_hit ks k x j hx hq hno
        have HB : Hid _ := hbx
        clear hx hno hbx
        go_upto_region 4 with fail
        go_quiet (fail)
        go_wp2
        go_ret
        exact ⟨by rw [HE.out]; rfl, below_drewN hb _⟩
      | false =>
        have HT : Hid (∀ (m : Nat) (e : Ky), m < j + 1 → ks[m]? = some e → eqKy k e = false) := by
          intro m e hm he
          rcases Nat.lt_or_ge m j with h | h
          · exact hno m e h he
          · obtain rfl : m = j := by omega
            rw [hx] at he; cases he; exact hq
        have HB : Hid (wr.heap[w.heap.size]? = some (.cells #[.int .i64 k.d, .string k.nm] 36 (0, 0))) := hbx
        clear hx hno hbx
        go_upto_region 4 with fail
        go_quiet (fail)
        go_wp2
        exact ⟨⟨j + 1, by omega, by simp, HT.out, HB.out, below_drewN hb _⟩, by simp [intOf]; omega⟩
    · have hkl : j = n := by omega
      subst hkl
      have HE : Hid (idxK ks k = -1) := idxK_miss ks k fun m e he => hno m e (by have := (List.getElem?_eq_some_iff.1 he).1; rw [HR.out.2] at this; exact this) he
      clear hno
      go_wp2
      go_ret
      exact ⟨by rw [HE.out]; rfl, hb⟩
theorem contains_k (v : Value) (k : Ky) (ks : List Ky) (w : World) (h : RdK w v ks) (hl : ks.length ≤ 1000000000000) :
    Calls Try.prog 35 #[v, k.agg] w fun e w' => e = .returned (.bool (inK ks k)) ∧ Below w.heap.size w w' := by
  rw [← idxK_in]
  have HI : Hid (∀ W, Below w.heap.size w W → Calls Try.prog 52 #[v, .agg #[.int .i64 k.d, .string k.nm]] W fun e w' => e = .returned (.int .i64 (idxK ks k)) ∧ Below W.heap.size W w') := fun W hb => index_k v k ks W (h.below hb) hl
  clear h hl
  unfold Ky.agg
  go_enter Try.func35, Try.ntmps35
  go_wp2_with (go_at_call 52; refine (HI.out _ (below_alloc _ _)).mono ?_; rintro e w' ⟨rfl, hb⟩)
  go_ret
  exact ⟨rfl, chainB (below_alloc _ _) hb⟩
end Go.Proofs.Ytaofhjckliobpaa
