/- A list of entries without those of some keys. -/
import Derived.Test.YtjkgafbknjpjbaaPuK
import Derived.Test.YtjkgafbknjpjbaaEnM
namespace Go.Proofs.Ytjkgafbknjpjbaa
open Go.RowKit
attribute [local go_sem high] eqK neqK eqE neqE eqN neqN guardK guardE guardN

theorem keyIn_take (ks : List Ky) (e : En) (k : Nat) (p : Ky) (h : ks[k]? = some p) : keyIn (ks.take (k + 1)) e = (keyIn (ks.take k) e || decide (p.d = e.d ∧ p.nm = e.nm)) := by
  unfold keyIn; rw [List.take_add_one, h, List.any_append]; simp
theorem keyIn_hit (ks : List Ky) (e : En) (k : Nat) (p : Ky) (h : ks[k]? = some p) (hp : decide (p.d = e.d ∧ p.nm = e.nm) = true) : keyIn ks e = true := List.any_eq_true.2 ⟨p, List.mem_of_getElem? h, hp⟩
set_option maxHeartbeats 4000000 in
theorem has_p (v : Value) (ks : List Ky) (e : En) (base : Nat) (w : World) (h : RowK w base v ks) (hl : ks.length ≤ 1000000000) :
    Calls Try.prog 54 #[v, .agg #[.int .i64 e.d, .string e.nm]] w fun x w' => x = .returned (.bool (keyIn ks e)) ∧ Below w.heap.size w w' := by
  obtain ⟨a, cap, rfl⟩ := owns_len h
  obtain ⟨n, hn⟩ : ∃ n, ks.length = n := ⟨_, rfl⟩
  have HC : Hid (RowK w base (.slice a n cap) ks ∧ ks.length = n) := ⟨by rw [← hn]; exact h, hn⟩
  rw [hn] at hl ⊢
  clear h hn
  go_enter Try.func54, Try.ntmps54
  obtain ⟨W, hW⟩ : ∃ W, w.alloc (.cells #[.int .i64 e.d, .string e.nm] 31) = W := ⟨_, rfl⟩
  have hbW : Below w.heap.size w W := by rw [← hW]; exact below_alloc _ _
  have m0 : W.heap[w.heap.size]? = some (.cells #[.int .i64 e.d, .string e.nm] 31 (0, 0)) := by rw [← hW]; exact heap_new _ _
  have hz : w.heap.size < W.heap.size := by rw [← hW]; simp
  go_wp2
  have HW : Hid (Below w.heap.size w W ∧ W.heap[w.heap.size]? = some (.cells #[.int .i64 e.d, .string e.nm] 31 (0, 0)) ∧ w.heap.size < W.heap.size) := ⟨hbW, m0, hz⟩
  clear hW hbW m0 hz
  go_loopw [5] (fun i wr => ∃ k : Nat, k ≤ n ∧ i = .int .i64 k ∧ keyIn (ks.take k) e = false ∧ Below W.heap.size W wr) (fun i _ => n - (intOf i).toNat)
  case atStart => exact ⟨0, Nat.zero_le _, rfl, rfl, Below.refl _ _⟩
  case round =>
    obtain ⟨k, hk, rfl, ht, hb⟩ := hrel
    by_cases hlt : k < n
    · obtain ⟨p, hp⟩ : ∃ x, ks[k]? = some x := ⟨_, List.getElem?_eq_getElem (by rw [HC.out.2]; exact hlt)⟩
      obtain ⟨g, rfl, -, -, x0, x1, -⟩ := ((HC.out.1.below HW.out.1).below hb).key hp
      have hbx := (hb.block _ HW.out.2.2).trans HW.out.2.1
      have y0 := cell_of hbx 0
      have y1 := cell_of hbx 1
      simp at y0 y1
      have hki : (k : Int) < (n : Int) := by omega
      have htk := keyIn_take ks e k p hp
      rw [ht] at htk
      obtain ⟨q, hq⟩ : ∃ q, decide (p.d = e.d ∧ p.nm = e.nm) = q := ⟨_, rfl⟩
      cases q with
      | true =>
        have HE : Hid (keyIn ks e = true) := keyIn_hit ks e k p hp hq
        clear htk ht hp hbx
        go_upto_region 4 with fail
        go_quiet (fail)
        go_wp2
        go_ret
        exact ⟨by rw [HE.out]; rfl, below_drewN (chainB HW.out.1 hb) _⟩
      | false =>
        have HT : Hid (keyIn (ks.take (k + 1)) e = false) := by rw [hq] at htk; exact htk
        clear htk ht hp hbx
        go_upto_region 4 with fail
        go_quiet (fail)
        go_wp2
        exact ⟨⟨k + 1, by omega, by simp, HT.out, below_drewN hb _⟩, by simp [intOf]; omega⟩
    · have hkl : k = n := by omega
      subst hkl
      have HE : Hid (keyIn ks e = false) := by rw [List.take_of_length_le (by rw [HC.out.2]; omega)] at ht; exact ht
      clear ht
      go_wp2
      go_ret
      exact ⟨by rw [HE.out]; rfl, chainB HW.out.1 hb⟩

theorem withoutL_take (l : List En) (ks : List Ky) (k : Nat) (e : En) (h : l[k]? = some e) : withoutL (l.take (k + 1)) ks = withoutL (l.take k) ks ++ if keyIn ks e then [] else [e] := by
  unfold withoutL
  rw [List.take_add_one, h, List.filter_append]
  by_cases hk : keyIn ks e = true <;> simp [hk]
theorem withoutL_le (l : List En) (ks : List Ky) : (withoutL l ks).length ≤ l.length := List.length_filter_le _ _
set_option maxRecDepth 20000 in
set_option maxHeartbeats 4000000 in
theorem without_p (v kv : Value) (l : List En) (ks : List Ky) (base base' : Nat) (w : World) (h : Row7 w base v l) (h' : RowK w base' kv ks) (hl : l.length ≤ 1000) (hl' : ks.length ≤ 1000000000) :
    Calls Try.prog 31 #[v, kv] w fun x w' => ∃ v', x = .returned v' ∧ Row7 w' w.heap.size v' (withoutL l ks) ∧ Below w.heap.size w w' := by
  obtain ⟨i1, hi1, hw0, hw1, hw2⟩ := info_parts Try.infoE
  obtain ⟨a, cap, rfl⟩ := owns_len h
  obtain ⟨n, hn⟩ : ∃ n, l.length = n := ⟨_, rfl⟩
  have HC : Hid (Row7 w base (.slice a n cap) l ∧ l.length = n ∧ RowK w base' kv ks ∧ ks.length ≤ 1000000000) := ⟨by rw [← hn]; exact h, hn, h', hl'⟩
  rw [hn] at hl ⊢
  clear h hn h' hl'
  go_enter Try.func31, Try.ntmps31
  go_wp2
  go_loopw [5, 6] (fun u i wr => ∃ k : Nat, k ≤ n ∧ i = .int .i64 k ∧ wr.ownsRow w.heap.size 35 7 u (withoutL (l.take k) ks).length (ec (withoutL (l.take k) ks)) ∧ Below w.heap.size w wr) (fun _ i _ => n - (intOf i).toNat)
  case atStart => exact ⟨0, Nat.zero_le _, rfl, World.ownsRow_nil _ _ _ _, Below.refl _ _⟩
  case round =>
    obtain ⟨k, hk, rfl, hown, hb⟩ := hrel
    by_cases hkn : k < n
    · obtain ⟨e, he⟩ : ∃ e, l[k]? = some e := ⟨_, List.getElem?_eq_getElem (by rw [HC.out.2.1]; exact hkn)⟩
      obtain ⟨g, rfl, -, -, hg, hc, -⟩ := owns_entry (HC.out.1.below hb) he
      have x0 := hc.c0
      have x1 := hc.c1
      have hki : (k : Int) < (n : Int) := by omega
      have HT := withoutL_take l ks k e he
      have hgl := withoutL_le (l.take k) ks
      rw [List.length_take] at hgl
      obtain ⟨G, hG⟩ : ∃ G, withoutL (l.take k) ks = G := ⟨_, rfl⟩
      rw [hG] at hown HT hgl
      have hGl : G.length ≤ 1000 := by omega
      have HO : Hid (wr.ownsRow w.heap.size 35 7 u5 G.length (ec G) ∧ Below w.heap.size w wr ∧ Cells7 wr g (k * 7) e) := ⟨hown, hb, hc⟩
      obtain ⟨q, hq⟩ : ∃ q, keyIn ks e = q := ⟨_, rfl⟩
      have HH : Hid (∀ w, RowK w base' kv ks → Calls Try.prog 54 #[kv, .agg #[.int .i64 e.d, .string e.nm]] w fun x w' => x = .returned (.bool q) ∧ Below w.heap.size w w') := fun w h => by rw [← hq]; exact has_p kv ks e base' w h HC.out.2.2.2
      cases q with
      | true =>
        have HE : Hid (withoutL (l.take (k + 1)) ks = G) := by rw [HT, hq]; simp [Hid]
        clear hc he HT hG hown hgl hb hq
        go_wp2_with (go_at_call 54; refine (HH.out _ (HC.out.2.2.1.below HO.out.2.1)).mono ?_; rintro x w2 ⟨rfl, hb2⟩)
        exact ⟨⟨k + 1, by omega, by simp, by rw [HE.out]; exact owns_below HO.out.1 hb2, chainB HO.out.2.1 hb2⟩, by simp [intOf]; omega⟩
      | false =>
        have HE : Hid (withoutL (l.take (k + 1)) ks = G ++ [e]) := by rw [HT, hq]; simp [Hid]
        clear hc he HT hG hown hgl hb hq
        go_upto_region 6 with (go_at_call 54; refine (HH.out _ (HC.out.2.2.1.below HO.out.2.1)).mono ?_; rintro x w2 ⟨rfl, hb2⟩)
        have hc2 := HO.out.2.2.below hb2
        have y0 := hc2.c0
        have y1 := hc2.c1
        have y2 := hc2.c2
        have y3 := hc2.c3
        have y4 := hc2.c4
        have y5 := hc2.c5
        have y6 := hc2.c6
        have ho2 := owns_below HO.out.1 hb2
        have hbb := chainB HO.out.2.1 hb2
        clear x0 x1 hc2
        go_wp2_with (at_builtin; refine wpList_append_own_at _ rfl (.tmp 21) (.tmp 26) 41 rfl w.heap.size 35 i1 _ 7 72 Try.underlying41 hi1 hw0 hw1 hw2 rfl (by decide) _ G.length (ec G) rfl (World.ownsRow.alloc ho2 _) ⟨w2.heap.size, 0, none⟩ 1 1 e.vals rfl rfl (vals_at _ e _) (vals_one e) (by unfold maxLen; omega) (by omega) (by have := hbb.size; simp; omega) ?_; intro v5 w5 hown5 hgrow5 _ _; have H5 : Hid (w5.ownsRow w.heap.size 35 7 v5 (G.length + 1) (ec G ++ e.vals) ∧ Below w.heap.size w w5) := ⟨hown5, Below.grown (hbb.alloc hbb.size _) hgrow5 (by have := hbb.size; simp; omega) (fun q hq => (World.ownsRow.lt ho2 q hq).1)⟩; clear hown5 hgrow5)
        refine ⟨⟨k + 1, by omega, by simp, ?_, H5.out.2⟩, by simp [intOf]; omega⟩
        rw [HE.out, List.length_append, ec_app]
        have : ec [e] = e.vals := by unfold ec; simp
        rw [this]; exact H5.out.1
    · have hkn' : ¬ (k : Int) < (n : Int) := by omega
      have hke : l.take k = l := List.take_of_length_le (by rw [HC.out.2.1]; omega)
      rw [hke] at hown
      have HO : Hid (wr.ownsRow w.heap.size 35 7 u5 (withoutL l ks).length (ec (withoutL l ks)) ∧ Below w.heap.size w wr) := ⟨hown, hb⟩
      clear hown hke hb
      go_wp2
      go_ret
      exact ⟨u5, rfl, HO.out.1, HO.out.2⟩
end Go.Proofs.Ytjkgafbknjpjbaa
