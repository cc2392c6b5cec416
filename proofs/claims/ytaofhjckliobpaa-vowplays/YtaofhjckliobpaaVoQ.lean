/- those: the told keys, rising, each once. -/
import Derived.Test.YtaofhjckliobpaaVoP
namespace Go.Proofs.Ytaofhjckliobpaa
open Go.RowKit Go.Shelf Go.Sort
attribute [local go_sem high] eqK neqK guardK run_store_complex

theorem srtK_same {l m : List Ky} (h : ∀ x, x ∈ l ↔ x ∈ m) : srtK l = srtK m := srtK_of (srtK_rises l) fun x => (srtK_mem l x).trans (h x)
theorem sortR_p (v : Value) (base : Nat) (l : List Ky) (w : World) (h : RowK w base v l) (hs : l.length ≤ 10000000000000) :
    Calls Try.prog 57 #[v, .func (.func 58) #[] #[]] w fun e w' => e = .returned (.tuple #[]) ∧ ∃ l' : List Ky, l'.Perm l ∧ Up l' ∧ RowK w' base v l' ∧ Only (fun x => v.ownBlock = some x) w w' := by
  rcases h.2 with ⟨e, h2⟩ | ⟨g, cap, cur, e, hrest⟩
  · subst e
    obtain h0 := List.length_eq_zero_iff.1 h2
    subst h0
    have hcon := AnyF.slices_SortFunc_none Try.sortK none 0 (.func (.func 58) #[] #[]) w
    change Calls Try.prog 57 _ _ _ at hcon
    refine hcon.mono ?_
    rintro x w' ⟨rfl, rfl⟩
    exact ⟨rfl, [], List.Perm.refl _, List.Pairwise.nil, World.ownsRow_nil _ _ _ _, Only.refl _ _⟩
  · subst e
    refine (sort_p g l.length cap base l w h rfl hs).mono ?_
    rintro x w' ⟨rfl, l', hp, hU, hr, hO⟩
    refine ⟨rfl, l', hp, hU, ?_, hO.mono fun y hy => by rw [hy]; rfl⟩
    show World.ownsRow _ _ _ _ _ _ _
    rw [hp.length_eq]; exact hr
theorem compactR_p (v : Value) (base : Nat) (l : List Ky) (w : World) (h : RowK w base v l) (hs : l.length ≤ 10000000000000) (hU : Up l) :
    Calls Try.prog 59 #[v] w fun e w' => ∃ v', e = .returned v' ∧ RowK w' base v' (srtK l) ∧ Only (fun x => v.ownBlock = some x) w w' := by
  rcases h.2 with ⟨e, h2⟩ | ⟨g, cap, cur, e, hrest⟩
  · subst e
    obtain h0 := List.length_eq_zero_iff.1 h2
    subst h0
    clear h h2 hs hU
    go_enter Try.func59, Try.ntmps59
    go_wp2
    go_ret
    exact ⟨_, rfl, World.ownsRow_nil _ _ _ _, Only.refl _ _⟩
  · subst e
    refine (compact_own g l.length cap base l w h rfl hs hU).mono ?_
    rintro x w' ⟨rfl, hr, hO⟩
    exact ⟨_, rfl, hr, hO.mono fun y hy => by rw [hy]; rfl⟩
theorem one_key (w : World) (x : Ky) : ∀ j v, x.vals[j]? = some v → (w.alloc (.cells #[.int .i64 x.d, .string x.nm] 36)).cell? ((⟨w.heap.size, 0, none⟩ : Addr).add j) = some v := two_at w _ _ _
set_option maxHeartbeats 4000000 in
theorem those_p (f : Nat) (lb : Array Value) (p : Ky → Bool) (v : Value) (ks : List Ky) (w : World) (h : RdK w v ks) (hl : ks.length * 24 ≤ LK) (eg : ∀ args w, (callFunc f args).run Try.prog w = .ok (.enter f args) w)
    (hp : ∀ (W : World) (x : Ky), Below w.heap.size w W → Calls Try.prog f (#[x.agg] ++ lb) W fun e w' => e = .returned (.bool (p x)) ∧ Below W.heap.size W w') :
    Calls Try.prog 40 #[v, .func (.func f) #[] lb] w fun e w' => ∃ v', e = .returned v' ∧ RowK w' w.heap.size v' (srtK (ks.filter p)) ∧ Below w.heap.size w w' := by
  obtain ⟨i1, hi1, hw0, hw1, hw2⟩ := info_parts Try.infoKy
  obtain ⟨a, cap, rfl⟩ := h.form
  obtain ⟨n, hn⟩ : ∃ n, ks.length = n := ⟨_, rfl⟩
  rw [hn] at hl h ⊢
  unfold LK at hl
  have HL : Hid (n * 24 ≤ 140737488351232) := hl
  have hn13 : n ≤ 10000000000000 := by omega
  have H : Hid (RdK w (.slice a n cap) ks ∧ ks.length = n ∧ ∀ (W : World) (x : Ky), Below w.heap.size w W → Calls Try.prog f (#[x.agg] ++ lb) W fun e w' => e = .returned (.bool (p x)) ∧ Below W.heap.size W w') := ⟨h, hn, hp⟩
  clear h hl hn hp
  go_enter Try.func40, Try.ntmps40
  go_wp2
  go_loopw [5, 6, 9] (fun s5 _ s9 wr => ∃ (j : Nat), s9 = .int .i64 j ∧ j ≤ n ∧ Hid (RowK wr w.heap.size s5 ((ks.take j).filter p)) ∧ Hid (Below w.heap.size w wr)) (fun _ _ s9 _ => n - (intOf s9).toNat)
  case atStart => exact ⟨0, rfl, Nat.zero_le _, World.ownsRow_nil _ _ _ _, Below.refl _ _⟩
  case round =>
    obtain ⟨j, rfl, hj, HR, HB⟩ := hrel
    obtain ⟨va, vc, hv⟩ := owns_len HR.out
    obtain ⟨L, hL⟩ : ∃ L, ((ks.take j).filter p).length = L := ⟨_, rfl⟩
    rw [hL] at hv
    subst hv
    have hLj : L ≤ j := by rw [← hL]; refine Nat.le_trans (List.length_filter_le _ _) ?_; rw [List.length_take]; omega
    by_cases hlt : j < n
    · obtain ⟨x, hx⟩ : ∃ x, ks[j]? = some x := ⟨_, List.getElem?_eq_getElem (by rw [H.out.2.1]; exact hlt)⟩
      have hltz : (j : Int) < (n : Int) := by omega
      obtain ⟨g, off, rfl, hgw, x0, x1⟩ := (H.out.1.below HB.out).key hx
      have hcall := H.out.2.2 wr x HB.out
      unfold Ky.agg at hcall
      have hstep : (ks.take (j + 1)).filter p = (ks.take j).filter p ++ (if p x then [x] else []) := by
        rw [List.take_add_one, hx, List.filter_append]
        cases hq : p x <;> simp [hq]
      have HS : Hid _ := hstep
      have HN : Hid (((ks.take j).filter p).length = L) := hL
      clear hstep hx hL
      cases hq : p x with
      | false =>
        rw [hq] at hcall HS
        go_wp2_with (go_at_fn f; refine hcall.mono ?_; rintro e w2 ⟨rfl, hb2⟩)
        refine ⟨⟨j + 1, by simp, by omega, ?_, chainB HB.out hb2⟩, by simp [intOf]; omega⟩
        show RowK _ _ _ _
        have := HS.out
        simp only [Bool.false_eq_true, if_false, List.append_nil] at this
        rw [this]; exact HR.out.below hb2
      | true =>
        rw [hq] at hcall HS
        have HO : Hid (∀ w2, Below wr.heap.size wr w2 → w2.ownsRow w.heap.size 36 2 (.slice va L vc) L (kc ((ks.take j).filter p)) ∧ w.heap.size ≤ w2.heap.size) := fun w2 hb => by
          have hr := HR.out.below hb
          unfold RowK at hr
          rw [HN.out] at hr
          exact ⟨hr, Nat.le_trans HB.out.size hb.size⟩
        go_wp2_with (first
          | (go_at_fn f; refine hcall.mono ?_; rintro e w2 ⟨rfl, hb2⟩; have y0 := (hb2.cell (cellLt x0)).trans x0; have y1 := (hb2.cell (cellLt x1)).trans x1)
          | (at_builtin; refine wpList_append_own _ rfl _ _ 31 rfl w.heap.size 36 i1 (.agg #[.int .i64 0, .string ⟨#[]⟩]) 2 24 Try.underlying31 hi1 hw0 hw1 hw2 rfl (by decide) _ L (kc ((ks.take j).filter p)) rfl (World.ownsRow.alloc (HO.out w2 hb2).1 _) ⟨w2.heap.size, 0, none⟩ 1 1 x.vals rfl rfl (one_key _ _) (ky_one _) (by unfold maxLen; omega) (by have := HL.out; omega) (by have := (HO.out w2 hb2).2; simp; omega) ?_; intro v3 w3 hown3 hgrow3 _))
        refine ⟨⟨j + 1, by simp, by omega, ?_, ?_⟩, by simp [intOf]; omega⟩
        · show RowK _ _ _ _
          have := HS.out
          simp only [if_true] at this
          rw [this]
          show World.ownsRow _ _ _ _ _ _ _
          rw [List.length_append, HN.out, kc_app]; exact hown3
        · have h3 : Below w.heap.size w w2 := chainB HB.out hb2
          exact (h3.alloc (by have := h3.size; omega) _).grown hgrow3 (by have := h3.size; simp; omega) (fun k hk => (((HO.out w2 hb2).1).lt k hk).1)
    · obtain rfl : j = n := by omega
      have hltz : ¬ (j : Int) < (j : Int) := by omega
      have hfull : ks.take j = ks := List.take_of_length_le (by rw [H.out.2.1]; omega)
      rw [hfull] at HR hL
      have hsort := sortR_p _ _ _ wr HR.out (by rw [hL]; omega)
      have HN : Hid ((ks.filter p).length = L) := hL
      clear hfull hL
      go_wp2_with (first
        | (go_at_call 57; refine hsort.mono ?_; rintro e w2 ⟨rfl, l', hP, hU, hr2, hO2⟩; have b2 : Below w.heap.size w w2 := hO2.below HB.out HB.out.size (fun k hk => (HR.out.lt hk).1); have hcom := compactR_p _ _ l' w2 hr2 (by rw [hP.length_eq, HN.out]; omega) hU; clear hr2 hO2)
        | (go_at_call 59; refine hcom.mono ?_; rintro e w3 ⟨v3, rfl, hr3, hO3⟩; have b3 : Below w.heap.size w w3 := hO3.below b2 b2.size (fun k hk => (HR.out.lt hk).1); have hcl := clone_k v3 _ w3 hr3.rd (by have h1 := srtK_len l'; have h2 := HN.out; have h3 := hP.length_eq; have := HL.out; omega); obtain ⟨a3, c3, rfl⟩ := owns_len hr3; clear hr3 hO3)
        | (go_at_call 47; refine hcl.mono ?_; rintro e w4 ⟨v4, rfl, hr4, hb4⟩; obtain ⟨a4, c4, rfl⟩ := owns_len hr4))
      go_ret
      refine ⟨_, rfl, ?_, chainB b3 hb4⟩
      rw [srtK_same (l := ks.filter p) (m := l') fun x => (hP.mem_iff).symm]
      exact owns_le hr4 b3.size
end Go.Proofs.Ytaofhjckliobpaa
