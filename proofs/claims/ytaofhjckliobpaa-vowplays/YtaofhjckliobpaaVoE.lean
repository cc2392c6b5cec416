/- slices.DeleteFunc at a list of breaks. -/
import Derived.Test.YtaofhjckliobpaaVoD
namespace Go.Proofs.Ytaofhjckliobpaa
open Go.RowKit Go.Shelf
attribute [local go_sem high] run_store_complex

/-- the box of a break -/
def BoxB (w : World) (g : Nat) (k : Br) : Prop := w.heap[g]? = some (.cells #[.complex .f64 k.a k.b, .int .i64 k.ver, .bool k.all, .slice k.va k.vn k.vc] 57 (0, 0))
theorem BoxB.cells {w : World} {g : Nat} {k : Br} (h : BoxB w g k) : w.cell? ⟨g, 0, none⟩ = some (.complex .f64 k.a k.b) ∧ w.cell? ⟨g, 1, none⟩ = some (.int .i64 k.ver) ∧ w.cell? ⟨g, 2, none⟩ = some (.bool k.all) ∧ w.cell? ⟨g, 3, none⟩ = some (.slice k.va k.vn k.vc) ∧ ∀ i, w.frozen? ⟨g, i, none⟩ = false := by
  have h0 := cell_of h 0
  have h1 := cell_of h 1
  have h2 := cell_of h 2
  have h3 := cell_of h 3
  simp at h0 h1 h2 h3
  exact ⟨h0, h1, h2, h3, free_of h⟩
theorem BoxB.below {w w' : World} {g : Nat} {k : Br} (h : BoxB w g k) (hb : Below w.heap.size w w') : BoxB w' g k := (hb.block _ (Array.getElem?_eq_some_iff.1 h).1).trans h
theorem boxB_new {wr : World} {k : Br} : BoxB (wr.alloc (.cells #[.complex .f64 k.a k.b, .int .i64 k.ver, .bool k.all, .slice k.va k.vn k.vc] 57)) wr.heap.size k ∧ Below wr.heap.size wr (wr.alloc (.cells #[.complex .f64 k.a k.b, .int .i64 k.ver, .bool k.all, .slice k.va k.vn k.vc] 57)) :=
  ⟨heap_new _ _, below_alloc wr _⟩
/-- a break laid over four cells -/
def put4 (w : World) (g o : Nat) (k : Br) : World := (((w.setCell ⟨g, o, none⟩ (.complex .f64 k.a k.b)).setCell ⟨g, o + 1, none⟩ (.int .i64 k.ver)).setCell ⟨g, o + 2, none⟩ (.bool k.all)).setCell ⟨g, o + 3, none⟩ (.slice k.va k.vn k.vc)
theorem put4_row {w : World} {base g i n cap : Nat} {ks : List Br} {k f : Br} (h : w.ownsRow base 57 4 (.slice (some ⟨g, 0, none⟩) n cap) n (bc ks)) (hf : ks[i]? = some f) : (put4 w g (i * 4) k).ownsRow base 57 4 (.slice (some ⟨g, 0, none⟩) n cap) n (bc (ks.set i k)) := by
  rw [← bc_set ks i k f hf]
  exact ((((h.stored (i * 4) (.complex .f64 k.a k.b)).1.stored (i * 4 + 1) (.int .i64 k.ver)).1.stored (i * 4 + 2) (.bool k.all)).1.stored (i * 4 + 3) (.slice k.va k.vn k.vc)).1
theorem put4_only (w : World) (g o : Nat) (k : Br) : Only (· = g) w (put4 w g o k) := (((only1 _ g _ _).trans (only1 _ g _ _)).trans (only1 _ g _ _)).trans (only1 _ g _ _)
theorem indexB_nil (f : Value) (w : World) : Calls Try.prog 60 #[.slice none 0 0, f] w fun e w' => e = .returned (.int .i64 (-1)) ∧ w' = w := by
  go_enter Try.func60, Try.ntmps60
  go_wp2
  go_loopw [5, 8] (fun _ i wr => i = .int .i64 0 ∧ wr = w) (fun _ _ _ => 0)
  case atStart => exact ⟨rfl, rfl⟩
  case round =>
    obtain ⟨rfl, rfl⟩ := hrel
    go_wp2
    go_ret
    exact ⟨rfl, rfl⟩
theorem deleteB_nil (f : Value) (w : World) : Calls Try.prog 43 #[.slice none 0 0, f] w fun e w' => e = .returned (.slice none 0 0) ∧ w' = w := by
  go_enter Try.func43, Try.ntmps43
  go_wp2_with (go_at_call 60; refine (indexB_nil _ _).mono ?_; rintro e w' ⟨rfl, rfl⟩)
  go_ret
  exact ⟨rfl, rfl⟩
set_option maxHeartbeats 4000000 in
set_option maxRecDepth 1000000 in
theorem deleteB_own (f : Nat) (lb : Array Value) (p : Br → Bool) (g n cap base : Nat) (ks : List Br) (w : World) (h : w.ownsRow base 57 4 (.slice (some ⟨g, 0, none⟩) n cap) n (bc ks)) (hn : ks.length = n) (hs : n ≤ 1000000)
    (eg : ∀ args w, (callFunc f args).run Try.prog w = .ok (.enter f args) w)
    (hp : ∀ (W : World) (x : Br), Only (· = g) w W → Calls Try.prog f (#[x.agg] ++ lb) W fun e w' => e = .returned (.bool (p x)) ∧ Below W.heap.size W w') :
    Calls Try.prog 43 #[.slice (some ⟨g, 0, none⟩) n cap, .func (.func f) #[] lb] w fun e w' => e = .returned (.slice (some ⟨g, 0, none⟩) (ks.filter fun x => !p x).length cap) ∧ RowB w' base (.slice (some ⟨g, 0, none⟩) (ks.filter fun x => !p x).length cap) (ks.filter fun x => !p x) ∧ Only (· = g) w w' := by
  have iK : Inhabited Br := ⟨⟨0, 0, 0, false, none, 0, 0, []⟩⟩
  obtain ⟨hc, hf, hcap, hmx, hb0, hg⟩ := owns_cells h
  have hIF := AnyQ.slices_IndexFunc Try.indexB 4 Try.isAgg57 Try.sizeOf57 Br.vals (fun _ => rfl) p f lb eg g 0 n cap ks w
    (fun W x hb => (hp W x (Only.of hb)).mono fun e w' hh => ⟨hh.1, chainB hb hh.2⟩) (by omega) (by omega) hg (fun j hj i v hi => by
      rw [Nat.zero_add]
      have hx := List.getElem?_eq_getElem hj
      rw [get_bang hx] at hi
      obtain ⟨l0, l1, l2, l3⟩ := bc_get ks j _ hx
      match i, hi with
      | 0, hi => simp [Br.vals] at hi; subst hi; exact hc _ _ l0
      | 1, hi => simp [Br.vals] at hi; subst hi; exact hc _ _ l1
      | 2, hi => simp [Br.vals] at hi; subst hi; exact hc _ _ l2
      | 3, hi => simp [Br.vals] at hi; subst hi; exact hc _ _ l3)
  change Calls Try.prog 60 _ _ _ at hIF
  rcases idx_cases p ks n hn with ⟨e1, hno⟩ | ⟨i0, x0, hx0, hp0, hno, e1⟩
  · rw [e1] at hIF
    have hfil : (ks.filter fun x => !p x) = ks := by
      rw [List.filter_eq_self]
      intro x hx; rw [hno x hx]; rfl
    rw [hfil]
    subst hn
    have HH : Hid _ := h
    clear h hc hf hp hfil hno e1
    go_enter Try.func43, Try.ntmps43
    go_wp2_with (go_at_call 60; refine hIF.mono ?_; rintro e w' ⟨rfl, hb1⟩)
    go_ret
    exact ⟨rfl, owns_below HH.out hb1, Only.of hb1⟩
  · rw [e1] at hIF
    have hi0 : i0 < n := by rw [← hn]; exact (List.getElem?_eq_some_iff.1 hx0).1
    have HS : Hid (Kept p ks ks n i0 (i0 + 1)) := Kept.start hn hx0 hp0 hno
    have HH : Hid (w.ownsRow base 57 4 (.slice (some ⟨g, 0, none⟩) n cap) n (bc ks)) := h
    have HP : Hid (∀ (W : World) (x : Br), Only (· = g) w W → Calls Try.prog f (#[x.agg] ++ lb) W fun e w' => e = .returned (.bool (p x)) ∧ Below W.heap.size W w') := hp
    have HN : Hid (ks.length = n) := hn
    have hne : ((i0 : Int) == -1) = false := beq_eq_false_iff_ne.2 (by omega)
    clear h hc hf hp hno e1 hx0 hp0 hn
    go_enter Try.func43, Try.ntmps43
    go_wp2_with (go_at_call 60; refine hIF.mono ?_; rintro e w0 ⟨rfl, hb1⟩)
    go_loopw [5, 6, 7] (fun s5 s6 _ wr => ∃ (i j : Nat) (D : List Br), s5 = .int .i64 i ∧ s6 = .int .i64 j ∧ j ≤ n ∧ i < j ∧ Hid (Kept p ks D n i j) ∧ Hid (wr.ownsRow base 57 4 (.slice (some ⟨g, 0, none⟩) n cap) n (bc D)) ∧ Hid (Only (· = g) w wr)) (fun _ s6 _ _ => n - (intOf s6).toNat)
    case atStart => exact ⟨i0, i0 + 1, ks, rfl, by simp, by omega, by omega, HS, owns_below HH.out hb1, Only.of hb1⟩
    case round =>
      obtain ⟨i, j, D, rfl, rfl, hjn, hij, HK, HW, HO⟩ := hrel
      by_cases hlt : j < n
      · obtain ⟨x, hx⟩ : ∃ x, ks[j]? = some x := ⟨_, List.getElem?_eq_getElem (by rw [HN.out]; exact hlt)⟩
        obtain ⟨y, hy⟩ : ∃ x, D[i]? = some x := ⟨_, List.getElem?_eq_getElem (by rw [HK.out.len]; omega)⟩
        have hD : D[j]? = some x := by rw [HK.out.high j (Nat.le_refl _)]; exact hx
        obtain ⟨wc, wf, -, -, -, wg⟩ := owns_cells HW.out
        obtain ⟨l0, l1, l2, l3⟩ := bc_get D j x hD
        obtain ⟨m0, m1, m2, m3⟩ := bc_get D i y hy
        have x0 := wc _ _ l0
        have x1 := wc _ _ l1
        have x2 := wc _ _ l2
        have x3 := wc _ _ l3
        have y0 := wc _ _ m0
        have y1 := wc _ _ m1
        have y2 := wc _ _ m2
        have y3 := wc _ _ m3
        unfold Br.v at x3 y3
        have HX : Hid (ks[j]? = some x ∧ D[i]? = some y) := ⟨hx, hy⟩
        clear wc l0 l1 l2 l3 m0 m1 m2 m3 hD hx hy
        have hltz : (j : Int) < (n : Int) := by omega
        have hiz : (i : Int) < (n : Int) := by omega
        go_upto_region 8 with fail
        obtain ⟨W1, hW1⟩ : ∃ W1, wr.alloc (.cells #[.complex .f64 x.a x.b, .int .i64 x.ver, .bool x.all, .slice x.va x.vn x.vc] 57) = W1 := ⟨_, rfl⟩
        rw [hW1]
        obtain ⟨bx, bb⟩ := boxB_new (wr := wr) (k := x)
        rw [hW1] at bx bb
        have HB : Hid (Below wr.heap.size wr W1) := bb
        obtain ⟨b0, b1, b2, b3, bf⟩ := bx.cells
        have HC : Hid (BoxB W1 wr.heap.size x) := bx
        have hcall := HP.out W1 x (only_below HO.out bb)
        unfold Br.agg Br.v at hcall
        clear hW1 bx bb
        cases hq : p x with
        | true =>
          rw [hq] at hcall
          go_wp2_with (go_at_fn f; refine hcall.mono ?_; rintro e w2 ⟨rfl, hb2⟩)
          exact ⟨⟨i, j + 1, D, rfl, by simp, by omega, by omega, HK.out.skip hlt HX.out.1 hq, owns_below HW.out (chainB HB.out hb2), only_below HO.out (chainB HB.out hb2)⟩, by simp [intOf]; omega⟩
        | false =>
          rw [hq] at hcall
          go_wp2_with (go_at_fn f; refine hcall.mono ?_; rintro e w2 ⟨rfl, hb2⟩; have hb3 := chainB HB.out hb2; obtain ⟨d0, d1, d2, d3, -⟩ := (HC.out.below hb2).cells; have y0' := (hb3.cell (p := ⟨g, i * 4, none⟩) wg).trans y0; have y1' := (hb3.cell (p := ⟨g, i * 4 + 1, none⟩) wg).trans y1; have y2' := (hb3.cell (p := ⟨g, i * 4 + 2, none⟩) wg).trans y2; have y3' := (hb3.cell (p := ⟨g, i * 4 + 3, none⟩) wg).trans y3; have yf := fun o => (hb3.frozen (p := ⟨g, o, none⟩) wg).trans (wf o); clear y0 y1 y2 y3 wf hb2)
          exact ⟨⟨i + 1, j + 1, D.set i x, by simp, by simp, by omega, by omega, HK.out.keep hlt HX.out.1 hq, put4_row (owns_below HW.out hb3) HX.out.2, (only_below HO.out hb3).trans (put4_only _ _ _ _)⟩, by simp [intOf]; omega⟩
      · obtain rfl : j = n := by omega
        have hltz : ¬ (j : Int) < (j : Int) := by omega
        obtain ⟨w3, hcl, hr3, ho3⟩ := run_clear_own (P := Try.prog) wr 40 57 0 (.agg #[.complex .f64 0 0, .int .i64 0, .bool false, .slice none 0 0]) 4 Try.underlying40 Try.zeroValue57 rfl (by simp [Value.cells, Value.oneCell']) (by omega) g j i (cap - i) cap base (bc D) HW.out (Nat.le_of_lt hij)
        have hci : i < cap := by omega
        rw [bc_take, HK.out.done HN.out] at hr3
        have hlen : (ks.filter fun x => !p x).length = i := by
          rw [← HK.out.done HN.out, List.length_take, HK.out.len]; omega
        have HR : Hid (RowB w3 base (.slice (some ⟨g, 0, none⟩) i cap) (ks.filter fun x => !p x)) := by
          show World.ownsRow _ _ _ _ _ _ _
          rw [hlen]; exact hr3
        have HL : Hid ((ks.filter fun x => !p x).length = i) := hlen
        clear hr3 hlen
        clear hmx
        go_wp2
        go_ret
        rw [HL.out]
        exact ⟨rfl, HR.out, HO.out.trans ho3⟩
end Go.Proofs.Ytaofhjckliobpaa
