/- slices.DeleteFunc at a list of keys: a key struck out. -/
import Derived.Test.YtaofhjckliobpaaVoC
namespace Go.Proofs.Ytaofhjckliobpaa
open Go.RowKit Go.Shelf
attribute [local go_sem high] eqK neqK guardK

/-- the box of a key -/
def BoxK (w : World) (g : Nat) (k : Ky) : Prop := w.heap[g]? = some (.cells #[.int .i64 k.d, .string k.nm] 36 (0, 0))
theorem BoxK.cells {w : World} {g : Nat} {k : Ky} (h : BoxK w g k) : w.cell? ⟨g, 0, none⟩ = some (.int .i64 k.d) ∧ w.cell? ⟨g, 1, none⟩ = some (.string k.nm) ∧ ∀ i, w.frozen? ⟨g, i, none⟩ = false := by
  have h0 := cell_of h 0
  have h1 := cell_of h 1
  simp at h0 h1
  exact ⟨h0, h1, free_of h⟩
theorem same_p (x k : Ky) (g : Nat) (w : World) (h : BoxK w g k) : Calls Try.prog 54 #[x.agg, .pointer (some ⟨g, 0, none⟩)] w fun e w' => e = .returned (.bool (eqKy x k)) ∧ Below w.heap.size w w' := by
  have hg : g < w.heap.size := (Array.getElem?_eq_some_iff.1 h).1
  have c0 := (below_alloc w (.cells #[.int .i64 x.d, .string x.nm] 36)).cell (p := ⟨g, 0, none⟩) hg
  have c1 := (below_alloc w (.cells #[.int .i64 x.d, .string x.nm] 36)).cell (p := ⟨g, 1, none⟩) hg
  rw [h.cells.1] at c0
  rw [h.cells.2.1] at c1
  clear h
  unfold Ky.agg
  go_enter Try.func54, Try.ntmps54
  go_wp2
  go_ret
  exact ⟨rfl, below_alloc _ _⟩
theorem index_nil (f : Value) (w : World) : Calls Try.prog 64 #[.slice none 0 0, f] w fun e w' => e = .returned (.int .i64 (-1)) ∧ w' = w := by
  go_enter Try.func64, Try.ntmps64
  go_wp2
  go_loopw [5, 8] (fun _ i wr => i = .int .i64 0 ∧ wr = w) (fun _ _ _ => 0)
  case atStart => exact ⟨rfl, rfl⟩
  case round =>
    obtain ⟨rfl, rfl⟩ := hrel
    go_wp2
    go_ret
    exact ⟨rfl, rfl⟩
theorem delete_nil (f : Value) (w : World) : Calls Try.prog 53 #[.slice none 0 0, f] w fun e w' => e = .returned (.slice none 0 0) ∧ w' = w := by
  go_enter Try.func53, Try.ntmps53
  go_wp2_with (go_at_call 64; refine (index_nil _ _).mono ?_; rintro e w' ⟨rfl, rfl⟩)
  go_ret
  exact ⟨rfl, rfl⟩
/-- a key laid over two cells -/
def put2 (w : World) (g o : Nat) (k : Ky) : World := (w.setCell ⟨g, o, none⟩ (.int .i64 k.d)).setCell ⟨g, o + 1, none⟩ (.string k.nm)
theorem put2_row {w : World} {base g i n cap : Nat} {ks : List Ky} {k f : Ky} (h : w.ownsRow base 36 2 (.slice (some ⟨g, 0, none⟩) n cap) n (kc ks)) (hf : ks[i]? = some f) : (put2 w g (i * 2) k).ownsRow base 36 2 (.slice (some ⟨g, 0, none⟩) n cap) n (kc (ks.set i k)) := by
  rw [← kc_set ks i k f hf]
  exact ((h.stored (i * 2) (.int .i64 k.d)).1.stored (i * 2 + 1) (.string k.nm)).1
theorem put2_only (w : World) (g o : Nat) (k : Ky) : Only (· = g) w (put2 w g o k) := (only1 _ g _ _).trans (only1 _ g _ _)
theorem row_only {S : Nat → Prop} {w w' : World} {base : Nat} {e : TypeId} {size g n cap : Nat} {xs : List Value} (h : w.ownsRow base e size (.slice (some ⟨g, 0, none⟩) n cap) n xs) (hO : Only S w w') (hS : ¬ S g) : w'.ownsRow base e size (.slice (some ⟨g, 0, none⟩) n cap) n xs :=
  owns_moved h fun k hk => by
    have e : g = k := Option.some.inj hk
    subst e
    exact hO.block _ (owns_cells h).2.2.2.2.2 hS
/-- the box that a round makes -/
theorem box_new {wr : World} {k : Ky} : BoxK (wr.alloc (.cells #[.int .i64 k.d, .string k.nm] 36)) wr.heap.size k ∧ Below wr.heap.size wr (wr.alloc (.cells #[.int .i64 k.d, .string k.nm] 36)) :=
  ⟨heap_new _ _, below_alloc wr _⟩
theorem BoxK.below {w w' : World} {g : Nat} {k : Ky} (h : BoxK w g k) (hb : Below w.heap.size w w') : BoxK w' g k := (hb.block _ (Array.getElem?_eq_some_iff.1 h).1).trans h
theorem only_below {S : Nat → Prop} {w W w' : World} (h : Only S w W) (hb : Below W.heap.size W w') : Only S w w' := h.trans (Only.of hb)

/-- what has been kept of a list so far -/
structure Kept {α : Type} (p : α → Bool) (ks D : List α) (n i j : Nat) : Prop where
  len : D.length = n
  le : i ≤ j
  jn : j ≤ n
  low : D.take i = (ks.take j).filter fun x => !p x
  high : ∀ m, j ≤ m → D[m]? = ks[m]?
theorem Kept.skip {α : Type} {p : α → Bool} {ks D : List α} {n i j : Nat} {x : α} (h : Kept p ks D n i j) (hj : j < n) (hx : ks[j]? = some x) (hp : p x = true) : Kept p ks D n i (j + 1) :=
  ⟨h.len, by have := h.le; omega, hj, by rw [h.low, List.take_add_one, hx, List.filter_append]; simp [hp], fun m hm => h.high m (by omega)⟩
theorem Kept.keep {α : Type} {p : α → Bool} {ks D : List α} {n i j : Nat} {x : α} (h : Kept p ks D n i j) (hj : j < n) (hx : ks[j]? = some x) (hp : p x = false) : Kept p ks (D.set i x) n (i + 1) (j + 1) := by
  have hi : i < D.length := by have := h.len; have := h.le; omega
  refine ⟨by rw [List.length_set]; exact h.len, by have := h.le; omega, hj, ?_, fun m hm => ?_⟩
  · rw [List.take_add_one, List.take_set_of_le (Nat.le_refl _), h.low, List.getElem?_set_self hi, List.take_add_one, hx, List.filter_append]
    simp [hp]
  · have := h.le
    rw [List.getElem?_set_ne (by omega)]; exact h.high m (by omega)
theorem Kept.done {α : Type} {p : α → Bool} {ks D : List α} {n i : Nat} (h : Kept p ks D n i n) (hn : ks.length = n) : D.take i = ks.filter fun x => !p x := by
  rw [h.low, List.take_of_length_le (by omega)]
theorem Kept.start {α : Type} {p : α → Bool} {ks : List α} {n i : Nat} {x : α} (hn : ks.length = n) (hx : ks[i]? = some x) (hp : p x = true) (hno : ∀ (m : Nat) (y : α), m < i → ks[m]? = some y → p y = false) : Kept p ks ks n i (i + 1) := by
  have hi := (List.getElem?_eq_some_iff.1 hx).1
  refine ⟨hn, by omega, by omega, ?_, fun _ _ => rfl⟩
  rw [List.take_add_one, hx, List.filter_append]
  simp [hp]
  symm
  rw [List.filter_eq_self]
  intro y hy
  obtain ⟨m, hm⟩ := List.getElem?_of_mem hy
  have hlt : m < i := by have := (List.getElem?_eq_some_iff.1 hm).1; simp at this; omega
  rw [List.getElem?_take_of_lt hlt] at hm
  rw [hno m y hlt hm]; rfl
theorem get_bang {α : Type} [Inhabited α] {ks : List α} {i : Nat} {x : α} (h : ks[i]? = some x) : ks[i]! = x := by rw [List.getElem!_eq_getElem?_getD, h]; rfl
/-- what slices.IndexFunc finds -/
theorem idx_cases {α : Type} [Inhabited α] (p : α → Bool) (ks : List α) (n : Nat) (hn : ks.length = n) : (Lib.idxBy (fun _ y => p y) (ks.take n) default = -1 ∧ ∀ x ∈ ks, p x = false) ∨
    ∃ i x, ks[i]? = some x ∧ p x = true ∧ (∀ (m : Nat) (y : α), m < i → ks[m]? = some y → p y = false) ∧ Lib.idxBy (fun _ y => p y) (ks.take n) default = (i : Int) := by
  subst hn
  cases h : ks.findIdx? p with
  | none =>
    rw [List.findIdx?_eq_none_iff] at h
    refine .inl ⟨Lib.idxBy_miss _ ks _ _ fun j hj => ?_, h⟩
    have hj' := List.getElem?_eq_getElem hj
    show p ks[j]! = false
    rw [get_bang hj']; exact h _ (by simp)
  | some i =>
    rw [List.findIdx?_eq_some_iff_getElem] at h
    obtain ⟨hi, hq, hno⟩ := h
    have hg := List.getElem?_eq_getElem hi
    refine .inr ⟨i, ks[i], hg, hq, fun m y hm hy => ?_, Lib.idxBy_hit _ ks _ i default hi (Nat.le_refl _) (by show p ks[i]! = true; rw [get_bang hg]; exact hq) fun j hj => ?_⟩
    · have := hno m hm
      rw [← (List.getElem?_eq_some_iff.1 hy).2]; simpa using this
    · have hj' := List.getElem?_eq_getElem (show j < ks.length by omega)
      show p ks[j]! = false
      rw [get_bang hj']; simpa using hno j hj
set_option maxHeartbeats 4000000 in
set_option maxRecDepth 1000000 in
theorem delete_own (f : Nat) (lb : Array Value) (p : Ky → Bool) (g n cap base : Nat) (ks : List Ky) (w : World) (h : w.ownsRow base 36 2 (.slice (some ⟨g, 0, none⟩) n cap) n (kc ks)) (hn : ks.length = n) (hs : n ≤ 1000000)
    (eg : ∀ args w, (callFunc f args).run Try.prog w = .ok (.enter f args) w)
    (hp : ∀ (W : World) (x : Ky), Only (· = g) w W → Calls Try.prog f (#[x.agg] ++ lb) W fun e w' => e = .returned (.bool (p x)) ∧ Below W.heap.size W w') :
    Calls Try.prog 53 #[.slice (some ⟨g, 0, none⟩) n cap, .func (.func f) #[] lb] w fun e w' => e = .returned (.slice (some ⟨g, 0, none⟩) (ks.filter fun x => !p x).length cap) ∧ RowK w' base (.slice (some ⟨g, 0, none⟩) (ks.filter fun x => !p x).length cap) (ks.filter fun x => !p x) ∧ Only (· = g) w w' := by
  have iK : Inhabited Ky := ⟨⟨0, ⟨#[]⟩⟩⟩
  obtain ⟨hc, hf, hcap, hmx, hb0, hg⟩ := owns_cells h
  have hIF := AnyQ.slices_IndexFunc Try.indexK 2 Try.isAgg36 Try.sizeOf36 Ky.vals (fun _ => rfl) p f lb eg g 0 n cap ks w
    (fun W x hb => (hp W x (Only.of hb)).mono fun e w' hh => ⟨hh.1, chainB hb hh.2⟩) (by omega) (by omega) hg (fun j hj i v hi => by
      rw [Nat.zero_add]
      have hx := List.getElem?_eq_getElem hj
      rw [get_bang hx] at hi
      obtain ⟨l0, l1⟩ := kc_get ks j _ hx
      match i, hi with
      | 0, hi => simp [Ky.vals] at hi; subst hi; exact hc _ _ l0
      | 1, hi => simp [Ky.vals] at hi; subst hi; exact hc _ _ l1)
  change Calls Try.prog 64 _ _ _ at hIF
  rcases idx_cases p ks n hn with ⟨e1, hno⟩ | ⟨i0, x0, hx0, hp0, hno, e1⟩
  · rw [e1] at hIF
    have hfil : (ks.filter fun x => !p x) = ks := by
      rw [List.filter_eq_self]
      intro x hx; rw [hno x hx]; rfl
    rw [hfil]
    subst hn
    have HH : Hid _ := h
    clear h hc hf hp hfil hno e1
    go_enter Try.func53, Try.ntmps53
    go_wp2_with (go_at_call 64; refine hIF.mono ?_; rintro e w' ⟨rfl, hb1⟩)
    go_ret
    exact ⟨rfl, owns_below HH.out hb1, Only.of hb1⟩
  · rw [e1] at hIF
    have hi0 : i0 < n := by rw [← hn]; exact (List.getElem?_eq_some_iff.1 hx0).1
    have HS : Hid (Kept p ks ks n i0 (i0 + 1)) := Kept.start hn hx0 hp0 hno
    have HH : Hid (w.ownsRow base 36 2 (.slice (some ⟨g, 0, none⟩) n cap) n (kc ks)) := h
    have HP : Hid (∀ (W : World) (x : Ky), Only (· = g) w W → Calls Try.prog f (#[x.agg] ++ lb) W fun e w' => e = .returned (.bool (p x)) ∧ Below W.heap.size W w') := hp
    have HN : Hid (ks.length = n) := hn
    have hne : ((i0 : Int) == -1) = false := beq_eq_false_iff_ne.2 (by omega)
    clear h hc hf hp hno e1 hx0 hp0 hn
    go_enter Try.func53, Try.ntmps53
    go_wp2_with (go_at_call 64; refine hIF.mono ?_; rintro e w0 ⟨rfl, hb1⟩)
    go_loopw [5, 6, 7] (fun s5 s6 _ wr => ∃ (i j : Nat) (D : List Ky), s5 = .int .i64 i ∧ s6 = .int .i64 j ∧ j ≤ n ∧ i < j ∧ Hid (Kept p ks D n i j) ∧ Hid (wr.ownsRow base 36 2 (.slice (some ⟨g, 0, none⟩) n cap) n (kc D)) ∧ Hid (Only (· = g) w wr)) (fun _ s6 _ _ => n - (intOf s6).toNat)
    case atStart => exact ⟨i0, i0 + 1, ks, rfl, by simp, by omega, by omega, HS, owns_below HH.out hb1, Only.of hb1⟩
    case round =>
      obtain ⟨i, j, D, rfl, rfl, hjn, hij, HK, HW, HO⟩ := hrel
      by_cases hlt : j < n
      · obtain ⟨x, hx⟩ : ∃ x, ks[j]? = some x := ⟨_, List.getElem?_eq_getElem (by rw [HN.out]; exact hlt)⟩
        obtain ⟨y, hy⟩ : ∃ x, D[i]? = some x := ⟨_, List.getElem?_eq_getElem (by rw [HK.out.len]; omega)⟩
        have hD : D[j]? = some x := by rw [HK.out.high j (Nat.le_refl _)]; exact hx
        obtain ⟨wc, wf, -, -, -, wg⟩ := owns_cells HW.out
        obtain ⟨l0, l1⟩ := kc_get D j x hD
        obtain ⟨m0, m1⟩ := kc_get D i y hy
        have x0 := wc _ _ l0
        have x1 := wc _ _ l1
        have y0 := wc _ _ m0
        have y1 := wc _ _ m1
        have HX : Hid (ks[j]? = some x ∧ D[i]? = some y) := ⟨hx, hy⟩
        clear wc l0 l1 m0 m1 hD hx hy
        have hltz : (j : Int) < (n : Int) := by omega
        have hiz : (i : Int) < (n : Int) := by omega
        go_upto_region 8 with fail
        obtain ⟨W1, hW1⟩ : ∃ W1, wr.alloc (.cells #[.int .i64 x.d, .string x.nm] 36) = W1 := ⟨_, rfl⟩
        rw [hW1]
        obtain ⟨bx, bb⟩ := box_new (wr := wr) (k := x)
        rw [hW1] at bx bb
        have HB : Hid (Below wr.heap.size wr W1) := bb
        obtain ⟨b0, b1, bf⟩ := bx.cells
        have HC : Hid (BoxK W1 wr.heap.size x) := bx
        have hcall := HP.out W1 x (only_below HO.out bb)
        unfold Ky.agg at hcall
        clear hW1 bx bb
        cases hq : p x with
        | true =>
          rw [hq] at hcall
          go_wp2_with (go_at_fn f; refine hcall.mono ?_; rintro e w2 ⟨rfl, hb2⟩)
          exact ⟨⟨i, j + 1, D, rfl, by simp, by omega, by omega, HK.out.skip hlt HX.out.1 hq, owns_below HW.out (chainB HB.out hb2), only_below HO.out (chainB HB.out hb2)⟩, by simp [intOf]; omega⟩
        | false =>
          rw [hq] at hcall
          go_wp2_with (go_at_fn f; refine hcall.mono ?_; rintro e w2 ⟨rfl, hb2⟩; have hb3 := chainB HB.out hb2; have d0 := (HC.out.below hb2).cells.1; have d1 := (HC.out.below hb2).cells.2.1; have y0' := (hb3.cell (p := ⟨g, i * 2, none⟩) wg).trans y0; have y1' := (hb3.cell (p := ⟨g, i * 2 + 1, none⟩) wg).trans y1; have yf := fun o => (hb3.frozen (p := ⟨g, o, none⟩) wg).trans (wf o); clear y0 y1 wf hb2)
          exact ⟨⟨i + 1, j + 1, D.set i x, by simp, by simp, by omega, by omega, HK.out.keep hlt HX.out.1 hq, put2_row (owns_below HW.out hb3) HX.out.2, (only_below HO.out hb3).trans (put2_only _ _ _ _)⟩, by simp [intOf]; omega⟩
      · obtain rfl : j = n := by omega
        have hltz : ¬ (j : Int) < (j : Int) := by omega
        obtain ⟨w3, hcl, hr3, ho3⟩ := run_clear_own (P := Try.prog) wr 31 36 0 (.agg #[.int .i64 0, .string ⟨#[]⟩]) 2 Try.underlying31 Try.zeroValue36 rfl (by simp [Value.cells, Value.oneCell']) (by omega) g j i (cap - i) cap base (kc D) HW.out (Nat.le_of_lt hij)
        have hci : i < cap := by omega
        rw [kc_take, HK.out.done HN.out] at hr3
        have hlen : (ks.filter fun x => !p x).length = i := by
          rw [← HK.out.done HN.out, List.length_take, HK.out.len]; omega
        have HR : Hid (RowK w3 base (.slice (some ⟨g, 0, none⟩) i cap) (ks.filter fun x => !p x)) := by
          show World.ownsRow _ _ _ _ _ _ _
          rw [hlen]; exact hr3
        have HL : Hid ((ks.filter fun x => !p x).length = i) := hlen
        clear hr3 hlen
        clear hmx
        go_wp2
        go_ret
        rw [HL.out]
        exact ⟨rfl, HR.out, HO.out.trans ho3⟩
end Go.Proofs.Ytaofhjckliobpaa
