/- Entries, walked. -/
import Derived.Test.YtmndnjgbbpkidaaGreatJWLks11
namespace Go.Proofs.YtmndnjgbbpkidaaGreat
section
open Go.RowKit Go.Shelf Go.Sort
attribute [local go_sem ↓ high] loadEn storeEn loadCa storeCa buildCa buildca builden
attribute [local go_sem high] eqMN

theorem ld8 (w : World) (x : En × Nat) (t : TypeId) : (caLd (.pointer (some ⟨w.heap.size, 0, none⟩))).run Tryz.prog (w.alloc (.cells (cvals x).toArray t)) = .ok (mvC x) (w.alloc (.cells (cvals x).toArray t)) := caLd_at (cells7_c (heap_new _ _)).1 (cells7_c (heap_new _ _)).2
theorem Row8.cell {w : World} {B n cap i : Nat} {a : Option Addr} {l : List (En × Nat)} {x : En × Nat} (h : Row8 w B (.slice a n cap) l) (hi : l[i]? = some x) : ∃ g, a = some ⟨g, 0, none⟩ ∧ Cells7 w g (i * 8) x.1 ∧ w.cell? ⟨g, i * 8 + 7, none⟩ = some (.int .i64 x.2) := by
  have hlt : i < l.length := (List.getElem?_eq_some_iff.1 hi).1
  obtain ⟨N, hN⟩ : ∃ N, l.length = N + 1 := ⟨l.length - 1, by omega⟩
  unfold Row8 at h
  rw [hN] at h
  obtain ⟨g, cap', e'⟩ := owns_form h
  cases e'
  obtain ⟨hc, _⟩ := owns_cells h
  exact ⟨g, rfl, ⟨hc _ _ (cc_get l i 0 x hi (by omega)), hc _ _ (cc_get l i 1 x hi (by omega)), hc _ _ (cc_get l i 2 x hi (by omega)), hc _ _ (cc_get l i 3 x hi (by omega)), hc _ _ (cc_get l i 4 x hi (by omega)), hc _ _ (cc_get l i 5 x hi (by omega)), hc _ _ (cc_get l i 6 x hi (by omega))⟩, hc _ _ (cc_get l i 7 x hi (by omega))⟩
/-- what is collected, one more -/
theorem coll_more {w w3 : World} {v : Value} {l : List (En × Nat)} (x : En × Nat) (hv : Row8 w3 w.heap.size v l) (hs : w.heap.size ≤ w3.heap.size) (hl : l.length + 1 ≤ 1500000000000) : ∃ v6 w6, (∀ ty, (Builtin.append_ #[108, 108] ty #[v, .slice (some ⟨(w3.alloc (.cells (cvals x).toArray 99)).heap.size, 0, none⟩) 1 1]).run Tryz.prog ((w3.alloc (.cells (cvals x).toArray 99)).alloc (.cells (cvals x).toArray 99)) = .ok v6 w6) ∧ Row8 w6 w.heap.size v6 (l ++ [x]) ∧ Only (fun k => v.ownBlock = some k) w3 w6 := by
  obtain ⟨w4, hw4⟩ : ∃ W, w3.alloc (.cells (cvals x).toArray 99) = W := ⟨_, rfl⟩
  rw [hw4]
  have b4 := boxO hw4
  have b5 := below_alloc w4 (.cells (cvals x).toArray 99)
  have hb := chainB b4.2.1 b5
  obtain ⟨v6, w6, h1, h2, h3, _⟩ := appC (l := l) (l2 := [x]) (ad := ⟨w4.heap.size, 0, none⟩) (c := 1) (owns_below hv hb) (by
    have : cc [x] = cvals x := by simp [cc]
    rw [this]
    exact one_atG) (Nat.le_trans hs hb.size) (by simp only [List.length_cons, List.length_nil]; omega)
  exact ⟨v6, w6, h1, h2, (Only.of hb).trans h3⟩
open Go.RowKit Go.Shelf Go.Sort
attribute [local go_sem ↓ high] loadEn storeEn loadCa storeCa buildCa builden
attribute [local go_sem high] eqMN

theorem ldE8 (w : World) (x : En × Nat) (t : TypeId) : (enLd (.pointer (some ⟨w.heap.size, 0, none⟩))).run Tryz.prog (w.alloc (.cells (cvals x).toArray t)) = .ok x.1.agg (w.alloc (.cells (cvals x).toArray t)) := enLd_at (cells7_c (heap_new _ _)).1
/-- what is told, one more; o: what lies ahead of it -/
theorem told_more {w3 : World} {B : Nat} {v : Value} {l : List En} (o : Obj) (x : En) (hv : Row7 w3 B v l) (hs : B ≤ w3.heap.size) (hl : l.length + 1 ≤ 1500000000000) : ∃ v6 w6, (∀ ty, (Builtin.append_ #[23, 23] ty #[v, .slice (some ⟨(w3.alloc o).heap.size, 0, none⟩) 1 1]).run Tryz.prog ((w3.alloc o).alloc (.cells x.vals.toArray 52)) = .ok v6 w6) ∧ Row7 w6 B v6 (l ++ [x]) ∧ Only (fun k => v.ownBlock = some k) w3 w6 := by
  obtain ⟨w4, hw4⟩ : ∃ W, w3.alloc o = W := ⟨_, rfl⟩
  rw [hw4]
  have b4 := boxO hw4
  have b5 := below_alloc w4 (.cells x.vals.toArray 52)
  have hb := chainB b4.2.1 b5
  obtain ⟨v6, w6, h1, h2, h3, _⟩ := appE (l := l) (l2 := [x]) (ad := ⟨w4.heap.size, 0, none⟩) (c := 1) (owns_below hv hb) (by
    have : ec [x] = x.vals := by simp [ec]
    rw [this]
    exact one_atG) (Nat.le_trans hs hb.size) (by simp only [List.length_cons, List.length_nil]; omega)
  exact ⟨v6, w6, h1, h2, (Only.of hb).trans h3⟩
set_option maxHeartbeats 8000000 in
theorem entries_p (p : Nat) (c : Pc) (s : Cs) (w : World) (h : IsC w p c) (hs : Says c s) (hl : s.L.length ≤ 1400000000000) : Calls Tryz.prog 36 #[.pointer (some ⟨p, 0, none⟩)] w fun x w' => ∃ v, x = .returned v ∧ Row7 w' w.heap.size v s.L ∧ Below w.heap.size w w' := by
  obtain ⟨c0, -, -, -⟩ := h.cells
  have bx := box8
  have ld := ld8
  have one := caOne_of
  obtain ⟨U, hU1, -, hU3, hU4⟩ := hs.rep
  have HI : Hid (IsC w p c ∧ MapV (Value.int .i64) mvM w (some c.g0) (om2 c.om) ∧ (cont c.om).length ≤ 1400000000000 ∧ (U.Pairwise fun a b => a.2 < b.2) ∧ U.Perm (cont c.om) ∧ U.map (·.1) = s.L) := ⟨h, h.outer, by rw [hs.rep.len]; exact hl, hU1, hU3, hU4⟩
  clear h hs hl hU1 hU3 hU4
  go_enter Tryz.func36, Tryz.ntmps36
  go_wp2_with (first
    | (at_range; refine wpList_rangeM _ rfl _ _ rfl _ _ undO (some c.g0) (om2 c.om) rfl HI.out.2.1 ?_; intro w0 hr0 hb0 hs0; have H0 : Hid (Rng (Value.int .i64) mvM w0 (some c.g0) w.heap.size (om2 c.om) ∧ Below w.heap.size w w0 ∧ w0.heap.size = w.heap.size + 1) := ⟨hr0, hb0, hs0⟩; clear hr0 hb0 hs0)
    | go_in)
  go_frame
  go_loopw [3, 5] (fun s3 _ wr => ∃ v, s3 = v ∧ Hid (∃ D R C, RgO wr p c w.heap.size D R ∧ Row8 wr w.heap.size v C ∧ C.Perm (cont D) ∧ Below w.heap.size w wr)) (fun _ _ wr => rngLeft wr w.heap.size)
  case atStart => exact ⟨_, rfl, [], c.om, [], ⟨H0.out.1, List.Perm.refl _⟩, World.ownsRow_nil _ _ _ _, List.Perm.refl _, H0.out.2.1⟩
  case round =>
    obtain ⟨v, rfl, hrel⟩ := hrel
    obtain ⟨D, R, C, hR, hv, hC, hb⟩ := hrel.out
    clear hrel
    have hrg := hR.rg
    go_wp2_with (first
      | (at_next; refine wpList_nextM _ rfl _ rfl (some c.g0) w.heap.size _ rfl hrg ?_ ?_)
      | go_in)
    · intro hl0
      have hR0 : R = [] := by
        unfold om2 at hl0
        exact List.map_eq_nil_iff.1 hl0
      have hall := hR.all
      rw [hR0, List.append_nil] at hall
      obtain ⟨x1, x2, x3, x4, x5, x6⟩ := HI.out
      have HS : Hid (Calls Tryz.prog 62 #[u3, .func (.func 63) #[] #[]] wr fun e w' => e = .returned (.tuple #[]) ∧ Row8 w' w.heap.size u3 U ∧ Only (fun k => u3.ownBlock = some k) wr w') := sortC_any u3 w.heap.size C U wr hv x4 ((x5.trans (cont_perm hall).symm).trans hC.symm) (by rw [hC.length_eq, (cont_perm hall).length_eq]; omega)
      have HB : Hid (∀ w', Only (fun k => u3.ownBlock = some k) wr w' → Below w.heap.size w w') := fun w' ho => ho.below hb hb.size fun k hk => (World.ownsRow.lt hv k hk).1
      obtain ⟨a, cap, hform⟩ := owns_len hv
      obtain ⟨n, hn⟩ : ∃ n, C.length = n := ⟨_, rfl⟩
      have hUn : U.length = n := by rw [← hn, hC.length_eq, (cont_perm hall).length_eq, x5.length_eq]
      have hn0 : n ≤ 1400000000000 := by rw [← hUn, x5.length_eq]; exact x3
      rw [hn] at hform
      subst hform
      have HL : Hid (U.length = n ∧ U.map (·.1) = s.L) := ⟨hUn, x6⟩
      clear hrg hR hv hC hb hl0 hR0 hall x1 x2 x3 x4 x5 x6 hn hUn HI H0
      go_wp2_with (go_at_call 62; refine HS.out.mono ?_; rintro e w8 ⟨rfl, hv8, ho8⟩; have H8 : Hid (Row8 w8 w.heap.size (.slice a n cap) U ∧ Below w.heap.size w w8) := ⟨hv8, HB.out _ ho8⟩; clear hv8 ho8)
      have lde := ldE8
      have onee := enOne_of
      go_loopw [8, 34, 10] (fun s8 s34 _ wt => ∃ vt, ∃ i : Nat, s8 = vt ∧ i ≤ n ∧ s34 = .int .i64 i ∧ Hid (Row7 wt w8.heap.size vt ((U.take i).map (·.1)) ∧ Below w8.heap.size w8 wt)) (fun _ s34 _ _ => n - (intOf s34).toNat)
      case atStart => exact ⟨_, 0, rfl, Nat.zero_le _, rfl, World.ownsRow_nil _ _ _ _, Below.refl _ _⟩
      case round =>
        obtain ⟨vt, i, rfl, hi, rfl, HR⟩ := hrel
        by_cases hlt : i < n
        · obtain ⟨x, hx⟩ : ∃ x, U[i]? = some x := ⟨_, List.getElem?_eq_getElem (by rw [HL.out.1]; exact hlt)⟩
          obtain ⟨hvt, hbt⟩ := HR.out
          obtain ⟨g8, hg8, hc7, hc8⟩ := Row8.cell (owns_below H8.out.1 hbt) hx
          subst hg8
          have hld := caLd_at hc7 hc8
          have hltz : (i : Int) < (n : Int) := by omega
          obtain ⟨v6, w6, hr6, hv6, ho6⟩ := told_more (.cells (cvals x).toArray 99) x.1 hvt hbt.size (by simp; omega)
          have H6 : Hid (Row7 w6 w8.heap.size v6 ((U.take (i + 1)).map (·.1)) ∧ Below w8.heap.size w8 w6) := by
            refine ⟨?_, ho6.below hbt hbt.size fun k hk => (World.ownsRow.lt hvt k hk).1⟩
            rw [List.take_add_one, hx, List.map_append]; exact hv6
          clear HR hvt hbt hc7 hc8 hx hv6 ho6
          go_wp2_with (at_builtin; refine wpList_apR rfl (.tmp 38) (.tmp 41) 23 rfl _ _ v6 w6 (by simp [Act.eval]) (by simp [Act.eval]) hr6 ?_)
          go_roundw
          case rel => exact ⟨_, i + 1, rfl, by omega, by simp, H6⟩
          case measure => simp [intOf]; omega
        · obtain rfl : i = n := by omega
          have hltz : ¬ (i : Int) < (i : Int) := by omega
          have HE : Hid (Row7 wr w.heap.size u8 s.L ∧ Below w.heap.size w wr) := by
            obtain ⟨h1, h2⟩ := HR.out
            rw [List.take_of_length_le (by rw [HL.out.1]; exact Nat.le_refl _), HL.out.2] at h1
            exact ⟨owns_le h1 H8.out.2.size, chainB H8.out.2 h2⟩
          clear HR
          go_wp2
          go_ret
          exact ⟨_, rfl, HE.out⟩
    · intro A d g B w1 hx hrg1 hO1 hs1 hen
      obtain ⟨A', y, B', hRe, hA, hB, hxy⟩ := om2_split hx
      obtain ⟨rfl, rfl⟩ : d = y.1 ∧ g = y.2.1 := ⟨congrArg Prod.fst hxy, congrArg Prod.snd hxy⟩
      rw [hRe] at hR
      have hy := RgO.mem hR.all
      have hb1 : Below w.heap.size w w1 := Only.below hb hO1 hb.size (fun k e => Nat.le_of_eq e.symm)
      have i1 := HI.out.1.below hb1
      have HY : Hid (MapV Value.string mvC w1 (some y.2.1) y.2.2) := i1.inner y hy
      have hv1 : Row8 w1 w.heap.size u3 C := owns_moved hv fun k hk => hO1.block _ (Row8.tag hv hk).lt (hrg.neTag (Row8.tag hv hk)).symm
      have HX : Hid (Rng (Value.int .i64) mvM w1 (some c.g0) w.heap.size (om2 (A' ++ B')) ∧ Below w.heap.size w w1 ∧ ((D ++ [y]) ++ (A' ++ B')).Perm c.om ∧ rngLeft wr w.heap.size = (om2 (A' ++ B')).length + 1 ∧ Row8 w1 w.heap.size u3 C ∧ y.2.1 < w.heap.size ∧ c.g0 < w.heap.size ∧ w.heap.size < w1.heap.size ∧ C.length + y.2.2.length ≤ 1400000000000 ∧ C.Perm (cont D)) := by
        refine ⟨by rw [om2_app, hA, hB]; exact hrg1, hb1, RgO.next hR.all, ?_, hv1, (HI.out.1.inner y hy).lt, HI.out.1.outer.lt, hrg1.lt, ?_, hC⟩
        · rw [hrg.left, hx, om2_app, hA, hB]
          simp
          omega
        · have h1 := (cont_perm (RgO.next hR.all)).length_eq
          rw [cont_app, cont_app, cont_cons] at h1
          simp only [List.length_append, List.length_map] at h1
          have h3 := HI.out.2.2.1
          have h4 := hC.length_eq
          omega
      unfold mvM at hen
      clear hrg hR hv hC hb hx hrg1 hO1 hs1 hRe hA hB hy hb1 i1 hv1
      unfold mvM
      obtain ⟨w7, hw7⟩ : ∃ w7, w7 = wr := ⟨_, rfl⟩
      subst hw7
      obtain ⟨v0, hv0⟩ : ∃ v0, v0 = u3 := ⟨_, rfl⟩
      subst hv0
      go_wp2_with (first
        | (at_range; refine wpList_rangeM _ rfl _ _ rfl _ _ undI (some y.2.1) y.2.2 rfl HY.out ?_; intro w2 hr2 hb2 hs2; have H2 : Hid (Rng Value.string mvC w2 (some y.2.1) w1.heap.size y.2.2 ∧ Below w1.heap.size w1 w2) := ⟨hr2, hb2⟩; clear hr2 hb2 hs2)
        | go_in)
      (try go_frame)
      go_loopw [3, 7] (fun s3 _ wi => ∃ vi, s3 = vi ∧ Hid (∃ E F, Rng Value.string mvC wi (some y.2.1) w1.heap.size F ∧ (E ++ F).Perm y.2.2 ∧ Row8 wi w.heap.size vi (C ++ E.map (·.2)) ∧ Below w.heap.size w wi ∧ Rng (Value.int .i64) mvM wi (some c.g0) w.heap.size (om2 (A' ++ B')))) (fun _ _ wi => rngLeft wi w1.heap.size)
      case atStart =>
        obtain ⟨x1, x2, x3, x4, x5, x6, x7, x8, x9, x10⟩ := HX.out
        refine ⟨_, rfl, [], y.2.2, H2.out.1, List.Perm.refl _, ?_, chainB x2 H2.out.2, x1.moved (H2.out.2.block _ x8) (fun g e => H2.out.2.block _ (by cases e; omega))⟩
        rw [List.map_nil, List.append_nil]
        exact owns_below x5 H2.out.2
      case round =>
        obtain ⟨vi, rfl, hrel⟩ := hrel
        obtain ⟨E, F, hF, hEF, hvi, hbi, hoi⟩ := hrel.out
        clear hrel
        go_wp2_with (first
          | (at_next; refine wpList_nextM _ rfl _ rfl (some y.2.1) w1.heap.size _ rfl hF ?_ ?_)
          | go_in)
        · intro hl0
          have HE : Hid (∃ D R C, RgO wr p c w.heap.size D R ∧ Row8 wr w.heap.size u3 C ∧ C.Perm (cont D) ∧ Below w.heap.size w wr) := by
            obtain ⟨x1, x2, x3, x4, x5, x6, x7, x8, x9, x10⟩ := HX.out
            refine ⟨D ++ [y], A' ++ B', _, ⟨hoi, x3⟩, hvi, ?_, hbi⟩
            rw [hl0, List.append_nil] at hEF
            rw [cont_app]
            refine x10.append ?_
            have : cont [y] = y.2.2.map (·.2) := by simp [cont]
            rw [this]
            exact hEF.map _
          have hme : rngLeft wr w.heap.size < rngLeft w7 w.heap.size := by
            obtain ⟨x1, x2, x3, x4, x5, x6, x7, x8, x9, x10⟩ := HX.out
            rw [hoi.left, x4]
            omega
          clear hF hEF hvi hbi hoi
          go_wp2
          go_roundw
          case rel => exact ⟨_, rfl, HE⟩
          case measure => exact hme
        · intro A2 nm e u B2 w3 hx hF3 hO3 hs3 hen3
          obtain ⟨x1, x2, x3, x4, x5, x6, x7, x8, x9, x10⟩ := HX.out
          have hsz := x2.size
          have hbi3 : Below w.heap.size w w3 := Only.below hbi hO3 hbi.size (fun k e => by omega)
          have hv3 : Row8 w3 w.heap.size u3 (C ++ E.map (·.2)) := owns_moved hvi fun k hk => hO3.block _ (Row8.tag hvi hk).lt (hF.neTag (Row8.tag hvi hk)).symm
          have ho3 : Rng (Value.int .i64) mvM w3 (some c.g0) w.heap.size (om2 (A' ++ B')) := hoi.moved (hO3.block _ hoi.lt (by omega)) (fun g eg => hO3.block _ (by have := hbi.size; cases eg; omega) (by cases eg; omega))
          have hle : (C ++ E.map (·.2)).length + 1 ≤ 1500000000000 := by
            have h1 := hEF.length_eq
            simp only [List.length_append, List.length_map] at h1 ⊢
            omega
          obtain ⟨v6, w6, hr6, hv6, ho6⟩ := coll_more (w := w) (e, u) hv3 hbi3.size hle
          have hne6 : ∀ k, u3.ownBlock = some k → w.heap.size ≤ k ∧ Tag w3 k 99 := fun k hk => ⟨(World.ownsRow.lt hv3 k hk).1, Row8.tag hv3 hk⟩
          have F6 : Rng Value.string mvC w6 (some y.2.1) w1.heap.size (A2 ++ B2) := hF3.moved (ho6.block _ hF3.lt fun hk => hF3.neTag (hne6 _ hk).2 rfl) (fun g eg => by
            cases eg
            exact ho6.block _ (by have := hbi3.size; omega) fun hk => by have := (hne6 _ hk).1; omega)
          have H6 : Hid (∃ E F, Rng Value.string mvC w6 (some y.2.1) w1.heap.size F ∧ (E ++ F).Perm y.2.2 ∧ Row8 w6 w.heap.size v6 (C ++ E.map (·.2)) ∧ Below w.heap.size w w6 ∧ Rng (Value.int .i64) mvM w6 (some c.g0) w.heap.size (om2 (A' ++ B'))) := by
            refine ⟨E ++ [(nm, e, u)], A2 ++ B2, F6, snoc_mid (by rw [← hx]; exact hEF), ?_, ho6.below hbi3 hbi3.size fun k hk => (hne6 k hk).1, ho3.moved (ho6.block _ ho3.lt fun hk => ho3.neTag (hne6 _ hk).2 rfl) (fun g eg => by
              cases eg
              exact ho6.block _ (by have := hbi3.size; omega) fun hk => by have := (hne6 _ hk).1; omega)⟩
            rw [List.map_append, ← List.append_assoc]; exact hv6
          have hme : rngLeft w6 w1.heap.size < rngLeft wr w1.heap.size := by
            rw [F6.left, hF.left, hx]
            simp
          clear hF hEF hvi hbi hoi hx hF3 hO3 hs3 x1 x2 x3 x4 x5 x6 x7 x8 x9 x10 hsz hbi3 hv3 ho3 hle hv6 ho6 hne6 F6
          go_wp2_with (at_builtin; refine wpList_apR rfl (.tmp 26) (.tmp 28) 108 rfl _ _ v6 w6 (by simp [Act.eval]) (by simp [Act.eval]) hr6 ?_)
          go_roundw
          case rel => exact ⟨_, rfl, H6⟩
          case measure => exact hme
end
end Go.Proofs.YtmndnjgbbpkidaaGreat
