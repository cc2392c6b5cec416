/- package slices at lists of entries, and of cached entries: what the library proves, laid at this program by number. -/
import Derived.Shelf.SlSortCmp.WholeK
import Derived.Shelf.SlSortCmp.NoneTotal
import Derived.Shelf.SlicesE.Clone
import Derived.Shelf.SlicesQ.IndexFunc
import Derived.Test.YtnmmieamcdffaaaProg
import Derived.Test.YtnmmieamcdffaaaJWEsh10
import Derived.Test.YtnmmieamcdffaaaJWEsh11
namespace Go.Proofs.Ytnmmieamcdffaaa
section
open Go.Shelf
def Try.sortE_ren : Go.Shelf.Ren := ⟨fun | 6 => 35 | 15 => 56 | 14 => 55 | 28 => 78 | 29 => 79 | 20 => 70 | 21 => 71 | 22 => 72 | 23 => 73 | 24 => 74 | 25 => 75 | 26 => 76 | 27 => 77 | 46 => 88 | 47 => 89 | 48 => 90 | 49 => 91 | 50 => 92 | 57 => 96 | n => n, fun | 22 => 48 | 24 => 42 | 25 => 92 | 3 => 3 | 39 => 118 | 0 => 0 | 53 => 135 | 55 => 137 | 4 => 4 | 46 => 128 | 45 => 127 | 50 => 132 | 5 => 5 | 9 => 9 | 66 => 145 | 70 => 149 | 76 => 154 | 77 => 155 | n => n, fun | n => n⟩
theorem Try.sortE : Go.Proofs.SlLaysF0.n6 Try.prog Try.sortE_ren := {
  mixed := by kernel_rfl
  f6 := ⟨Try.f35.name, by decide, Try.func35.trans (congrArg some (by kernel_rfl))⟩
  f14 := ⟨Try.f55.name, by decide, Try.func55.trans (congrArg some (by kernel_rfl))⟩
  f15 := Try.func56.trans (congrArg some (by kernel_rfl))
  f20 := ⟨Try.f70.name, by decide, Try.func70.trans (congrArg some (by kernel_rfl))⟩
  f21 := ⟨Try.f71.name, by decide, Try.func71.trans (congrArg some (by kernel_rfl))⟩
  f22 := ⟨Try.f72.name, by decide, Try.func72.trans (congrArg some (by kernel_rfl))⟩
  f23 := ⟨Try.f73.name, by decide, Try.func73.trans (congrArg some (by kernel_rfl))⟩
  f24 := ⟨Try.f74.name, by decide, Try.func74.trans (congrArg some (by kernel_rfl))⟩
  f25 := ⟨Try.f75.name, by decide, Try.func75.trans (congrArg some (by kernel_rfl))⟩
  f26 := ⟨Try.f76.name, by decide, Try.func76.trans (congrArg some (by kernel_rfl))⟩
  f27 := ⟨Try.f77.name, by decide, Try.func77.trans (congrArg some (by kernel_rfl))⟩
  f28 := Try.func78.trans (congrArg some (by kernel_rfl))
  f29 := Try.func79.trans (congrArg some (by kernel_rfl))
  f46 := ⟨Try.f88.name, by decide, Try.func88.trans (congrArg some (by kernel_rfl))⟩
  f47 := Try.func89.trans (congrArg some (by kernel_rfl))
  f48 := Try.func90.trans (congrArg some (by kernel_rfl))
  f49 := ⟨Try.f91.name, by decide, Try.func91.trans (congrArg some (by kernel_rfl))⟩
  f50 := ⟨Try.f92.name, by decide, Try.func92.trans (congrArg some (by kernel_rfl))⟩
  f57 := ⟨Try.f96.name, by decide, Try.func96.trans (congrArg some (by kernel_rfl))⟩
  t0 := Try.underlying0
  a0 := Try.isAgg0
  z0 := Try.sizeOf0
  v0 := Try.zeroValue0
  t3 := Try.underlying3
  a3 := Try.isAgg3
  z3 := Try.sizeOf3
  v3 := Try.zeroValue3
  t4 := Try.underlying4
  a4 := Try.isAgg4
  z4 := Try.sizeOf4
  v4 := Try.zeroValue4
  t5 := Try.underlying5
  a5 := Try.isAgg5
  z5 := Try.sizeOf5
  v5 := Try.zeroValue5
  t9 := Try.underlying9
  a9 := Try.isAgg9
  z9 := Try.sizeOf9
  v9 := Try.zeroValue9
  t22 := Try.underlying48
  a22 := Try.isAgg48
  z22 := Try.sizeOf48
  v22 := Try.zeroValue48
  t25 := Try.underlying92
  a25 := Try.isAgg92
  z25 := Try.sizeOf92
  v25 := Try.zeroValue92
  t39 := Try.underlying118
  a39 := Try.isAgg118
  z39 := Try.sizeOf118
  v39 := Try.zeroValue118
  t45 := Try.underlying127
  a45 := Try.isAgg127
  z45 := Try.sizeOf127
  v45 := Try.zeroValue127
  t46 := Try.underlying128
  a46 := Try.isAgg128
  z46 := Try.sizeOf128
  v46 := Try.zeroValue128
  t50 := Try.underlying132
  a50 := Try.isAgg132
  z50 := Try.sizeOf132
  v50 := Try.zeroValue132
  t53 := Try.underlying135
  a53 := Try.isAgg135
  z53 := Try.sizeOf135
  v53 := Try.zeroValue135
  t55 := Try.underlying137
  a55 := Try.isAgg137
  z55 := Try.sizeOf137
  v55 := Try.zeroValue137
  t66 := Try.underlying145
  a66 := Try.isAgg145
  z66 := Try.sizeOf145
  v66 := Try.zeroValue145
  t70 := Try.underlying149
  a70 := Try.isAgg149
  z70 := Try.sizeOf149
  v70 := Try.zeroValue149
  t76 := Try.underlying154
  a76 := Try.isAgg154
  z76 := Try.sizeOf154
  v76 := Try.zeroValue154
  t77 := Try.underlying155
  a77 := Try.isAgg155
  z77 := Try.sizeOf155
  v77 := Try.zeroValue155 }
def Try.cloneE_ren : Go.Shelf.Ren := ⟨fun | 41 => 43 | n => n, fun | 22 => 48 | 23 => 42 | 4 => 4 | n => n, fun | n => n⟩
theorem Try.cloneE : Go.Proofs.SlLaysE0.n41 Try.prog Try.cloneE_ren := {
  mixed := by kernel_rfl
  f41 := ⟨Try.f43.name, by decide, Try.func43.trans (congrArg some (by kernel_rfl))⟩
  t4 := Try.underlying4
  a4 := Try.isAgg4
  z4 := Try.sizeOf4
  v4 := Try.zeroValue4
  t22 := Try.underlying48
  a22 := Try.isAgg48
  z22 := Try.sizeOf48
  v22 := Try.zeroValue48 }
def Try.indexE_ren : Go.Shelf.Ren := ⟨fun | 6 => 85 | n => n, fun | 22 => 48 | 23 => 42 | 25 => 121 | 3 => 3 | 0 => 0 | 4 => 4 | n => n, fun | n => n⟩
theorem Try.indexE : Go.Proofs.SlLaysH0.n6 Try.prog Try.indexE_ren := {
  mixed := by kernel_rfl
  f6 := ⟨Try.f85.name, by decide, Try.func85.trans (congrArg some (by kernel_rfl))⟩
  t0 := Try.underlying0
  a0 := Try.isAgg0
  z0 := Try.sizeOf0
  v0 := Try.zeroValue0
  t3 := Try.underlying3
  a3 := Try.isAgg3
  z3 := Try.sizeOf3
  v3 := Try.zeroValue3
  t4 := Try.underlying4
  a4 := Try.isAgg4
  z4 := Try.sizeOf4
  v4 := Try.zeroValue4
  t22 := Try.underlying48
  a22 := Try.isAgg48
  z22 := Try.sizeOf48
  v22 := Try.zeroValue48
  t25 := Try.underlying121
  a25 := Try.isAgg121
  z25 := Try.sizeOf121
  v25 := Try.zeroValue121 }
end
section
open Go.RowKit Go.Shelf Go.Sort

def risV (e f : En) : Int := if cmpI e.d f.d ≠ 0 then cmpI e.d f.d else cmpS e.nm f.nm

theorem or_p (g : Nat) (x y : Int) (w : World) (h0 : w.cell? ⟨g, 0, none⟩ = some (.int .i64 x)) (h1 : w.cell? ⟨g, 1, none⟩ = some (.int .i64 y)) : Calls Try.prog 86 #[.slice (some ⟨g, 0, none⟩) 2 2] w fun e w' => e = .returned (.int .i64 (if x ≠ 0 then x else y)) ∧ w' = w := by
  obtain ⟨R, hR⟩ : ∃ R, (if x ≠ 0 then x else y) = R := ⟨_, rfl⟩
  rw [hR]
  have HR : Hid ((if x ≠ 0 then x else y) = R) := hR
  clear hR
  go_enter Try.func86, Try.ntmps86
  go_wp2
  go_loopw [8] (fun i wr => ∃ k : Nat, k ≤ 2 ∧ i = .int .i64 k ∧ (0 < k → x = 0) ∧ (1 < k → y = 0) ∧ wr = w) (fun i _ => 2 - (intOf i).toNat)
  case atStart => exact ⟨0, Nat.zero_le _, rfl, fun h => absurd h (by omega), fun h => absurd h (by omega), rfl⟩
  case round =>
    obtain ⟨k, hk, rfl, hx, hy, rfl⟩ := hrel
    match k, hk with
    | 0, _ =>
      by_cases hz : x = 0
      · subst hz
        go_wp2
        exact ⟨⟨1, by omega, by simp, by simp, by simp, by simp⟩, by simp [intOf]⟩
      · have hzb : (x != 0) = true := by simpa using hz
        have HQ : Hid (R = x) := by show _ = _; rw [← HR.out, if_pos hz]
        clear hx hy hz
        go_wp2
        go_ret
        exact ⟨by rw [HQ.out]; rfl, rfl⟩
    | 1, _ =>
      by_cases hz : y = 0
      · subst hz
        have hx0 := hx (by omega)
        clear hx hy
        go_wp2
        exact ⟨⟨2, by omega, by simp, by simp [hx0], by simp, by simp⟩, by simp [intOf]⟩
      · have hzb : (y != 0) = true := by simpa using hz
        have HQ : Hid (R = y) := by show _ = _; rw [← HR.out, hx (by omega)]; simp
        clear hx hy hz
        go_wp2
        go_ret
        exact ⟨by rw [HQ.out]; rfl, rfl⟩
    | 2, _ =>
      have HQ : Hid (R = 0) := by show _ = _; rw [← HR.out, hx (by omega), hy (by omega)]; simp
      clear hx hy
      go_wp2
      go_ret
      exact ⟨by rw [HQ.out]; rfl, rfl⟩

theorem cellD {W : World} {p : Addr} {v : Value} (h : W.cell? p = some v) (o : Obj) : (W.alloc o).drew.cell? p = some v := Lib.cell?_alloc_some _ h
set_option maxHeartbeats 4000000 in
theorem rising_p (e f : En) (w : World) : Calls Try.prog 68 #[e.agg, f.agg] w fun x w' => x = .returned (.int .i64 (risV e f)) ∧ ∃ q os', w' = grow (w.drewN q) os' := by
  have hI := cmpI_p e.d f.d
  have hS := cmpS_p e.nm f.nm
  obtain ⟨I, hI'⟩ : ∃ I, cmpI e.d f.d = I := ⟨_, rfl⟩
  obtain ⟨S, hS'⟩ : ∃ S, cmpS e.nm f.nm = S := ⟨_, rfl⟩
  obtain ⟨R, hR⟩ : ∃ R, risV e f = R := ⟨_, rfl⟩
  have HR : Hid ((if I ≠ 0 then I else S) = R) := by show _ = _; rw [← hR]; unfold risV; rw [hI', hS']
  have HO : Hid (∀ g w, w.cell? ⟨g, 0, none⟩ = some (.int .i64 I) → w.cell? ⟨g, 1, none⟩ = some (.int .i64 S) → Calls Try.prog 86 #[.slice (some ⟨g, 0, none⟩) 2 2] w fun e w' => e = .returned (.int .i64 R) ∧ w' = w) := by
    intro g w h0 h1
    rw [← HR.out]; exact or_p g I S w h0 h1
  rw [hR]
  rw [hI'] at hI
  rw [hS'] at hS
  have HI : Hid (∀ w, Calls Try.prog 87 #[.int .i64 e.d, .int .i64 f.d] w fun x w' => x = .returned (.int .i64 I) ∧ w' = w) := hI
  have HS : Hid (∀ w, Calls Try.prog 37 #[.string e.nm, .string f.nm] w fun x w' => x = .returned (.int .i64 S) ∧ w' = w) := hS
  clear hI hS hI' hS' hR
  unfold En.agg
  go_enter Try.func68, Try.ntmps68
  go_upto_region 1 with fail
  obtain ⟨W, hW⟩ : ∃ W, (w.alloc (.cells e.vals.toArray 42)).alloc (.cells f.vals.toArray 42) = W := ⟨_, rfl⟩
  unfold En.vals at hW
  rw [hW]
  obtain ⟨m0, m1, hbW, hzW⟩ := boxes2 hW
  have a0 := cell_of m0 0
  have a1 := cell_of m0 1
  have b0 := cell_of m1 0
  have b1 := cell_of m1 1
  simp at a0 a1 b0 b1
  have HG : Hid (∃ os, W = grow w os) := ⟨_, hW.symm.trans (grow2 _ _ _)⟩
  clear hW m0 m1 hzW
  go_region_held3 (fun w' => w'.cell? ⟨w.heap.size, 0, none⟩ = some (.int .i64 e.d) ∧ w'.cell? ⟨w.heap.size, 1, none⟩ = some (.string e.nm) ∧ w'.cell? ⟨w.heap.size + 1, 0, none⟩ = some (.int .i64 f.d) ∧ w'.cell? ⟨w.heap.size + 1, 1, none⟩ = some (.string f.nm))
    (first | exact ⟨a0, a1, b0, b1⟩ | assumption | exact ⟨cellD a0 _, cellD a1 _, cellD b0 _, cellD b1 _⟩)
    (first
      | (go_at_call 87; refine (HI.out _).mono ?_; rintro x w1 ⟨rfl, rfl⟩)
      | (go_at_call 37; refine (HS.out _).mono ?_; rintro x w1 ⟨rfl, rfl⟩)
      | (go_at_call 86; refine (HO.out _ _ (by simp) (by simp)).mono ?_; rintro x w1 ⟨rfl, rfl⟩))
  go_wp2
  go_ret
  obtain ⟨os, hos⟩ := HG.out
  exact ⟨rfl, 1, os ++ #[.cells #[.int .i64 I, .int .i64 S] 3], by rw [hos, alloc_eq_grow, grow_grow]; rfl⟩

theorem ris_lt (e f : En) : ltOf risV e f = lessK e.d e.nm f.d f.nm := by
  unfold ltOf risV lessK
  by_cases h : e.d = f.d
  · have h0 : cmpI e.d f.d = 0 := (cmpI_zero _ _).2 h
    rw [h0]
    simp only [ne_eq, not_true_eq_false, if_false]
    rw [cmpS_neg]
    simp [h]
  · have h0 : cmpI e.d f.d ≠ 0 := fun k => h ((cmpI_zero _ _).1 k)
    rw [if_pos h0]
    simp [h, cmpI_neg]
theorem ris_swo : SWO (ltOf risV) where
  irrefl x := by
    rw [ris_lt]
    cases h : lessK x.d x.nm x.d x.nm with
    | false => rfl
    | true => exact absurd h (lessE_irrefl x)
  trans x y z h1 h2 := by
    rw [ris_lt] at *
    exact lessE_trans (e := x) (f := y) (g := z) h1 h2
  ntrans x y z h1 h2 := by
    rw [ris_lt] at *
    have g1 : ¬ lessE x y := fun h => by unfold lessE at h; rw [h1] at h; cases h
    have g2 : ¬ lessE y z := fun h => by unfold lessE at h; rw [h2] at h; cases h
    cases h : lessK x.d x.nm z.d z.nm with
    | false => rfl
    | true =>
      have hxz : lessE x z := h
      rcases lessE_total x y with k | ⟨k1, k2⟩ | k
      · exact absurd k g1
      · exfalso; apply g2
        unfold lessE at hxz ⊢
        rw [← k1, ← k2]; exact hxz
      · exact absurd (lessE_trans k hxz) g2

theorem flat_ec [Inhabited En] (es : List En) : flatK En.vals 7 es.toArray = (ec es).toArray := by
  apply Array.ext_getElem?
  intro t
  unfold flatK
  by_cases ht : t < es.length * 7
  · obtain ⟨e, he⟩ : ∃ e, es[t / 7]? = some e := ⟨_, List.getElem?_eq_getElem (by omega)⟩
    have hg := ec_get es (t / 7) (t % 7) e he (by omega)
    rw [show t / 7 * 7 + t % 7 = t by omega] at hg
    have hl : t % 7 < e.vals.length := by show t % 7 < 7; omega
    have e1 : es.toArray[t / 7]! = e := by simp [he]
    simp only [Array.getElem?_map, List.getElem?_toArray, hg]
    rw [Array.getElem?_eq_getElem (by simpa using ht)]
    simp only [Option.map_some, Array.getElem_range, e1]
    rw [List.getElem?_eq_getElem hl, List.getElem!_eq_getElem?_getD, List.getElem?_eq_getElem hl]; rfl
  · rw [Array.getElem?_eq_none (by simpa using Nat.le_of_not_lt ht), List.getElem?_toArray, List.getElem?_eq_none (by rw [ec_len]; omega)]
/-- a permutation of the whole -/
theorem perm_all [Inhabited En] {es : List En} {d' : Array En} (h : PermIn 0 es.toArray.size es.toArray d') : d'.toList.Perm es := by
  obtain ⟨h1, _, h3⟩ := h
  rw [← h1] at h3
  have e1 : (d'.extract 0 d'.size).toList = d'.toList := by simp
  rw [e1, h1] at h3
  simpa using h3
theorem sorted_all [Inhabited En] {es : List En} {d' : Array En} (hz : d'.size = es.toArray.size) (h : SortedIn (ltOf risV) 0 es.toArray.size d') (ha : Apart d'.toList) : Rises d'.toList := by
  unfold Rises
  rw [List.pairwise_iff_getElem]
  intro i j hi hj hij
  have := h i j (Nat.zero_le _) hij (by rw [← hz]; simpa using hj)
  rw [ris_lt] at this
  have hi' : i < d'.size := by simpa using hi
  have hj' : j < d'.size := by simpa using hj
  rw [getElem!_pos d' i hi', getElem!_pos d' j hj'] at this
  unfold Apart at ha
  rw [List.pairwise_iff_getElem] at ha
  have hne := ha i j hi hj hij
  simp only [Array.getElem_toList] at hne ⊢
  rcases lessE_total d'[i] d'[j] with k | k | k
  · exact k
  · exact absurd k hne
  · unfold lessE at k; rw [this] at k; cases k
/-- slices.SortFunc by rising, over a list of entries of the call's own -/
theorem sort_p (g n cap base : Nat) (es : List En) (w : World) (h : w.ownsRow base 42 7 (.slice (some ⟨g, 0, none⟩) n cap) n (ec es)) (hn : es.length = n) (hs : n ≤ 1000000) :
    Calls Try.prog 35 #[.slice (some ⟨g, 0, none⟩) n cap, .func (.func 68) #[] #[]] w fun e w' => e = .returned (.tuple #[]) ∧ ∃ es' : List En, es'.Perm es ∧ (Apart es → Rises es') ∧ w'.ownsRow base 42 7 (.slice (some ⟨g, 0, none⟩) n cap) n (ec es') ∧ Only (· = g) w w' := by
  subst hn
  have iE : Inhabited En := ⟨zeroEn⟩
  have eg : ∀ args w, (callFunc 68 args).run Try.prog w = .ok (.enter 68 args) w := enters_of Try.func68 (by kernel_rfl) rfl
  obtain ⟨hc, hf, hcap, hmx, hb, hg⟩ := owns_cells h
  have hH : HoldsK En.vals 7 w g 0 es.toArray := by
    unfold HoldsK
    rw [flat_ec]
    intro j hj
    rw [Nat.zero_add]
    refine ⟨?_, hf j⟩
    have hj' : j < (ec es).length := by simpa using hj
    rw [hc j _ (List.getElem?_eq_getElem hj'), getElem!_pos _ j hj]; rfl
  have hcon := AnyQ.slices_SortFunc Try.sortE 7 Try.isAgg42 Try.sizeOf42 En.vals (fun _ => rfl) (fun x => vals_one x) risV ris_swo 68 #[] g 0 cap es.toArray w eg (fun _ _ _ _ x y => rising_p x y _) hH hg (by simp; omega)
  change Calls Try.prog 35 _ _ _ at hcon
  rw [List.size_toArray] at hcon
  refine hcon.mono ?_
  rintro e w' ⟨rfl, d', q, os, hp, hso, rfl⟩
  have hP : d'.toList.Perm es := perm_all (by simpa using hp)
  refine ⟨rfl, d'.toList, hP, fun ha => sorted_all (by simpa using hp.1) (by simpa using hso) (ha.perm hP.symm), ?_, ?_⟩
  · have hlen : d'.toList.length = es.length := hP.length_eq
    have hfl : flatK En.vals 7 d' = (ec d'.toList).toArray := by have := flat_ec d'.toList; simpa using this
    rcases h.2 with ⟨e1, _⟩ | ⟨g', cap', cur, e1, hg', hh, r1, r2, r3, r4⟩
    · cases e1
    · cases e1
      refine ⟨by rw [ec_len, hlen], .inr ⟨g, cap, putCells id 0 (flatK En.vals 7 d') cur, rfl, hg', ?_, r1, r2, ?_, ?_⟩⟩
      · unfold sortWorldK
        rw [heap_grow_old _ _ (by simpa [putRowK, putRow, mapBlock, Sort.ahead] using hg)]
        simp [putRowK, putRow, mapBlock, Sort.ahead, Array.getElem?_modify, hh, onCells]
      · simp [putCells, r3]
      · rw [hfl]
        have : (ec d'.toList).length = es.length * 7 := by rw [ec_len, hlen]
        rw [← this]
        exact take_put cur _ (by rw [this, r3]; exact Nat.mul_le_mul_right 7 r1)
  · refine ⟨rfl, rfl, rfl, ?_, fun k hk hne => ?_⟩
    · unfold sortWorldK; simp [putRowK, putRow, mapBlock, Sort.ahead]
    · unfold sortWorldK
      rw [heap_grow_old _ _ (by simpa [putRowK, putRow, mapBlock, Sort.ahead] using hk)]
      have : g ≠ k := fun e => hne e.symm
      simp [putRowK, putRow, mapBlock, Sort.ahead, Array.getElem?_modify, this]
end
end Go.Proofs.Ytnmmieamcdffaaa
