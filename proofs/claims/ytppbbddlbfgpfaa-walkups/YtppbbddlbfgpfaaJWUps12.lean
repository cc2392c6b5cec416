/- package slices at lists of entries, and of cached entries: what the library proves, laid at this program by number. -/
import Derived.Shelf.SlSortCmp.WholeK
import Derived.Shelf.SlSortCmp.NoneTotal
import Derived.Shelf.SlicesE.Clone
import Derived.Shelf.SlicesQ.IndexFunc
import Derived.Test.YtppbbddlbfgpfaaProg
import Derived.Test.YtppbbddlbfgpfaaJWUps10
import Derived.Test.YtppbbddlbfgpfaaJWUps11
namespace Go.Proofs.Ytppbbddlbfgpfaa
section
open Go.Shelf
def Try.sortE_ren : Go.Shelf.Ren := ⟨fun | 6 => 32 | 15 => 54 | 14 => 53 | 28 => 76 | 29 => 77 | 20 => 68 | 21 => 69 | 22 => 70 | 23 => 71 | 24 => 72 | 25 => 73 | 26 => 74 | 27 => 75 | 46 => 86 | 47 => 87 | 48 => 88 | 49 => 89 | 50 => 90 | 57 => 94 | n => n, fun | 22 => 48 | 24 => 42 | 25 => 89 | 3 => 3 | 39 => 116 | 0 => 0 | 53 => 133 | 55 => 135 | 4 => 4 | 46 => 126 | 45 => 125 | 50 => 130 | 5 => 5 | 9 => 9 | 66 => 143 | 70 => 147 | 76 => 152 | 77 => 153 | n => n, fun | n => n⟩
theorem Try.sortE : Go.Proofs.SlLaysF0.n6 Try.prog Try.sortE_ren := {
  mixed := by kernel_rfl
  f6 := ⟨Try.f32.name, by decide, Try.func32.trans (congrArg some (by kernel_rfl))⟩
  f14 := ⟨Try.f53.name, by decide, Try.func53.trans (congrArg some (by kernel_rfl))⟩
  f15 := Try.func54.trans (congrArg some (by kernel_rfl))
  f20 := ⟨Try.f68.name, by decide, Try.func68.trans (congrArg some (by kernel_rfl))⟩
  f21 := ⟨Try.f69.name, by decide, Try.func69.trans (congrArg some (by kernel_rfl))⟩
  f22 := ⟨Try.f70.name, by decide, Try.func70.trans (congrArg some (by kernel_rfl))⟩
  f23 := ⟨Try.f71.name, by decide, Try.func71.trans (congrArg some (by kernel_rfl))⟩
  f24 := ⟨Try.f72.name, by decide, Try.func72.trans (congrArg some (by kernel_rfl))⟩
  f25 := ⟨Try.f73.name, by decide, Try.func73.trans (congrArg some (by kernel_rfl))⟩
  f26 := ⟨Try.f74.name, by decide, Try.func74.trans (congrArg some (by kernel_rfl))⟩
  f27 := ⟨Try.f75.name, by decide, Try.func75.trans (congrArg some (by kernel_rfl))⟩
  f28 := Try.func76.trans (congrArg some (by kernel_rfl))
  f29 := Try.func77.trans (congrArg some (by kernel_rfl))
  f46 := ⟨Try.f86.name, by decide, Try.func86.trans (congrArg some (by kernel_rfl))⟩
  f47 := Try.func87.trans (congrArg some (by kernel_rfl))
  f48 := Try.func88.trans (congrArg some (by kernel_rfl))
  f49 := ⟨Try.f89.name, by decide, Try.func89.trans (congrArg some (by kernel_rfl))⟩
  f50 := ⟨Try.f90.name, by decide, Try.func90.trans (congrArg some (by kernel_rfl))⟩
  f57 := ⟨Try.f94.name, by decide, Try.func94.trans (congrArg some (by kernel_rfl))⟩
  t0 := Try.underlying0
  a0 := Try.isAgg0
  z0 := Try.sizeOf0
  v0 := Try.zeroValue0
  t3 := Try.underlying3
  a3 := Try.isAgg3
  z3 := Try.sizeOf3
  v3 := Try.zeroValue3
  t4 := Try.underlying4
  a4 := Try.isAgg4
  z4 := Try.sizeOf4
  v4 := Try.zeroValue4
  t5 := Try.underlying5
  a5 := Try.isAgg5
  z5 := Try.sizeOf5
  v5 := Try.zeroValue5
  t9 := Try.underlying9
  a9 := Try.isAgg9
  z9 := Try.sizeOf9
  v9 := Try.zeroValue9
  t22 := Try.underlying48
  a22 := Try.isAgg48
  z22 := Try.sizeOf48
  v22 := Try.zeroValue48
  t25 := Try.underlying89
  a25 := Try.isAgg89
  z25 := Try.sizeOf89
  v25 := Try.zeroValue89
  t39 := Try.underlying116
  a39 := Try.isAgg116
  z39 := Try.sizeOf116
  v39 := Try.zeroValue116
  t45 := Try.underlying125
  a45 := Try.isAgg125
  z45 := Try.sizeOf125
  v45 := Try.zeroValue125
  t46 := Try.underlying126
  a46 := Try.isAgg126
  z46 := Try.sizeOf126
  v46 := Try.zeroValue126
  t50 := Try.underlying130
  a50 := Try.isAgg130
  z50 := Try.sizeOf130
  v50 := Try.zeroValue130
  t53 := Try.underlying133
  a53 := Try.isAgg133
  z53 := Try.sizeOf133
  v53 := Try.zeroValue133
  t55 := Try.underlying135
  a55 := Try.isAgg135
  z55 := Try.sizeOf135
  v55 := Try.zeroValue135
  t66 := Try.underlying143
  a66 := Try.isAgg143
  z66 := Try.sizeOf143
  v66 := Try.zeroValue143
  t70 := Try.underlying147
  a70 := Try.isAgg147
  z70 := Try.sizeOf147
  v70 := Try.zeroValue147
  t76 := Try.underlying152
  a76 := Try.isAgg152
  z76 := Try.sizeOf152
  v76 := Try.zeroValue152
  t77 := Try.underlying153
  a77 := Try.isAgg153
  z77 := Try.sizeOf153
  v77 := Try.zeroValue153 }
def Try.cloneE_ren : Go.Shelf.Ren := ⟨fun | 41 => 38 | n => n, fun | 22 => 48 | 23 => 42 | 4 => 4 | n => n, fun | n => n⟩
theorem Try.cloneE : Go.Proofs.SlLaysE0.n41 Try.prog Try.cloneE_ren := {
  mixed := by kernel_rfl
  f41 := ⟨Try.f38.name, by decide, Try.func38.trans (congrArg some (by kernel_rfl))⟩
  t4 := Try.underlying4
  a4 := Try.isAgg4
  z4 := Try.sizeOf4
  v4 := Try.zeroValue4
  t22 := Try.underlying48
  a22 := Try.isAgg48
  z22 := Try.sizeOf48
  v22 := Try.zeroValue48 }
def Try.indexE_ren : Go.Shelf.Ren := ⟨fun | 6 => 83 | n => n, fun | 22 => 48 | 23 => 42 | 25 => 119 | 3 => 3 | 0 => 0 | 4 => 4 | n => n, fun | n => n⟩
theorem Try.indexE : Go.Proofs.SlLaysH0.n6 Try.prog Try.indexE_ren := {
  mixed := by kernel_rfl
  f6 := ⟨Try.f83.name, by decide, Try.func83.trans (congrArg some (by kernel_rfl))⟩
  t0 := Try.underlying0
  a0 := Try.isAgg0
  z0 := Try.sizeOf0
  v0 := Try.zeroValue0
  t3 := Try.underlying3
  a3 := Try.isAgg3
  z3 := Try.sizeOf3
  v3 := Try.zeroValue3
  t4 := Try.underlying4
  a4 := Try.isAgg4
  z4 := Try.sizeOf4
  v4 := Try.zeroValue4
  t22 := Try.underlying48
  a22 := Try.isAgg48
  z22 := Try.sizeOf48
  v22 := Try.zeroValue48
  t25 := Try.underlying119
  a25 := Try.isAgg119
  z25 := Try.sizeOf119
  v25 := Try.zeroValue119 }
end
section
open Go.RowKit Go.Shelf Go.Sort

def risV (e f : En) : Int := if cmpI e.d f.d ≠ 0 then cmpI e.d f.d else cmpS e.nm f.nm

theorem or_p (g : Nat) (x y : Int) (w : World) (h0 : w.cell? ⟨g, 0, none⟩ = some (.int .i64 x)) (h1 : w.cell? ⟨g, 1, none⟩ = some (.int .i64 y)) : Calls Try.prog 84 #[.slice (some ⟨g, 0, none⟩) 2 2] w fun e w' => e = .returned (.int .i64 (if x ≠ 0 then x else y)) ∧ w' = w := by
  obtain ⟨R, hR⟩ : ∃ R, (if x ≠ 0 then x else y) = R := ⟨_, rfl⟩
  rw [hR]
  have HR : Hid ((if x ≠ 0 then x else y) = R) := hR
  clear hR
  go_enter Try.func84, Try.ntmps84
  go_wp2
  go_loopw [8] (fun i wr => ∃ k : Nat, k ≤ 2 ∧ i = .int .i64 k ∧ (0 < k → x = 0) ∧ (1 < k → y = 0) ∧ wr = w) (fun i _ => 2 - (intOf i).toNat)
  case atStart => exact ⟨0, Nat.zero_le _, rfl, fun h => absurd h (by omega), fun h => absurd h (by omega), rfl⟩
  case round =>
    obtain ⟨k, hk, rfl, hx, hy, rfl⟩ := hrel
    match k, hk with
    | 0, _ =>
      by_cases hz : x = 0
      · subst hz
        go_wp2
        exact ⟨⟨1, by omega, by simp, by simp, by simp, by simp⟩, by simp [intOf]⟩
      · have hzb : (x != 0) = true := by simpa using hz
        have HQ : Hid (R = x) := by show _ = _; rw [← HR.out, if_pos hz]
        clear hx hy hz
        go_wp2
        go_ret
        exact ⟨by rw [HQ.out]; rfl, rfl⟩
    | 1, _ =>
      by_cases hz : y = 0
      · subst hz
        have hx0 := hx (by omega)
        clear hx hy
        go_wp2
        exact ⟨⟨2, by omega, by simp, by simp [hx0], by simp, by simp⟩, by simp [intOf]⟩
      · have hzb : (y != 0) = true := by simpa using hz
        have HQ : Hid (R = y) := by show _ = _; rw [← HR.out, hx (by omega)]; simp
        clear hx hy hz
        go_wp2
        go_ret
        exact ⟨by rw [HQ.out]; rfl, rfl⟩
    | 2, _ =>
      have HQ : Hid (R = 0) := by show _ = _; rw [← HR.out, hx (by omega), hy (by omega)]; simp
      clear hx hy
      go_wp2
      go_ret
      exact ⟨by rw [HQ.out]; rfl, rfl⟩

theorem cellD {W : World} {p : Addr} {v : Value} (h : W.cell? p = some v) (o : Obj) : (W.alloc o).drew.cell? p = some v := Lib.cell?_alloc_some _ h
set_option maxHeartbeats 4000000 in
theorem rising_p (e f : En) (w : World) : Calls Try.prog 66 #[e.agg, f.agg] w fun x w' => x = .returned (.int .i64 (risV e f)) ∧ ∃ q os', w' = grow (w.drewN q) os' := by
  have hI := cmpI_p e.d f.d
  have hS := cmpS_p e.nm f.nm
  obtain ⟨I, hI'⟩ : ∃ I, cmpI e.d f.d = I := ⟨_, rfl⟩
  obtain ⟨S, hS'⟩ : ∃ S, cmpS e.nm f.nm = S := ⟨_, rfl⟩
  obtain ⟨R, hR⟩ : ∃ R, risV e f = R := ⟨_, rfl⟩
  have HR : Hid ((if I ≠ 0 then I else S) = R) := by show _ = _; rw [← hR]; unfold risV; rw [hI', hS']
  have HO : Hid (∀ g w, w.cell? ⟨g, 0, none⟩ = some (.int .i64 I) → w.cell? ⟨g, 1, none⟩ = some (.int .i64 S) → Calls Try.prog 84 #[.slice (some ⟨g, 0, none⟩) 2 2] w fun e w' => e = .returned (.int .i64 R) ∧ w' = w) := by
    intro g w h0 h1
    rw [← HR.out]; exact or_p g I S w h0 h1
  rw [hR]
  rw [hI'] at hI
  rw [hS'] at hS
  have HI : Hid (∀ w, Calls Try.prog 85 #[.int .i64 e.d, .int .i64 f.d] w fun x w' => x = .returned (.int .i64 I) ∧ w' = w) := hI
  have HS : Hid (∀ w, Calls Try.prog 34 #[.string e.nm, .string f.nm] w fun x w' => x = .returned (.int .i64 S) ∧ w' = w) := hS
  clear hI hS hI' hS' hR
  unfold En.agg
  go_enter Try.func66, Try.ntmps66
  go_upto_region 1 with fail
  obtain ⟨W, hW⟩ : ∃ W, (w.alloc (.cells e.vals.toArray 42)).alloc (.cells f.vals.toArray 42) = W := ⟨_, rfl⟩
  unfold En.vals at hW
  rw [hW]
  obtain ⟨m0, m1, hbW, hzW⟩ := boxes2 hW
  have a0 := cell_of m0 0
  have a1 := cell_of m0 1
  have b0 := cell_of m1 0
  have b1 := cell_of m1 1
  simp at a0 a1 b0 b1
  have HG : Hid (∃ os, W = grow w os) := ⟨_, hW.symm.trans (grow2 _ _ _)⟩
  clear hW m0 m1 hzW
  go_region_held3 (fun w' => w'.cell? ⟨w.heap.size, 0, none⟩ = some (.int .i64 e.d) ∧ w'.cell? ⟨w.heap.size, 1, none⟩ = some (.string e.nm) ∧ w'.cell? ⟨w.heap.size + 1, 0, none⟩ = some (.int .i64 f.d) ∧ w'.cell? ⟨w.heap.size + 1, 1, none⟩ = some (.string f.nm))
    (first | exact ⟨a0, a1, b0, b1⟩ | assumption | exact ⟨cellD a0 _, cellD a1 _, cellD b0 _, cellD b1 _⟩)
    (first
      | (go_at_call 85; refine (HI.out _).mono ?_; rintro x w1 ⟨rfl, rfl⟩)
      | (go_at_call 34; refine (HS.out _).mono ?_; rintro x w1 ⟨rfl, rfl⟩)
      | (go_at_call 84; refine (HO.out _ _ (by simp) (by simp)).mono ?_; rintro x w1 ⟨rfl, rfl⟩))
  go_wp2
  go_ret
  obtain ⟨os, hos⟩ := HG.out
  exact ⟨rfl, 1, os ++ #[.cells #[.int .i64 I, .int .i64 S] 3], by rw [hos, alloc_eq_grow, grow_grow]; rfl⟩

theorem ris_lt (e f : En) : ltOf risV e f = lessK e.d e.nm f.d f.nm := by
  unfold ltOf risV lessK
  by_cases h : e.d = f.d
  · have h0 : cmpI e.d f.d = 0 := (cmpI_zero _ _).2 h
    rw [h0]
    simp only [ne_eq, not_true_eq_false, if_false]
    rw [cmpS_neg]
    simp [h]
  · have h0 : cmpI e.d f.d ≠ 0 := fun k => h ((cmpI_zero _ _).1 k)
    rw [if_pos h0]
    simp [h, cmpI_neg]
theorem ris_swo : SWO (ltOf risV) where
  irrefl x := by
    rw [ris_lt]
    cases h : lessK x.d x.nm x.d x.nm with
    | false => rfl
    | true => exact absurd h (lessE_irrefl x)
  trans x y z h1 h2 := by
    rw [ris_lt] at *
    exact lessE_trans (e := x) (f := y) (g := z) h1 h2
  ntrans x y z h1 h2 := by
    rw [ris_lt] at *
    have g1 : ¬ lessE x y := fun h => by unfold lessE at h; rw [h1] at h; cases h
    have g2 : ¬ lessE y z := fun h => by unfold lessE at h; rw [h2] at h; cases h
    cases h : lessK x.d x.nm z.d z.nm with
    | false => rfl
    | true =>
      have hxz : lessE x z := h
      rcases lessE_total x y with k | ⟨k1, k2⟩ | k
      · exact absurd k g1
      · exfalso; apply g2
        unfold lessE at hxz ⊢
        rw [← k1, ← k2]; exact hxz
      · exact absurd (lessE_trans k hxz) g2

theorem flat_ec [Inhabited En] (es : List En) : flatK En.vals 7 es.toArray = (ec es).toArray := by
  apply Array.ext_getElem?
  intro t
  unfold flatK
  by_cases ht : t < es.length * 7
  · obtain ⟨e, he⟩ : ∃ e, es[t / 7]? = some e := ⟨_, List.getElem?_eq_getElem (by omega)⟩
    have hg := ec_get es (t / 7) (t % 7) e he (by omega)
    rw [show t / 7 * 7 + t % 7 = t by omega] at hg
    have hl : t % 7 < e.vals.length := by show t % 7 < 7; omega
    have e1 : es.toArray[t / 7]! = e := by simp [he]
    simp only [Array.getElem?_map, List.getElem?_toArray, hg]
    rw [Array.getElem?_eq_getElem (by simpa using ht)]
    simp only [Option.map_some, Array.getElem_range, e1]
    rw [List.getElem?_eq_getElem hl, List.getElem!_eq_getElem?_getD, List.getElem?_eq_getElem hl]; rfl
  · rw [Array.getElem?_eq_none (by simpa using Nat.le_of_not_lt ht), List.getElem?_toArray, List.getElem?_eq_none (by rw [ec_len]; omega)]
/-- a permutation of the whole -/
theorem perm_all [Inhabited En] {es : List En} {d' : Array En} (h : PermIn 0 es.toArray.size es.toArray d') : d'.toList.Perm es := by
  obtain ⟨h1, _, h3⟩ := h
  rw [← h1] at h3
  have e1 : (d'.extract 0 d'.size).toList = d'.toList := by simp
  rw [e1, h1] at h3
  simpa using h3
theorem sorted_all [Inhabited En] {es : List En} {d' : Array En} (hz : d'.size = es.toArray.size) (h : SortedIn (ltOf risV) 0 es.toArray.size d') (ha : Apart d'.toList) : Rises d'.toList := by
  unfold Rises
  rw [List.pairwise_iff_getElem]
  intro i j hi hj hij
  have := h i j (Nat.zero_le _) hij (by rw [← hz]; simpa using hj)
  rw [ris_lt] at this
  have hi' : i < d'.size := by simpa using hi
  have hj' : j < d'.size := by simpa using hj
  rw [getElem!_pos d' i hi', getElem!_pos d' j hj'] at this
  unfold Apart at ha
  rw [List.pairwise_iff_getElem] at ha
  have hne := ha i j hi hj hij
  simp only [Array.getElem_toList] at hne ⊢
  rcases lessE_total d'[i] d'[j] with k | k | k
  · exact k
  · exact absurd k hne
  · unfold lessE at k; rw [this] at k; cases k
/-- slices.SortFunc by rising, over a list of entries of the call's own -/
theorem sort_p (g n cap base : Nat) (es : List En) (w : World) (h : w.ownsRow base 42 7 (.slice (some ⟨g, 0, none⟩) n cap) n (ec es)) (hn : es.length = n) (hs : n ≤ 1000000) :
    Calls Try.prog 32 #[.slice (some ⟨g, 0, none⟩) n cap, .func (.func 66) #[] #[]] w fun e w' => e = .returned (.tuple #[]) ∧ ∃ es' : List En, es'.Perm es ∧ (Apart es → Rises es') ∧ w'.ownsRow base 42 7 (.slice (some ⟨g, 0, none⟩) n cap) n (ec es') ∧ Only (· = g) w w' := by
  subst hn
  have iE : Inhabited En := ⟨zeroEn⟩
  have eg : ∀ args w, (callFunc 66 args).run Try.prog w = .ok (.enter 66 args) w := enters_of Try.func66 (by kernel_rfl) rfl
  obtain ⟨hc, hf, hcap, hmx, hb, hg⟩ := owns_cells h
  have hH : HoldsK En.vals 7 w g 0 es.toArray := by
    unfold HoldsK
    rw [flat_ec]
    intro j hj
    rw [Nat.zero_add]
    refine ⟨?_, hf j⟩
    have hj' : j < (ec es).length := by simpa using hj
    rw [hc j _ (List.getElem?_eq_getElem hj'), getElem!_pos _ j hj]; rfl
  have hcon := AnyQ.slices_SortFunc Try.sortE 7 Try.isAgg42 Try.sizeOf42 En.vals (fun _ => rfl) (fun x => vals_one x) risV ris_swo 66 #[] g 0 cap es.toArray w eg (fun _ _ _ _ x y => rising_p x y _) hH hg (by simp; omega)
  change Calls Try.prog 32 _ _ _ at hcon
  rw [List.size_toArray] at hcon
  refine hcon.mono ?_
  rintro e w' ⟨rfl, d', q, os, hp, hso, rfl⟩
  have hP : d'.toList.Perm es := perm_all (by simpa using hp)
  refine ⟨rfl, d'.toList, hP, fun ha => sorted_all (by simpa using hp.1) (by simpa using hso) (ha.perm hP.symm), ?_, ?_⟩
  · have hlen : d'.toList.length = es.length := hP.length_eq
    have hfl : flatK En.vals 7 d' = (ec d'.toList).toArray := by have := flat_ec d'.toList; simpa using this
    rcases h.2 with ⟨e1, _⟩ | ⟨g', cap', cur, e1, hg', hh, r1, r2, r3, r4⟩
    · cases e1
    · cases e1
      refine ⟨by rw [ec_len, hlen], .inr ⟨g, cap, putCells id 0 (flatK En.vals 7 d') cur, rfl, hg', ?_, r1, r2, ?_, ?_⟩⟩
      · unfold sortWorldK
        rw [heap_grow_old _ _ (by simpa [putRowK, putRow, mapBlock, Sort.ahead] using hg)]
        simp [putRowK, putRow, mapBlock, Sort.ahead, Array.getElem?_modify, hh, onCells]
      · simp [putCells, r3]
      · rw [hfl]
        have : (ec d'.toList).length = es.length * 7 := by rw [ec_len, hlen]
        rw [← this]
        exact take_put cur _ (by rw [this, r3]; exact Nat.mul_le_mul_right 7 r1)
  · refine ⟨rfl, rfl, rfl, ?_, fun k hk hne => ?_⟩
    · unfold sortWorldK; simp [putRowK, putRow, mapBlock, Sort.ahead]
    · unfold sortWorldK
      rw [heap_grow_old _ _ (by simpa [putRowK, putRow, mapBlock, Sort.ahead] using hk)]
      have : g ≠ k := fun e => hne e.symm
      simp [putRowK, putRow, mapBlock, Sort.ahead, Array.getElem?_modify, this]
end
end Go.Proofs.Ytppbbddlbfgpfaa
