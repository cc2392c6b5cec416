/- slices.SortFunc at lists of cached entries and of entries: what the library proves of them, laid at this program by number. -/
import Derived.Shelf.SlSortCmp.WholeK
import Derived.Shelf.SlSortCmp.NoneTotal
import Derived.Test.YtabdicbmecgogaaProg
import Derived.Test.YtabdicbmecgogaaJPEpt10
namespace Go.Proofs.Ytabdicbmecgogaa
section
open Go.Shelf
def Try.sortC_ren : Go.Shelf.Ren := ⟨fun | 6 => 46 | 15 => 62 | 14 => 61 | 28 => 78 | 29 => 79 | 20 => 70 | 21 => 71 | 22 => 72 | 23 => 73 | 24 => 74 | 25 => 75 | 26 => 76 | 27 => 77 | 46 => 92 | 47 => 93 | 48 => 94 | 49 => 95 | 50 => 96 | 57 => 101 | n => n, fun | 22 => 71 | 24 => 78 | 25 => 80 | 3 => 3 | 39 => 96 | 0 => 0 | 53 => 111 | 55 => 113 | 4 => 4 | 46 => 105 | 45 => 104 | 50 => 97 | 5 => 5 | 9 => 9 | 66 => 122 | 70 => 126 | 76 => 130 | 77 => 131 | n => n, fun | n => n⟩
theorem Try.sortC : Go.Proofs.SlLaysF0.n6 Try.prog Try.sortC_ren := {
  mixed := by kernel_rfl
  f6 := ⟨Try.f46.name, by decide, Try.func46.trans (congrArg some (by kernel_rfl))⟩
  f14 := ⟨Try.f61.name, by decide, Try.func61.trans (congrArg some (by kernel_rfl))⟩
  f15 := Try.func62.trans (congrArg some (by kernel_rfl))
  f20 := ⟨Try.f70.name, by decide, Try.func70.trans (congrArg some (by kernel_rfl))⟩
  f21 := ⟨Try.f71.name, by decide, Try.func71.trans (congrArg some (by kernel_rfl))⟩
  f22 := ⟨Try.f72.name, by decide, Try.func72.trans (congrArg some (by kernel_rfl))⟩
  f23 := ⟨Try.f73.name, by decide, Try.func73.trans (congrArg some (by kernel_rfl))⟩
  f24 := ⟨Try.f74.name, by decide, Try.func74.trans (congrArg some (by kernel_rfl))⟩
  f25 := ⟨Try.f75.name, by decide, Try.func75.trans (congrArg some (by kernel_rfl))⟩
  f26 := ⟨Try.f76.name, by decide, Try.func76.trans (congrArg some (by kernel_rfl))⟩
  f27 := ⟨Try.f77.name, by decide, Try.func77.trans (congrArg some (by kernel_rfl))⟩
  f28 := Try.func78.trans (congrArg some (by kernel_rfl))
  f29 := Try.func79.trans (congrArg some (by kernel_rfl))
  f46 := ⟨Try.f92.name, by decide, Try.func92.trans (congrArg some (by kernel_rfl))⟩
  f47 := Try.func93.trans (congrArg some (by kernel_rfl))
  f48 := Try.func94.trans (congrArg some (by kernel_rfl))
  f49 := ⟨Try.f95.name, by decide, Try.func95.trans (congrArg some (by kernel_rfl))⟩
  f50 := ⟨Try.f96.name, by decide, Try.func96.trans (congrArg some (by kernel_rfl))⟩
  f57 := ⟨Try.f101.name, by decide, Try.func101.trans (congrArg some (by kernel_rfl))⟩
  t0 := Try.underlying0
  a0 := Try.isAgg0
  z0 := Try.sizeOf0
  v0 := Try.zeroValue0
  t3 := Try.underlying3
  a3 := Try.isAgg3
  z3 := Try.sizeOf3
  v3 := Try.zeroValue3
  t4 := Try.underlying4
  a4 := Try.isAgg4
  z4 := Try.sizeOf4
  v4 := Try.zeroValue4
  t5 := Try.underlying5
  a5 := Try.isAgg5
  z5 := Try.sizeOf5
  v5 := Try.zeroValue5
  t9 := Try.underlying9
  a9 := Try.isAgg9
  z9 := Try.sizeOf9
  v9 := Try.zeroValue9
  t22 := Try.underlying71
  a22 := Try.isAgg71
  z22 := Try.sizeOf71
  v22 := Try.zeroValue71
  t25 := Try.underlying80
  a25 := Try.isAgg80
  z25 := Try.sizeOf80
  v25 := Try.zeroValue80
  t39 := Try.underlying96
  a39 := Try.isAgg96
  z39 := Try.sizeOf96
  v39 := Try.zeroValue96
  t45 := Try.underlying104
  a45 := Try.isAgg104
  z45 := Try.sizeOf104
  v45 := Try.zeroValue104
  t46 := Try.underlying105
  a46 := Try.isAgg105
  z46 := Try.sizeOf105
  v46 := Try.zeroValue105
  t50 := Try.underlying97
  a50 := Try.isAgg97
  z50 := Try.sizeOf97
  v50 := Try.zeroValue97
  t53 := Try.underlying111
  a53 := Try.isAgg111
  z53 := Try.sizeOf111
  v53 := Try.zeroValue111
  t55 := Try.underlying113
  a55 := Try.isAgg113
  z55 := Try.sizeOf113
  v55 := Try.zeroValue113
  t66 := Try.underlying122
  a66 := Try.isAgg122
  z66 := Try.sizeOf122
  v66 := Try.zeroValue122
  t70 := Try.underlying126
  a70 := Try.isAgg126
  z70 := Try.sizeOf126
  v70 := Try.zeroValue126
  t76 := Try.underlying130
  a76 := Try.isAgg130
  z76 := Try.sizeOf130
  v76 := Try.zeroValue130
  t77 := Try.underlying131
  a77 := Try.isAgg131
  z77 := Try.sizeOf131
  v77 := Try.zeroValue131 }
def Try.sortE_ren : Go.Shelf.Ren := ⟨fun | 6 => 57 | 15 => 62 | 14 => 67 | 28 => 78 | 29 => 79 | 20 => 84 | 21 => 85 | 22 => 86 | 23 => 87 | 24 => 88 | 25 => 89 | 26 => 90 | 27 => 91 | 46 => 98 | 47 => 93 | 48 => 94 | 49 => 99 | 50 => 100 | 57 => 103 | n => n, fun | 22 => 41 | 24 => 47 | 25 => 92 | 3 => 3 | 39 => 96 | 0 => 0 | 53 => 111 | 55 => 113 | 4 => 4 | 46 => 105 | 45 => 104 | 50 => 97 | 5 => 5 | 9 => 9 | 66 => 122 | 70 => 126 | 76 => 130 | 77 => 131 | n => n, fun | n => n⟩
theorem Try.sortE : Go.Proofs.SlLaysF0.n6 Try.prog Try.sortE_ren := {
  mixed := by kernel_rfl
  f6 := ⟨Try.f57.name, by decide, Try.func57.trans (congrArg some (by kernel_rfl))⟩
  f14 := ⟨Try.f67.name, by decide, Try.func67.trans (congrArg some (by kernel_rfl))⟩
  f15 := Try.func62.trans (congrArg some (by kernel_rfl))
  f20 := ⟨Try.f84.name, by decide, Try.func84.trans (congrArg some (by kernel_rfl))⟩
  f21 := ⟨Try.f85.name, by decide, Try.func85.trans (congrArg some (by kernel_rfl))⟩
  f22 := ⟨Try.f86.name, by decide, Try.func86.trans (congrArg some (by kernel_rfl))⟩
  f23 := ⟨Try.f87.name, by decide, Try.func87.trans (congrArg some (by kernel_rfl))⟩
  f24 := ⟨Try.f88.name, by decide, Try.func88.trans (congrArg some (by kernel_rfl))⟩
  f25 := ⟨Try.f89.name, by decide, Try.func89.trans (congrArg some (by kernel_rfl))⟩
  f26 := ⟨Try.f90.name, by decide, Try.func90.trans (congrArg some (by kernel_rfl))⟩
  f27 := ⟨Try.f91.name, by decide, Try.func91.trans (congrArg some (by kernel_rfl))⟩
  f28 := Try.func78.trans (congrArg some (by kernel_rfl))
  f29 := Try.func79.trans (congrArg some (by kernel_rfl))
  f46 := ⟨Try.f98.name, by decide, Try.func98.trans (congrArg some (by kernel_rfl))⟩
  f47 := Try.func93.trans (congrArg some (by kernel_rfl))
  f48 := Try.func94.trans (congrArg some (by kernel_rfl))
  f49 := ⟨Try.f99.name, by decide, Try.func99.trans (congrArg some (by kernel_rfl))⟩
  f50 := ⟨Try.f100.name, by decide, Try.func100.trans (congrArg some (by kernel_rfl))⟩
  f57 := ⟨Try.f103.name, by decide, Try.func103.trans (congrArg some (by kernel_rfl))⟩
  t0 := Try.underlying0
  a0 := Try.isAgg0
  z0 := Try.sizeOf0
  v0 := Try.zeroValue0
  t3 := Try.underlying3
  a3 := Try.isAgg3
  z3 := Try.sizeOf3
  v3 := Try.zeroValue3
  t4 := Try.underlying4
  a4 := Try.isAgg4
  z4 := Try.sizeOf4
  v4 := Try.zeroValue4
  t5 := Try.underlying5
  a5 := Try.isAgg5
  z5 := Try.sizeOf5
  v5 := Try.zeroValue5
  t9 := Try.underlying9
  a9 := Try.isAgg9
  z9 := Try.sizeOf9
  v9 := Try.zeroValue9
  t22 := Try.underlying41
  a22 := Try.isAgg41
  z22 := Try.sizeOf41
  v22 := Try.zeroValue41
  t25 := Try.underlying92
  a25 := Try.isAgg92
  z25 := Try.sizeOf92
  v25 := Try.zeroValue92
  t39 := Try.underlying96
  a39 := Try.isAgg96
  z39 := Try.sizeOf96
  v39 := Try.zeroValue96
  t45 := Try.underlying104
  a45 := Try.isAgg104
  z45 := Try.sizeOf104
  v45 := Try.zeroValue104
  t46 := Try.underlying105
  a46 := Try.isAgg105
  z46 := Try.sizeOf105
  v46 := Try.zeroValue105
  t50 := Try.underlying97
  a50 := Try.isAgg97
  z50 := Try.sizeOf97
  v50 := Try.zeroValue97
  t53 := Try.underlying111
  a53 := Try.isAgg111
  z53 := Try.sizeOf111
  v53 := Try.zeroValue111
  t55 := Try.underlying113
  a55 := Try.isAgg113
  z55 := Try.sizeOf113
  v55 := Try.zeroValue113
  t66 := Try.underlying122
  a66 := Try.isAgg122
  z66 := Try.sizeOf122
  v66 := Try.zeroValue122
  t70 := Try.underlying126
  a70 := Try.isAgg126
  z70 := Try.sizeOf126
  v70 := Try.zeroValue126
  t76 := Try.underlying130
  a76 := Try.isAgg130
  z76 := Try.sizeOf130
  v76 := Try.zeroValue130
  t77 := Try.underlying131
  a77 := Try.isAgg131
  z77 := Try.sizeOf131
  v77 := Try.zeroValue131 }
end
section
open Go.RowKit Go.Shelf Go.Sort
attribute [local go_sem ↓ high] loadEn storeEn loadCa storeCa buildCa

def ordU (a b : En × Nat) : Int := cmpI a.2 b.2
def ordN (a b : En) : Int := cmpS a.nm b.nm
theorem ordU_lt (a b : En × Nat) : ltOf ordU a b = decide (a.2 < b.2) := by
  unfold ltOf ordU
  rw [Bool.eq_iff_iff, decide_eq_true_iff, decide_eq_true_iff, cmpI_neg]
  omega
theorem ordU_swo : SWO (ltOf ordU) where
  irrefl x := by rw [ordU_lt]; simp
  trans x y z h1 h2 := by
    rw [ordU_lt, decide_eq_true_iff] at *
    omega
  ntrans x y z h1 h2 := by
    rw [ordU_lt, decide_eq_false_iff_not] at *
    omega
theorem ordN_lt (a b : En) : ltOf ordN a b = decide (a.nm.toList < b.nm.toList) := by
  unfold ltOf ordN
  rw [cmpS_neg, bytesLess_lt]
theorem ordN_swo : SWO (ltOf ordN) where
  irrefl x := by rw [ordN_lt]; simp
  trans x y z h1 h2 := by
    rw [ordN_lt, decide_eq_true_iff] at *
    exact List.lt_trans h1 h2
  ntrans x y z h1 h2 := by
    rw [ordN_lt, decide_eq_false_iff_not] at *
    exact List.not_lt.2 (List.le_trans (List.not_lt.1 h2) (List.not_lt.1 h1))
set_option maxHeartbeats 2000000 in
theorem usedC_p (x y : En × Nat) (w : World) : Calls Try.prog 47 #[mvC x, mvC y] w fun v w' => v = .returned (.int .i64 (ordU x y)) ∧ ∃ q os', w' = grow (w.drewN q) os' := by
  obtain ⟨W, hW⟩ : ∃ W, (w.alloc (.cells (cvals x).toArray 78)).alloc (.cells (cvals y).toArray 78) = W := ⟨_, rfl⟩
  obtain ⟨b1, b2, b3, b4⟩ := boxes2 hW
  have q1 := (cells7_c b1).2
  have q2 := (cells7_c b2).2
  have HW : Hid (W = grow w (#[.cells (cvals x).toArray 78] ++ #[.cells (cvals y).toArray 78])) := by rw [← hW]; exact grow2 _ _ _
  have HC : Hid (∀ a b w, Calls Try.prog 48 #[.int .i64 a, .int .i64 b] w fun e w' => e = .returned (.int .i64 (cmpI a b)) ∧ w' = w) := cmpI_p
  obtain ⟨O, hO⟩ : ∃ O, ordU x y = O := ⟨_, rfl⟩
  rw [hO]
  have HO : Hid (cmpI (x.2 : Int) (y.2 : Int) = O) := hO
  unfold mvC
  unfold cvals En.vals at hW
  simp only [List.cons_append, List.nil_append] at hW
  clear b1 b2 b3 b4 hO
  go_enter Try.func47, Try.ntmps47
  go_wp2_with (go_at_call 48; refine (HC.out _ _ _).mono ?_; rintro z w1 ⟨rfl, rfl⟩; rw [HO.out])
  go_ret
  exact ⟨rfl, 0, _, HW.out⟩
set_option maxHeartbeats 2000000 in
theorem nameC_p (x y : En) (w : World) : Calls Try.prog 58 #[x.agg, y.agg] w fun v w' => v = .returned (.int .i64 (ordN x y)) ∧ ∃ q os', w' = grow (w.drewN q) os' := by
  obtain ⟨W, hW⟩ : ∃ W, (w.alloc (.cells x.vals.toArray 47)).alloc (.cells y.vals.toArray 47) = W := ⟨_, rfl⟩
  obtain ⟨b1, b2, b3, b4⟩ := boxes2 hW
  have q1 := (cells7_of b1).c1
  have q2 := (cells7_of b2).c1
  have HW : Hid (W = grow w (#[.cells x.vals.toArray 47] ++ #[.cells y.vals.toArray 47])) := by rw [← hW]; exact grow2 _ _ _
  have HC : Hid (∀ a b w, Calls Try.prog 59 #[.string a, .string b] w fun e w' => e = .returned (.int .i64 (cmpS a b)) ∧ w' = w) := cmpS_p
  obtain ⟨O, hO⟩ : ∃ O, ordN x y = O := ⟨_, rfl⟩
  rw [hO]
  have HO : Hid (cmpS x.nm y.nm = O) := hO
  unfold En.agg
  unfold En.vals at hW
  clear b1 b2 b3 b4 hO
  go_enter Try.func58, Try.ntmps58
  go_wp2_with (go_at_call 59; refine (HC.out _ _ _).mono ?_; rintro z w1 ⟨rfl, rfl⟩; rw [HO.out])
  go_ret
  exact ⟨rfl, 0, _, HW.out⟩
end
section
open Go.RowKit Go.Shelf Go.Sort

def cc (l : List (En × Nat)) : List Value := l.flatMap cvals
theorem cc_len (l : List (En × Nat)) : (cc l).length = l.length * 8 := by
  unfold cc
  induction l with
  | nil => rfl
  | cons a l ih => rw [List.flatMap_cons, List.length_append, ih, List.length_cons, show (cvals a).length = 8 from rfl]; omega
theorem cc_app (a b : List (En × Nat)) : cc (a ++ b) = cc a ++ cc b := by unfold cc; rw [List.flatMap_append]
theorem cc_get (l : List (En × Nat)) (i j : Nat) (e : En × Nat) (h : l[i]? = some e) (hj : j < 8) : (cc l)[i * 8 + j]? = (cvals e)[j]? := by
  induction l generalizing i with
  | nil => simp at h
  | cons a l ih =>
    have e1 : cc (a :: l) = cvals a ++ cc l := rfl
    have hv : ∀ x : En × Nat, (cvals x).length = 8 := fun _ => rfl
    cases i with
    | zero =>
      simp at h
      subst h
      rw [e1, List.getElem?_append_left (by rw [hv]; omega), Nat.zero_mul, Nat.zero_add]
    | succ i =>
      rw [e1, List.getElem?_append_right (by rw [hv]; omega), hv, show (i + 1) * 8 + j - 8 = i * 8 + j by omega]
      exact ih i (by simpa using h)
theorem perm_allG {α : Type} [Inhabited α] {es : List α} {d' : Array α} (h : PermIn 0 es.toArray.size es.toArray d') : d'.toList.Perm es := by
  obtain ⟨h1, _, h3⟩ := h
  rw [← h1] at h3
  have e1 : (d'.extract 0 d'.size).toList = d'.toList := by simp
  rw [e1, h1] at h3
  simpa using h3
theorem sorted_allG {α : Type} [Inhabited α] {f : α → α → Int} {es : List α} {d' : Array α} (hz : d'.size = es.toArray.size) (h : SortedIn (ltOf f) 0 es.toArray.size d') : d'.toList.Pairwise fun a b => ltOf f b a = false := by
  rw [List.pairwise_iff_getElem]
  intro i j hi hj hij
  have := h i j (Nat.zero_le _) hij (by rw [← hz]; simpa using hj)
  have hi' : i < d'.size := by simpa using hi
  have hj' : j < d'.size := by simpa using hj
  rw [getElem!_pos d' i hi', getElem!_pos d' j hj'] at this
  simpa using this
theorem flat_C [Inhabited (En × Nat)] (es : List (En × Nat)) : flatK cvals 8 es.toArray = (cc es).toArray := by
  apply Array.ext_getElem?
  intro t
  unfold flatK
  by_cases ht : t < es.length * 8
  · obtain ⟨e, he⟩ : ∃ e, es[t / 8]? = some e := ⟨_, List.getElem?_eq_getElem (by omega)⟩
    have hg : (cc es)[t]? = (cvals e)[t % 8]? := by
      rw [← cc_get es (t / 8) (t % 8) e he (by omega), show t / 8 * 8 + t % 8 = t by omega]
    have hl : t % 8 < (cvals e).length := by show t % 8 < 8; omega
    have e1 : es.toArray[t / 8]! = e := by simp [he]
    simp only [Array.getElem?_map, List.getElem?_toArray, hg]
    rw [Array.getElem?_eq_getElem (by simpa using ht)]
    simp only [Option.map_some, Array.getElem_range, e1]
    rw [List.getElem?_eq_getElem hl, List.getElem!_eq_getElem?_getD, List.getElem?_eq_getElem hl]; rfl
  · rw [Array.getElem?_eq_none (by simpa using Nat.le_of_not_lt ht), List.getElem?_toArray, List.getElem?_eq_none (by rw [cc_len]; omega)]
theorem sortC_p (g n cap base : Nat) (es : List (En × Nat)) (w : World) (h : w.ownsRow base 78 8 (.slice (some ⟨g, 0, none⟩) n cap) n (cc es)) (hn : es.length = n) (hs : n ≤ 10000000000000) :
    Calls Try.prog 46 #[.slice (some ⟨g, 0, none⟩) n cap, .func (.func 47) #[] #[]] w fun e w' => e = .returned (.tuple #[]) ∧ ∃ es' : List (En × Nat), es'.Perm es ∧ (es'.Pairwise fun a b => ltOf ordU b a = false) ∧ w'.ownsRow base 78 8 (.slice (some ⟨g, 0, none⟩) n cap) n (cc es') ∧ Only (· = g) w w' := by
  subst hn
  have iE : Inhabited (En × Nat) := ⟨(zeroEn, 0)⟩
  have eg : ∀ args w, (callFunc 47 args).run Try.prog w = .ok (.enter 47 args) w := enters_of Try.func47 (by kernel_rfl) rfl
  obtain ⟨hc, hf, hcap, hmx, hb, hg⟩ := owns_cells h
  have hH : HoldsK cvals 8 w g 0 es.toArray := by
    unfold HoldsK
    rw [flat_C]
    intro j hj
    rw [Nat.zero_add]
    refine ⟨?_, hf j⟩
    have hj' : j < (cc es).length := by simpa using hj
    rw [hc j _ (List.getElem?_eq_getElem hj'), getElem!_pos _ j hj]; rfl
  have hcon := AnyQ.slices_SortFunc Try.sortC 8 Try.isAgg78 Try.sizeOf78 cvals (fun _ => rfl) (fun x => cvals_one x) ordU ordU_swo 47 #[] g 0 cap es.toArray w eg (fun _ _ _ _ x y => usedC_p x y _) hH hg (by simp; omega)
  change Calls Try.prog 46 _ _ _ at hcon
  rw [List.size_toArray] at hcon
  refine hcon.mono ?_
  rintro e w' ⟨rfl, d', q, os, hp, hso, rfl⟩
  have hP : d'.toList.Perm es := perm_allG (by simpa using hp)
  refine ⟨rfl, d'.toList, hP, sorted_allG (by simpa using hp.1) (by simpa using hso), ?_, ?_⟩
  · have hlen : d'.toList.length = es.length := hP.length_eq
    have hfl : flatK cvals 8 d' = (cc d'.toList).toArray := by have := flat_C d'.toList; simpa using this
    rcases h.2 with ⟨e1, _⟩ | ⟨g', cap', cur, e1, hg', hh, r1, r2, r3, r4⟩
    · cases e1
    · cases e1
      refine ⟨by rw [cc_len, hlen], .inr ⟨g, cap, putCells id 0 (flatK cvals 8 d') cur, rfl, hg', ?_, r1, r2, ?_, ?_⟩⟩
      · unfold sortWorldK
        rw [heap_grow_old _ _ (by simpa [putRowK, putRow, mapBlock, Sort.ahead] using hg)]
        simp [putRowK, putRow, mapBlock, Sort.ahead, Array.getElem?_modify, hh, onCells]
      · simp [putCells, r3]
      · rw [hfl]
        have : (cc d'.toList).length = es.length * 8 := by rw [cc_len, hlen]
        rw [← this]
        exact take_put cur _ (by rw [this, r3]; exact Nat.mul_le_mul_right 8 r1)
  · refine ⟨rfl, rfl, rfl, ?_, fun k hk hne => ?_⟩
    · unfold sortWorldK; simp [putRowK, putRow, mapBlock, Sort.ahead]
    · unfold sortWorldK
      rw [heap_grow_old _ _ (by simpa [putRowK, putRow, mapBlock, Sort.ahead] using hk)]
      have : g ≠ k := fun e => hne e.symm
      simp [putRowK, putRow, mapBlock, Sort.ahead, Array.getElem?_modify, this]
theorem flat_E [Inhabited En] (es : List En) : flatK En.vals 7 es.toArray = (ec es).toArray := by
  apply Array.ext_getElem?
  intro t
  unfold flatK
  by_cases ht : t < es.length * 7
  · obtain ⟨e, he⟩ : ∃ e, es[t / 7]? = some e := ⟨_, List.getElem?_eq_getElem (by omega)⟩
    have hg : (ec es)[t]? = (En.vals e)[t % 7]? := by
      rw [← ec_get es (t / 7) (t % 7) e he (by omega), show t / 7 * 7 + t % 7 = t by omega]
    have hl : t % 7 < (En.vals e).length := by show t % 7 < 7; omega
    have e1 : es.toArray[t / 7]! = e := by simp [he]
    simp only [Array.getElem?_map, List.getElem?_toArray, hg]
    rw [Array.getElem?_eq_getElem (by simpa using ht)]
    simp only [Option.map_some, Array.getElem_range, e1]
    rw [List.getElem?_eq_getElem hl, List.getElem!_eq_getElem?_getD, List.getElem?_eq_getElem hl]; rfl
  · rw [Array.getElem?_eq_none (by simpa using Nat.le_of_not_lt ht), List.getElem?_toArray, List.getElem?_eq_none (by rw [ec_len]; omega)]
theorem sortE_p (g n cap base : Nat) (es : List En) (w : World) (h : w.ownsRow base 47 7 (.slice (some ⟨g, 0, none⟩) n cap) n (ec es)) (hn : es.length = n) (hs : n ≤ 10000000000000) :
    Calls Try.prog 57 #[.slice (some ⟨g, 0, none⟩) n cap, .func (.func 58) #[] #[]] w fun e w' => e = .returned (.tuple #[]) ∧ ∃ es' : List En, es'.Perm es ∧ (es'.Pairwise fun a b => ltOf ordN b a = false) ∧ w'.ownsRow base 47 7 (.slice (some ⟨g, 0, none⟩) n cap) n (ec es') ∧ Only (· = g) w w' := by
  subst hn
  have iE : Inhabited En := ⟨zeroEn⟩
  have eg : ∀ args w, (callFunc 58 args).run Try.prog w = .ok (.enter 58 args) w := enters_of Try.func58 (by kernel_rfl) rfl
  obtain ⟨hc, hf, hcap, hmx, hb, hg⟩ := owns_cells h
  have hH : HoldsK En.vals 7 w g 0 es.toArray := by
    unfold HoldsK
    rw [flat_E]
    intro j hj
    rw [Nat.zero_add]
    refine ⟨?_, hf j⟩
    have hj' : j < (ec es).length := by simpa using hj
    rw [hc j _ (List.getElem?_eq_getElem hj'), getElem!_pos _ j hj]; rfl
  have hcon := AnyQ.slices_SortFunc Try.sortE 7 Try.isAgg47 Try.sizeOf47 En.vals (fun _ => rfl) (fun x => enVals_one x) ordN ordN_swo 58 #[] g 0 cap es.toArray w eg (fun _ _ _ _ x y => nameC_p x y _) hH hg (by simp; omega)
  change Calls Try.prog 57 _ _ _ at hcon
  rw [List.size_toArray] at hcon
  refine hcon.mono ?_
  rintro e w' ⟨rfl, d', q, os, hp, hso, rfl⟩
  have hP : d'.toList.Perm es := perm_allG (by simpa using hp)
  refine ⟨rfl, d'.toList, hP, sorted_allG (by simpa using hp.1) (by simpa using hso), ?_, ?_⟩
  · have hlen : d'.toList.length = es.length := hP.length_eq
    have hfl : flatK En.vals 7 d' = (ec d'.toList).toArray := by have := flat_E d'.toList; simpa using this
    rcases h.2 with ⟨e1, _⟩ | ⟨g', cap', cur, e1, hg', hh, r1, r2, r3, r4⟩
    · cases e1
    · cases e1
      refine ⟨by rw [ec_len, hlen], .inr ⟨g, cap, putCells id 0 (flatK En.vals 7 d') cur, rfl, hg', ?_, r1, r2, ?_, ?_⟩⟩
      · unfold sortWorldK
        rw [heap_grow_old _ _ (by simpa [putRowK, putRow, mapBlock, Sort.ahead] using hg)]
        simp [putRowK, putRow, mapBlock, Sort.ahead, Array.getElem?_modify, hh, onCells]
      · simp [putCells, r3]
      · rw [hfl]
        have : (ec d'.toList).length = es.length * 7 := by rw [ec_len, hlen]
        rw [← this]
        exact take_put cur _ (by rw [this, r3]; exact Nat.mul_le_mul_right 7 r1)
  · refine ⟨rfl, rfl, rfl, ?_, fun k hk hne => ?_⟩
    · unfold sortWorldK; simp [putRowK, putRow, mapBlock, Sort.ahead]
    · unfold sortWorldK
      rw [heap_grow_old _ _ (by simpa [putRowK, putRow, mapBlock, Sort.ahead] using hk)]
      have : g ≠ k := fun e => hne e.symm
      simp [putRowK, putRow, mapBlock, Sort.ahead, Array.getElem?_modify, this]
end
end Go.Proofs.Ytabdicbmecgogaa
