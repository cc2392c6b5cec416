/- slices.SortFunc at lists of cached entries and of entries: what the library proves of them, laid at this program by number. -/
import Derived.Shelf.SlSortCmp.WholeK
import Derived.Shelf.SlSortCmp.NoneTotal
import Derived.Test.YtmndnjgbbpkidaaGreatProg
import Derived.Test.YtmndnjgbbpkidaaGreatJWLks09
namespace Go.Proofs.YtmndnjgbbpkidaaGreat
section
open Go.Shelf
def Tryz.sortC_ren : Go.Shelf.Ren := ⟨fun | 6 => 62 | 15 => 84 | 14 => 83 | 28 => 101 | 29 => 102 | 20 => 93 | 21 => 94 | 22 => 95 | 23 => 96 | 24 => 97 | 25 => 98 | 26 => 99 | 27 => 100 | 46 => 114 | 47 => 115 | 48 => 116 | 49 => 117 | 50 => 118 | 57 => 123 | n => n, fun | 22 => 108 | 24 => 99 | 25 => 110 | 3 => 3 | 39 => 129 | 0 => 0 | 53 => 149 | 55 => 151 | 4 => 4 | 46 => 142 | 45 => 141 | 50 => 146 | 5 => 5 | 9 => 9 | 66 => 161 | 70 => 165 | 76 => 170 | 77 => 171 | n => n, fun | n => n⟩
theorem Tryz.sortC : Go.Proofs.SlLaysF0.n6 Tryz.prog Tryz.sortC_ren := {
  mixed := by kernel_rfl
  f6 := ⟨Tryz.f62.name, by decide, Tryz.func62.trans (congrArg some (by kernel_rfl))⟩
  f14 := ⟨Tryz.f83.name, by decide, Tryz.func83.trans (congrArg some (by kernel_rfl))⟩
  f15 := Tryz.func84.trans (congrArg some (by kernel_rfl))
  f20 := ⟨Tryz.f93.name, by decide, Tryz.func93.trans (congrArg some (by kernel_rfl))⟩
  f21 := ⟨Tryz.f94.name, by decide, Tryz.func94.trans (congrArg some (by kernel_rfl))⟩
  f22 := ⟨Tryz.f95.name, by decide, Tryz.func95.trans (congrArg some (by kernel_rfl))⟩
  f23 := ⟨Tryz.f96.name, by decide, Tryz.func96.trans (congrArg some (by kernel_rfl))⟩
  f24 := ⟨Tryz.f97.name, by decide, Tryz.func97.trans (congrArg some (by kernel_rfl))⟩
  f25 := ⟨Tryz.f98.name, by decide, Tryz.func98.trans (congrArg some (by kernel_rfl))⟩
  f26 := ⟨Tryz.f99.name, by decide, Tryz.func99.trans (congrArg some (by kernel_rfl))⟩
  f27 := ⟨Tryz.f100.name, by decide, Tryz.func100.trans (congrArg some (by kernel_rfl))⟩
  f28 := Tryz.func101.trans (congrArg some (by kernel_rfl))
  f29 := Tryz.func102.trans (congrArg some (by kernel_rfl))
  f46 := ⟨Tryz.f114.name, by decide, Tryz.func114.trans (congrArg some (by kernel_rfl))⟩
  f47 := Tryz.func115.trans (congrArg some (by kernel_rfl))
  f48 := Tryz.func116.trans (congrArg some (by kernel_rfl))
  f49 := ⟨Tryz.f117.name, by decide, Tryz.func117.trans (congrArg some (by kernel_rfl))⟩
  f50 := ⟨Tryz.f118.name, by decide, Tryz.func118.trans (congrArg some (by kernel_rfl))⟩
  f57 := ⟨Tryz.f123.name, by decide, Tryz.func123.trans (congrArg some (by kernel_rfl))⟩
  t0 := Tryz.underlying0
  a0 := Tryz.isAgg0
  z0 := Tryz.sizeOf0
  v0 := Tryz.zeroValue0
  t3 := Tryz.underlying3
  a3 := Tryz.isAgg3
  z3 := Tryz.sizeOf3
  v3 := Tryz.zeroValue3
  t4 := Tryz.underlying4
  a4 := Tryz.isAgg4
  z4 := Tryz.sizeOf4
  v4 := Tryz.zeroValue4
  t5 := Tryz.underlying5
  a5 := Tryz.isAgg5
  z5 := Tryz.sizeOf5
  v5 := Tryz.zeroValue5
  t9 := Tryz.underlying9
  a9 := Tryz.isAgg9
  z9 := Tryz.sizeOf9
  v9 := Tryz.zeroValue9
  t22 := Tryz.underlying108
  a22 := Tryz.isAgg108
  z22 := Tryz.sizeOf108
  v22 := Tryz.zeroValue108
  t25 := Tryz.underlying110
  a25 := Tryz.isAgg110
  z25 := Tryz.sizeOf110
  v25 := Tryz.zeroValue110
  t39 := Tryz.underlying129
  a39 := Tryz.isAgg129
  z39 := Tryz.sizeOf129
  v39 := Tryz.zeroValue129
  t45 := Tryz.underlying141
  a45 := Tryz.isAgg141
  z45 := Tryz.sizeOf141
  v45 := Tryz.zeroValue141
  t46 := Tryz.underlying142
  a46 := Tryz.isAgg142
  z46 := Tryz.sizeOf142
  v46 := Tryz.zeroValue142
  t50 := Tryz.underlying146
  a50 := Tryz.isAgg146
  z50 := Tryz.sizeOf146
  v50 := Tryz.zeroValue146
  t53 := Tryz.underlying149
  a53 := Tryz.isAgg149
  z53 := Tryz.sizeOf149
  v53 := Tryz.zeroValue149
  t55 := Tryz.underlying151
  a55 := Tryz.isAgg151
  z55 := Tryz.sizeOf151
  v55 := Tryz.zeroValue151
  t66 := Tryz.underlying161
  a66 := Tryz.isAgg161
  z66 := Tryz.sizeOf161
  v66 := Tryz.zeroValue161
  t70 := Tryz.underlying165
  a70 := Tryz.isAgg165
  z70 := Tryz.sizeOf165
  v70 := Tryz.zeroValue165
  t76 := Tryz.underlying170
  a76 := Tryz.isAgg170
  z76 := Tryz.sizeOf170
  v76 := Tryz.zeroValue170
  t77 := Tryz.underlying171
  a77 := Tryz.isAgg171
  z77 := Tryz.sizeOf171
  v77 := Tryz.zeroValue171 }
def Tryz.sortE_ren : Go.Shelf.Ren := ⟨fun | 6 => 65 | 15 => 84 | 14 => 86 | 28 => 101 | 29 => 102 | 20 => 103 | 21 => 104 | 22 => 105 | 23 => 106 | 24 => 107 | 25 => 108 | 26 => 109 | 27 => 110 | 46 => 119 | 47 => 115 | 48 => 116 | 49 => 120 | 50 => 121 | 57 => 124 | n => n, fun | 22 => 23 | 24 => 52 | 25 => 115 | 3 => 3 | 39 => 129 | 0 => 0 | 53 => 149 | 55 => 151 | 4 => 4 | 46 => 142 | 45 => 141 | 50 => 146 | 5 => 5 | 9 => 9 | 66 => 161 | 70 => 165 | 76 => 170 | 77 => 171 | n => n, fun | n => n⟩
theorem Tryz.sortE : Go.Proofs.SlLaysF0.n6 Tryz.prog Tryz.sortE_ren := {
  mixed := by kernel_rfl
  f6 := ⟨Tryz.f65.name, by decide, Tryz.func65.trans (congrArg some (by kernel_rfl))⟩
  f14 := ⟨Tryz.f86.name, by decide, Tryz.func86.trans (congrArg some (by kernel_rfl))⟩
  f15 := Tryz.func84.trans (congrArg some (by kernel_rfl))
  f20 := ⟨Tryz.f103.name, by decide, Tryz.func103.trans (congrArg some (by kernel_rfl))⟩
  f21 := ⟨Tryz.f104.name, by decide, Tryz.func104.trans (congrArg some (by kernel_rfl))⟩
  f22 := ⟨Tryz.f105.name, by decide, Tryz.func105.trans (congrArg some (by kernel_rfl))⟩
  f23 := ⟨Tryz.f106.name, by decide, Tryz.func106.trans (congrArg some (by kernel_rfl))⟩
  f24 := ⟨Tryz.f107.name, by decide, Tryz.func107.trans (congrArg some (by kernel_rfl))⟩
  f25 := ⟨Tryz.f108.name, by decide, Tryz.func108.trans (congrArg some (by kernel_rfl))⟩
  f26 := ⟨Tryz.f109.name, by decide, Tryz.func109.trans (congrArg some (by kernel_rfl))⟩
  f27 := ⟨Tryz.f110.name, by decide, Tryz.func110.trans (congrArg some (by kernel_rfl))⟩
  f28 := Tryz.func101.trans (congrArg some (by kernel_rfl))
  f29 := Tryz.func102.trans (congrArg some (by kernel_rfl))
  f46 := ⟨Tryz.f119.name, by decide, Tryz.func119.trans (congrArg some (by kernel_rfl))⟩
  f47 := Tryz.func115.trans (congrArg some (by kernel_rfl))
  f48 := Tryz.func116.trans (congrArg some (by kernel_rfl))
  f49 := ⟨Tryz.f120.name, by decide, Tryz.func120.trans (congrArg some (by kernel_rfl))⟩
  f50 := ⟨Tryz.f121.name, by decide, Tryz.func121.trans (congrArg some (by kernel_rfl))⟩
  f57 := ⟨Tryz.f124.name, by decide, Tryz.func124.trans (congrArg some (by kernel_rfl))⟩
  t0 := Tryz.underlying0
  a0 := Tryz.isAgg0
  z0 := Tryz.sizeOf0
  v0 := Tryz.zeroValue0
  t3 := Tryz.underlying3
  a3 := Tryz.isAgg3
  z3 := Tryz.sizeOf3
  v3 := Tryz.zeroValue3
  t4 := Tryz.underlying4
  a4 := Tryz.isAgg4
  z4 := Tryz.sizeOf4
  v4 := Tryz.zeroValue4
  t5 := Tryz.underlying5
  a5 := Tryz.isAgg5
  z5 := Tryz.sizeOf5
  v5 := Tryz.zeroValue5
  t9 := Tryz.underlying9
  a9 := Tryz.isAgg9
  z9 := Tryz.sizeOf9
  v9 := Tryz.zeroValue9
  t22 := Tryz.underlying23
  a22 := Tryz.isAgg23
  z22 := Tryz.sizeOf23
  v22 := Tryz.zeroValue23
  t25 := Tryz.underlying115
  a25 := Tryz.isAgg115
  z25 := Tryz.sizeOf115
  v25 := Tryz.zeroValue115
  t39 := Tryz.underlying129
  a39 := Tryz.isAgg129
  z39 := Tryz.sizeOf129
  v39 := Tryz.zeroValue129
  t45 := Tryz.underlying141
  a45 := Tryz.isAgg141
  z45 := Tryz.sizeOf141
  v45 := Tryz.zeroValue141
  t46 := Tryz.underlying142
  a46 := Tryz.isAgg142
  z46 := Tryz.sizeOf142
  v46 := Tryz.zeroValue142
  t50 := Tryz.underlying146
  a50 := Tryz.isAgg146
  z50 := Tryz.sizeOf146
  v50 := Tryz.zeroValue146
  t53 := Tryz.underlying149
  a53 := Tryz.isAgg149
  z53 := Tryz.sizeOf149
  v53 := Tryz.zeroValue149
  t55 := Tryz.underlying151
  a55 := Tryz.isAgg151
  z55 := Tryz.sizeOf151
  v55 := Tryz.zeroValue151
  t66 := Tryz.underlying161
  a66 := Tryz.isAgg161
  z66 := Tryz.sizeOf161
  v66 := Tryz.zeroValue161
  t70 := Tryz.underlying165
  a70 := Tryz.isAgg165
  z70 := Tryz.sizeOf165
  v70 := Tryz.zeroValue165
  t76 := Tryz.underlying170
  a76 := Tryz.isAgg170
  z76 := Tryz.sizeOf170
  v76 := Tryz.zeroValue170
  t77 := Tryz.underlying171
  a77 := Tryz.isAgg171
  z77 := Tryz.sizeOf171
  v77 := Tryz.zeroValue171 }
end
section
open Go.RowKit Go.Shelf Go.Sort
attribute [local go_sem ↓ high] loadEn storeEn loadCa storeCa buildCa

def ordU (a b : En × Nat) : Int := cmpI a.2 b.2
def ordN (a b : En) : Int := cmpS a.nm b.nm
theorem ordU_lt (a b : En × Nat) : ltOf ordU a b = decide (a.2 < b.2) := by
  unfold ltOf ordU
  rw [Bool.eq_iff_iff, decide_eq_true_iff, decide_eq_true_iff, cmpI_neg]
  omega
theorem ordU_swo : SWO (ltOf ordU) where
  irrefl x := by rw [ordU_lt]; simp
  trans x y z h1 h2 := by
    rw [ordU_lt, decide_eq_true_iff] at *
    omega
  ntrans x y z h1 h2 := by
    rw [ordU_lt, decide_eq_false_iff_not] at *
    omega
theorem ordN_lt (a b : En) : ltOf ordN a b = decide (a.nm.toList < b.nm.toList) := by
  unfold ltOf ordN
  rw [cmpS_neg, bytesLess_lt]
theorem ordN_swo : SWO (ltOf ordN) where
  irrefl x := by rw [ordN_lt]; simp
  trans x y z h1 h2 := by
    rw [ordN_lt, decide_eq_true_iff] at *
    exact List.lt_trans h1 h2
  ntrans x y z h1 h2 := by
    rw [ordN_lt, decide_eq_false_iff_not] at *
    exact List.not_lt.2 (List.le_trans (List.not_lt.1 h2) (List.not_lt.1 h1))
set_option maxHeartbeats 2000000 in
theorem usedC_p (x y : En × Nat) (w : World) : Calls Tryz.prog 63 #[mvC x, mvC y] w fun v w' => v = .returned (.int .i64 (ordU x y)) ∧ ∃ q os', w' = grow (w.drewN q) os' := by
  obtain ⟨W, hW⟩ : ∃ W, (w.alloc (.cells (cvals x).toArray 99)).alloc (.cells (cvals y).toArray 99) = W := ⟨_, rfl⟩
  obtain ⟨b1, b2, b3, b4⟩ := boxes2 hW
  have q1 := (cells7_c b1).2
  have q2 := (cells7_c b2).2
  have HW : Hid (W = grow w (#[.cells (cvals x).toArray 99] ++ #[.cells (cvals y).toArray 99])) := by rw [← hW]; exact grow2 _ _ _
  have HC : Hid (∀ a b w, Calls Tryz.prog 64 #[.int .i64 a, .int .i64 b] w fun e w' => e = .returned (.int .i64 (cmpI a b)) ∧ w' = w) := cmpI_p
  obtain ⟨O, hO⟩ : ∃ O, ordU x y = O := ⟨_, rfl⟩
  rw [hO]
  have HO : Hid (cmpI (x.2 : Int) (y.2 : Int) = O) := hO
  unfold mvC
  unfold cvals En.vals at hW
  simp only [List.cons_append, List.nil_append] at hW
  clear b1 b2 b3 b4 hO
  go_enter Tryz.func63, Tryz.ntmps63
  go_wp2_with (go_at_call 64; refine (HC.out _ _ _).mono ?_; rintro z w1 ⟨rfl, rfl⟩; rw [HO.out])
  go_ret
  exact ⟨rfl, 0, _, HW.out⟩
set_option maxHeartbeats 2000000 in
theorem nameC_p (x y : En) (w : World) : Calls Tryz.prog 66 #[x.agg, y.agg] w fun v w' => v = .returned (.int .i64 (ordN x y)) ∧ ∃ q os', w' = grow (w.drewN q) os' := by
  obtain ⟨W, hW⟩ : ∃ W, (w.alloc (.cells x.vals.toArray 52)).alloc (.cells y.vals.toArray 52) = W := ⟨_, rfl⟩
  obtain ⟨b1, b2, b3, b4⟩ := boxes2 hW
  have q1 := (cells7_of b1).c1
  have q2 := (cells7_of b2).c1
  have HW : Hid (W = grow w (#[.cells x.vals.toArray 52] ++ #[.cells y.vals.toArray 52])) := by rw [← hW]; exact grow2 _ _ _
  have HC : Hid (∀ a b w, Calls Tryz.prog 67 #[.string a, .string b] w fun e w' => e = .returned (.int .i64 (cmpS a b)) ∧ w' = w) := cmpS_p
  obtain ⟨O, hO⟩ : ∃ O, ordN x y = O := ⟨_, rfl⟩
  rw [hO]
  have HO : Hid (cmpS x.nm y.nm = O) := hO
  unfold En.agg
  unfold En.vals at hW
  clear b1 b2 b3 b4 hO
  go_enter Tryz.func66, Tryz.ntmps66
  go_wp2_with (go_at_call 67; refine (HC.out _ _ _).mono ?_; rintro z w1 ⟨rfl, rfl⟩; rw [HO.out])
  go_ret
  exact ⟨rfl, 0, _, HW.out⟩
end
section
open Go.RowKit Go.Shelf Go.Sort

def cc (l : List (En × Nat)) : List Value := l.flatMap cvals
theorem cc_len (l : List (En × Nat)) : (cc l).length = l.length * 8 := by
  unfold cc
  induction l with
  | nil => rfl
  | cons a l ih => rw [List.flatMap_cons, List.length_append, ih, List.length_cons, show (cvals a).length = 8 from rfl]; omega
theorem cc_app (a b : List (En × Nat)) : cc (a ++ b) = cc a ++ cc b := by unfold cc; rw [List.flatMap_append]
theorem cc_get (l : List (En × Nat)) (i j : Nat) (e : En × Nat) (h : l[i]? = some e) (hj : j < 8) : (cc l)[i * 8 + j]? = (cvals e)[j]? := by
  induction l generalizing i with
  | nil => simp at h
  | cons a l ih =>
    have e1 : cc (a :: l) = cvals a ++ cc l := rfl
    have hv : ∀ x : En × Nat, (cvals x).length = 8 := fun _ => rfl
    cases i with
    | zero =>
      simp at h
      subst h
      rw [e1, List.getElem?_append_left (by rw [hv]; omega), Nat.zero_mul, Nat.zero_add]
    | succ i =>
      rw [e1, List.getElem?_append_right (by rw [hv]; omega), hv, show (i + 1) * 8 + j - 8 = i * 8 + j by omega]
      exact ih i (by simpa using h)
theorem perm_allG {α : Type} [Inhabited α] {es : List α} {d' : Array α} (h : PermIn 0 es.toArray.size es.toArray d') : d'.toList.Perm es := by
  obtain ⟨h1, _, h3⟩ := h
  rw [← h1] at h3
  have e1 : (d'.extract 0 d'.size).toList = d'.toList := by simp
  rw [e1, h1] at h3
  simpa using h3
theorem sorted_allG {α : Type} [Inhabited α] {f : α → α → Int} {es : List α} {d' : Array α} (hz : d'.size = es.toArray.size) (h : SortedIn (ltOf f) 0 es.toArray.size d') : d'.toList.Pairwise fun a b => ltOf f b a = false := by
  rw [List.pairwise_iff_getElem]
  intro i j hi hj hij
  have := h i j (Nat.zero_le _) hij (by rw [← hz]; simpa using hj)
  have hi' : i < d'.size := by simpa using hi
  have hj' : j < d'.size := by simpa using hj
  rw [getElem!_pos d' i hi', getElem!_pos d' j hj'] at this
  simpa using this
theorem flat_C [Inhabited (En × Nat)] (es : List (En × Nat)) : flatK cvals 8 es.toArray = (cc es).toArray := by
  apply Array.ext_getElem?
  intro t
  unfold flatK
  by_cases ht : t < es.length * 8
  · obtain ⟨e, he⟩ : ∃ e, es[t / 8]? = some e := ⟨_, List.getElem?_eq_getElem (by omega)⟩
    have hg : (cc es)[t]? = (cvals e)[t % 8]? := by
      rw [← cc_get es (t / 8) (t % 8) e he (by omega), show t / 8 * 8 + t % 8 = t by omega]
    have hl : t % 8 < (cvals e).length := by show t % 8 < 8; omega
    have e1 : es.toArray[t / 8]! = e := by simp [he]
    simp only [Array.getElem?_map, List.getElem?_toArray, hg]
    rw [Array.getElem?_eq_getElem (by simpa using ht)]
    simp only [Option.map_some, Array.getElem_range, e1]
    rw [List.getElem?_eq_getElem hl, List.getElem!_eq_getElem?_getD, List.getElem?_eq_getElem hl]; rfl
  · rw [Array.getElem?_eq_none (by simpa using Nat.le_of_not_lt ht), List.getElem?_toArray, List.getElem?_eq_none (by rw [cc_len]; omega)]
theorem sortC_p (g n cap base : Nat) (es : List (En × Nat)) (w : World) (h : w.ownsRow base 99 8 (.slice (some ⟨g, 0, none⟩) n cap) n (cc es)) (hn : es.length = n) (hs : n ≤ 10000000000000) :
    Calls Tryz.prog 62 #[.slice (some ⟨g, 0, none⟩) n cap, .func (.func 63) #[] #[]] w fun e w' => e = .returned (.tuple #[]) ∧ ∃ es' : List (En × Nat), es'.Perm es ∧ (es'.Pairwise fun a b => ltOf ordU b a = false) ∧ w'.ownsRow base 99 8 (.slice (some ⟨g, 0, none⟩) n cap) n (cc es') ∧ Only (· = g) w w' := by
  subst hn
  have iE : Inhabited (En × Nat) := ⟨(zeroEn, 0)⟩
  have eg : ∀ args w, (callFunc 63 args).run Tryz.prog w = .ok (.enter 63 args) w := enters_of Tryz.func63 (by kernel_rfl) rfl
  obtain ⟨hc, hf, hcap, hmx, hb, hg⟩ := owns_cells h
  have hH : HoldsK cvals 8 w g 0 es.toArray := by
    unfold HoldsK
    rw [flat_C]
    intro j hj
    rw [Nat.zero_add]
    refine ⟨?_, hf j⟩
    have hj' : j < (cc es).length := by simpa using hj
    rw [hc j _ (List.getElem?_eq_getElem hj'), getElem!_pos _ j hj]; rfl
  have hcon := AnyQ.slices_SortFunc Tryz.sortC 8 Tryz.isAgg99 Tryz.sizeOf99 cvals (fun _ => rfl) (fun x => cvals_one x) ordU ordU_swo 63 #[] g 0 cap es.toArray w eg (fun _ _ _ _ x y => usedC_p x y _) hH hg (by simp; omega)
  change Calls Tryz.prog 62 _ _ _ at hcon
  rw [List.size_toArray] at hcon
  refine hcon.mono ?_
  rintro e w' ⟨rfl, d', q, os, hp, hso, rfl⟩
  have hP : d'.toList.Perm es := perm_allG (by simpa using hp)
  refine ⟨rfl, d'.toList, hP, sorted_allG (by simpa using hp.1) (by simpa using hso), ?_, ?_⟩
  · have hlen : d'.toList.length = es.length := hP.length_eq
    have hfl : flatK cvals 8 d' = (cc d'.toList).toArray := by have := flat_C d'.toList; simpa using this
    rcases h.2 with ⟨e1, _⟩ | ⟨g', cap', cur, e1, hg', hh, r1, r2, r3, r4⟩
    · cases e1
    · cases e1
      refine ⟨by rw [cc_len, hlen], .inr ⟨g, cap, putCells id 0 (flatK cvals 8 d') cur, rfl, hg', ?_, r1, r2, ?_, ?_⟩⟩
      · unfold sortWorldK
        rw [heap_grow_old _ _ (by simpa [putRowK, putRow, mapBlock, Sort.ahead] using hg)]
        simp [putRowK, putRow, mapBlock, Sort.ahead, Array.getElem?_modify, hh, onCells]
      · simp [putCells, r3]
      · rw [hfl]
        have : (cc d'.toList).length = es.length * 8 := by rw [cc_len, hlen]
        rw [← this]
        exact take_put cur _ (by rw [this, r3]; exact Nat.mul_le_mul_right 8 r1)
  · refine ⟨rfl, rfl, rfl, ?_, fun k hk hne => ?_⟩
    · unfold sortWorldK; simp [putRowK, putRow, mapBlock, Sort.ahead]
    · unfold sortWorldK
      rw [heap_grow_old _ _ (by simpa [putRowK, putRow, mapBlock, Sort.ahead] using hk)]
      have : g ≠ k := fun e => hne e.symm
      simp [putRowK, putRow, mapBlock, Sort.ahead, Array.getElem?_modify, this]
theorem flat_E [Inhabited En] (es : List En) : flatK En.vals 7 es.toArray = (ec es).toArray := by
  apply Array.ext_getElem?
  intro t
  unfold flatK
  by_cases ht : t < es.length * 7
  · obtain ⟨e, he⟩ : ∃ e, es[t / 7]? = some e := ⟨_, List.getElem?_eq_getElem (by omega)⟩
    have hg : (ec es)[t]? = (En.vals e)[t % 7]? := by
      rw [← ec_get es (t / 7) (t % 7) e he (by omega), show t / 7 * 7 + t % 7 = t by omega]
    have hl : t % 7 < (En.vals e).length := by show t % 7 < 7; omega
    have e1 : es.toArray[t / 7]! = e := by simp [he]
    simp only [Array.getElem?_map, List.getElem?_toArray, hg]
    rw [Array.getElem?_eq_getElem (by simpa using ht)]
    simp only [Option.map_some, Array.getElem_range, e1]
    rw [List.getElem?_eq_getElem hl, List.getElem!_eq_getElem?_getD, List.getElem?_eq_getElem hl]; rfl
  · rw [Array.getElem?_eq_none (by simpa using Nat.le_of_not_lt ht), List.getElem?_toArray, List.getElem?_eq_none (by rw [ec_len]; omega)]
theorem sortE_p (g n cap base : Nat) (es : List En) (w : World) (h : w.ownsRow base 52 7 (.slice (some ⟨g, 0, none⟩) n cap) n (ec es)) (hn : es.length = n) (hs : n ≤ 10000000000000) :
    Calls Tryz.prog 65 #[.slice (some ⟨g, 0, none⟩) n cap, .func (.func 66) #[] #[]] w fun e w' => e = .returned (.tuple #[]) ∧ ∃ es' : List En, es'.Perm es ∧ (es'.Pairwise fun a b => ltOf ordN b a = false) ∧ w'.ownsRow base 52 7 (.slice (some ⟨g, 0, none⟩) n cap) n (ec es') ∧ Only (· = g) w w' := by
  subst hn
  have iE : Inhabited En := ⟨zeroEn⟩
  have eg : ∀ args w, (callFunc 66 args).run Tryz.prog w = .ok (.enter 66 args) w := enters_of Tryz.func66 (by kernel_rfl) rfl
  obtain ⟨hc, hf, hcap, hmx, hb, hg⟩ := owns_cells h
  have hH : HoldsK En.vals 7 w g 0 es.toArray := by
    unfold HoldsK
    rw [flat_E]
    intro j hj
    rw [Nat.zero_add]
    refine ⟨?_, hf j⟩
    have hj' : j < (ec es).length := by simpa using hj
    rw [hc j _ (List.getElem?_eq_getElem hj'), getElem!_pos _ j hj]; rfl
  have hcon := AnyQ.slices_SortFunc Tryz.sortE 7 Tryz.isAgg52 Tryz.sizeOf52 En.vals (fun _ => rfl) (fun x => enVals_one x) ordN ordN_swo 66 #[] g 0 cap es.toArray w eg (fun _ _ _ _ x y => nameC_p x y _) hH hg (by simp; omega)
  change Calls Tryz.prog 65 _ _ _ at hcon
  rw [List.size_toArray] at hcon
  refine hcon.mono ?_
  rintro e w' ⟨rfl, d', q, os, hp, hso, rfl⟩
  have hP : d'.toList.Perm es := perm_allG (by simpa using hp)
  refine ⟨rfl, d'.toList, hP, sorted_allG (by simpa using hp.1) (by simpa using hso), ?_, ?_⟩
  · have hlen : d'.toList.length = es.length := hP.length_eq
    have hfl : flatK En.vals 7 d' = (ec d'.toList).toArray := by have := flat_E d'.toList; simpa using this
    rcases h.2 with ⟨e1, _⟩ | ⟨g', cap', cur, e1, hg', hh, r1, r2, r3, r4⟩
    · cases e1
    · cases e1
      refine ⟨by rw [ec_len, hlen], .inr ⟨g, cap, putCells id 0 (flatK En.vals 7 d') cur, rfl, hg', ?_, r1, r2, ?_, ?_⟩⟩
      · unfold sortWorldK
        rw [heap_grow_old _ _ (by simpa [putRowK, putRow, mapBlock, Sort.ahead] using hg)]
        simp [putRowK, putRow, mapBlock, Sort.ahead, Array.getElem?_modify, hh, onCells]
      · simp [putCells, r3]
      · rw [hfl]
        have : (ec d'.toList).length = es.length * 7 := by rw [ec_len, hlen]
        rw [← this]
        exact take_put cur _ (by rw [this, r3]; exact Nat.mul_le_mul_right 7 r1)
  · refine ⟨rfl, rfl, rfl, ?_, fun k hk hne => ?_⟩
    · unfold sortWorldK; simp [putRowK, putRow, mapBlock, Sort.ahead]
    · unfold sortWorldK
      rw [heap_grow_old _ _ (by simpa [putRowK, putRow, mapBlock, Sort.ahead] using hk)]
      have : g ≠ k := fun e => hne e.symm
      simp [putRowK, putRow, mapBlock, Sort.ahead, Array.getElem?_modify, this]
end
end Go.Proofs.YtmndnjgbbpkidaaGreat
