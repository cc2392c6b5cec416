/- The reader in memory: text, the walk. -/
import Derived.Test.YtihjhaafmdobmaaWrU
namespace Go.Proofs.Ytihjhaafmdobmaa
open Go.RowKit Go.Lib

theorem cvt_cells {W : World} {ad : Option Addr} {l : List Int} (h : l = [] ∨ ∃ g off, ad = some ⟨g, off, none⟩ ∧ g < W.heap.size ∧ ∀ i x, l[i]? = some x → W.cell? ⟨g, off + i, none⟩ = some (.int .u8 x)) (a n : Nat) : ((l.drop a).take n) = [] ∨ ∃ g off, ad.map (·.add (a * 1)) = some ⟨g, off, none⟩ ∧ ∀ i y, ((l.drop a).take n)[i]? = some y → W.cell? ⟨g, off + i, none⟩ = some (.int .u8 y) := by
  rcases h with rfl | ⟨g, off, rfl, _, hc⟩
  · exact .inl (by simp)
  · refine .inr ⟨g, off + a * 1, by simp only [Option.map_some, add_plain'], fun i y hy => ?_⟩
    rw [List.getElem?_take] at hy
    split at hy
    · rw [List.getElem?_drop] at hy
      have := hc (a + i) y hy
      rw [Nat.mul_one, Nat.add_assoc]; exact this
    · cases hy
set_option maxRecDepth 20000 in
set_option maxHeartbeats 8000000 in
theorem text_r {w : World} {r : Nat} {v : Value} {l : List Int} {s : St} (h : Rg w r v l s) : Calls Try.prog 159 #[.pointer (some ⟨r, 0, none⟩)] w fun e w' => RdR w r v l (textP s).2 (.string (textP s).1) e w' := by
  have hlft := h.lft
  have hin := numP_in hlft
  have HNm : Hid (Calls Try.prog 119 #[.pointer (some ⟨r, 0, none⟩)] w fun e w' => RdR w r v l (numP s).2 (.int .i64 (numP s).1) e w') := number_r h
  have HT : Hid (∀ w1, Rg w1 r v l (numP s).2 → ∃ a st, Txt w1 r v l (numP s).2 a (numP s).1.toNat st (textP s)) := fun w1 h1 => txt_of h1 hlft
  obtain ⟨T, hT⟩ : ∃ T, textP s = T := ⟨_, rfl⟩
  obtain ⟨s1, hs1⟩ : ∃ T, (numP s).2 = T := ⟨_, rfl⟩
  obtain ⟨n, hn⟩ : ∃ n : Nat, (numP s).1 = (n : Int) := ⟨(numP s).1.toNat, by omega⟩
  rw [hn] at HNm HT hin
  rw [hs1] at HNm HT
  rw [hT] at HT ⊢
  simp only [Int.toNat_natCast] at HT
  obtain ⟨ad, cap, rfl, hcap, hcells⟩ : RC w v l := by obtain ⟨a, st, h⟩ := h; exact h.rb
  have hlim : l.length ≤ 140737488355328 := by obtain ⟨a, st, h⟩ := h; exact h.lim
  obtain ⟨len, hlen⟩ : ∃ x, l.length = x := ⟨_, rfl⟩
  rw [hlen] at hcap hlim HNm HT ⊢
  have HL : Hid (l.length = len) := hlen
  clear h hlft hT hs1 hn hlen hcells
  go_enter Try.func159, Try.ntmps159
  go_wp2
  refine wp_scope_once 0 (by rfl) ?_
  go_upto_region 2 with (go_at_call 119; refine HNm.out.mono ?_; rintro e w1 ⟨rfl, h1⟩)
  obtain ⟨a, st, ht⟩ := HT.out w1 h1.out.1
  have HX : Hid (Txt w1 r (.slice ad len cap) l s1 a n st T ∧ Only (· = r) w w1) := ⟨ht, h1.out.2⟩
  obtain ⟨c0, c1, c2, cf⟩ := ht.is.cells
  have hale : a ≤ len := by
    have hl := HL.out
    rcases ht.is.state with ⟨_, _, e⟩ | ⟨_, _, e⟩ <;> omega
  have hsub : IntKind.i64.wrap ((len : Int) - (a : Int)) = (len : Int) - (a : Int) := IntWalk.i64_in _ (by omega)
  clear ht h1 HNm HT
  by_cases hok : n ≤ 96 ∧ a + n ≤ len
  · have b1 : decide ((96 : Int) < (n : Int)) = false := decide_eq_false (by omega)
    have b1' : ¬ (96 : Int) < (n : Int) := by omega
    have b2 : ¬ (len : Int) - (a : Int) < (n : Int) := by omega
    have hadd : IntKind.i64.wrap ((a : Int) + (n : Int)) = (a : Int) + (n : Int) := IntWalk.i64_in _ (by omega)
    go_upto_region 5 with fail
    obtain ⟨W2, hW2⟩ : ∃ W2, w1.setCell ⟨r, 1, none⟩ (.int .i64 ((a : Int) + (n : Int))) = W2 := ⟨_, rfl⟩
    have hO : Only (· = r) w1 W2 := by rw [← hW2]; exact only1 w1 r 1 _
    have hh : W2.heap[r]? = some (.cells #[.slice ad len cap, .int .i64 ((a : Int) + (n : Int)), .bool st] 120 (0, 0)) := by rw [← hW2]; exact (heap_set HX.out.1.is.head 1 _).trans rfl
    have e0 := cell_of hh 0
    have e1 := cell_of hh 1
    simp at e0 e1
    rw [hW2]
    have hrb : RC W2 (.slice ad len cap) l := HX.out.1.is.rb.only hO HX.out.1.is.off
    have HF : Hid (Only (· = r) w W2 ∧ Rg W2 r (.slice ad len cap) l T.2 ∧ T.1 = strOfNums ((l.drop a).take n)) := by
      have hy := HX.out.1.yes hok.1 (by rw [HL.out]; exact hok.2)
      exact ⟨HX.out.2.trans hO, hy.2 W2 HX.out.1.is (by rw [hh]; simp) hO, hy.1⟩
    have hlenT : ((l.drop a).take n).length = n := by rw [List.length_take, List.length_drop, HL.out]; omega
    have f0 : (0 : Int) ≤ (a : Int) := by omega
    have f1 : (a : Int) ≤ (a : Int) + (n : Int) := by omega
    have f2 : (a : Int) + (n : Int) ≤ (cap : Int) := by omega
    have f3 : ((a : Int) + (n : Int)).toNat = a + n := by omega
    have f4 : a + n - a = n := by omega
    clear hW2 hO hh c0 c1 c2 cf
    have f5 : (a : Int).toNat = a := by omega
    have hcv : ∀ q, (convert 53 9 (.slice (if cap = a then ad else Option.map (fun x => x.add a) ad) n (cap - a))).run Try.prog (W2.drewN q) = .ok (.string T.1) (W2.drewN q) := by
      intro q
      have hcells : l = [] ∨ ∃ g off, ad = some ⟨g, off, none⟩ ∧ g < (W2.drewN q).heap.size ∧ ∀ i x, l[i]? = some x → (W2.drewN q).cell? ⟨g, off + i, none⟩ = some (.int .u8 x) := by
        obtain ⟨a', cap', e, _, hc⟩ := hrb
        cases e
        exact hc
      split
      · rename_i hca
        have h0 : (l.drop a).take n = [] := List.length_eq_zero_iff.1 (by rw [hlenT]; omega)
        have := cvt_run (W := W2.drewN q) (x := ad) (c := cap - a) (m := (l.drop a).take n) (.inl h0)
        rw [hlenT, ← HF.out.2.2] at this
        exact this
      · have := cvt_run (W := W2.drewN q) (c := cap - a) (cvt_cells (W := W2.drewN q) (l := l) (ad := ad) hcells a n)
        rw [hlenT, ← HF.out.2.2, Nat.mul_one] at this
        exact this
    obtain ⟨T1, hT1⟩ : ∃ X, T.1 = X := ⟨_, rfl⟩
    rw [hT1] at hcv
    have HT1 : Hid (T.1 = T1) := hT1
    clear hT1 hlenT hrb
    go_quiet (fail)
    obtain ⟨W3, hW3⟩ : ∃ W3, W2.drewN nq = W3 := ⟨_, rfl⟩
    have hb3 : Below W2.heap.size W2 W3 := by rw [← hW3]; exact below_drewN (Below.refl _ _) _
    rw [hW3]
    clear hW3 hcv
    go_wp2
    all_goals
      refine fwd_ret ?_
      go_ret
      exact ⟨by rw [HT1.out]; rfl, HF.out.2.1.below hb3, HF.out.1.trans (Only.of hb3)⟩
  · have HNo : Hid (T = (⟨#[]⟩, none)) := HX.out.1.no (by rw [HL.out]; exact hok)
    have HS : Hid (Calls Try.prog 157 #[.pointer (some ⟨r, 0, none⟩)] w1 fun e w' => e = .returned (.tuple #[]) ∧ Hid (Red w1 w' r (.slice ad len cap) l none)) := stop_r ⟨a, st, HX.out.1.is⟩
    by_cases h96 : 96 < n
    · have b1 : decide ((96 : Int) < (n : Int)) = true := decide_eq_true (by omega)
      have b1' : (96 : Int) < (n : Int) := by omega
      clear hok
      go_wp2
      go_step3
      refine fwd_goto (l := 0) ?_
      go_wp2_with (go_at_call 157; refine HS.out.mono ?_; rintro e w2 ⟨rfl, h2'⟩)
      rw [Exit.noGoto_ret]
      go_ret
      rw [HNo.out]
      exact ⟨rfl, h2'.out.1, HX.out.2.trans h2'.out.2⟩
    · have b1 : decide ((96 : Int) < (n : Int)) = false := decide_eq_false (by omega)
      have b1' : ¬ (96 : Int) < (n : Int) := by omega
      have b2 : (len : Int) - (a : Int) < (n : Int) := by omega
      clear hok
      go_wp2
      go_step3
      refine fwd_goto (l := 0) ?_
      go_wp2_with (go_at_call 157; refine HS.out.mono ?_; rintro e w2 ⟨rfl, h2'⟩)
      rw [Exit.noGoto_ret]
      go_ret
      rw [HNo.out]
      exact ⟨rfl, h2'.out.1, HX.out.2.trans h2'.out.2⟩
end Go.Proofs.Ytihjhaafmdobmaa
