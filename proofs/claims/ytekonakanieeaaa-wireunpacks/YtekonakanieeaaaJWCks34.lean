/- The document's own Unpack: notes of kind 1. -/
import Derived.Test.YtekonakanieeaaaJWCks33
namespace Go.Proofs.Ytekonakanieeaaa
section
open Go.RowKit Go.Lib
attribute [local go_sem ↓ high] loadN storeN

set_option maxRecDepth 20000 in
set_option maxHeartbeats 16000000 in
theorem unpd_1 (a0 : Option Addr) (n0 c0 : Nat) (l : List Int) (w : World) (hr : RC w (.slice a0 n0 c0) l) (hby : Byt l) (hlim : l.length ≤ 140737488351232) (S1 : St) (hk : octP (some l) = (1, S1)) : Calls Try.prog 12 #[.slice a0 n0 c0] w fun e w' => UnpR l w w' e := by
  obtain ⟨Bq, hBq⟩ : ∃ B, B = w.heap.size := ⟨_, rfl⟩
  obtain ⟨W, hW⟩ : ∃ W, w.alloc (.cells #[.int .i64 0, .int .i64 0, .int .i64 0, .int .i64 0, .int .i64 0, .int .i64 0, .string ⟨#[]⟩, .bool false, .int .i64 0, .int .i64 0, .int .i64 0, .string ⟨#[]⟩, .int .i64 0, .int .i64 0, .int .i64 0, .int .i64 0, .int .i64 0, .string ⟨#[]⟩, .int .i64 0, .string ⟨#[]⟩, .int .i64 0, .string ⟨#[]⟩] 48) = W := ⟨_, rfl⟩
  obtain ⟨W2, hW2⟩ : ∃ W2, W.alloc (.cells #[.slice a0 n0 c0, .bool true] 68) = W2 := ⟨_, rfl⟩
  obtain ⟨W3, hW3⟩ : ∃ W3, W2.alloc (.cells #[.int .i64 0, .int .i64 0, .int .i64 0, .int .i64 0, .int .i64 0, .int .i64 0, .string ⟨#[]⟩, .bool false, .int .i64 0, .int .i64 0, .int .i64 0, .string ⟨#[]⟩, .int .i64 0, .int .i64 0, .int .i64 0, .int .i64 0, .int .i64 0, .string ⟨#[]⟩, .int .i64 0, .string ⟨#[]⟩, .int .i64 0, .string ⟨#[]⟩] 48) = W3 := ⟨_, rfl⟩
  have b1 := boxB hW
  have b2 := boxB hW2
  have b3 := boxB hW3
  have hs1 : w.heap.size < W.heap.size := by rw [← hW]; simp
  have hs2 : W.heap.size < W2.heap.size := by rw [← hW2]; simp
  have hs3 : W2.heap.size < W3.heap.size := by rw [← hW3]; simp
  have HL : Hid (w.heap.size < W.heap.size ∧ W.heap.size < W2.heap.size ∧ W2.heap.size < W3.heap.size) := ⟨hs1, hs2, hs3⟩
  have HI : Hid (W.heap.size ≠ W2.heap.size ∧ w.heap.size ≤ W.heap.size ∧ w.heap.size ≤ W2.heap.size) := ⟨by omega, by omega, by omega⟩
  have hB3 := chainB b1.2 (chainB b2.2 b3.2)
  have G0 : Hid (OG Bq w W3 W3 W.heap.size W2.heap.size 48 (.slice a0 n0 c0) true (some l) #[.int .i64 0, .int .i64 0, .int .i64 0, .int .i64 0, .int .i64 0, .int .i64 0, .string ⟨#[]⟩, .bool false, .int .i64 0, .int .i64 0, .int .i64 0, .string ⟨#[]⟩, .int .i64 0, .int .i64 0, .int .i64 0, .int .i64 0, .int .i64 0, .string ⟨#[]⟩, .int .i64 0, .string ⟨#[]⟩, .int .i64 0, .string ⟨#[]⟩]) := ⟨hkeep b2.1 b3.2, b3.1, hB3, ⟨l, hr.below hB3, ⟨hby, by rw [hBq]; exact rc_low hr⟩, hlim, .inl ⟨rfl, rfl⟩⟩, Only.refl _ _⟩
  have HR : Hid (W3.heap[w.heap.size]? = some (.cells #[.int .i64 0, .int .i64 0, .int .i64 0, .int .i64 0, .int .i64 0, .int .i64 0, .string ⟨#[]⟩, .bool false, .int .i64 0, .int .i64 0, .int .i64 0, .string ⟨#[]⟩, .int .i64 0, .int .i64 0, .int .i64 0, .int .i64 0, .int .i64 0, .string ⟨#[]⟩, .int .i64 0, .string ⟨#[]⟩, .int .i64 0, .string ⟨#[]⟩] 48 (0, 0)) ∧ RC w (.slice a0 n0 c0) l ∧ l.length ≤ 140737488351232) := ⟨hkeep b1.1 (chainB b2.2 b3.2), hr, hlim⟩
  clear b1 b2 b3 hs1 hs2 hs3 hB3 hr hby hlim hBq
  have H1 : Hid (∀ W a n c k, RI Bq W (.slice a n c) k (some l) → Calls Try.prog 28 #[.agg #[.slice a n c, .bool k]] W fun e w' => ∃ a1 m1 c1 k1, e = .returned (.tuple #[.int .i64 1, .agg #[.slice a1 m1 c1, .bool k1]]) ∧ Hid (RI Bq w' (.slice a1 m1 c1) k1 S1) ∧ Below W.heap.size W w') := fun W a n c k hr => (byte_d hr).mono fun e w' ⟨b1, ok1, he, hr, hb⟩ => by
    obtain ⟨a1, m1, c1, rfl⟩ := hr.out.form
    rw [hk] at he hr
    exact ⟨a1, m1, c1, ok1, he, hr, hb⟩
  obtain ⟨D2, hD2⟩ : ∃ D, numF 6 1 0 S1 = D := ⟨_, rfl⟩
  have H2 : Hid (∀ W a n c k, RI Bq W (.slice a n c) k S1 → Calls Try.prog 29 #[.agg #[.slice a n c, .bool k]] W fun e w' => ∃ a1 m1 c1 k1, e = .returned (.tuple #[.int .i64 D2.1, .agg #[.slice a1 m1 c1, .bool k1]]) ∧ Hid (RI Bq w' (.slice a1 m1 c1) k1 D2.2) ∧ Below W.heap.size W w') := fun W a n c k hr => (num_d hr).mono fun e w' ⟨b1, ok1, he, hr, hb⟩ => by
    obtain ⟨a1, m1, c1, rfl⟩ := hr.out.form
    rw [hD2] at he hr
    exact ⟨a1, m1, c1, ok1, he, hr, hb⟩
  obtain ⟨nt, hnt⟩ : ∃ n : Nt, n = ⟨1, D2.1, 0, 0, 0, nilEn, 0, 0, 0, zeroOp⟩ := ⟨_, rfl⟩
  have HN : Hid (noteF (some l) = (nt, D2.2)) := by
    show _ = _
    rw [hnt]
    unfold noteF
    rw [hk]
    show ntF 1 S1 = _
    unfold ntF
    rw [if_pos rfl, hD2]
    rfl
  clear hk hD2
  go_enter Try.func12, Try.ntmps12
  go_upto_region 1 with fail
  clear hW
  go_upto_region 2 with fail
  clear hW2
  go_upto_region 3 with fail
  clear hW3
  obtain ⟨x0, x1, -⟩ := G0.out.cells
  go_upto_region 6 with (go_at_call 28; refine (H1.out _ _ _ _ _ G0.out.ri).mono ?_; rintro e u1 ⟨a1, n1, c1, k1, rfl, hr, hb⟩; clear x0 x1; have PB := G0.out.below hb; obtain ⟨-, -, -, qo, qf⟩ := PB.cells; have q0 : u1.cell? ⟨W2.heap.size, 0, none⟩ = some (.int .i64 0) := qo 0; have qg0 := qf 0; clear qo qf; have ow0 : (u1.setCell ⟨W2.heap.size, 0, none⟩ (.int .i64 1)).heap[W2.heap.size]? = some (.cells #[.int .i64 1, .int .i64 0, .int .i64 0, .int .i64 0, .int .i64 0, .int .i64 0, .string ⟨#[]⟩, .bool false, .int .i64 0, .int .i64 0, .int .i64 0, .string ⟨#[]⟩, .int .i64 0, .int .i64 0, .int .i64 0, .int .i64 0, .int .i64 0, .string ⟨#[]⟩, .int .i64 0, .string ⟨#[]⟩, .int .i64 0, .string ⟨#[]⟩] 48 (0, 0)) := (heap_set PB.own 0 _).trans rfl; have on0 : Only (· = W2.heap.size) u1 (u1.setCell ⟨W2.heap.size, 0, none⟩ (.int .i64 1)) := only1 _ _ _ _; obtain ⟨Y1, hY⟩ : ∃ Y, (u1.setCell ⟨W2.heap.size, 0, none⟩ (.int .i64 1)) = Y := ⟨_, rfl⟩; rw [hY] at ow0 on0; obtain ⟨y0, y1, yf⟩ := PB.put HI.out.1 on0; have yg0 := yf 0; have yg1 := yf 1; clear yf; obtain ⟨Z1, hZ⟩ : ∃ Z, (Y1.setCell ⟨W.heap.size, 0, none⟩ (.slice a1 n1 c1)).setCell ⟨W.heap.size, 1, none⟩ (.bool k1) = Z := ⟨_, rfl⟩; have G1 : Hid (OG Bq w W3 Z1 W.heap.size W2.heap.size 48 (.slice a1 n1 c1) k1 S1 #[.int .i64 1, .int .i64 0, .int .i64 0, .int .i64 0, .int .i64 0, .int .i64 0, .string ⟨#[]⟩, .bool false, .int .i64 0, .int .i64 0, .int .i64 0, .string ⟨#[]⟩, .int .i64 0, .int .i64 0, .int .i64 0, .int .i64 0, .int .i64 0, .string ⟨#[]⟩, .int .i64 0, .string ⟨#[]⟩, .int .i64 0, .string ⟨#[]⟩]) := G0.out.step hb hr.out on0 ow0 hZ HI.out.1 HI.out.2.1 HI.out.2.2 (no_u8 (by simp)); clear PB hr hb on0 ow0; obtain ⟨x0, x1, -, xo, -⟩ := G1.out.cells; have xk : Z1.cell? ⟨W2.heap.size, 0, none⟩ = some (.int .i64 1) := xo 0; clear xo)
  clear hY hZ y0 y1 yg0 yg1 q0 qg0
  go_upto_region 21 with (go_at_call 29; refine (H2.out _ _ _ _ _ G1.out.ri).mono ?_; rintro e u2 ⟨a2, n2, c2, k2, rfl, hr, hb⟩; clear x0 x1; have PB := G1.out.below hb; obtain ⟨-, -, -, qo, qf⟩ := PB.cells; have q0 : u2.cell? ⟨W2.heap.size, 1, none⟩ = some (.int .i64 0) := qo 1; have qg0 := qf 1; clear qo qf; have ow0 : (u2.setCell ⟨W2.heap.size, 1, none⟩ (.int .i64 D2.1)).heap[W2.heap.size]? = some (.cells #[.int .i64 1, .int .i64 D2.1, .int .i64 0, .int .i64 0, .int .i64 0, .int .i64 0, .string ⟨#[]⟩, .bool false, .int .i64 0, .int .i64 0, .int .i64 0, .string ⟨#[]⟩, .int .i64 0, .int .i64 0, .int .i64 0, .int .i64 0, .int .i64 0, .string ⟨#[]⟩, .int .i64 0, .string ⟨#[]⟩, .int .i64 0, .string ⟨#[]⟩] 48 (0, 0)) := (heap_set PB.own 1 _).trans rfl; have on0 : Only (· = W2.heap.size) u2 (u2.setCell ⟨W2.heap.size, 1, none⟩ (.int .i64 D2.1)) := only1 _ _ _ _; obtain ⟨Y2, hY⟩ : ∃ Y, (u2.setCell ⟨W2.heap.size, 1, none⟩ (.int .i64 D2.1)) = Y := ⟨_, rfl⟩; rw [hY] at ow0 on0; obtain ⟨y0, y1, yf⟩ := PB.put HI.out.1 on0; have yg0 := yf 0; have yg1 := yf 1; clear yf; obtain ⟨Z2, hZ⟩ : ∃ Z, (Y2.setCell ⟨W.heap.size, 0, none⟩ (.slice a2 n2 c2)).setCell ⟨W.heap.size, 1, none⟩ (.bool k2) = Z := ⟨_, rfl⟩; have G2 : Hid (OG Bq w W3 Z2 W.heap.size W2.heap.size 48 (.slice a2 n2 c2) k2 D2.2 #[.int .i64 1, .int .i64 D2.1, .int .i64 0, .int .i64 0, .int .i64 0, .int .i64 0, .string ⟨#[]⟩, .bool false, .int .i64 0, .int .i64 0, .int .i64 0, .string ⟨#[]⟩, .int .i64 0, .int .i64 0, .int .i64 0, .int .i64 0, .int .i64 0, .string ⟨#[]⟩, .int .i64 0, .string ⟨#[]⟩, .int .i64 0, .string ⟨#[]⟩]) := G1.out.step hb hr.out on0 ow0 hZ HI.out.1 HI.out.2.1 HI.out.2.2 (no_u8 (by simp)); clear PB hr hb on0 ow0; obtain ⟨x0, x1, -, xo, -⟩ := G2.out.cells; have xk : Z2.cell? ⟨W2.heap.size, 0, none⟩ = some (.int .i64 1) := xo 0; clear xo)
  clear hY hZ y0 y1 yg0 yg1 q0 qg0
  go_upto_region 23 with fail
  have hnA : nt.arr = #[.int .i64 1, .int .i64 D2.1, .int .i64 0, .int .i64 0, .int .i64 0, .int .i64 0, .string ⟨#[]⟩, .bool false, .int .i64 0, .int .i64 0, .int .i64 0, .string ⟨#[]⟩, .int .i64 0, .int .i64 0, .int .i64 0, .int .i64 0, .int .i64 0, .string ⟨#[]⟩, .int .i64 0, .string ⟨#[]⟩, .int .i64 0, .string ⟨#[]⟩] := by rw [hnt]; rfl
  have hsz : nt.arr.size = 22 := rfl
  have hone : nt.arr.all (·.oneCell') = true := by unfold Nt.arr; simp [Value.oneCell']
  obtain ⟨A, hA⟩ : ∃ x, nt.arr = x := ⟨_, rfl⟩
  have G : Hid (OG Bq w W3 Z2 W.heap.size W2.heap.size 48 (.slice a2 n2 c2) k2 D2.2 A) := by rw [← hA, hnA]; exact G2.out
  have HPk : Hid (Calls Try.prog 32 #[.agg A] Z2 fun e w' => ∃ aC nC cC E, e = .returned (.tuple #[.slice aC nC cC, .int .i64 E]) ∧ Hid ((plainN nt = true ∧ E = 0 ∧ RB w' (.slice aC nC cC) (noteB nt)) ∨ (plainN nt = false ∧ E = 50)) ∧ Below Z2.heap.size Z2 w') := by
    rw [← hA]
    cases hP : plainN nt with
    | true => exact (packd_yes nt _ ((plainN_iff _).1 hP)).mono fun e w' ⟨a, c, he, ho, hb⟩ => ⟨a, _, c, 0, he, .inl ⟨rfl, rfl, ho.rb⟩, hb⟩
    | false => exact (packd_no nt _ hP).mono fun e w' ⟨he, hb⟩ => ⟨_, _, _, _, he, .inr ⟨rfl, rfl⟩, hb⟩
  have HZ : Hid (A.size = 22 ∧ A.all (·.oneCell') = true ∧ nt.arr = A) := ⟨by rw [← hA]; exact hsz, by rw [← hA]; exact hone, hA⟩
  have nl := noteS_of G.out.own HZ.out.1
  clear x0 x1 xk hnA hsz hone hA hnt
  go_upto_region 24 with (go_at_call 32; refine HPk.out.mono ?_; rintro e w9 ⟨aC, nC, cC, E, rfl, hP9, hb9⟩)
  clear nl HPk
  have HT : Hid (OG Bq w W3 w9 W.heap.size W2.heap.size 48 (.slice a2 n2 c2) k2 D2.2 A) := G.out.below hb9
  obtain ⟨x0, x1, -⟩ := HT.out.cells
  have HB9 : Hid (Below w.heap.size w w9) := HT.out.bel
  clear hb9
  go_cut [120] from 102 to 119 (fun x wx => ∃ B, x = .bool B ∧ Hid (B = true ↔ ¬ (D2.2 = some [] ∧ plainN nt = true ∧ l = noteB nt)) ∧ Below w9.heap.size w9 wx)
  case first =>
    obtain ⟨l', ⟨a', c', e', hcap', -⟩, -, hlim', hs⟩ := HT.out.ri
    injection e' with e1 e2 e3
    rcases hs with ⟨hkk, hs⟩ | ⟨hkk, hs⟩
    · subst hkk
      have HS : Hid (D2.2 = some l') := hs
      by_cases hm : n2 = 0
      · have hl0 : l' = [] := List.length_eq_zero_iff.1 (by omega)
        have HS0 : Hid (D2.2 = some []) := by show _ = _; rw [hs, hl0]
        have HM : Hid (n2 = 0) := hm
        clear hs e1 e2 e3 hcap' hlim'
        subst hm
        rcases hP9.out with ⟨hp, hE, hrb⟩ | ⟨hp, hE⟩
        · subst hE
          obtain ⟨D, hD⟩ : ∃ D, decide (l = noteB nt) = D := ⟨_, rfl⟩
          have HSm : Hid (Calls Try.prog 23 #[.slice a0 n0 c0, .slice aC nC cC] w9 fun e w' => e = .returned (.bool D) ∧ Below w9.heap.size w9 w') := by
            have := same6_any (.slice a0 n0 c0) (.slice aC nC cC) l (noteB nt) w9 (HR.out.2.1.below HB9.out).rb hrb HR.out.2.2 (Nat.le_trans (noteB_len ((plainN_iff _).1 hp)) (by omega))
            rw [hD] at this
            exact this
          have HD : Hid (D = true ↔ l = noteB nt) := by rw [← hD]; exact decide_eq_true_iff
          have HPp : Hid (plainN nt = true) := hp
          clear hD hp hrb hl0
          go_wp2_with (go_at_call 23; refine HSm.out.mono ?_; rintro e w10 ⟨rfl, hb10⟩)
          go_meet
          refine ⟨!D, rfl, ⟨fun h hh => ?_, fun h => ?_⟩, hb10⟩
          · rw [HD.out.2 hh.2.2] at h; cases h
          · cases D with
            | false => rfl
            | true => exact absurd ⟨HS0.out, HPp.out, HD.out.1 rfl⟩ h
        · subst hE
          have HPp : Hid (plainN nt = false) := hp
          clear hp hl0
          go_wp2_with fail
          go_meet
          exact ⟨true, rfl, ⟨fun _ h => (by rw [HPp.out] at h; cases h.2.1), fun _ => rfl⟩, Below.refl _ _⟩
      · have hmi : (0 : Int) < (n2 : Int) := by omega
        have hmn : 0 < n2 := by omega
        have HS0 : Hid (D2.2 ≠ some []) := fun h => by
          rw [hs] at h
          injection h with h
          rw [h] at e2
          exact hm e2
        clear hs hm e1 e2 e3 hcap' hlim'
        go_wp2_with fail
        go_meet
        exact ⟨true, rfl, ⟨fun _ h => HS0.out h.1, fun _ => rfl⟩, Below.refl _ _⟩
    · subst hkk
      have HS0 : Hid (D2.2 = none) := hs
      clear hs e1 e2 e3 hcap' hlim'
      go_wp2_with fail
      go_meet
      exact ⟨true, rfl, ⟨fun _ h => (by have := h.1; rw [HS0.out] at this; cases this), fun _ => rfl⟩, Below.refl _ _⟩
  case rest =>
    obtain ⟨B, rfl, HBq, hbc⟩ := hcut
    have HC : Hid (OG Bq w W3 wc W.heap.size W2.heap.size 48 (.slice a2 n2 c2) k2 D2.2 A) := HT.out.below hbc
    have hres : wc.heap[w.heap.size]? = some (.cells #[.int .i64 0, .int .i64 0, .int .i64 0, .int .i64 0, .int .i64 0, .int .i64 0, .string ⟨#[]⟩, .bool false, .int .i64 0, .int .i64 0, .int .i64 0, .string ⟨#[]⟩, .int .i64 0, .int .i64 0, .int .i64 0, .int .i64 0, .int .i64 0, .string ⟨#[]⟩, .int .i64 0, .string ⟨#[]⟩, .int .i64 0, .string ⟨#[]⟩] 48 (0, 0)) := (HC.out.only.block _ (Array.getElem?_eq_some_iff.1 HR.out.1).1 (by have := HL.out; omega)).trans HR.out.1
    clear x0 x1 hbc HT
    cases B with
    | true =>
      obtain ⟨W8, hW8⟩ : ∃ W, wc.setRow w.heap.size #[.int .i64 0, .int .i64 0, .int .i64 0, .int .i64 0, .int .i64 0, .int .i64 0, .string ⟨#[]⟩, .bool false, .int .i64 0, .int .i64 0, .int .i64 0, .string ⟨#[]⟩, .int .i64 0, .int .i64 0, .int .i64 0, .int .i64 0, .int .i64 0, .string ⟨#[]⟩, .int .i64 0, .string ⟨#[]⟩, .int .i64 0, .string ⟨#[]⟩] = W := ⟨_, rfl⟩
      have nt2 := noteT_of hres rfl rfl (by simp [Value.oneCell']) hW8
      have HF : Hid (W8.heap[w.heap.size]? = some (.cells #[.int .i64 0, .int .i64 0, .int .i64 0, .int .i64 0, .int .i64 0, .int .i64 0, .string ⟨#[]⟩, .bool false, .int .i64 0, .int .i64 0, .int .i64 0, .string ⟨#[]⟩, .int .i64 0, .int .i64 0, .int .i64 0, .int .i64 0, .int .i64 0, .string ⟨#[]⟩, .int .i64 0, .string ⟨#[]⟩, .int .i64 0, .string ⟨#[]⟩] 48 (0, 0)) ∧ Below w.heap.size w W8) := by
        rw [← hW8]
        exact ⟨setRow_heap _ _ _ _ _ _ hres, below_setRow HC.out.bel (Nat.le_refl _) _⟩
      clear hW8 hres
      go_wp2
      refine bodyPost_ret (ret_note2 rfl _ _ w.heap.size rfl HF.out.1 rfl) rfl ?_
      refine unpd_no HN.out ?_ rfl HF.out.2
      have hq := HBq.out.1 (by trivial)
      by_cases q1 : D2.2 = some []
      · by_cases q2 : plainN nt = true
        · exact .inr (.inr fun q3 => hq ⟨q1, q2, q3⟩)
        · exact .inr (.inl (by simpa using q2))
      · exact .inl q1
    | false =>
      have hq : D2.2 = some [] ∧ plainN nt = true ∧ l = noteB nt := Classical.byContradiction fun h => by have := HBq.out.2 h; cases this
      have HQ : Hid (plainN nt = true ∧ l = noteB nt) := hq.2
      obtain ⟨W8, hW8⟩ : ∃ W, wc.setRow w.heap.size A = W := ⟨_, rfl⟩
      have nl2 := noteS_of HC.out.own HZ.out.1
      have nt2 := noteT_of hres rfl HZ.out.1 HZ.out.2.1 hW8
      have HF : Hid (W8.heap[w.heap.size]? = some (.cells A 48 (0, 0)) ∧ Below w.heap.size w W8) := by
        rw [← hW8]
        exact ⟨setRow_heap _ _ _ _ _ _ hres, below_setRow HC.out.bel (Nat.le_refl _) _⟩
      clear hW8 hres hq
      go_wp2
      refine bodyPost_ret (ret_note2 rfl _ _ w.heap.size rfl HF.out.1 HZ.out.1) rfl ?_
      exact unpd_yes HQ.out.1 HQ.out.2 (by rw [HZ.out.2.2]; rfl) HF.out.2
end
end Go.Proofs.Ytekonakanieeaaa
