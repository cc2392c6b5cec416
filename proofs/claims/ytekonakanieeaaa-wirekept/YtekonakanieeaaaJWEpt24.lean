/- The document's own reading of a message: kind 3. -/
import Derived.Test.YtekonakanieeaaaJWEpt20
namespace Go.Proofs.Ytekonakanieeaaa
section
open Go.RowKit Go.Lib
attribute [local go_sem high] run_store_complex

set_option maxRecDepth 20000 in
set_option maxHeartbeats 32000000 in
theorem said_3 (a0 : Option Addr) (n0 c0 : Nat) (l : List Int) (w : World) (hr : RC w (.slice a0 n0 c0) l) (hby : Byt l) (hlim : l.length ≤ 140737488351232) (S1 : St) (hk : octP (some l) = (3, S1)) : Calls Try.prog 22 #[.slice a0 n0 c0] w fun e w' => SaidR l w w' e := by
  obtain ⟨Bq, hBq⟩ : ∃ B, B = w.heap.size := ⟨_, rfl⟩
  obtain ⟨W, hW⟩ : ∃ W, w.alloc (.cells #[.int .i64 0, .int .i64 0, .int .i64 0, .int .i64 0, .complex .f64 0 0, .int .i64 0, .int .i64 0, .int .i64 0, .int .i64 0, .string ⟨#[]⟩, .int .i64 0, .string ⟨#[]⟩, .int .i64 0, .string ⟨#[]⟩, .slice none 0 0, .slice none 0 0] 30) = W := ⟨_, rfl⟩
  obtain ⟨W2, hW2⟩ : ∃ W2, W.alloc (.cells #[.slice none 0 0, .bool false] 68) = W2 := ⟨_, rfl⟩
  obtain ⟨W3, hW3⟩ : ∃ W3, W2.alloc (.cells #[.slice a0 n0 c0, .bool true] 68) = W3 := ⟨_, rfl⟩
  obtain ⟨W4, hW4⟩ : ∃ W4, W3.alloc (.cells #[.int .i64 0, .int .i64 0, .int .i64 0, .int .i64 0, .complex .f64 0 0, .int .i64 0, .int .i64 0, .int .i64 0, .int .i64 0, .string ⟨#[]⟩, .int .i64 0, .string ⟨#[]⟩, .int .i64 0, .string ⟨#[]⟩, .slice none 0 0, .slice none 0 0] 30) = W4 := ⟨_, rfl⟩
  have b1 := boxB hW
  have b2 := boxB hW2
  have b3 := boxB hW3
  have b4 := boxB hW4
  have hs1 : w.heap.size < W.heap.size := by rw [← hW]; simp
  have hs2 : W.heap.size < W2.heap.size := by rw [← hW2]; simp
  have hs3 : W2.heap.size < W3.heap.size := by rw [← hW3]; simp
  have hs4 : W3.heap.size < W4.heap.size := by rw [← hW4]; simp
  have HL : Hid (w.heap.size < W.heap.size ∧ W.heap.size < W2.heap.size ∧ W2.heap.size < W3.heap.size ∧ W3.heap.size < W4.heap.size ∧ Bq = w.heap.size) := ⟨hs1, hs2, hs3, hs4, hBq⟩
  have HI : Hid (W2.heap.size ≠ W3.heap.size ∧ w.heap.size ≤ W2.heap.size ∧ w.heap.size ≤ W3.heap.size) := ⟨by omega, by omega, by omega⟩
  have hB4 := chainB b1.2 (chainB b2.2 (chainB b3.2 b4.2))
  have G0 : Hid (OG Bq w W4 W4 W2.heap.size W3.heap.size 30 (.slice a0 n0 c0) true (some l) #[.int .i64 0, .int .i64 0, .int .i64 0, .int .i64 0, .complex .f64 0 0, .int .i64 0, .int .i64 0, .int .i64 0, .int .i64 0, .string ⟨#[]⟩, .int .i64 0, .string ⟨#[]⟩, .int .i64 0, .string ⟨#[]⟩, .slice none 0 0, .slice none 0 0]) := ⟨hkeep b3.1 b4.2, b4.1, hB4, ⟨l, hr.below hB4, ⟨hby, by rw [hBq]; exact rc_low hr⟩, hlim, .inl ⟨rfl, rfl⟩⟩, Only.refl _ _⟩
  have HR : Hid (W4.heap[w.heap.size]? = some (.cells #[.int .i64 0, .int .i64 0, .int .i64 0, .int .i64 0, .complex .f64 0 0, .int .i64 0, .int .i64 0, .int .i64 0, .int .i64 0, .string ⟨#[]⟩, .int .i64 0, .string ⟨#[]⟩, .int .i64 0, .string ⟨#[]⟩, .slice none 0 0, .slice none 0 0] 30 (0, 0)) ∧ W4.heap[W.heap.size]? = some (.cells #[.slice none 0 0, .bool false] 68 (0, 0))) := ⟨hkeep b1.1 (chainB b2.2 (chainB b3.2 b4.2)), hkeep b2.1 (chainB b3.2 b4.2)⟩
  clear b1 b2 b3 b4 hs1 hs2 hs3 hs4 hB4 hr hby hlim hBq
  have H1 : Hid (∀ W a n c k, RI Bq W (.slice a n c) k (some l) → Calls Try.prog 28 #[.agg #[.slice a n c, .bool k]] W fun e w' => ∃ a1 m1 c1 k1, e = .returned (.tuple #[.int .i64 3, .agg #[.slice a1 m1 c1, .bool k1]]) ∧ Hid (RI Bq w' (.slice a1 m1 c1) k1 S1) ∧ Below W.heap.size W w') := fun W a n c k hr => (byte_d hr).mono fun e w' ⟨b1, ok1, he, hr, hb⟩ => by
    obtain ⟨a1, m1, c1, rfl⟩ := hr.out.form
    rw [hk] at he hr
    exact ⟨a1, m1, c1, ok1, he, hr, hb⟩
  obtain ⟨D2, hD2⟩ : ∃ D, numF 6 1 0 S1 = D := ⟨_, rfl⟩
  have H2 : Hid (∀ W a n c k, RI Bq W (.slice a n c) k S1 → Calls Try.prog 29 #[.agg #[.slice a n c, .bool k]] W fun e w' => ∃ a1 m1 c1 k1, e = .returned (.tuple #[.int .i64 D2.1, .agg #[.slice a1 m1 c1, .bool k1]]) ∧ Hid (RI Bq w' (.slice a1 m1 c1) k1 D2.2) ∧ Below W.heap.size W w') := fun W a n c k hr => (num_d hr).mono fun e w' ⟨b1, ok1, he, hr, hb⟩ => by
    obtain ⟨a1, m1, c1, rfl⟩ := hr.out.form
    rw [hD2] at he hr
    exact ⟨a1, m1, c1, ok1, he, hr, hb⟩
  obtain ⟨D3, hD3⟩ : ∃ D, numF 6 1 0 D2.2 = D := ⟨_, rfl⟩
  have H3 : Hid (∀ W a n c k, RI Bq W (.slice a n c) k D2.2 → Calls Try.prog 29 #[.agg #[.slice a n c, .bool k]] W fun e w' => ∃ a1 m1 c1 k1, e = .returned (.tuple #[.int .i64 D3.1, .agg #[.slice a1 m1 c1, .bool k1]]) ∧ Hid (RI Bq w' (.slice a1 m1 c1) k1 D3.2) ∧ Below W.heap.size W w') := fun W a n c k hr => (num_d hr).mono fun e w' ⟨b1, ok1, he, hr, hb⟩ => by
    obtain ⟨a1, m1, c1, rfl⟩ := hr.out.form
    rw [hD3] at he hr
    exact ⟨a1, m1, c1, ok1, he, hr, hb⟩
  obtain ⟨D4, hD4⟩ : ∃ D, numF 6 1 0 D3.2 = D := ⟨_, rfl⟩
  have H4 : Hid (∀ W a n c k, RI Bq W (.slice a n c) k D3.2 → Calls Try.prog 29 #[.agg #[.slice a n c, .bool k]] W fun e w' => ∃ a1 m1 c1 k1, e = .returned (.tuple #[.int .i64 D4.1, .agg #[.slice a1 m1 c1, .bool k1]]) ∧ Hid (RI Bq w' (.slice a1 m1 c1) k1 D4.2) ∧ Below W.heap.size W w') := fun W a n c k hr => (num_d hr).mono fun e w' ⟨b1, ok1, he, hr, hb⟩ => by
    obtain ⟨a1, m1, c1, rfl⟩ := hr.out.form
    rw [hD4] at he hr
    exact ⟨a1, m1, c1, ok1, he, hr, hb⟩
  obtain ⟨D5, hD5⟩ : ∃ D, numF 6 1 0 D4.2 = D := ⟨_, rfl⟩
  have H5 : Hid (∀ W a n c k, RI Bq W (.slice a n c) k D4.2 → Calls Try.prog 29 #[.agg #[.slice a n c, .bool k]] W fun e w' => ∃ a1 m1 c1 k1, e = .returned (.tuple #[.int .i64 D5.1, .agg #[.slice a1 m1 c1, .bool k1]]) ∧ Hid (RI Bq w' (.slice a1 m1 c1) k1 D5.2) ∧ Below W.heap.size W w') := fun W a n c k hr => (num_d hr).mono fun e w' ⟨b1, ok1, he, hr, hb⟩ => by
    obtain ⟨a1, m1, c1, rfl⟩ := hr.out.form
    rw [hD5] at he hr
    exact ⟨a1, m1, c1, ok1, he, hr, hb⟩
  obtain ⟨D6, hD6⟩ : ∃ D, numF 6 1 0 D5.2 = D := ⟨_, rfl⟩
  have H6 : Hid (∀ W a n c k, RI Bq W (.slice a n c) k D5.2 → Calls Try.prog 29 #[.agg #[.slice a n c, .bool k]] W fun e w' => ∃ a1 m1 c1 k1, e = .returned (.tuple #[.int .i64 D6.1, .agg #[.slice a1 m1 c1, .bool k1]]) ∧ Hid (RI Bq w' (.slice a1 m1 c1) k1 D6.2) ∧ Below W.heap.size W w') := fun W a n c k hr => (num_d hr).mono fun e w' ⟨b1, ok1, he, hr, hb⟩ => by
    obtain ⟨a1, m1, c1, rfl⟩ := hr.out.form
    rw [hD6] at he hr
    exact ⟨a1, m1, c1, ok1, he, hr, hb⟩
  obtain ⟨D7, hD7⟩ : ∃ D, numF 6 1 0 D6.2 = D := ⟨_, rfl⟩
  have H7 : Hid (∀ W a n c k, RI Bq W (.slice a n c) k D6.2 → Calls Try.prog 29 #[.agg #[.slice a n c, .bool k]] W fun e w' => ∃ a1 m1 c1 k1, e = .returned (.tuple #[.int .i64 D7.1, .agg #[.slice a1 m1 c1, .bool k1]]) ∧ Hid (RI Bq w' (.slice a1 m1 c1) k1 D7.2) ∧ Below W.heap.size W w') := fun W a n c k hr => (num_d hr).mono fun e w' ⟨b1, ok1, he, hr, hb⟩ => by
    obtain ⟨a1, m1, c1, rfl⟩ := hr.out.form
    rw [hD7] at he hr
    exact ⟨a1, m1, c1, ok1, he, hr, hb⟩
  obtain ⟨D8, hD8⟩ : ∃ D, numF 6 1 0 D7.2 = D := ⟨_, rfl⟩
  have H8 : Hid (∀ W a n c k, RI Bq W (.slice a n c) k D7.2 → Calls Try.prog 29 #[.agg #[.slice a n c, .bool k]] W fun e w' => ∃ a1 m1 c1 k1, e = .returned (.tuple #[.int .i64 D8.1, .agg #[.slice a1 m1 c1, .bool k1]]) ∧ Hid (RI Bq w' (.slice a1 m1 c1) k1 D8.2) ∧ Below W.heap.size W w') := fun W a n c k hr => (num_d hr).mono fun e w' ⟨b1, ok1, he, hr, hb⟩ => by
    obtain ⟨a1, m1, c1, rfl⟩ := hr.out.form
    rw [hD8] at he hr
    exact ⟨a1, m1, c1, ok1, he, hr, hb⟩
  obtain ⟨D9, hD9⟩ : ∃ D, numF 6 1 0 D8.2 = D := ⟨_, rfl⟩
  have H9 : Hid (∀ W a n c k, RI Bq W (.slice a n c) k D8.2 → Calls Try.prog 29 #[.agg #[.slice a n c, .bool k]] W fun e w' => ∃ a1 m1 c1 k1, e = .returned (.tuple #[.int .i64 D9.1, .agg #[.slice a1 m1 c1, .bool k1]]) ∧ Hid (RI Bq w' (.slice a1 m1 c1) k1 D9.2) ∧ Below W.heap.size W w') := fun W a n c k hr => (num_d hr).mono fun e w' ⟨b1, ok1, he, hr, hb⟩ => by
    obtain ⟨a1, m1, c1, rfl⟩ := hr.out.form
    rw [hD9] at he hr
    exact ⟨a1, m1, c1, ok1, he, hr, hb⟩
  have hbo : bodyF 3 D8.2 = ((zeroOp, ([] : List En), (rdF keyF 49 D9.1 D9.2).1), (rdF keyF 49 D9.1 D9.2).2) := by unfold bodyF; rw [if_neg (by decide), if_neg (by decide), if_pos rfl, hD9]
  have HM : Hid (msgF (some l) = (⟨3, D2.1, D3.1, D4.1, D5.1, D6.1, D7.1, D8.1, zeroOp, [], (rdF keyF 49 D9.1 D9.2).1⟩, (rdF keyF 49 D9.1 D9.2).2)) := by
    show _ = _
    unfold msgF
    simp only [hk, hD2, hD3, hD4, hD5, hD6, hD7, hD8, hbo]
  clear hk hD2 hD3 hD4 hD5 hD6 hD7 hD8 hD9 hbo
  go_enter Try.func22, Try.ntmps22
  go_upto_region 1 with fail
  clear hW hW2
  go_upto_region 2 with fail
  clear hW3
  go_upto_region 3 with fail
  clear hW4
  obtain ⟨x0, x1, -⟩ := G0.out.cells
  go_upto_region 4 with (go_at_call 28; refine (H1.out _ _ _ _ _ G0.out.ri).mono ?_; rintro e u1 ⟨a1, n1, c1, k1, rfl, hr, hb⟩; clear x0 x1; have PB := G0.out.below hb; obtain ⟨-, -, -, qo, qf⟩ := PB.cells; have q0 : u1.cell? ⟨W3.heap.size, 0, none⟩ = some (.int .i64 0) := qo 0; have qg0 := qf 0; clear qo qf; have ow0 : (u1.setCell ⟨W3.heap.size, 0, none⟩ (.int .i64 3)).heap[W3.heap.size]? = some (.cells #[.int .i64 3, .int .i64 0, .int .i64 0, .int .i64 0, .complex .f64 0 0, .int .i64 0, .int .i64 0, .int .i64 0, .int .i64 0, .string ⟨#[]⟩, .int .i64 0, .string ⟨#[]⟩, .int .i64 0, .string ⟨#[]⟩, .slice none 0 0, .slice none 0 0] 30 (0, 0)) := (heap_set PB.own 0 _).trans rfl; have on0 : Only (· = W3.heap.size) u1 (u1.setCell ⟨W3.heap.size, 0, none⟩ (.int .i64 3)) := only1 _ _ _ _; obtain ⟨Y1, hY⟩ : ∃ Y, (u1.setCell ⟨W3.heap.size, 0, none⟩ (.int .i64 3)) = Y := ⟨_, rfl⟩; rw [hY] at ow0 on0; obtain ⟨y0, y1, yf⟩ := PB.put HI.out.1 on0; have yg0 := yf 0; have yg1 := yf 1; clear yf; obtain ⟨Z1, hZ⟩ : ∃ Z, (Y1.setCell ⟨W2.heap.size, 0, none⟩ (.slice a1 n1 c1)).setCell ⟨W2.heap.size, 1, none⟩ (.bool k1) = Z := ⟨_, rfl⟩; have G1 : Hid (OG Bq w W4 Z1 W2.heap.size W3.heap.size 30 (.slice a1 n1 c1) k1 S1 #[.int .i64 3, .int .i64 0, .int .i64 0, .int .i64 0, .complex .f64 0 0, .int .i64 0, .int .i64 0, .int .i64 0, .int .i64 0, .string ⟨#[]⟩, .int .i64 0, .string ⟨#[]⟩, .int .i64 0, .string ⟨#[]⟩, .slice none 0 0, .slice none 0 0]) := G0.out.step hb hr.out on0 ow0 hZ HI.out.1 HI.out.2.1 HI.out.2.2 (no_u8 (by simp)); clear PB hr hb on0 ow0)
  clear hY hZ y0 y1 yg0 yg1 q0 qg0
  obtain ⟨x0, x1, -, xo, xf⟩ := G1.out.cells
  clear xo xf
  go_upto_region 5 with (go_at_call 29; refine (H2.out _ _ _ _ _ G1.out.ri).mono ?_; rintro e u2 ⟨a2, n2, c2, k2, rfl, hr, hb⟩; clear x0 x1; have PB := G1.out.below hb; obtain ⟨-, -, -, qo, qf⟩ := PB.cells; have q0 : u2.cell? ⟨W3.heap.size, 1, none⟩ = some (.int .i64 0) := qo 1; have qg0 := qf 1; clear qo qf; have ow0 : (u2.setCell ⟨W3.heap.size, 1, none⟩ (.int .i64 D2.1)).heap[W3.heap.size]? = some (.cells #[.int .i64 3, .int .i64 D2.1, .int .i64 0, .int .i64 0, .complex .f64 0 0, .int .i64 0, .int .i64 0, .int .i64 0, .int .i64 0, .string ⟨#[]⟩, .int .i64 0, .string ⟨#[]⟩, .int .i64 0, .string ⟨#[]⟩, .slice none 0 0, .slice none 0 0] 30 (0, 0)) := (heap_set PB.own 1 _).trans rfl; have on0 : Only (· = W3.heap.size) u2 (u2.setCell ⟨W3.heap.size, 1, none⟩ (.int .i64 D2.1)) := only1 _ _ _ _; obtain ⟨Y2, hY⟩ : ∃ Y, (u2.setCell ⟨W3.heap.size, 1, none⟩ (.int .i64 D2.1)) = Y := ⟨_, rfl⟩; rw [hY] at ow0 on0; obtain ⟨y0, y1, yf⟩ := PB.put HI.out.1 on0; have yg0 := yf 0; have yg1 := yf 1; clear yf; obtain ⟨Z2, hZ⟩ : ∃ Z, (Y2.setCell ⟨W2.heap.size, 0, none⟩ (.slice a2 n2 c2)).setCell ⟨W2.heap.size, 1, none⟩ (.bool k2) = Z := ⟨_, rfl⟩; have G2 : Hid (OG Bq w W4 Z2 W2.heap.size W3.heap.size 30 (.slice a2 n2 c2) k2 D2.2 #[.int .i64 3, .int .i64 D2.1, .int .i64 0, .int .i64 0, .complex .f64 0 0, .int .i64 0, .int .i64 0, .int .i64 0, .int .i64 0, .string ⟨#[]⟩, .int .i64 0, .string ⟨#[]⟩, .int .i64 0, .string ⟨#[]⟩, .slice none 0 0, .slice none 0 0]) := G1.out.step hb hr.out on0 ow0 hZ HI.out.1 HI.out.2.1 HI.out.2.2 (no_u8 (by simp)); clear PB hr hb on0 ow0)
  clear hY hZ y0 y1 yg0 yg1 q0 qg0
  obtain ⟨x0, x1, -, xo, xf⟩ := G2.out.cells
  clear xo xf
  go_upto_region 6 with (go_at_call 29; refine (H3.out _ _ _ _ _ G2.out.ri).mono ?_; rintro e u3 ⟨a3, n3, c3, k3, rfl, hr, hb⟩; clear x0 x1; have PB := G2.out.below hb; obtain ⟨-, -, -, qo, qf⟩ := PB.cells; have q0 : u3.cell? ⟨W3.heap.size, 2, none⟩ = some (.int .i64 0) := qo 2; have qg0 := qf 2; clear qo qf; have ow0 : (u3.setCell ⟨W3.heap.size, 2, none⟩ (.int .i64 D3.1)).heap[W3.heap.size]? = some (.cells #[.int .i64 3, .int .i64 D2.1, .int .i64 D3.1, .int .i64 0, .complex .f64 0 0, .int .i64 0, .int .i64 0, .int .i64 0, .int .i64 0, .string ⟨#[]⟩, .int .i64 0, .string ⟨#[]⟩, .int .i64 0, .string ⟨#[]⟩, .slice none 0 0, .slice none 0 0] 30 (0, 0)) := (heap_set PB.own 2 _).trans rfl; have on0 : Only (· = W3.heap.size) u3 (u3.setCell ⟨W3.heap.size, 2, none⟩ (.int .i64 D3.1)) := only1 _ _ _ _; obtain ⟨Y3, hY⟩ : ∃ Y, (u3.setCell ⟨W3.heap.size, 2, none⟩ (.int .i64 D3.1)) = Y := ⟨_, rfl⟩; rw [hY] at ow0 on0; obtain ⟨y0, y1, yf⟩ := PB.put HI.out.1 on0; have yg0 := yf 0; have yg1 := yf 1; clear yf; obtain ⟨Z3, hZ⟩ : ∃ Z, (Y3.setCell ⟨W2.heap.size, 0, none⟩ (.slice a3 n3 c3)).setCell ⟨W2.heap.size, 1, none⟩ (.bool k3) = Z := ⟨_, rfl⟩; have G3 : Hid (OG Bq w W4 Z3 W2.heap.size W3.heap.size 30 (.slice a3 n3 c3) k3 D3.2 #[.int .i64 3, .int .i64 D2.1, .int .i64 D3.1, .int .i64 0, .complex .f64 0 0, .int .i64 0, .int .i64 0, .int .i64 0, .int .i64 0, .string ⟨#[]⟩, .int .i64 0, .string ⟨#[]⟩, .int .i64 0, .string ⟨#[]⟩, .slice none 0 0, .slice none 0 0]) := G2.out.step hb hr.out on0 ow0 hZ HI.out.1 HI.out.2.1 HI.out.2.2 (no_u8 (by simp)); clear PB hr hb on0 ow0)
  clear hY hZ y0 y1 yg0 yg1 q0 qg0
  obtain ⟨x0, x1, -, xo, xf⟩ := G3.out.cells
  clear xo xf
  go_upto_region 7 with (go_at_call 29; refine (H4.out _ _ _ _ _ G3.out.ri).mono ?_; rintro e u4 ⟨a4, n4, c4, k4, rfl, hr, hb⟩; clear x0 x1; have PB := G3.out.below hb; obtain ⟨-, -, -, qo, qf⟩ := PB.cells; have q0 : u4.cell? ⟨W3.heap.size, 3, none⟩ = some (.int .i64 0) := qo 3; have qg0 := qf 3; clear qo qf; have ow0 : (u4.setCell ⟨W3.heap.size, 3, none⟩ (.int .i64 D4.1)).heap[W3.heap.size]? = some (.cells #[.int .i64 3, .int .i64 D2.1, .int .i64 D3.1, .int .i64 D4.1, .complex .f64 0 0, .int .i64 0, .int .i64 0, .int .i64 0, .int .i64 0, .string ⟨#[]⟩, .int .i64 0, .string ⟨#[]⟩, .int .i64 0, .string ⟨#[]⟩, .slice none 0 0, .slice none 0 0] 30 (0, 0)) := (heap_set PB.own 3 _).trans rfl; have on0 : Only (· = W3.heap.size) u4 (u4.setCell ⟨W3.heap.size, 3, none⟩ (.int .i64 D4.1)) := only1 _ _ _ _; obtain ⟨Y4, hY⟩ : ∃ Y, (u4.setCell ⟨W3.heap.size, 3, none⟩ (.int .i64 D4.1)) = Y := ⟨_, rfl⟩; rw [hY] at ow0 on0; obtain ⟨y0, y1, yf⟩ := PB.put HI.out.1 on0; have yg0 := yf 0; have yg1 := yf 1; clear yf; obtain ⟨Z4, hZ⟩ : ∃ Z, (Y4.setCell ⟨W2.heap.size, 0, none⟩ (.slice a4 n4 c4)).setCell ⟨W2.heap.size, 1, none⟩ (.bool k4) = Z := ⟨_, rfl⟩; have G4 : Hid (OG Bq w W4 Z4 W2.heap.size W3.heap.size 30 (.slice a4 n4 c4) k4 D4.2 #[.int .i64 3, .int .i64 D2.1, .int .i64 D3.1, .int .i64 D4.1, .complex .f64 0 0, .int .i64 0, .int .i64 0, .int .i64 0, .int .i64 0, .string ⟨#[]⟩, .int .i64 0, .string ⟨#[]⟩, .int .i64 0, .string ⟨#[]⟩, .slice none 0 0, .slice none 0 0]) := G3.out.step hb hr.out on0 ow0 hZ HI.out.1 HI.out.2.1 HI.out.2.2 (no_u8 (by simp)); clear PB hr hb on0 ow0)
  clear hY hZ y0 y1 yg0 yg1 q0 qg0
  obtain ⟨x0, x1, -, xo, xf⟩ := G4.out.cells
  clear xo xf
  go_upto_region 8 with (go_at_call 29; refine (H5.out _ _ _ _ _ G4.out.ri).mono ?_; rintro e u5 ⟨a5, n5, c5, k5, rfl, hr, hb⟩; clear x0 x1; have PB := G4.out.below hb; obtain ⟨-, -, -, qo, qf⟩ := PB.cells; clear qo qf; have onz : Only (· = W3.heap.size) u5 u5 := Only.refl _ _; have owz := PB.own; obtain ⟨y0, y1, yf⟩ := PB.put HI.out.1 onz; have yg0 := yf 0; have yg1 := yf 1; clear yf; obtain ⟨Z5, hZ⟩ : ∃ Z, (u5.setCell ⟨W2.heap.size, 0, none⟩ (.slice a5 n5 c5)).setCell ⟨W2.heap.size, 1, none⟩ (.bool k5) = Z := ⟨_, rfl⟩; have G5 : Hid (OG Bq w W4 Z5 W2.heap.size W3.heap.size 30 (.slice a5 n5 c5) k5 D5.2 #[.int .i64 3, .int .i64 D2.1, .int .i64 D3.1, .int .i64 D4.1, .complex .f64 0 0, .int .i64 0, .int .i64 0, .int .i64 0, .int .i64 0, .string ⟨#[]⟩, .int .i64 0, .string ⟨#[]⟩, .int .i64 0, .string ⟨#[]⟩, .slice none 0 0, .slice none 0 0]) := G4.out.step hb hr.out onz owz hZ HI.out.1 HI.out.2.1 HI.out.2.2 (no_u8 (by simp)); clear PB hr hb onz owz)
  clear hZ y0 y1 yg0 yg1
  obtain ⟨x0, x1, -, xo, xf⟩ := G5.out.cells
  clear xo xf
  go_upto_region 9 with (go_at_call 29; refine (H6.out _ _ _ _ _ G5.out.ri).mono ?_; rintro e u6 ⟨a6, n6, c6, k6, rfl, hr, hb⟩; clear x0 x1; have PB := G5.out.below hb; obtain ⟨-, -, -, qo, qf⟩ := PB.cells; clear qo qf; have onz : Only (· = W3.heap.size) u6 u6 := Only.refl _ _; have owz := PB.own; obtain ⟨y0, y1, yf⟩ := PB.put HI.out.1 onz; have yg0 := yf 0; have yg1 := yf 1; clear yf; obtain ⟨Z6, hZ⟩ : ∃ Z, (u6.setCell ⟨W2.heap.size, 0, none⟩ (.slice a6 n6 c6)).setCell ⟨W2.heap.size, 1, none⟩ (.bool k6) = Z := ⟨_, rfl⟩; have G6 : Hid (OG Bq w W4 Z6 W2.heap.size W3.heap.size 30 (.slice a6 n6 c6) k6 D6.2 #[.int .i64 3, .int .i64 D2.1, .int .i64 D3.1, .int .i64 D4.1, .complex .f64 0 0, .int .i64 0, .int .i64 0, .int .i64 0, .int .i64 0, .string ⟨#[]⟩, .int .i64 0, .string ⟨#[]⟩, .int .i64 0, .string ⟨#[]⟩, .slice none 0 0, .slice none 0 0]) := G5.out.step hb hr.out onz owz hZ HI.out.1 HI.out.2.1 HI.out.2.2 (no_u8 (by simp)); clear PB hr hb onz owz)
  clear hZ y0 y1 yg0 yg1
  obtain ⟨x0, x1, -, xo, xf⟩ := G6.out.cells
  have q4 : Z6.cell? ⟨W3.heap.size, 4, none⟩ = some (.complex .f64 0 0) := xo 4
  have qg4 := xf 4
  clear xo xf x0 x1
  obtain ⟨X6, hX⟩ : ∃ Z, Z6.setCell ⟨W3.heap.size, 4, none⟩ (.complex .f64 (floatOfInt .f64 D5.1) (floatOfInt .f64 D6.1)) = Z := ⟨_, rfl⟩
  have G7 : Hid (OG Bq w W4 X6 W2.heap.size W3.heap.size 30 (.slice a6 n6 c6) k6 D6.2 #[.int .i64 3, .int .i64 D2.1, .int .i64 D3.1, .int .i64 D4.1, .complex .f64 (floatOfInt .f64 D5.1) (floatOfInt .f64 D6.1), .int .i64 0, .int .i64 0, .int .i64 0, .int .i64 0, .string ⟨#[]⟩, .int .i64 0, .string ⟨#[]⟩, .int .i64 0, .string ⟨#[]⟩, .slice none 0 0, .slice none 0 0]) := G6.out.setO (by rw [← hX]; exact only1 _ _ _ _) (by rw [← hX]; exact (heap_set G6.out.own 4 _).trans rfl) HI.out.1 HI.out.2.2 (no_u8 (by simp))
  go_upto_region 10 with fail
  clear hX q4 qg4
  obtain ⟨x0, x1, -⟩ := G7.out.cells
  go_upto_region 11 with (go_at_call 29; refine (H7.out _ _ _ _ _ G7.out.ri).mono ?_; rintro e u7 ⟨a7, n7, c7, k7, rfl, hr, hb⟩; clear x0 x1; have PB := G7.out.below hb; obtain ⟨-, -, -, qo, qf⟩ := PB.cells; have q0 : u7.cell? ⟨W3.heap.size, 5, none⟩ = some (.int .i64 0) := qo 5; have qg0 := qf 5; clear qo qf; have ow0 : (u7.setCell ⟨W3.heap.size, 5, none⟩ (.int .i64 D7.1)).heap[W3.heap.size]? = some (.cells #[.int .i64 3, .int .i64 D2.1, .int .i64 D3.1, .int .i64 D4.1, .complex .f64 (floatOfInt .f64 D5.1) (floatOfInt .f64 D6.1), .int .i64 D7.1, .int .i64 0, .int .i64 0, .int .i64 0, .string ⟨#[]⟩, .int .i64 0, .string ⟨#[]⟩, .int .i64 0, .string ⟨#[]⟩, .slice none 0 0, .slice none 0 0] 30 (0, 0)) := (heap_set PB.own 5 _).trans rfl; have on0 : Only (· = W3.heap.size) u7 (u7.setCell ⟨W3.heap.size, 5, none⟩ (.int .i64 D7.1)) := only1 _ _ _ _; obtain ⟨Y7, hY⟩ : ∃ Y, (u7.setCell ⟨W3.heap.size, 5, none⟩ (.int .i64 D7.1)) = Y := ⟨_, rfl⟩; rw [hY] at ow0 on0; obtain ⟨y0, y1, yf⟩ := PB.put HI.out.1 on0; have yg0 := yf 0; have yg1 := yf 1; clear yf; obtain ⟨Z7, hZ⟩ : ∃ Z, (Y7.setCell ⟨W2.heap.size, 0, none⟩ (.slice a7 n7 c7)).setCell ⟨W2.heap.size, 1, none⟩ (.bool k7) = Z := ⟨_, rfl⟩; have G8 : Hid (OG Bq w W4 Z7 W2.heap.size W3.heap.size 30 (.slice a7 n7 c7) k7 D7.2 #[.int .i64 3, .int .i64 D2.1, .int .i64 D3.1, .int .i64 D4.1, .complex .f64 (floatOfInt .f64 D5.1) (floatOfInt .f64 D6.1), .int .i64 D7.1, .int .i64 0, .int .i64 0, .int .i64 0, .string ⟨#[]⟩, .int .i64 0, .string ⟨#[]⟩, .int .i64 0, .string ⟨#[]⟩, .slice none 0 0, .slice none 0 0]) := G7.out.step hb hr.out on0 ow0 hZ HI.out.1 HI.out.2.1 HI.out.2.2 (no_u8 (by simp)); clear PB hr hb on0 ow0)
  clear hY hZ y0 y1 yg0 yg1 q0 qg0
  obtain ⟨x0, x1, -, xo, xf⟩ := G8.out.cells
  clear xo xf
  go_upto_region 12 with (go_at_call 29; refine (H8.out _ _ _ _ _ G8.out.ri).mono ?_; rintro e u8 ⟨a8, n8, c8, k8, rfl, hr, hb⟩; clear x0 x1; have PB := G8.out.below hb; obtain ⟨-, -, -, qo, qf⟩ := PB.cells; clear qo qf; have onz : Only (· = W3.heap.size) u8 u8 := Only.refl _ _; have owz := PB.own; obtain ⟨y0, y1, yf⟩ := PB.put HI.out.1 onz; have yg0 := yf 0; have yg1 := yf 1; clear yf; obtain ⟨Z8, hZ⟩ : ∃ Z, (u8.setCell ⟨W2.heap.size, 0, none⟩ (.slice a8 n8 c8)).setCell ⟨W2.heap.size, 1, none⟩ (.bool k8) = Z := ⟨_, rfl⟩; have G9 : Hid (OG Bq w W4 Z8 W2.heap.size W3.heap.size 30 (.slice a8 n8 c8) k8 D8.2 #[.int .i64 3, .int .i64 D2.1, .int .i64 D3.1, .int .i64 D4.1, .complex .f64 (floatOfInt .f64 D5.1) (floatOfInt .f64 D6.1), .int .i64 D7.1, .int .i64 0, .int .i64 0, .int .i64 0, .string ⟨#[]⟩, .int .i64 0, .string ⟨#[]⟩, .int .i64 0, .string ⟨#[]⟩, .slice none 0 0, .slice none 0 0]) := G8.out.step hb hr.out onz owz hZ HI.out.1 HI.out.2.1 HI.out.2.2 (no_u8 (by simp)); clear PB hr hb onz owz)
  clear hZ y0 y1 yg0 yg1
  obtain ⟨x0, x1, -, xo, xf⟩ := G9.out.cells
  have q6 : Z8.cell? ⟨W3.heap.size, 6, none⟩ = some (.int .i64 0) := xo 6
  have qg6 := xf 6
  clear xo xf x0 x1
  obtain ⟨X8, hX⟩ : ∃ Z, Z8.setCell ⟨W3.heap.size, 6, none⟩ (.int .i64 D8.1) = Z := ⟨_, rfl⟩
  have G10 : Hid (OG Bq w W4 X8 W2.heap.size W3.heap.size 30 (.slice a8 n8 c8) k8 D8.2 #[.int .i64 3, .int .i64 D2.1, .int .i64 D3.1, .int .i64 D4.1, .complex .f64 (floatOfInt .f64 D5.1) (floatOfInt .f64 D6.1), .int .i64 D7.1, .int .i64 D8.1, .int .i64 0, .int .i64 0, .string ⟨#[]⟩, .int .i64 0, .string ⟨#[]⟩, .int .i64 0, .string ⟨#[]⟩, .slice none 0 0, .slice none 0 0]) := G9.out.setO (by rw [← hX]; exact only1 _ _ _ _) (by rw [← hX]; exact (heap_set G9.out.own 6 _).trans rfl) HI.out.1 HI.out.2.2 (no_u8 (by simp))
  go_upto_region 13 with fail
  clear hX q6 qg6
  obtain ⟨x0, x1, -, xo, -⟩ := G10.out.cells
  have xk : X8.cell? ⟨W3.heap.size, 0, none⟩ = some (.int .i64 3) := xo 0
  clear xo
  obtain ⟨i1, hi1, hw0, hw1, hw2⟩ := info_parts Try.infoKy
  go_upto_region 26 with fail
  clear xk
  go_upto_region 27 with (go_at_call 29; refine (H9.out _ _ _ _ _ G10.out.ri).mono ?_; rintro e u9 ⟨a9, n9, c9, k9, rfl, hr, hb⟩; clear x0 x1; obtain ⟨V, hV⟩ : ∃ V, u9.alloc (.cells #[.slice a9 n9 c9, .bool k9] 68) = V := ⟨_, rfl⟩; obtain ⟨y, hy⟩ : ∃ y, u9.heap.size = y := ⟨_, rfl⟩; have bV := boxB hV; rw [hy] at bV; have hbV := chainB hb (by rw [hy]; exact bV.2); have hrV : Hid (RI Bq V (.slice a9 n9 c9) k9 D9.2) := hr.out.below (by rw [hy]; exact bV.2); have HbV : Hid (Below X8.heap.size X8 V ∧ V.heap[y]? = some (.cells #[.slice a9 n9 c9, .bool k9] 68 (0, 0))) := ⟨hbV, bV.1⟩; clear hr hb bV hbV)
  clear hV hy
  obtain ⟨x0, x1, xf, -⟩ := (G10.out.below HbV.out.1).cells
  have xf0 := xf 0
  have xf1 := xf 1
  clear xf
  have v0 : V.cell? ⟨y, 0, none⟩ = some (.slice a9 n9 c9) := by rw [cell_of HbV.out.2]; rfl
  have v1 : V.cell? ⟨y, 1, none⟩ = some (.bool k9) := by rw [cell_of HbV.out.2]; rfl
  obtain ⟨Z9, hX⟩ : ∃ Z, (V.setCell ⟨W2.heap.size, 0, none⟩ (.slice a9 n9 c9)).setCell ⟨W2.heap.size, 1, none⟩ (.bool k9) = Z := ⟨_, rfl⟩
  have G11 : Hid (OG Bq w W4 Z9 W2.heap.size W3.heap.size 30 (.slice a9 n9 c9) k9 D9.2 #[.int .i64 3, .int .i64 D2.1, .int .i64 D3.1, .int .i64 D4.1, .complex .f64 (floatOfInt .f64 D5.1) (floatOfInt .f64 D6.1), .int .i64 D7.1, .int .i64 D8.1, .int .i64 0, .int .i64 0, .string ⟨#[]⟩, .int .i64 0, .string ⟨#[]⟩, .int .i64 0, .string ⟨#[]⟩, .slice none 0 0, .slice none 0 0]) := G10.out.step HbV.out.1 hrV.out (Only.refl _ _) (G10.out.below HbV.out.1).own hX HI.out.1 HI.out.2.1 HI.out.2.2 (no_u8 (by simp))
  go_upto_region 28 with fail
  clear hX x0 x1 xf0 xf1 v0 v1 HbV hrV
  obtain ⟨C, hC⟩ : ∃ C, D9.1 = C := ⟨_, rfl⟩
  have HC : Hid (D9.1 = C) := hC
  rw [hC]
  clear hC
  have HQ : Hid (W2.heap.size < W4.heap.size ∧ W3.heap.size < W4.heap.size ∧ Bq ≤ W4.heap.size ∧ w.heap.size ≤ W4.heap.size) := by have := HL.out; exact ⟨by omega, by omega, by omega, by omega⟩
  go_wp2
  go_loopw [16] (fun i wr => ∃ (j : Nat) (L : List Ky) (av : Option Addr) (cv : Nat) (a : Option Addr) (n c : Nat) (k : Bool) (s : St), j ≤ 49 ∧ i = .int .i64 j ∧ Hid (L.length = j ∧ LK Bq w W4 wr W2.heap.size W3.heap.size (.slice a n c) k s #[.int .i64 3, .int .i64 D2.1, .int .i64 D3.1, .int .i64 D4.1, .complex .f64 (floatOfInt .f64 D5.1) (floatOfInt .f64 D6.1), .int .i64 D7.1, .int .i64 D8.1, .int .i64 0, .int .i64 0, .string ⟨#[]⟩, .int .i64 0, .string ⟨#[]⟩, .int .i64 0, .string ⟨#[]⟩, .slice none 0 0, .slice av j cv] (.slice av j cv) L ∧ rdF keyF 49 C D9.2 = (L ++ (rdF keyF (49 - j) (C - j) s).1, (rdF keyF (49 - j) (C - j) s).2))) (fun i _ => 49 - (intOf i).toNat)
  case atStart => exact ⟨0, [], none, 0, a9, n9, c9, k9, D9.2, by omega, rfl, rfl, ⟨G11.out, World.ownsRow_nil _ _ _ _⟩, by simp⟩
  case round =>
    obtain ⟨j, L, av, cv, a, n, c, k, s, hj, rfl, hI⟩ := hrel
    obtain ⟨z0, z1, -, zo, zf⟩ := hI.out.2.1.og.cells
    by_cases hjC : ¬ (j : Int) < C
    · have hend : 49 - j = 0 ∨ C - (j : Int) ≤ 0 ∨ s = none := .inr (.inl (by omega))
      have HE : Hid (rdF keyF 49 C D9.2 = (L, s)) := by
        have h := hI.out.2.2
        rw [rdF_end (f := keyF) hend] at h
        show _ = _
        simpa using h
      have HG : Hid (LK Bq w W4 wr W2.heap.size W3.heap.size (.slice a n c) k s #[.int .i64 3, .int .i64 D2.1, .int .i64 D3.1, .int .i64 D4.1, .complex .f64 (floatOfInt .f64 D5.1) (floatOfInt .f64 D6.1), .int .i64 D7.1, .int .i64 D8.1, .int .i64 0, .int .i64 0, .string ⟨#[]⟩, .int .i64 0, .string ⟨#[]⟩, .int .i64 0, .string ⟨#[]⟩, .slice none 0 0, .slice av j cv] (.slice av j cv) L) := hI.out.2.1
      have HMq : Hid (msgF (some l) = (⟨3, D2.1, D3.1, D4.1, D5.1, D6.1, D7.1, D8.1, zeroOp, [], L⟩, s)) := (by have h := HM.out; rw [HC.out, HE.out] at h; exact h)
      clear hend hI zo zf z0
      go_upto_region 34 with fail
      clear z1
      have hres : wr.heap[w.heap.size]? = some (.cells #[.int .i64 0, .int .i64 0, .int .i64 0, .int .i64 0, .complex .f64 0 0, .int .i64 0, .int .i64 0, .int .i64 0, .int .i64 0, .string ⟨#[]⟩, .int .i64 0, .string ⟨#[]⟩, .int .i64 0, .string ⟨#[]⟩, .slice none 0 0, .slice none 0 0] 30 (0, 0)) := (HG.out.og.only.block _ (Array.getElem?_eq_some_iff.1 HR.out.1).1 (by have := HL.out; omega)).trans HR.out.1
      have hins : wr.heap[W.heap.size]? = some (.cells #[.slice none 0 0, .bool false] 68 (0, 0)) := (HG.out.og.only.block _ (Array.getElem?_eq_some_iff.1 HR.out.2).1 (by have := HL.out; omega)).trans HR.out.2
      have s1 : ∀ w', Only (fun x => x = w.heap.size ∨ x = W.heap.size) wr.drew w' → w'.cell? ⟨W3.heap.size, 0, none⟩ = some (.int .i64 3) ∧ w'.cell? ⟨W3.heap.size, 1, none⟩ = some (.int .i64 D2.1) ∧ w'.cell? ⟨W3.heap.size, 2, none⟩ = some (.int .i64 D3.1) ∧ w'.cell? ⟨W3.heap.size, 3, none⟩ = some (.int .i64 D4.1) ∧ w'.cell? ⟨W3.heap.size, 4, none⟩ = some (.complex .f64 (floatOfInt .f64 D5.1) (floatOfInt .f64 D6.1)) ∧ w'.cell? ⟨W3.heap.size, 5, none⟩ = some (.int .i64 D7.1) ∧ w'.cell? ⟨W3.heap.size, 6, none⟩ = some (.int .i64 D8.1) ∧ w'.cell? ⟨W3.heap.size, 7, none⟩ = some (.int .i64 0) ∧ w'.cell? ⟨W3.heap.size, 8, none⟩ = some (.int .i64 0) ∧ w'.cell? ⟨W3.heap.size, 9, none⟩ = some (.string ⟨#[]⟩) ∧ w'.cell? ⟨W3.heap.size, 10, none⟩ = some (.int .i64 0) ∧ w'.cell? ⟨W3.heap.size, 11, none⟩ = some (.string ⟨#[]⟩) ∧ w'.cell? ⟨W3.heap.size, 12, none⟩ = some (.int .i64 0) ∧ w'.cell? ⟨W3.heap.size, 13, none⟩ = some (.string ⟨#[]⟩) ∧ w'.cell? ⟨W3.heap.size, 14, none⟩ = some (.slice none 0 0) ∧ w'.cell? ⟨W3.heap.size, 15, none⟩ = some (.slice av j cv) ∧ w'.cell? ⟨W2.heap.size, 0, none⟩ = some (.slice a n c) ∧ w'.cell? ⟨W2.heap.size, 1, none⟩ = some (.bool k) := fun w' ho => by
        have e1 : w'.heap[W3.heap.size]? = wr.heap[W3.heap.size]? := ho.block _ (Array.getElem?_eq_some_iff.1 HG.out.og.own).1 (by have := HL.out; omega)
        have e2 : w'.heap[W2.heap.size]? = wr.heap[W2.heap.size]? := ho.block _ (Array.getElem?_eq_some_iff.1 HG.out.og.box).1 (by have := HL.out; omega)
        exact ⟨(World.cell?_of_block e1).trans (by rw [cell_of HG.out.og.own]; rfl), (World.cell?_of_block e1).trans (by rw [cell_of HG.out.og.own]; rfl), (World.cell?_of_block e1).trans (by rw [cell_of HG.out.og.own]; rfl), (World.cell?_of_block e1).trans (by rw [cell_of HG.out.og.own]; rfl), (World.cell?_of_block e1).trans (by rw [cell_of HG.out.og.own]; rfl), (World.cell?_of_block e1).trans (by rw [cell_of HG.out.og.own]; rfl), (World.cell?_of_block e1).trans (by rw [cell_of HG.out.og.own]; rfl), (World.cell?_of_block e1).trans (by rw [cell_of HG.out.og.own]; rfl), (World.cell?_of_block e1).trans (by rw [cell_of HG.out.og.own]; rfl), (World.cell?_of_block e1).trans (by rw [cell_of HG.out.og.own]; rfl), (World.cell?_of_block e1).trans (by rw [cell_of HG.out.og.own]; rfl), (World.cell?_of_block e1).trans (by rw [cell_of HG.out.og.own]; rfl), (World.cell?_of_block e1).trans (by rw [cell_of HG.out.og.own]; rfl), (World.cell?_of_block e1).trans (by rw [cell_of HG.out.og.own]; rfl), (World.cell?_of_block e1).trans (by rw [cell_of HG.out.og.own]; rfl), (World.cell?_of_block e1).trans (by rw [cell_of HG.out.og.own]; rfl), (World.cell?_of_block e2).trans (by rw [cell_of HG.out.og.box]; rfl), (World.cell?_of_block e2).trans (by rw [cell_of HG.out.og.box]; rfl)⟩
      have s0 := s1 _ (Only.refl _ _)
      obtain ⟨Y, hY⟩ : ∃ Y, ((((((((((((((((wr.setCell ⟨w.heap.size, 0, none⟩ (.int .i64 3)).setCell ⟨w.heap.size, 1, none⟩ (.int .i64 D2.1)).setCell ⟨w.heap.size, 2, none⟩ (.int .i64 D3.1)).setCell ⟨w.heap.size, 3, none⟩ (.int .i64 D4.1)).setCell ⟨w.heap.size, 4, none⟩ (.complex .f64 (floatOfInt .f64 D5.1) (floatOfInt .f64 D6.1))).setCell ⟨w.heap.size, 5, none⟩ (.int .i64 D7.1)).setCell ⟨w.heap.size, 6, none⟩ (.int .i64 D8.1)).setCell ⟨w.heap.size, 7, none⟩ (.int .i64 0)).setCell ⟨w.heap.size, 8, none⟩ (.int .i64 0)).setCell ⟨w.heap.size, 9, none⟩ (.string ⟨#[]⟩)).setCell ⟨w.heap.size, 10, none⟩ (.int .i64 0)).setCell ⟨w.heap.size, 11, none⟩ (.string ⟨#[]⟩)).setCell ⟨w.heap.size, 12, none⟩ (.int .i64 0)).setCell ⟨w.heap.size, 13, none⟩ (.string ⟨#[]⟩)).setCell ⟨w.heap.size, 14, none⟩ (.slice none 0 0)).setCell ⟨w.heap.size, 15, none⟩ (.slice av j cv)) = Y := ⟨_, rfl⟩
      have hOY : Only (· = w.heap.size) wr Y := by rw [← hY]; exact only16 wr w.heap.size _ _ _ _ _ _ _ _ _ _ _ _ _ _ _ _
      have sY : Only (fun x => x = w.heap.size ∨ x = W.heap.size) wr Y := hOY.mono fun _ h => .inl h
      have sYd : Only (fun x => x = w.heap.size ∨ x = W.heap.size) wr.drew Y := ⟨sY.os, sY.tape, sY.output, sY.size, sY.block⟩
      have r0 : wr.cell? ⟨w.heap.size, 0, none⟩ = some (.int .i64 0) := by rw [cell_of hres]; rfl
      have rg0 := free_of hres 0
      have r1 : wr.cell? ⟨w.heap.size, 1, none⟩ = some (.int .i64 0) := by rw [cell_of hres]; rfl
      have rg1 := free_of hres 1
      have r2 : wr.cell? ⟨w.heap.size, 2, none⟩ = some (.int .i64 0) := by rw [cell_of hres]; rfl
      have rg2 := free_of hres 2
      have r3 : wr.cell? ⟨w.heap.size, 3, none⟩ = some (.int .i64 0) := by rw [cell_of hres]; rfl
      have rg3 := free_of hres 3
      have r4 : wr.cell? ⟨w.heap.size, 4, none⟩ = some (.complex .f64 0 0) := by rw [cell_of hres]; rfl
      have rg4 := free_of hres 4
      have r5 : wr.cell? ⟨w.heap.size, 5, none⟩ = some (.int .i64 0) := by rw [cell_of hres]; rfl
      have rg5 := free_of hres 5
      have r6 : wr.cell? ⟨w.heap.size, 6, none⟩ = some (.int .i64 0) := by rw [cell_of hres]; rfl
      have rg6 := free_of hres 6
      have r7 : wr.cell? ⟨w.heap.size, 7, none⟩ = some (.int .i64 0) := by rw [cell_of hres]; rfl
      have rg7 := free_of hres 7
      have r8 : wr.cell? ⟨w.heap.size, 8, none⟩ = some (.int .i64 0) := by rw [cell_of hres]; rfl
      have rg8 := free_of hres 8
      have r9 : wr.cell? ⟨w.heap.size, 9, none⟩ = some (.string ⟨#[]⟩) := by rw [cell_of hres]; rfl
      have rg9 := free_of hres 9
      have r10 : wr.cell? ⟨w.heap.size, 10, none⟩ = some (.int .i64 0) := by rw [cell_of hres]; rfl
      have rg10 := free_of hres 10
      have r11 : wr.cell? ⟨w.heap.size, 11, none⟩ = some (.string ⟨#[]⟩) := by rw [cell_of hres]; rfl
      have rg11 := free_of hres 11
      have r12 : wr.cell? ⟨w.heap.size, 12, none⟩ = some (.int .i64 0) := by rw [cell_of hres]; rfl
      have rg12 := free_of hres 12
      have r13 : wr.cell? ⟨w.heap.size, 13, none⟩ = some (.string ⟨#[]⟩) := by rw [cell_of hres]; rfl
      have rg13 := free_of hres 13
      have r14 : wr.cell? ⟨w.heap.size, 14, none⟩ = some (.slice none 0 0) := by rw [cell_of hres]; rfl
      have rg14 := free_of hres 14
      have r15 : wr.cell? ⟨w.heap.size, 15, none⟩ = some (.slice none 0 0) := by rw [cell_of hres]; rfl
      have rg15 := free_of hres 15
      have hYW : Y.heap[w.heap.size]? = some (.cells #[.int .i64 3, .int .i64 D2.1, .int .i64 D3.1, .int .i64 D4.1, .complex .f64 (floatOfInt .f64 D5.1) (floatOfInt .f64 D6.1), .int .i64 D7.1, .int .i64 D8.1, .int .i64 0, .int .i64 0, .string ⟨#[]⟩, .int .i64 0, .string ⟨#[]⟩, .int .i64 0, .string ⟨#[]⟩, .slice none 0 0, .slice av j cv] 30 (0, 0)) := by rw [← hY]; exact set16 hres
      have hYq : Y.heap[W.heap.size]? = some (.cells #[.slice none 0 0, .bool false] 68 (0, 0)) := (hOY.block _ (Array.getElem?_eq_some_iff.1 hins).1 (by have := HL.out; omega)).trans hins
      have u0 : Y.cell? ⟨W.heap.size, 0, none⟩ = some (.slice none 0 0) := by rw [cell_of hYq]; rfl
      have u1 : Y.cell? ⟨W.heap.size, 1, none⟩ = some (.bool false) := by rw [cell_of hYq]; rfl
      have ug0 := free_of hYq 0
      have ug1 := free_of hYq 1
      have HF : Hid (Y.heap[w.heap.size]? = some (.cells #[.int .i64 3, .int .i64 D2.1, .int .i64 D3.1, .int .i64 D4.1, .complex .f64 (floatOfInt .f64 D5.1) (floatOfInt .f64 D6.1), .int .i64 D7.1, .int .i64 D8.1, .int .i64 0, .int .i64 0, .string ⟨#[]⟩, .int .i64 0, .string ⟨#[]⟩, .int .i64 0, .string ⟨#[]⟩, .slice none 0 0, .slice av j cv] 30 (0, 0)) ∧ Y.heap[W.heap.size]? = some (.cells #[.slice none 0 0, .bool false] 68 (0, 0)) ∧ Below w.heap.size w Y ∧ RI Bq Y (.slice a n c) k s ∧ Row7 Y w.heap.size (.slice none 0 0) [] ∧ RowK Y w.heap.size (.slice av j cv) L) := ⟨hYW, hYq, below_on1 HG.out.og.bel hOY (Nat.le_refl _), HG.out.og.ri.farO hres (no_u8 (by simp)) hOY, World.ownsRow_nil _ _ _ _, owns_le (owns_moved HG.out.row fun q hq => hOY.block q (Tag.own HG.out.row hq).lt (by have := (World.ownsRow.lt HG.out.row q hq).1; have := HL.out; omega)) (by have := HL.out; omega)⟩
      have sY2 := s1 Y sYd
      have sY3 : ∀ p p', Only (fun x => x = w.heap.size ∨ x = W.heap.size) wr.drew ((Y.setCell ⟨W.heap.size, 0, none⟩ p).setCell ⟨W.heap.size, 1, none⟩ p') := fun p p' => sYd.trans ((only2 Y W.heap.size p p').mono fun _ h => .inr h)
      have sY4 := fun p p' => s1 _ (sY3 p p')
      clear hYW hYq sY sYd sY3 s1 hOY hres hins
      go_region_held3 (fun w' => w'.cell? ⟨W3.heap.size, 0, none⟩ = some (.int .i64 3) ∧ w'.cell? ⟨W3.heap.size, 1, none⟩ = some (.int .i64 D2.1) ∧ w'.cell? ⟨W3.heap.size, 2, none⟩ = some (.int .i64 D3.1) ∧ w'.cell? ⟨W3.heap.size, 3, none⟩ = some (.int .i64 D4.1) ∧ w'.cell? ⟨W3.heap.size, 4, none⟩ = some (.complex .f64 (floatOfInt .f64 D5.1) (floatOfInt .f64 D6.1)) ∧ w'.cell? ⟨W3.heap.size, 5, none⟩ = some (.int .i64 D7.1) ∧ w'.cell? ⟨W3.heap.size, 6, none⟩ = some (.int .i64 D8.1) ∧ w'.cell? ⟨W3.heap.size, 7, none⟩ = some (.int .i64 0) ∧ w'.cell? ⟨W3.heap.size, 8, none⟩ = some (.int .i64 0) ∧ w'.cell? ⟨W3.heap.size, 9, none⟩ = some (.string ⟨#[]⟩) ∧ w'.cell? ⟨W3.heap.size, 10, none⟩ = some (.int .i64 0) ∧ w'.cell? ⟨W3.heap.size, 11, none⟩ = some (.string ⟨#[]⟩) ∧ w'.cell? ⟨W3.heap.size, 12, none⟩ = some (.int .i64 0) ∧ w'.cell? ⟨W3.heap.size, 13, none⟩ = some (.string ⟨#[]⟩) ∧ w'.cell? ⟨W3.heap.size, 14, none⟩ = some (.slice none 0 0) ∧ w'.cell? ⟨W3.heap.size, 15, none⟩ = some (.slice av j cv) ∧ w'.cell? ⟨W2.heap.size, 0, none⟩ = some (.slice a n c) ∧ w'.cell? ⟨W2.heap.size, 1, none⟩ = some (.bool k)) (first | exact s0 | exact sY2 | exact sY4 _ _ | (rw [hY]; exact sY2)) (fail)
      go_wp2
      refine bodyPost_ret (ret_two rfl _ _ w.heap.size W.heap.size rfl rfl (run_loadVar_row _ w.heap.size 30 30 #[.int .i64 3, .int .i64 D2.1, .int .i64 D3.1, .int .i64 D4.1, .complex .f64 (floatOfInt .f64 D5.1) (floatOfInt .f64 D6.1), .int .i64 D7.1, .int .i64 D8.1, .int .i64 0, .int .i64 0, .string ⟨#[]⟩, .int .i64 0, .string ⟨#[]⟩, .int .i64 0, .string ⟨#[]⟩, .slice none 0 0, .slice av j cv] (0, 0) _ (by exact (two_ne (Nat.ne_of_lt HL.out.1)).trans HF.out.1) Try.underlying30 rfl Try.sizeMsg8) (by exact set2 HF.out.2.1) rfl) rfl ?_
      unfold SaidR
      rw [HMq.out, ← HL.out.2.2.2.2]
      have hri := (HF.out.2.2.2.1.far2 HF.out.2.1 (.slice a n c) (.bool k)).below (Below.refl _ _).drew
      have hOn := (only2 Y W.heap.size (.slice a n c) (.bool k))
      have hTg : Tag Y W.heap.size 68 := ⟨_, _, HF.out.2.1⟩
      exact ⟨(.slice none 0 0), (.slice av j cv), _, _, rfl, (by rw [HL.out.2.2.2.2]; exact (owns_moved HF.out.2.2.2.2.1 fun q hq => hOn.block q (Tag.own HF.out.2.2.2.2.1 hq).lt ((Tag.own HF.out.2.2.2.2.1 hq).ne hTg (by decide)))), (by rw [HL.out.2.2.2.2]; exact (owns_moved HF.out.2.2.2.2.2 fun q hq => hOn.block q (Tag.own HF.out.2.2.2.2.2 hq).lt ((Tag.own HF.out.2.2.2.2.2 hq).ne hTg (by decide)))), hri, (by have hx := (below2 (.slice a n c) (.bool k) HF.out.2.2.1 (Nat.le_of_lt HL.out.1)).drew; rw [HL.out.2.2.2.2]; exact hx)⟩
    have hjC : (j : Int) < C := Classical.not_not.1 hjC
    by_cases hj9 : j = 49
    · have hend : 49 - j = 0 ∨ C - (j : Int) ≤ 0 ∨ s = none := .inl (by omega)
      have hj48 : ¬ (j : Int) ≤ 48 := by omega
      have HE : Hid (rdF keyF 49 C D9.2 = (L, s)) := by
        have h := hI.out.2.2
        rw [rdF_end (f := keyF) hend] at h
        show _ = _
        simpa using h
      have HG : Hid (LK Bq w W4 wr W2.heap.size W3.heap.size (.slice a n c) k s #[.int .i64 3, .int .i64 D2.1, .int .i64 D3.1, .int .i64 D4.1, .complex .f64 (floatOfInt .f64 D5.1) (floatOfInt .f64 D6.1), .int .i64 D7.1, .int .i64 D8.1, .int .i64 0, .int .i64 0, .string ⟨#[]⟩, .int .i64 0, .string ⟨#[]⟩, .int .i64 0, .string ⟨#[]⟩, .slice none 0 0, .slice av j cv] (.slice av j cv) L) := hI.out.2.1
      have HMq : Hid (msgF (some l) = (⟨3, D2.1, D3.1, D4.1, D5.1, D6.1, D7.1, D8.1, zeroOp, [], L⟩, s)) := (by have h := HM.out; rw [HC.out, HE.out] at h; exact h)
      clear hend hI zo zf z0
      clear hj9
      go_upto_region 34 with fail
      clear z1
      have hres : wr.heap[w.heap.size]? = some (.cells #[.int .i64 0, .int .i64 0, .int .i64 0, .int .i64 0, .complex .f64 0 0, .int .i64 0, .int .i64 0, .int .i64 0, .int .i64 0, .string ⟨#[]⟩, .int .i64 0, .string ⟨#[]⟩, .int .i64 0, .string ⟨#[]⟩, .slice none 0 0, .slice none 0 0] 30 (0, 0)) := (HG.out.og.only.block _ (Array.getElem?_eq_some_iff.1 HR.out.1).1 (by have := HL.out; omega)).trans HR.out.1
      have hins : wr.heap[W.heap.size]? = some (.cells #[.slice none 0 0, .bool false] 68 (0, 0)) := (HG.out.og.only.block _ (Array.getElem?_eq_some_iff.1 HR.out.2).1 (by have := HL.out; omega)).trans HR.out.2
      have s1 : ∀ w', Only (fun x => x = w.heap.size ∨ x = W.heap.size) wr.drew w' → w'.cell? ⟨W3.heap.size, 0, none⟩ = some (.int .i64 3) ∧ w'.cell? ⟨W3.heap.size, 1, none⟩ = some (.int .i64 D2.1) ∧ w'.cell? ⟨W3.heap.size, 2, none⟩ = some (.int .i64 D3.1) ∧ w'.cell? ⟨W3.heap.size, 3, none⟩ = some (.int .i64 D4.1) ∧ w'.cell? ⟨W3.heap.size, 4, none⟩ = some (.complex .f64 (floatOfInt .f64 D5.1) (floatOfInt .f64 D6.1)) ∧ w'.cell? ⟨W3.heap.size, 5, none⟩ = some (.int .i64 D7.1) ∧ w'.cell? ⟨W3.heap.size, 6, none⟩ = some (.int .i64 D8.1) ∧ w'.cell? ⟨W3.heap.size, 7, none⟩ = some (.int .i64 0) ∧ w'.cell? ⟨W3.heap.size, 8, none⟩ = some (.int .i64 0) ∧ w'.cell? ⟨W3.heap.size, 9, none⟩ = some (.string ⟨#[]⟩) ∧ w'.cell? ⟨W3.heap.size, 10, none⟩ = some (.int .i64 0) ∧ w'.cell? ⟨W3.heap.size, 11, none⟩ = some (.string ⟨#[]⟩) ∧ w'.cell? ⟨W3.heap.size, 12, none⟩ = some (.int .i64 0) ∧ w'.cell? ⟨W3.heap.size, 13, none⟩ = some (.string ⟨#[]⟩) ∧ w'.cell? ⟨W3.heap.size, 14, none⟩ = some (.slice none 0 0) ∧ w'.cell? ⟨W3.heap.size, 15, none⟩ = some (.slice av j cv) ∧ w'.cell? ⟨W2.heap.size, 0, none⟩ = some (.slice a n c) ∧ w'.cell? ⟨W2.heap.size, 1, none⟩ = some (.bool k) := fun w' ho => by
        have e1 : w'.heap[W3.heap.size]? = wr.heap[W3.heap.size]? := ho.block _ (Array.getElem?_eq_some_iff.1 HG.out.og.own).1 (by have := HL.out; omega)
        have e2 : w'.heap[W2.heap.size]? = wr.heap[W2.heap.size]? := ho.block _ (Array.getElem?_eq_some_iff.1 HG.out.og.box).1 (by have := HL.out; omega)
        exact ⟨(World.cell?_of_block e1).trans (by rw [cell_of HG.out.og.own]; rfl), (World.cell?_of_block e1).trans (by rw [cell_of HG.out.og.own]; rfl), (World.cell?_of_block e1).trans (by rw [cell_of HG.out.og.own]; rfl), (World.cell?_of_block e1).trans (by rw [cell_of HG.out.og.own]; rfl), (World.cell?_of_block e1).trans (by rw [cell_of HG.out.og.own]; rfl), (World.cell?_of_block e1).trans (by rw [cell_of HG.out.og.own]; rfl), (World.cell?_of_block e1).trans (by rw [cell_of HG.out.og.own]; rfl), (World.cell?_of_block e1).trans (by rw [cell_of HG.out.og.own]; rfl), (World.cell?_of_block e1).trans (by rw [cell_of HG.out.og.own]; rfl), (World.cell?_of_block e1).trans (by rw [cell_of HG.out.og.own]; rfl), (World.cell?_of_block e1).trans (by rw [cell_of HG.out.og.own]; rfl), (World.cell?_of_block e1).trans (by rw [cell_of HG.out.og.own]; rfl), (World.cell?_of_block e1).trans (by rw [cell_of HG.out.og.own]; rfl), (World.cell?_of_block e1).trans (by rw [cell_of HG.out.og.own]; rfl), (World.cell?_of_block e1).trans (by rw [cell_of HG.out.og.own]; rfl), (World.cell?_of_block e1).trans (by rw [cell_of HG.out.og.own]; rfl), (World.cell?_of_block e2).trans (by rw [cell_of HG.out.og.box]; rfl), (World.cell?_of_block e2).trans (by rw [cell_of HG.out.og.box]; rfl)⟩
      have s0 := s1 _ (Only.refl _ _)
      obtain ⟨Y, hY⟩ : ∃ Y, ((((((((((((((((wr.setCell ⟨w.heap.size, 0, none⟩ (.int .i64 3)).setCell ⟨w.heap.size, 1, none⟩ (.int .i64 D2.1)).setCell ⟨w.heap.size, 2, none⟩ (.int .i64 D3.1)).setCell ⟨w.heap.size, 3, none⟩ (.int .i64 D4.1)).setCell ⟨w.heap.size, 4, none⟩ (.complex .f64 (floatOfInt .f64 D5.1) (floatOfInt .f64 D6.1))).setCell ⟨w.heap.size, 5, none⟩ (.int .i64 D7.1)).setCell ⟨w.heap.size, 6, none⟩ (.int .i64 D8.1)).setCell ⟨w.heap.size, 7, none⟩ (.int .i64 0)).setCell ⟨w.heap.size, 8, none⟩ (.int .i64 0)).setCell ⟨w.heap.size, 9, none⟩ (.string ⟨#[]⟩)).setCell ⟨w.heap.size, 10, none⟩ (.int .i64 0)).setCell ⟨w.heap.size, 11, none⟩ (.string ⟨#[]⟩)).setCell ⟨w.heap.size, 12, none⟩ (.int .i64 0)).setCell ⟨w.heap.size, 13, none⟩ (.string ⟨#[]⟩)).setCell ⟨w.heap.size, 14, none⟩ (.slice none 0 0)).setCell ⟨w.heap.size, 15, none⟩ (.slice av j cv)) = Y := ⟨_, rfl⟩
      have hOY : Only (· = w.heap.size) wr Y := by rw [← hY]; exact only16 wr w.heap.size _ _ _ _ _ _ _ _ _ _ _ _ _ _ _ _
      have sY : Only (fun x => x = w.heap.size ∨ x = W.heap.size) wr Y := hOY.mono fun _ h => .inl h
      have sYd : Only (fun x => x = w.heap.size ∨ x = W.heap.size) wr.drew Y := ⟨sY.os, sY.tape, sY.output, sY.size, sY.block⟩
      have r0 : wr.cell? ⟨w.heap.size, 0, none⟩ = some (.int .i64 0) := by rw [cell_of hres]; rfl
      have rg0 := free_of hres 0
      have r1 : wr.cell? ⟨w.heap.size, 1, none⟩ = some (.int .i64 0) := by rw [cell_of hres]; rfl
      have rg1 := free_of hres 1
      have r2 : wr.cell? ⟨w.heap.size, 2, none⟩ = some (.int .i64 0) := by rw [cell_of hres]; rfl
      have rg2 := free_of hres 2
      have r3 : wr.cell? ⟨w.heap.size, 3, none⟩ = some (.int .i64 0) := by rw [cell_of hres]; rfl
      have rg3 := free_of hres 3
      have r4 : wr.cell? ⟨w.heap.size, 4, none⟩ = some (.complex .f64 0 0) := by rw [cell_of hres]; rfl
      have rg4 := free_of hres 4
      have r5 : wr.cell? ⟨w.heap.size, 5, none⟩ = some (.int .i64 0) := by rw [cell_of hres]; rfl
      have rg5 := free_of hres 5
      have r6 : wr.cell? ⟨w.heap.size, 6, none⟩ = some (.int .i64 0) := by rw [cell_of hres]; rfl
      have rg6 := free_of hres 6
      have r7 : wr.cell? ⟨w.heap.size, 7, none⟩ = some (.int .i64 0) := by rw [cell_of hres]; rfl
      have rg7 := free_of hres 7
      have r8 : wr.cell? ⟨w.heap.size, 8, none⟩ = some (.int .i64 0) := by rw [cell_of hres]; rfl
      have rg8 := free_of hres 8
      have r9 : wr.cell? ⟨w.heap.size, 9, none⟩ = some (.string ⟨#[]⟩) := by rw [cell_of hres]; rfl
      have rg9 := free_of hres 9
      have r10 : wr.cell? ⟨w.heap.size, 10, none⟩ = some (.int .i64 0) := by rw [cell_of hres]; rfl
      have rg10 := free_of hres 10
      have r11 : wr.cell? ⟨w.heap.size, 11, none⟩ = some (.string ⟨#[]⟩) := by rw [cell_of hres]; rfl
      have rg11 := free_of hres 11
      have r12 : wr.cell? ⟨w.heap.size, 12, none⟩ = some (.int .i64 0) := by rw [cell_of hres]; rfl
      have rg12 := free_of hres 12
      have r13 : wr.cell? ⟨w.heap.size, 13, none⟩ = some (.string ⟨#[]⟩) := by rw [cell_of hres]; rfl
      have rg13 := free_of hres 13
      have r14 : wr.cell? ⟨w.heap.size, 14, none⟩ = some (.slice none 0 0) := by rw [cell_of hres]; rfl
      have rg14 := free_of hres 14
      have r15 : wr.cell? ⟨w.heap.size, 15, none⟩ = some (.slice none 0 0) := by rw [cell_of hres]; rfl
      have rg15 := free_of hres 15
      have hYW : Y.heap[w.heap.size]? = some (.cells #[.int .i64 3, .int .i64 D2.1, .int .i64 D3.1, .int .i64 D4.1, .complex .f64 (floatOfInt .f64 D5.1) (floatOfInt .f64 D6.1), .int .i64 D7.1, .int .i64 D8.1, .int .i64 0, .int .i64 0, .string ⟨#[]⟩, .int .i64 0, .string ⟨#[]⟩, .int .i64 0, .string ⟨#[]⟩, .slice none 0 0, .slice av j cv] 30 (0, 0)) := by rw [← hY]; exact set16 hres
      have hYq : Y.heap[W.heap.size]? = some (.cells #[.slice none 0 0, .bool false] 68 (0, 0)) := (hOY.block _ (Array.getElem?_eq_some_iff.1 hins).1 (by have := HL.out; omega)).trans hins
      have u0 : Y.cell? ⟨W.heap.size, 0, none⟩ = some (.slice none 0 0) := by rw [cell_of hYq]; rfl
      have u1 : Y.cell? ⟨W.heap.size, 1, none⟩ = some (.bool false) := by rw [cell_of hYq]; rfl
      have ug0 := free_of hYq 0
      have ug1 := free_of hYq 1
      have HF : Hid (Y.heap[w.heap.size]? = some (.cells #[.int .i64 3, .int .i64 D2.1, .int .i64 D3.1, .int .i64 D4.1, .complex .f64 (floatOfInt .f64 D5.1) (floatOfInt .f64 D6.1), .int .i64 D7.1, .int .i64 D8.1, .int .i64 0, .int .i64 0, .string ⟨#[]⟩, .int .i64 0, .string ⟨#[]⟩, .int .i64 0, .string ⟨#[]⟩, .slice none 0 0, .slice av j cv] 30 (0, 0)) ∧ Y.heap[W.heap.size]? = some (.cells #[.slice none 0 0, .bool false] 68 (0, 0)) ∧ Below w.heap.size w Y ∧ RI Bq Y (.slice a n c) k s ∧ Row7 Y w.heap.size (.slice none 0 0) [] ∧ RowK Y w.heap.size (.slice av j cv) L) := ⟨hYW, hYq, below_on1 HG.out.og.bel hOY (Nat.le_refl _), HG.out.og.ri.farO hres (no_u8 (by simp)) hOY, World.ownsRow_nil _ _ _ _, owns_le (owns_moved HG.out.row fun q hq => hOY.block q (Tag.own HG.out.row hq).lt (by have := (World.ownsRow.lt HG.out.row q hq).1; have := HL.out; omega)) (by have := HL.out; omega)⟩
      have sY2 := s1 Y sYd
      have sY3 : ∀ p p', Only (fun x => x = w.heap.size ∨ x = W.heap.size) wr.drew ((Y.setCell ⟨W.heap.size, 0, none⟩ p).setCell ⟨W.heap.size, 1, none⟩ p') := fun p p' => sYd.trans ((only2 Y W.heap.size p p').mono fun _ h => .inr h)
      have sY4 := fun p p' => s1 _ (sY3 p p')
      clear hYW hYq sY sYd sY3 s1 hOY hres hins
      go_region_held3 (fun w' => w'.cell? ⟨W3.heap.size, 0, none⟩ = some (.int .i64 3) ∧ w'.cell? ⟨W3.heap.size, 1, none⟩ = some (.int .i64 D2.1) ∧ w'.cell? ⟨W3.heap.size, 2, none⟩ = some (.int .i64 D3.1) ∧ w'.cell? ⟨W3.heap.size, 3, none⟩ = some (.int .i64 D4.1) ∧ w'.cell? ⟨W3.heap.size, 4, none⟩ = some (.complex .f64 (floatOfInt .f64 D5.1) (floatOfInt .f64 D6.1)) ∧ w'.cell? ⟨W3.heap.size, 5, none⟩ = some (.int .i64 D7.1) ∧ w'.cell? ⟨W3.heap.size, 6, none⟩ = some (.int .i64 D8.1) ∧ w'.cell? ⟨W3.heap.size, 7, none⟩ = some (.int .i64 0) ∧ w'.cell? ⟨W3.heap.size, 8, none⟩ = some (.int .i64 0) ∧ w'.cell? ⟨W3.heap.size, 9, none⟩ = some (.string ⟨#[]⟩) ∧ w'.cell? ⟨W3.heap.size, 10, none⟩ = some (.int .i64 0) ∧ w'.cell? ⟨W3.heap.size, 11, none⟩ = some (.string ⟨#[]⟩) ∧ w'.cell? ⟨W3.heap.size, 12, none⟩ = some (.int .i64 0) ∧ w'.cell? ⟨W3.heap.size, 13, none⟩ = some (.string ⟨#[]⟩) ∧ w'.cell? ⟨W3.heap.size, 14, none⟩ = some (.slice none 0 0) ∧ w'.cell? ⟨W3.heap.size, 15, none⟩ = some (.slice av j cv) ∧ w'.cell? ⟨W2.heap.size, 0, none⟩ = some (.slice a n c) ∧ w'.cell? ⟨W2.heap.size, 1, none⟩ = some (.bool k)) (first | exact s0 | exact sY2 | exact sY4 _ _ | (rw [hY]; exact sY2)) (fail)
      go_wp2
      refine bodyPost_ret (ret_two rfl _ _ w.heap.size W.heap.size rfl rfl (run_loadVar_row _ w.heap.size 30 30 #[.int .i64 3, .int .i64 D2.1, .int .i64 D3.1, .int .i64 D4.1, .complex .f64 (floatOfInt .f64 D5.1) (floatOfInt .f64 D6.1), .int .i64 D7.1, .int .i64 D8.1, .int .i64 0, .int .i64 0, .string ⟨#[]⟩, .int .i64 0, .string ⟨#[]⟩, .int .i64 0, .string ⟨#[]⟩, .slice none 0 0, .slice av j cv] (0, 0) _ (by exact (two_ne (Nat.ne_of_lt HL.out.1)).trans HF.out.1) Try.underlying30 rfl Try.sizeMsg8) (by exact set2 HF.out.2.1) rfl) rfl ?_
      unfold SaidR
      rw [HMq.out, ← HL.out.2.2.2.2]
      have hri := (HF.out.2.2.2.1.far2 HF.out.2.1 (.slice a n c) (.bool k)).below (Below.refl _ _).drew
      have hOn := (only2 Y W.heap.size (.slice a n c) (.bool k))
      have hTg : Tag Y W.heap.size 68 := ⟨_, _, HF.out.2.1⟩
      exact ⟨(.slice none 0 0), (.slice av j cv), _, _, rfl, (by rw [HL.out.2.2.2.2]; exact (owns_moved HF.out.2.2.2.2.1 fun q hq => hOn.block q (Tag.own HF.out.2.2.2.2.1 hq).lt ((Tag.own HF.out.2.2.2.2.1 hq).ne hTg (by decide)))), (by rw [HL.out.2.2.2.2]; exact (owns_moved HF.out.2.2.2.2.2 fun q hq => hOn.block q (Tag.own HF.out.2.2.2.2.2 hq).lt ((Tag.own HF.out.2.2.2.2.2 hq).ne hTg (by decide)))), hri, (by have hx := (below2 (.slice a n c) (.bool k) HF.out.2.2.1 (Nat.le_of_lt HL.out.1)).drew; rw [HL.out.2.2.2.2]; exact hx)⟩
    have hj48 : (j : Int) ≤ 48 := by omega
    cases k with
    | false =>
      have hsn : s = none := by
        obtain ⟨_, _, _, _, hs⟩ := hI.out.2.1.og.ri
        rcases hs with ⟨h, _⟩ | ⟨_, h⟩
        · cases h
        · exact h
      have hend : 49 - j = 0 ∨ C - (j : Int) ≤ 0 ∨ s = none := .inr (.inr hsn)
      have HE : Hid (rdF keyF 49 C D9.2 = (L, s)) := by
        have h := hI.out.2.2
        rw [rdF_end (f := keyF) hend] at h
        show _ = _
        simpa using h
      have HG : Hid (LK Bq w W4 wr W2.heap.size W3.heap.size (.slice a n c) false s #[.int .i64 3, .int .i64 D2.1, .int .i64 D3.1, .int .i64 D4.1, .complex .f64 (floatOfInt .f64 D5.1) (floatOfInt .f64 D6.1), .int .i64 D7.1, .int .i64 D8.1, .int .i64 0, .int .i64 0, .string ⟨#[]⟩, .int .i64 0, .string ⟨#[]⟩, .int .i64 0, .string ⟨#[]⟩, .slice none 0 0, .slice av j cv] (.slice av j cv) L) := hI.out.2.1
      have HMq : Hid (msgF (some l) = (⟨3, D2.1, D3.1, D4.1, D5.1, D6.1, D7.1, D8.1, zeroOp, [], L⟩, s)) := (by have h := HM.out; rw [HC.out, HE.out] at h; exact h)
      clear hend hI zo zf z0
      clear hsn hj9
      go_upto_region 34 with fail
      clear z1
      have hres : wr.heap[w.heap.size]? = some (.cells #[.int .i64 0, .int .i64 0, .int .i64 0, .int .i64 0, .complex .f64 0 0, .int .i64 0, .int .i64 0, .int .i64 0, .int .i64 0, .string ⟨#[]⟩, .int .i64 0, .string ⟨#[]⟩, .int .i64 0, .string ⟨#[]⟩, .slice none 0 0, .slice none 0 0] 30 (0, 0)) := (HG.out.og.only.block _ (Array.getElem?_eq_some_iff.1 HR.out.1).1 (by have := HL.out; omega)).trans HR.out.1
      have hins : wr.heap[W.heap.size]? = some (.cells #[.slice none 0 0, .bool false] 68 (0, 0)) := (HG.out.og.only.block _ (Array.getElem?_eq_some_iff.1 HR.out.2).1 (by have := HL.out; omega)).trans HR.out.2
      have s1 : ∀ w', Only (fun x => x = w.heap.size ∨ x = W.heap.size) wr.drew w' → w'.cell? ⟨W3.heap.size, 0, none⟩ = some (.int .i64 3) ∧ w'.cell? ⟨W3.heap.size, 1, none⟩ = some (.int .i64 D2.1) ∧ w'.cell? ⟨W3.heap.size, 2, none⟩ = some (.int .i64 D3.1) ∧ w'.cell? ⟨W3.heap.size, 3, none⟩ = some (.int .i64 D4.1) ∧ w'.cell? ⟨W3.heap.size, 4, none⟩ = some (.complex .f64 (floatOfInt .f64 D5.1) (floatOfInt .f64 D6.1)) ∧ w'.cell? ⟨W3.heap.size, 5, none⟩ = some (.int .i64 D7.1) ∧ w'.cell? ⟨W3.heap.size, 6, none⟩ = some (.int .i64 D8.1) ∧ w'.cell? ⟨W3.heap.size, 7, none⟩ = some (.int .i64 0) ∧ w'.cell? ⟨W3.heap.size, 8, none⟩ = some (.int .i64 0) ∧ w'.cell? ⟨W3.heap.size, 9, none⟩ = some (.string ⟨#[]⟩) ∧ w'.cell? ⟨W3.heap.size, 10, none⟩ = some (.int .i64 0) ∧ w'.cell? ⟨W3.heap.size, 11, none⟩ = some (.string ⟨#[]⟩) ∧ w'.cell? ⟨W3.heap.size, 12, none⟩ = some (.int .i64 0) ∧ w'.cell? ⟨W3.heap.size, 13, none⟩ = some (.string ⟨#[]⟩) ∧ w'.cell? ⟨W3.heap.size, 14, none⟩ = some (.slice none 0 0) ∧ w'.cell? ⟨W3.heap.size, 15, none⟩ = some (.slice av j cv) ∧ w'.cell? ⟨W2.heap.size, 0, none⟩ = some (.slice a n c) ∧ w'.cell? ⟨W2.heap.size, 1, none⟩ = some (.bool false) := fun w' ho => by
        have e1 : w'.heap[W3.heap.size]? = wr.heap[W3.heap.size]? := ho.block _ (Array.getElem?_eq_some_iff.1 HG.out.og.own).1 (by have := HL.out; omega)
        have e2 : w'.heap[W2.heap.size]? = wr.heap[W2.heap.size]? := ho.block _ (Array.getElem?_eq_some_iff.1 HG.out.og.box).1 (by have := HL.out; omega)
        exact ⟨(World.cell?_of_block e1).trans (by rw [cell_of HG.out.og.own]; rfl), (World.cell?_of_block e1).trans (by rw [cell_of HG.out.og.own]; rfl), (World.cell?_of_block e1).trans (by rw [cell_of HG.out.og.own]; rfl), (World.cell?_of_block e1).trans (by rw [cell_of HG.out.og.own]; rfl), (World.cell?_of_block e1).trans (by rw [cell_of HG.out.og.own]; rfl), (World.cell?_of_block e1).trans (by rw [cell_of HG.out.og.own]; rfl), (World.cell?_of_block e1).trans (by rw [cell_of HG.out.og.own]; rfl), (World.cell?_of_block e1).trans (by rw [cell_of HG.out.og.own]; rfl), (World.cell?_of_block e1).trans (by rw [cell_of HG.out.og.own]; rfl), (World.cell?_of_block e1).trans (by rw [cell_of HG.out.og.own]; rfl), (World.cell?_of_block e1).trans (by rw [cell_of HG.out.og.own]; rfl), (World.cell?_of_block e1).trans (by rw [cell_of HG.out.og.own]; rfl), (World.cell?_of_block e1).trans (by rw [cell_of HG.out.og.own]; rfl), (World.cell?_of_block e1).trans (by rw [cell_of HG.out.og.own]; rfl), (World.cell?_of_block e1).trans (by rw [cell_of HG.out.og.own]; rfl), (World.cell?_of_block e1).trans (by rw [cell_of HG.out.og.own]; rfl), (World.cell?_of_block e2).trans (by rw [cell_of HG.out.og.box]; rfl), (World.cell?_of_block e2).trans (by rw [cell_of HG.out.og.box]; rfl)⟩
      have s0 := s1 _ (Only.refl _ _)
      obtain ⟨Y, hY⟩ : ∃ Y, ((((((((((((((((wr.setCell ⟨w.heap.size, 0, none⟩ (.int .i64 3)).setCell ⟨w.heap.size, 1, none⟩ (.int .i64 D2.1)).setCell ⟨w.heap.size, 2, none⟩ (.int .i64 D3.1)).setCell ⟨w.heap.size, 3, none⟩ (.int .i64 D4.1)).setCell ⟨w.heap.size, 4, none⟩ (.complex .f64 (floatOfInt .f64 D5.1) (floatOfInt .f64 D6.1))).setCell ⟨w.heap.size, 5, none⟩ (.int .i64 D7.1)).setCell ⟨w.heap.size, 6, none⟩ (.int .i64 D8.1)).setCell ⟨w.heap.size, 7, none⟩ (.int .i64 0)).setCell ⟨w.heap.size, 8, none⟩ (.int .i64 0)).setCell ⟨w.heap.size, 9, none⟩ (.string ⟨#[]⟩)).setCell ⟨w.heap.size, 10, none⟩ (.int .i64 0)).setCell ⟨w.heap.size, 11, none⟩ (.string ⟨#[]⟩)).setCell ⟨w.heap.size, 12, none⟩ (.int .i64 0)).setCell ⟨w.heap.size, 13, none⟩ (.string ⟨#[]⟩)).setCell ⟨w.heap.size, 14, none⟩ (.slice none 0 0)).setCell ⟨w.heap.size, 15, none⟩ (.slice av j cv)) = Y := ⟨_, rfl⟩
      have hOY : Only (· = w.heap.size) wr Y := by rw [← hY]; exact only16 wr w.heap.size _ _ _ _ _ _ _ _ _ _ _ _ _ _ _ _
      have sY : Only (fun x => x = w.heap.size ∨ x = W.heap.size) wr Y := hOY.mono fun _ h => .inl h
      have sYd : Only (fun x => x = w.heap.size ∨ x = W.heap.size) wr.drew Y := ⟨sY.os, sY.tape, sY.output, sY.size, sY.block⟩
      have r0 : wr.cell? ⟨w.heap.size, 0, none⟩ = some (.int .i64 0) := by rw [cell_of hres]; rfl
      have rg0 := free_of hres 0
      have r1 : wr.cell? ⟨w.heap.size, 1, none⟩ = some (.int .i64 0) := by rw [cell_of hres]; rfl
      have rg1 := free_of hres 1
      have r2 : wr.cell? ⟨w.heap.size, 2, none⟩ = some (.int .i64 0) := by rw [cell_of hres]; rfl
      have rg2 := free_of hres 2
      have r3 : wr.cell? ⟨w.heap.size, 3, none⟩ = some (.int .i64 0) := by rw [cell_of hres]; rfl
      have rg3 := free_of hres 3
      have r4 : wr.cell? ⟨w.heap.size, 4, none⟩ = some (.complex .f64 0 0) := by rw [cell_of hres]; rfl
      have rg4 := free_of hres 4
      have r5 : wr.cell? ⟨w.heap.size, 5, none⟩ = some (.int .i64 0) := by rw [cell_of hres]; rfl
      have rg5 := free_of hres 5
      have r6 : wr.cell? ⟨w.heap.size, 6, none⟩ = some (.int .i64 0) := by rw [cell_of hres]; rfl
      have rg6 := free_of hres 6
      have r7 : wr.cell? ⟨w.heap.size, 7, none⟩ = some (.int .i64 0) := by rw [cell_of hres]; rfl
      have rg7 := free_of hres 7
      have r8 : wr.cell? ⟨w.heap.size, 8, none⟩ = some (.int .i64 0) := by rw [cell_of hres]; rfl
      have rg8 := free_of hres 8
      have r9 : wr.cell? ⟨w.heap.size, 9, none⟩ = some (.string ⟨#[]⟩) := by rw [cell_of hres]; rfl
      have rg9 := free_of hres 9
      have r10 : wr.cell? ⟨w.heap.size, 10, none⟩ = some (.int .i64 0) := by rw [cell_of hres]; rfl
      have rg10 := free_of hres 10
      have r11 : wr.cell? ⟨w.heap.size, 11, none⟩ = some (.string ⟨#[]⟩) := by rw [cell_of hres]; rfl
      have rg11 := free_of hres 11
      have r12 : wr.cell? ⟨w.heap.size, 12, none⟩ = some (.int .i64 0) := by rw [cell_of hres]; rfl
      have rg12 := free_of hres 12
      have r13 : wr.cell? ⟨w.heap.size, 13, none⟩ = some (.string ⟨#[]⟩) := by rw [cell_of hres]; rfl
      have rg13 := free_of hres 13
      have r14 : wr.cell? ⟨w.heap.size, 14, none⟩ = some (.slice none 0 0) := by rw [cell_of hres]; rfl
      have rg14 := free_of hres 14
      have r15 : wr.cell? ⟨w.heap.size, 15, none⟩ = some (.slice none 0 0) := by rw [cell_of hres]; rfl
      have rg15 := free_of hres 15
      have hYW : Y.heap[w.heap.size]? = some (.cells #[.int .i64 3, .int .i64 D2.1, .int .i64 D3.1, .int .i64 D4.1, .complex .f64 (floatOfInt .f64 D5.1) (floatOfInt .f64 D6.1), .int .i64 D7.1, .int .i64 D8.1, .int .i64 0, .int .i64 0, .string ⟨#[]⟩, .int .i64 0, .string ⟨#[]⟩, .int .i64 0, .string ⟨#[]⟩, .slice none 0 0, .slice av j cv] 30 (0, 0)) := by rw [← hY]; exact set16 hres
      have hYq : Y.heap[W.heap.size]? = some (.cells #[.slice none 0 0, .bool false] 68 (0, 0)) := (hOY.block _ (Array.getElem?_eq_some_iff.1 hins).1 (by have := HL.out; omega)).trans hins
      have u0 : Y.cell? ⟨W.heap.size, 0, none⟩ = some (.slice none 0 0) := by rw [cell_of hYq]; rfl
      have u1 : Y.cell? ⟨W.heap.size, 1, none⟩ = some (.bool false) := by rw [cell_of hYq]; rfl
      have ug0 := free_of hYq 0
      have ug1 := free_of hYq 1
      have HF : Hid (Y.heap[w.heap.size]? = some (.cells #[.int .i64 3, .int .i64 D2.1, .int .i64 D3.1, .int .i64 D4.1, .complex .f64 (floatOfInt .f64 D5.1) (floatOfInt .f64 D6.1), .int .i64 D7.1, .int .i64 D8.1, .int .i64 0, .int .i64 0, .string ⟨#[]⟩, .int .i64 0, .string ⟨#[]⟩, .int .i64 0, .string ⟨#[]⟩, .slice none 0 0, .slice av j cv] 30 (0, 0)) ∧ Y.heap[W.heap.size]? = some (.cells #[.slice none 0 0, .bool false] 68 (0, 0)) ∧ Below w.heap.size w Y ∧ RI Bq Y (.slice a n c) false s ∧ Row7 Y w.heap.size (.slice none 0 0) [] ∧ RowK Y w.heap.size (.slice av j cv) L) := ⟨hYW, hYq, below_on1 HG.out.og.bel hOY (Nat.le_refl _), HG.out.og.ri.farO hres (no_u8 (by simp)) hOY, World.ownsRow_nil _ _ _ _, owns_le (owns_moved HG.out.row fun q hq => hOY.block q (Tag.own HG.out.row hq).lt (by have := (World.ownsRow.lt HG.out.row q hq).1; have := HL.out; omega)) (by have := HL.out; omega)⟩
      have sY2 := s1 Y sYd
      have sY3 : ∀ p p', Only (fun x => x = w.heap.size ∨ x = W.heap.size) wr.drew ((Y.setCell ⟨W.heap.size, 0, none⟩ p).setCell ⟨W.heap.size, 1, none⟩ p') := fun p p' => sYd.trans ((only2 Y W.heap.size p p').mono fun _ h => .inr h)
      have sY4 := fun p p' => s1 _ (sY3 p p')
      clear hYW hYq sY sYd sY3 s1 hOY hres hins
      go_region_held3 (fun w' => w'.cell? ⟨W3.heap.size, 0, none⟩ = some (.int .i64 3) ∧ w'.cell? ⟨W3.heap.size, 1, none⟩ = some (.int .i64 D2.1) ∧ w'.cell? ⟨W3.heap.size, 2, none⟩ = some (.int .i64 D3.1) ∧ w'.cell? ⟨W3.heap.size, 3, none⟩ = some (.int .i64 D4.1) ∧ w'.cell? ⟨W3.heap.size, 4, none⟩ = some (.complex .f64 (floatOfInt .f64 D5.1) (floatOfInt .f64 D6.1)) ∧ w'.cell? ⟨W3.heap.size, 5, none⟩ = some (.int .i64 D7.1) ∧ w'.cell? ⟨W3.heap.size, 6, none⟩ = some (.int .i64 D8.1) ∧ w'.cell? ⟨W3.heap.size, 7, none⟩ = some (.int .i64 0) ∧ w'.cell? ⟨W3.heap.size, 8, none⟩ = some (.int .i64 0) ∧ w'.cell? ⟨W3.heap.size, 9, none⟩ = some (.string ⟨#[]⟩) ∧ w'.cell? ⟨W3.heap.size, 10, none⟩ = some (.int .i64 0) ∧ w'.cell? ⟨W3.heap.size, 11, none⟩ = some (.string ⟨#[]⟩) ∧ w'.cell? ⟨W3.heap.size, 12, none⟩ = some (.int .i64 0) ∧ w'.cell? ⟨W3.heap.size, 13, none⟩ = some (.string ⟨#[]⟩) ∧ w'.cell? ⟨W3.heap.size, 14, none⟩ = some (.slice none 0 0) ∧ w'.cell? ⟨W3.heap.size, 15, none⟩ = some (.slice av j cv) ∧ w'.cell? ⟨W2.heap.size, 0, none⟩ = some (.slice a n c) ∧ w'.cell? ⟨W2.heap.size, 1, none⟩ = some (.bool false)) (first | exact s0 | exact sY2 | exact sY4 _ _ | (rw [hY]; exact sY2)) (fail)
      go_wp2
      refine bodyPost_ret (ret_two rfl _ _ w.heap.size W.heap.size rfl rfl (run_loadVar_row _ w.heap.size 30 30 #[.int .i64 3, .int .i64 D2.1, .int .i64 D3.1, .int .i64 D4.1, .complex .f64 (floatOfInt .f64 D5.1) (floatOfInt .f64 D6.1), .int .i64 D7.1, .int .i64 D8.1, .int .i64 0, .int .i64 0, .string ⟨#[]⟩, .int .i64 0, .string ⟨#[]⟩, .int .i64 0, .string ⟨#[]⟩, .slice none 0 0, .slice av j cv] (0, 0) _ (by exact (two_ne (Nat.ne_of_lt HL.out.1)).trans HF.out.1) Try.underlying30 rfl Try.sizeMsg8) (by exact set2 HF.out.2.1) rfl) rfl ?_
      unfold SaidR
      rw [HMq.out, ← HL.out.2.2.2.2]
      have hri := (HF.out.2.2.2.1.far2 HF.out.2.1 (.slice a n c) (.bool false)).below (Below.refl _ _).drew
      have hOn := (only2 Y W.heap.size (.slice a n c) (.bool false))
      have hTg : Tag Y W.heap.size 68 := ⟨_, _, HF.out.2.1⟩
      exact ⟨(.slice none 0 0), (.slice av j cv), _, _, rfl, (by rw [HL.out.2.2.2.2]; exact (owns_moved HF.out.2.2.2.2.1 fun q hq => hOn.block q (Tag.own HF.out.2.2.2.2.1 hq).lt ((Tag.own HF.out.2.2.2.2.1 hq).ne hTg (by decide)))), (by rw [HL.out.2.2.2.2]; exact (owns_moved HF.out.2.2.2.2.2 fun q hq => hOn.block q (Tag.own HF.out.2.2.2.2.2 hq).lt ((Tag.own HF.out.2.2.2.2.2 hq).ne hTg (by decide)))), hri, (by have hx := (below2 (.slice a n c) (.bool false) HF.out.2.2.1 (Nat.le_of_lt HL.out.1)).drew; rw [HL.out.2.2.2.2]; exact hx)⟩
    | true =>
      obtain ⟨lq, hlq⟩ : ∃ lq, s = some lq := by
        obtain ⟨lq, _, _, _, hs⟩ := hI.out.2.1.og.ri
        rcases hs with ⟨_, h⟩ | ⟨h, _⟩
        · exact ⟨lq, h⟩
        · cases h
      obtain ⟨x, sx, hx⟩ : ∃ x sx, keyF s = (x, sx) := ⟨_, _, rfl⟩
      have HX : Hid (rdF keyF 49 C D9.2 = ((L ++ [x]) ++ (rdF keyF (49 - (j + 1)) (C - ((j + 1 : Nat) : Int)) sx).1, (rdF keyF (49 - (j + 1)) (C - ((j + 1 : Nat) : Int)) sx).2)) := by
        have h := hI.out.2.2
        rw [show 49 - j = (49 - (j + 1)) + 1 by omega, hlq, rdF_go (by omega), ← hlq, hx, show C - (j : Int) - 1 = C - ((j + 1 : Nat) : Int) by omega] at h
        show _ = _
        simpa using h
      have HRd : Hid (Calls Try.prog 58 #[.agg #[.slice a n c, .bool true]] wr fun e w' => ∃ a1 m1 c1 k1, e = .returned (.tuple #[.agg #[.int .i64 x.d, .string x.nm], .agg #[.slice a1 m1 c1, .bool k1]]) ∧ Hid (RI Bq w' (.slice a1 m1 c1) k1 sx) ∧ Below wr.heap.size wr w') := (key1_k hI.out.2.1.og.ri).mono fun e w' ⟨b1, ok1, he, hr, hb⟩ => by
        obtain ⟨a1, m1, c1, rfl⟩ := hr.out.form
        rw [hx] at he hr
        exact ⟨a1, m1, c1, ok1, he, hr, hb⟩
      clear zo zf hlq hx hj9
      go_upto_region 32 with (go_at_call 58; refine HRd.out.mono ?_; rintro e u ⟨a1, m1, c1, k1, rfl, hr, hb⟩; clear z0 z1; obtain ⟨V1, hV1⟩ : ∃ V, u.alloc (.cells #[.int .i64 0, .string ⟨#[]⟩] 40) = V := ⟨_, rfl⟩; obtain ⟨V2, hV2⟩ : ∃ V, V1.alloc (.cells #[.slice none 0 0, .bool false] 68) = V := ⟨_, rfl⟩; have bV1 := boxB hV1; have bV2 := boxB hV2; have hUV := chainB bV1.2 bV2.2; have b12' := hkeep bV1.1 bV2.2; obtain ⟨y1, hy1⟩ : ∃ y, u.heap.size = y := ⟨_, rfl⟩; obtain ⟨y2, hy2⟩ : ∃ y, V1.heap.size = y := ⟨_, rfl⟩; have hsz : y2 = y1 + 1 := (by rw [← hy2, ← hV1, ← hy1]; simp); rw [hy2] at bV2; have b12 : V2.heap[y1]? = some (.cells #[.int .i64 0, .string ⟨#[]⟩] 40 (0, 0)) := (by rw [← hy1]; exact b12'); have zq0 : V2.cell? ⟨y1, 0, none⟩ = some (.int .i64 0) := (by rw [cell_of b12]; rfl); have zg0 := free_of b12 0; have zq1 : V2.cell? ⟨y1, 1, none⟩ = some (.string ⟨#[]⟩) := (by rw [cell_of b12]; rfl); have zg1 := free_of b12 1; obtain ⟨V3, hV3⟩ : ∃ V, ((V2.setCell ⟨y1, 0, none⟩ (.int .i64 x.d)).setCell ⟨y1, 1, none⟩ (.string x.nm)) = V := ⟨_, rfl⟩; have hO3 : Only (· = y1) V2 V3 := (by rw [← hV3]; exact only2 V2 y1 _ _); have hE3 : V3.heap[y1]? = some (.cells #[.int .i64 x.d, .string x.nm] 40 (0, 0)) := (by rw [← hV3]; exact set2 b12); have hN3 : V3.heap[y2]? = some (.cells #[.slice none 0 0, .bool false] 68 (0, 0)) := (hO3.block y2 (Array.getElem?_eq_some_iff.1 bV2.1).1 (by omega)).trans bV2.1; have m0 : V3.cell? ⟨y2, 0, none⟩ = some (.slice none 0 0) := (by rw [cell_of hN3]; rfl); have m1' : V3.cell? ⟨y2, 1, none⟩ = some (.bool false) := (by rw [cell_of hN3]; rfl); have mg0 := free_of hN3 0; have mg1 := free_of hN3 1; obtain ⟨V4, hV4⟩ : ∃ V, (V3.setCell ⟨y2, 0, none⟩ (.slice a1 m1 c1)).setCell ⟨y2, 1, none⟩ (.bool k1) = V := ⟨_, rfl⟩; have hB2 : Below wr.heap.size wr V2 := chainB hb hUV; have hB3 : Below wr.heap.size wr V3 := below_on1 hB2 hO3 (by rw [← hy1]; exact hb.size); have hR2 : RI Bq V2 (.slice a1 m1 c1) k1 sx := hr.out.below hUV; have hR3 : RI Bq V3 (.slice a1 m1 c1) k1 sx := hR2.farO b12 (no_u8 (by simp)) hO3; have HV : Hid (Below wr.heap.size wr V4 ∧ V4.heap[y1]? = some (.cells #[.int .i64 x.d, .string x.nm] 40 (0, 0)) ∧ V4.heap[y2]? = some (.cells #[.slice a1 m1 c1, .bool k1] 68 (0, 0)) ∧ RI Bq V4 (.slice a1 m1 c1) k1 sx ∧ y1 ≠ W2.heap.size ∧ y1 ≠ W3.heap.size) := (by rw [← hV4]; exact ⟨below2 _ _ hB3 (by have := hb.size; omega), (two_ne (by omega)).trans hE3, set2 hN3, hR3.far2 hN3 _ _, (by have := hb.size; have := hI.out.2.1.og.only.size; have := HQ.out; omega), (by have := hb.size; have := hI.out.2.1.og.only.size; have := HQ.out; omega)⟩); clear hr hb bV1 bV2 b12 b12' hUV hO3 hE3 hN3 hB2 hB3 hR2 hR3 hsz)
      clear hV1 hV2 hV3 hV4 hy1 hy2 zq0 zg0 zq1 zg1 m0 m1' mg0 mg1
      have PB := hI.out.2.1.og.below HV.out.1
      obtain ⟨z0, z1, zf, -⟩ := PB.cells
      have zf0 := zf 0
      have zf1 := zf 1
      clear zf
      have v0 : V4.cell? ⟨y2, 0, none⟩ = some (.slice a1 m1 c1) := by rw [cell_of HV.out.2.2.1]; rfl
      have v1 : V4.cell? ⟨y2, 1, none⟩ = some (.bool k1) := by rw [cell_of HV.out.2.2.1]; rfl
      obtain ⟨Z, hZ⟩ : ∃ Z, (V4.setCell ⟨W2.heap.size, 0, none⟩ (.slice a1 m1 c1)).setCell ⟨W2.heap.size, 1, none⟩ (.bool k1) = Z := ⟨_, rfl⟩
      have hOZ : Only (· = W2.heap.size) V4 Z := by rw [← hZ]; exact only2 _ _ _ _
      have HZ : Hid (OG Bq w W4 Z W2.heap.size W3.heap.size 30 (.slice a1 m1 c1) k1 sx #[.int .i64 3, .int .i64 D2.1, .int .i64 D3.1, .int .i64 D4.1, .complex .f64 (floatOfInt .f64 D5.1) (floatOfInt .f64 D6.1), .int .i64 D7.1, .int .i64 D8.1, .int .i64 0, .int .i64 0, .string ⟨#[]⟩, .int .i64 0, .string ⟨#[]⟩, .int .i64 0, .string ⟨#[]⟩, .slice none 0 0, .slice av j cv] ∧ Z.heap[y1]? = some (.cells #[.int .i64 x.d, .string x.nm] 40 (0, 0)) ∧ RowK Z W4.heap.size (.slice av j cv) L) := ⟨hI.out.2.1.og.step HV.out.1 HV.out.2.2.2.1 (Only.refl _ _) PB.own hZ HI.out.1 HI.out.2.1 HI.out.2.2 (no_u8 (by simp)), (hOZ.block _ (Array.getElem?_eq_some_iff.1 HV.out.2.1).1 HV.out.2.2.2.2.1).trans HV.out.2.1, owns_moved (hI.out.2.1.row.below HV.out.1) fun q hq => hOZ.block q (World.ownsRow.lt (hI.out.2.1.row.below HV.out.1) q hq).2 (by have := (World.ownsRow.lt (hI.out.2.1.row.below HV.out.1) q hq).1; have := HQ.out; omega)⟩
      clear PB hOZ
      go_upto_region 33 with fail
      clear hZ z0 z1 zf0 zf1 v0 v1
      obtain ⟨-, -, -, zo, zf⟩ := HZ.out.1.cells
      have q0 : Z.cell? ⟨W3.heap.size, 15, none⟩ = some (.slice av j cv) := zo 15
      clear zo
      have e0 : Z.cell? ⟨y1, 0, none⟩ = some (.int .i64 x.d) := by rw [cell_of HZ.out.2.1]; rfl
      have e1 : Z.cell? ⟨y1, 1, none⟩ = some (.string x.nm) := by rw [cell_of HZ.out.2.1]; rfl
      have hj9' : j ≤ 48 := by omega
      have HLn : Hid (L.length = j) := hI.out.1
      have hrow : Z.ownsRow W4.heap.size 40 2 (.slice av j cv) j (kc L) := (by have h := HZ.out.2.2; unfold RowK at h; rw [HLn.out] at h; exact h)
      have HRw : Hid (Z.ownsRow W4.heap.size 40 2 (.slice av j cv) j (kc L) ∧ W4.heap.size ≤ Z.heap.size) := ⟨hrow, HZ.out.1.only.size⟩
      clear hrow zf
      obtain ⟨X, hX⟩ : ∃ X, Z.alloc (.cells #[.int .i64 x.d, .string x.nm] 40) = X := ⟨_, rfl⟩
      have bX := boxB hX
      have HXb : Hid (Below Z.heap.size Z X) := bX.2
      have oX : X.cell? ⟨W3.heap.size, 15, none⟩ = some (.slice av j cv) := (bX.2.cell (cellLt q0)).trans q0
      clear bX
      go_wp2_with (at_builtin; refine wpList_append_own_at _ rfl _ _ 28 rfl W4.heap.size 40 i1 _ 2 24 Try.underlying28 hi1 hw0 hw1 hw2 rfl (by decide) _ j (kc L) rfl (owns_below HRw.out.1 HXb.out) ⟨Z.heap.size, 0, none⟩ 1 1 [.int .i64 x.d, .string x.nm] rfl rfl (by rw [← hX]; exact kvals_at Z x _) (kvals_one x) (by unfold maxLen; omega) (by omega) (Nat.le_trans HRw.out.2 HXb.out.size) ?_; intro v5 w5 hown5 hgrow5 hq5 hq6; clear hq5 hq6; obtain ⟨g5, c5, hv5⟩ := owns_form hown5; subst hv5; have hO5 := only_grown hgrow5; have HS5 : Hid (∀ q, Value.ownBlock (.slice av j cv) = some q → W4.heap.size ≤ q) := (fun q hq => (World.ownsRow.lt HRw.out.1 q hq).1); have P5 : Hid (OG Bq w W4 w5 W2.heap.size W3.heap.size 30 (.slice a1 m1 c1) k1 sx #[.int .i64 3, .int .i64 D2.1, .int .i64 D3.1, .int .i64 D4.1, .complex .f64 (floatOfInt .f64 D5.1) (floatOfInt .f64 D6.1), .int .i64 D7.1, .int .i64 D8.1, .int .i64 0, .int .i64 0, .string ⟨#[]⟩, .int .i64 0, .string ⟨#[]⟩, .int .i64 0, .string ⟨#[]⟩, .slice none 0 0, .slice av j cv] ∧ w5.ownsRow W4.heap.size 40 2 (.slice (some ⟨g5, 0, none⟩) (j + 1) c5) (j + 1) (kc L ++ [.int .i64 x.d, .string x.nm])) := ⟨(HZ.out.1.below HXb.out).grow hO5 HS5.out HQ.out.1 HQ.out.2.1 HQ.out.2.2.1 HQ.out.2.2.2, hown5⟩; obtain ⟨-, -, -, qo, qf⟩ := P5.out.1.cells; have q5 : w5.cell? ⟨W3.heap.size, 15, none⟩ = some (.slice av j cv) := qo 15; have qg5 := qf 15; clear qo qf hown5 hgrow5 hO5)
      refine ⟨⟨j + 1, L ++ [x], some ⟨g5, 0, none⟩, c5, a1, m1, c1, k1, sx, by omega, by simp, ?_⟩, by simp [intOf]; omega⟩
      have hOs : Only (· = W3.heap.size) w5 (w5.setCell ⟨W3.heap.size, 15, none⟩ (.slice (some ⟨g5, 0, none⟩) (j + 1) c5)) := only1 _ _ _ _
      refine ⟨by simp [HLn.out], ⟨P5.out.1.setO hOs ((heap_set P5.out.1.own 15 _).trans rfl) HI.out.1 HI.out.2.2 (no_u8 (by simp)), ?_⟩, HX.out⟩
      have hro : RowK w5 W4.heap.size (.slice (some ⟨g5, 0, none⟩) (j + 1) c5) (L ++ [x]) := by
        unfold RowK
        rw [List.length_append, HLn.out, show kc (L ++ [x]) = kc L ++ [.int .i64 x.d, .string x.nm] by unfold kc; rw [List.flatMap_append]; rfl]
        exact P5.out.2
      exact owns_moved hro fun q hq => hOs.block q (World.ownsRow.lt hro q hq).2 (by have := (World.ownsRow.lt hro q hq).1; have := HQ.out; omega)
end
end Go.Proofs.Ytekonakanieeaaa
