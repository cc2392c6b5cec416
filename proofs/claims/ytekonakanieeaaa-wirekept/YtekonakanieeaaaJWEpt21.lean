/- The document's own reading of a message: kind 0. -/
import Derived.Test.YtekonakanieeaaaJWEpt20
namespace Go.Proofs.Ytekonakanieeaaa
section
open Go.RowKit Go.Lib
attribute [local go_sem high] run_store_complex

set_option maxRecDepth 20000 in
set_option maxHeartbeats 32000000 in
theorem said_0 (a0 : Option Addr) (n0 c0 : Nat) (l : List Int) (w : World) (hr : RC w (.slice a0 n0 c0) l) (hby : Byt l) (hlim : l.length ≤ 140737488351232) (K : Int) (k1 : (K == 1) = false) (k2 : (K == 2) = false) (k3 : (K == 3) = false) (S1 : St) (hk : octP (some l) = (K, S1)) : Calls Try.prog 22 #[.slice a0 n0 c0] w fun e w' => SaidR l w w' e := by
  obtain ⟨Bq, hBq⟩ : ∃ B, B = w.heap.size := ⟨_, rfl⟩
  obtain ⟨W, hW⟩ : ∃ W, w.alloc (.cells #[.int .i64 0, .int .i64 0, .int .i64 0, .int .i64 0, .complex .f64 0 0, .int .i64 0, .int .i64 0, .int .i64 0, .int .i64 0, .string ⟨#[]⟩, .int .i64 0, .string ⟨#[]⟩, .int .i64 0, .string ⟨#[]⟩, .slice none 0 0, .slice none 0 0] 30) = W := ⟨_, rfl⟩
  obtain ⟨W2, hW2⟩ : ∃ W2, W.alloc (.cells #[.slice none 0 0, .bool false] 68) = W2 := ⟨_, rfl⟩
  obtain ⟨W3, hW3⟩ : ∃ W3, W2.alloc (.cells #[.slice a0 n0 c0, .bool true] 68) = W3 := ⟨_, rfl⟩
  obtain ⟨W4, hW4⟩ : ∃ W4, W3.alloc (.cells #[.int .i64 0, .int .i64 0, .int .i64 0, .int .i64 0, .complex .f64 0 0, .int .i64 0, .int .i64 0, .int .i64 0, .int .i64 0, .string ⟨#[]⟩, .int .i64 0, .string ⟨#[]⟩, .int .i64 0, .string ⟨#[]⟩, .slice none 0 0, .slice none 0 0] 30) = W4 := ⟨_, rfl⟩
  have b1 := boxB hW
  have b2 := boxB hW2
  have b3 := boxB hW3
  have b4 := boxB hW4
  have hs1 : w.heap.size < W.heap.size := by rw [← hW]; simp
  have hs2 : W.heap.size < W2.heap.size := by rw [← hW2]; simp
  have hs3 : W2.heap.size < W3.heap.size := by rw [← hW3]; simp
  have hs4 : W3.heap.size < W4.heap.size := by rw [← hW4]; simp
  have HL : Hid (w.heap.size < W.heap.size ∧ W.heap.size < W2.heap.size ∧ W2.heap.size < W3.heap.size ∧ W3.heap.size < W4.heap.size ∧ Bq = w.heap.size) := ⟨hs1, hs2, hs3, hs4, hBq⟩
  have HI : Hid (W2.heap.size ≠ W3.heap.size ∧ w.heap.size ≤ W2.heap.size ∧ w.heap.size ≤ W3.heap.size) := ⟨by omega, by omega, by omega⟩
  have hB4 := chainB b1.2 (chainB b2.2 (chainB b3.2 b4.2))
  have G0 : Hid (OG Bq w W4 W4 W2.heap.size W3.heap.size 30 (.slice a0 n0 c0) true (some l) #[.int .i64 0, .int .i64 0, .int .i64 0, .int .i64 0, .complex .f64 0 0, .int .i64 0, .int .i64 0, .int .i64 0, .int .i64 0, .string ⟨#[]⟩, .int .i64 0, .string ⟨#[]⟩, .int .i64 0, .string ⟨#[]⟩, .slice none 0 0, .slice none 0 0]) := ⟨hkeep b3.1 b4.2, b4.1, hB4, ⟨l, hr.below hB4, ⟨hby, by rw [hBq]; exact rc_low hr⟩, hlim, .inl ⟨rfl, rfl⟩⟩, Only.refl _ _⟩
  have HR : Hid (W4.heap[w.heap.size]? = some (.cells #[.int .i64 0, .int .i64 0, .int .i64 0, .int .i64 0, .complex .f64 0 0, .int .i64 0, .int .i64 0, .int .i64 0, .int .i64 0, .string ⟨#[]⟩, .int .i64 0, .string ⟨#[]⟩, .int .i64 0, .string ⟨#[]⟩, .slice none 0 0, .slice none 0 0] 30 (0, 0)) ∧ W4.heap[W.heap.size]? = some (.cells #[.slice none 0 0, .bool false] 68 (0, 0))) := ⟨hkeep b1.1 (chainB b2.2 (chainB b3.2 b4.2)), hkeep b2.1 (chainB b3.2 b4.2)⟩
  clear b1 b2 b3 b4 hs1 hs2 hs3 hs4 hB4 hr hby hlim hBq
  have H1 : Hid (∀ W a n c k, RI Bq W (.slice a n c) k (some l) → Calls Try.prog 28 #[.agg #[.slice a n c, .bool k]] W fun e w' => ∃ a1 m1 c1 k1, e = .returned (.tuple #[.int .i64 K, .agg #[.slice a1 m1 c1, .bool k1]]) ∧ Hid (RI Bq w' (.slice a1 m1 c1) k1 S1) ∧ Below W.heap.size W w') := fun W a n c k hr => (byte_d hr).mono fun e w' ⟨b1, ok1, he, hr, hb⟩ => by
    obtain ⟨a1, m1, c1, rfl⟩ := hr.out.form
    rw [hk] at he hr
    exact ⟨a1, m1, c1, ok1, he, hr, hb⟩
  obtain ⟨D2, hD2⟩ : ∃ D, numF 6 1 0 S1 = D := ⟨_, rfl⟩
  have H2 : Hid (∀ W a n c k, RI Bq W (.slice a n c) k S1 → Calls Try.prog 29 #[.agg #[.slice a n c, .bool k]] W fun e w' => ∃ a1 m1 c1 k1, e = .returned (.tuple #[.int .i64 D2.1, .agg #[.slice a1 m1 c1, .bool k1]]) ∧ Hid (RI Bq w' (.slice a1 m1 c1) k1 D2.2) ∧ Below W.heap.size W w') := fun W a n c k hr => (num_d hr).mono fun e w' ⟨b1, ok1, he, hr, hb⟩ => by
    obtain ⟨a1, m1, c1, rfl⟩ := hr.out.form
    rw [hD2] at he hr
    exact ⟨a1, m1, c1, ok1, he, hr, hb⟩
  obtain ⟨D3, hD3⟩ : ∃ D, numF 6 1 0 D2.2 = D := ⟨_, rfl⟩
  have H3 : Hid (∀ W a n c k, RI Bq W (.slice a n c) k D2.2 → Calls Try.prog 29 #[.agg #[.slice a n c, .bool k]] W fun e w' => ∃ a1 m1 c1 k1, e = .returned (.tuple #[.int .i64 D3.1, .agg #[.slice a1 m1 c1, .bool k1]]) ∧ Hid (RI Bq w' (.slice a1 m1 c1) k1 D3.2) ∧ Below W.heap.size W w') := fun W a n c k hr => (num_d hr).mono fun e w' ⟨b1, ok1, he, hr, hb⟩ => by
    obtain ⟨a1, m1, c1, rfl⟩ := hr.out.form
    rw [hD3] at he hr
    exact ⟨a1, m1, c1, ok1, he, hr, hb⟩
  obtain ⟨D4, hD4⟩ : ∃ D, numF 6 1 0 D3.2 = D := ⟨_, rfl⟩
  have H4 : Hid (∀ W a n c k, RI Bq W (.slice a n c) k D3.2 → Calls Try.prog 29 #[.agg #[.slice a n c, .bool k]] W fun e w' => ∃ a1 m1 c1 k1, e = .returned (.tuple #[.int .i64 D4.1, .agg #[.slice a1 m1 c1, .bool k1]]) ∧ Hid (RI Bq w' (.slice a1 m1 c1) k1 D4.2) ∧ Below W.heap.size W w') := fun W a n c k hr => (num_d hr).mono fun e w' ⟨b1, ok1, he, hr, hb⟩ => by
    obtain ⟨a1, m1, c1, rfl⟩ := hr.out.form
    rw [hD4] at he hr
    exact ⟨a1, m1, c1, ok1, he, hr, hb⟩
  obtain ⟨D5, hD5⟩ : ∃ D, numF 6 1 0 D4.2 = D := ⟨_, rfl⟩
  have H5 : Hid (∀ W a n c k, RI Bq W (.slice a n c) k D4.2 → Calls Try.prog 29 #[.agg #[.slice a n c, .bool k]] W fun e w' => ∃ a1 m1 c1 k1, e = .returned (.tuple #[.int .i64 D5.1, .agg #[.slice a1 m1 c1, .bool k1]]) ∧ Hid (RI Bq w' (.slice a1 m1 c1) k1 D5.2) ∧ Below W.heap.size W w') := fun W a n c k hr => (num_d hr).mono fun e w' ⟨b1, ok1, he, hr, hb⟩ => by
    obtain ⟨a1, m1, c1, rfl⟩ := hr.out.form
    rw [hD5] at he hr
    exact ⟨a1, m1, c1, ok1, he, hr, hb⟩
  obtain ⟨D6, hD6⟩ : ∃ D, numF 6 1 0 D5.2 = D := ⟨_, rfl⟩
  have H6 : Hid (∀ W a n c k, RI Bq W (.slice a n c) k D5.2 → Calls Try.prog 29 #[.agg #[.slice a n c, .bool k]] W fun e w' => ∃ a1 m1 c1 k1, e = .returned (.tuple #[.int .i64 D6.1, .agg #[.slice a1 m1 c1, .bool k1]]) ∧ Hid (RI Bq w' (.slice a1 m1 c1) k1 D6.2) ∧ Below W.heap.size W w') := fun W a n c k hr => (num_d hr).mono fun e w' ⟨b1, ok1, he, hr, hb⟩ => by
    obtain ⟨a1, m1, c1, rfl⟩ := hr.out.form
    rw [hD6] at he hr
    exact ⟨a1, m1, c1, ok1, he, hr, hb⟩
  obtain ⟨D7, hD7⟩ : ∃ D, numF 6 1 0 D6.2 = D := ⟨_, rfl⟩
  have H7 : Hid (∀ W a n c k, RI Bq W (.slice a n c) k D6.2 → Calls Try.prog 29 #[.agg #[.slice a n c, .bool k]] W fun e w' => ∃ a1 m1 c1 k1, e = .returned (.tuple #[.int .i64 D7.1, .agg #[.slice a1 m1 c1, .bool k1]]) ∧ Hid (RI Bq w' (.slice a1 m1 c1) k1 D7.2) ∧ Below W.heap.size W w') := fun W a n c k hr => (num_d hr).mono fun e w' ⟨b1, ok1, he, hr, hb⟩ => by
    obtain ⟨a1, m1, c1, rfl⟩ := hr.out.form
    rw [hD7] at he hr
    exact ⟨a1, m1, c1, ok1, he, hr, hb⟩
  obtain ⟨D8, hD8⟩ : ∃ D, numF 6 1 0 D7.2 = D := ⟨_, rfl⟩
  have H8 : Hid (∀ W a n c k, RI Bq W (.slice a n c) k D7.2 → Calls Try.prog 29 #[.agg #[.slice a n c, .bool k]] W fun e w' => ∃ a1 m1 c1 k1, e = .returned (.tuple #[.int .i64 D8.1, .agg #[.slice a1 m1 c1, .bool k1]]) ∧ Hid (RI Bq w' (.slice a1 m1 c1) k1 D8.2) ∧ Below W.heap.size W w') := fun W a n c k hr => (num_d hr).mono fun e w' ⟨b1, ok1, he, hr, hb⟩ => by
    obtain ⟨a1, m1, c1, rfl⟩ := hr.out.form
    rw [hD8] at he hr
    exact ⟨a1, m1, c1, ok1, he, hr, hb⟩
  have hbo : bodyF K D8.2 = ((zeroOp, ([] : List En), ([] : List Ky)), D8.2) := by unfold bodyF; rw [if_neg (by simpa using k1), if_neg (by simpa using k2), if_neg (by simpa using k3)]
  have HM : Hid (msgF (some l) = (⟨K, D2.1, D3.1, D4.1, D5.1, D6.1, D7.1, D8.1, zeroOp, [], []⟩, D8.2)) := by
    show _ = _
    unfold msgF
    simp only [hk, hD2, hD3, hD4, hD5, hD6, hD7, hD8, hbo]
  clear hk hD2 hD3 hD4 hD5 hD6 hD7 hD8 hbo
  go_enter Try.func22, Try.ntmps22
  go_upto_region 1 with fail
  clear hW hW2
  go_upto_region 2 with fail
  clear hW3
  go_upto_region 3 with fail
  clear hW4
  obtain ⟨x0, x1, -⟩ := G0.out.cells
  go_upto_region 4 with (go_at_call 28; refine (H1.out _ _ _ _ _ G0.out.ri).mono ?_; rintro e u1 ⟨a1, n1, c1, k1, rfl, hr, hb⟩; clear x0 x1; have PB := G0.out.below hb; obtain ⟨-, -, -, qo, qf⟩ := PB.cells; have q0 : u1.cell? ⟨W3.heap.size, 0, none⟩ = some (.int .i64 0) := qo 0; have qg0 := qf 0; clear qo qf; have ow0 : (u1.setCell ⟨W3.heap.size, 0, none⟩ (.int .i64 K)).heap[W3.heap.size]? = some (.cells #[.int .i64 K, .int .i64 0, .int .i64 0, .int .i64 0, .complex .f64 0 0, .int .i64 0, .int .i64 0, .int .i64 0, .int .i64 0, .string ⟨#[]⟩, .int .i64 0, .string ⟨#[]⟩, .int .i64 0, .string ⟨#[]⟩, .slice none 0 0, .slice none 0 0] 30 (0, 0)) := (heap_set PB.own 0 _).trans rfl; have on0 : Only (· = W3.heap.size) u1 (u1.setCell ⟨W3.heap.size, 0, none⟩ (.int .i64 K)) := only1 _ _ _ _; obtain ⟨Y1, hY⟩ : ∃ Y, (u1.setCell ⟨W3.heap.size, 0, none⟩ (.int .i64 K)) = Y := ⟨_, rfl⟩; rw [hY] at ow0 on0; obtain ⟨y0, y1, yf⟩ := PB.put HI.out.1 on0; have yg0 := yf 0; have yg1 := yf 1; clear yf; obtain ⟨Z1, hZ⟩ : ∃ Z, (Y1.setCell ⟨W2.heap.size, 0, none⟩ (.slice a1 n1 c1)).setCell ⟨W2.heap.size, 1, none⟩ (.bool k1) = Z := ⟨_, rfl⟩; have G1 : Hid (OG Bq w W4 Z1 W2.heap.size W3.heap.size 30 (.slice a1 n1 c1) k1 S1 #[.int .i64 K, .int .i64 0, .int .i64 0, .int .i64 0, .complex .f64 0 0, .int .i64 0, .int .i64 0, .int .i64 0, .int .i64 0, .string ⟨#[]⟩, .int .i64 0, .string ⟨#[]⟩, .int .i64 0, .string ⟨#[]⟩, .slice none 0 0, .slice none 0 0]) := G0.out.step hb hr.out on0 ow0 hZ HI.out.1 HI.out.2.1 HI.out.2.2 (no_u8 (by simp)); clear PB hr hb on0 ow0)
  clear hY hZ y0 y1 yg0 yg1 q0 qg0
  obtain ⟨x0, x1, -, xo, xf⟩ := G1.out.cells
  clear xo xf
  go_upto_region 5 with (go_at_call 29; refine (H2.out _ _ _ _ _ G1.out.ri).mono ?_; rintro e u2 ⟨a2, n2, c2, k2, rfl, hr, hb⟩; clear x0 x1; have PB := G1.out.below hb; obtain ⟨-, -, -, qo, qf⟩ := PB.cells; have q0 : u2.cell? ⟨W3.heap.size, 1, none⟩ = some (.int .i64 0) := qo 1; have qg0 := qf 1; clear qo qf; have ow0 : (u2.setCell ⟨W3.heap.size, 1, none⟩ (.int .i64 D2.1)).heap[W3.heap.size]? = some (.cells #[.int .i64 K, .int .i64 D2.1, .int .i64 0, .int .i64 0, .complex .f64 0 0, .int .i64 0, .int .i64 0, .int .i64 0, .int .i64 0, .string ⟨#[]⟩, .int .i64 0, .string ⟨#[]⟩, .int .i64 0, .string ⟨#[]⟩, .slice none 0 0, .slice none 0 0] 30 (0, 0)) := (heap_set PB.own 1 _).trans rfl; have on0 : Only (· = W3.heap.size) u2 (u2.setCell ⟨W3.heap.size, 1, none⟩ (.int .i64 D2.1)) := only1 _ _ _ _; obtain ⟨Y2, hY⟩ : ∃ Y, (u2.setCell ⟨W3.heap.size, 1, none⟩ (.int .i64 D2.1)) = Y := ⟨_, rfl⟩; rw [hY] at ow0 on0; obtain ⟨y0, y1, yf⟩ := PB.put HI.out.1 on0; have yg0 := yf 0; have yg1 := yf 1; clear yf; obtain ⟨Z2, hZ⟩ : ∃ Z, (Y2.setCell ⟨W2.heap.size, 0, none⟩ (.slice a2 n2 c2)).setCell ⟨W2.heap.size, 1, none⟩ (.bool k2) = Z := ⟨_, rfl⟩; have G2 : Hid (OG Bq w W4 Z2 W2.heap.size W3.heap.size 30 (.slice a2 n2 c2) k2 D2.2 #[.int .i64 K, .int .i64 D2.1, .int .i64 0, .int .i64 0, .complex .f64 0 0, .int .i64 0, .int .i64 0, .int .i64 0, .int .i64 0, .string ⟨#[]⟩, .int .i64 0, .string ⟨#[]⟩, .int .i64 0, .string ⟨#[]⟩, .slice none 0 0, .slice none 0 0]) := G1.out.step hb hr.out on0 ow0 hZ HI.out.1 HI.out.2.1 HI.out.2.2 (no_u8 (by simp)); clear PB hr hb on0 ow0)
  clear hY hZ y0 y1 yg0 yg1 q0 qg0
  obtain ⟨x0, x1, -, xo, xf⟩ := G2.out.cells
  clear xo xf
  go_upto_region 6 with (go_at_call 29; refine (H3.out _ _ _ _ _ G2.out.ri).mono ?_; rintro e u3 ⟨a3, n3, c3, k3, rfl, hr, hb⟩; clear x0 x1; have PB := G2.out.below hb; obtain ⟨-, -, -, qo, qf⟩ := PB.cells; have q0 : u3.cell? ⟨W3.heap.size, 2, none⟩ = some (.int .i64 0) := qo 2; have qg0 := qf 2; clear qo qf; have ow0 : (u3.setCell ⟨W3.heap.size, 2, none⟩ (.int .i64 D3.1)).heap[W3.heap.size]? = some (.cells #[.int .i64 K, .int .i64 D2.1, .int .i64 D3.1, .int .i64 0, .complex .f64 0 0, .int .i64 0, .int .i64 0, .int .i64 0, .int .i64 0, .string ⟨#[]⟩, .int .i64 0, .string ⟨#[]⟩, .int .i64 0, .string ⟨#[]⟩, .slice none 0 0, .slice none 0 0] 30 (0, 0)) := (heap_set PB.own 2 _).trans rfl; have on0 : Only (· = W3.heap.size) u3 (u3.setCell ⟨W3.heap.size, 2, none⟩ (.int .i64 D3.1)) := only1 _ _ _ _; obtain ⟨Y3, hY⟩ : ∃ Y, (u3.setCell ⟨W3.heap.size, 2, none⟩ (.int .i64 D3.1)) = Y := ⟨_, rfl⟩; rw [hY] at ow0 on0; obtain ⟨y0, y1, yf⟩ := PB.put HI.out.1 on0; have yg0 := yf 0; have yg1 := yf 1; clear yf; obtain ⟨Z3, hZ⟩ : ∃ Z, (Y3.setCell ⟨W2.heap.size, 0, none⟩ (.slice a3 n3 c3)).setCell ⟨W2.heap.size, 1, none⟩ (.bool k3) = Z := ⟨_, rfl⟩; have G3 : Hid (OG Bq w W4 Z3 W2.heap.size W3.heap.size 30 (.slice a3 n3 c3) k3 D3.2 #[.int .i64 K, .int .i64 D2.1, .int .i64 D3.1, .int .i64 0, .complex .f64 0 0, .int .i64 0, .int .i64 0, .int .i64 0, .int .i64 0, .string ⟨#[]⟩, .int .i64 0, .string ⟨#[]⟩, .int .i64 0, .string ⟨#[]⟩, .slice none 0 0, .slice none 0 0]) := G2.out.step hb hr.out on0 ow0 hZ HI.out.1 HI.out.2.1 HI.out.2.2 (no_u8 (by simp)); clear PB hr hb on0 ow0)
  clear hY hZ y0 y1 yg0 yg1 q0 qg0
  obtain ⟨x0, x1, -, xo, xf⟩ := G3.out.cells
  clear xo xf
  go_upto_region 7 with (go_at_call 29; refine (H4.out _ _ _ _ _ G3.out.ri).mono ?_; rintro e u4 ⟨a4, n4, c4, k4, rfl, hr, hb⟩; clear x0 x1; have PB := G3.out.below hb; obtain ⟨-, -, -, qo, qf⟩ := PB.cells; have q0 : u4.cell? ⟨W3.heap.size, 3, none⟩ = some (.int .i64 0) := qo 3; have qg0 := qf 3; clear qo qf; have ow0 : (u4.setCell ⟨W3.heap.size, 3, none⟩ (.int .i64 D4.1)).heap[W3.heap.size]? = some (.cells #[.int .i64 K, .int .i64 D2.1, .int .i64 D3.1, .int .i64 D4.1, .complex .f64 0 0, .int .i64 0, .int .i64 0, .int .i64 0, .int .i64 0, .string ⟨#[]⟩, .int .i64 0, .string ⟨#[]⟩, .int .i64 0, .string ⟨#[]⟩, .slice none 0 0, .slice none 0 0] 30 (0, 0)) := (heap_set PB.own 3 _).trans rfl; have on0 : Only (· = W3.heap.size) u4 (u4.setCell ⟨W3.heap.size, 3, none⟩ (.int .i64 D4.1)) := only1 _ _ _ _; obtain ⟨Y4, hY⟩ : ∃ Y, (u4.setCell ⟨W3.heap.size, 3, none⟩ (.int .i64 D4.1)) = Y := ⟨_, rfl⟩; rw [hY] at ow0 on0; obtain ⟨y0, y1, yf⟩ := PB.put HI.out.1 on0; have yg0 := yf 0; have yg1 := yf 1; clear yf; obtain ⟨Z4, hZ⟩ : ∃ Z, (Y4.setCell ⟨W2.heap.size, 0, none⟩ (.slice a4 n4 c4)).setCell ⟨W2.heap.size, 1, none⟩ (.bool k4) = Z := ⟨_, rfl⟩; have G4 : Hid (OG Bq w W4 Z4 W2.heap.size W3.heap.size 30 (.slice a4 n4 c4) k4 D4.2 #[.int .i64 K, .int .i64 D2.1, .int .i64 D3.1, .int .i64 D4.1, .complex .f64 0 0, .int .i64 0, .int .i64 0, .int .i64 0, .int .i64 0, .string ⟨#[]⟩, .int .i64 0, .string ⟨#[]⟩, .int .i64 0, .string ⟨#[]⟩, .slice none 0 0, .slice none 0 0]) := G3.out.step hb hr.out on0 ow0 hZ HI.out.1 HI.out.2.1 HI.out.2.2 (no_u8 (by simp)); clear PB hr hb on0 ow0)
  clear hY hZ y0 y1 yg0 yg1 q0 qg0
  obtain ⟨x0, x1, -, xo, xf⟩ := G4.out.cells
  clear xo xf
  go_upto_region 8 with (go_at_call 29; refine (H5.out _ _ _ _ _ G4.out.ri).mono ?_; rintro e u5 ⟨a5, n5, c5, k5, rfl, hr, hb⟩; clear x0 x1; have PB := G4.out.below hb; obtain ⟨-, -, -, qo, qf⟩ := PB.cells; clear qo qf; have onz : Only (· = W3.heap.size) u5 u5 := Only.refl _ _; have owz := PB.own; obtain ⟨y0, y1, yf⟩ := PB.put HI.out.1 onz; have yg0 := yf 0; have yg1 := yf 1; clear yf; obtain ⟨Z5, hZ⟩ : ∃ Z, (u5.setCell ⟨W2.heap.size, 0, none⟩ (.slice a5 n5 c5)).setCell ⟨W2.heap.size, 1, none⟩ (.bool k5) = Z := ⟨_, rfl⟩; have G5 : Hid (OG Bq w W4 Z5 W2.heap.size W3.heap.size 30 (.slice a5 n5 c5) k5 D5.2 #[.int .i64 K, .int .i64 D2.1, .int .i64 D3.1, .int .i64 D4.1, .complex .f64 0 0, .int .i64 0, .int .i64 0, .int .i64 0, .int .i64 0, .string ⟨#[]⟩, .int .i64 0, .string ⟨#[]⟩, .int .i64 0, .string ⟨#[]⟩, .slice none 0 0, .slice none 0 0]) := G4.out.step hb hr.out onz owz hZ HI.out.1 HI.out.2.1 HI.out.2.2 (no_u8 (by simp)); clear PB hr hb onz owz)
  clear hZ y0 y1 yg0 yg1
  obtain ⟨x0, x1, -, xo, xf⟩ := G5.out.cells
  clear xo xf
  go_upto_region 9 with (go_at_call 29; refine (H6.out _ _ _ _ _ G5.out.ri).mono ?_; rintro e u6 ⟨a6, n6, c6, k6, rfl, hr, hb⟩; clear x0 x1; have PB := G5.out.below hb; obtain ⟨-, -, -, qo, qf⟩ := PB.cells; clear qo qf; have onz : Only (· = W3.heap.size) u6 u6 := Only.refl _ _; have owz := PB.own; obtain ⟨y0, y1, yf⟩ := PB.put HI.out.1 onz; have yg0 := yf 0; have yg1 := yf 1; clear yf; obtain ⟨Z6, hZ⟩ : ∃ Z, (u6.setCell ⟨W2.heap.size, 0, none⟩ (.slice a6 n6 c6)).setCell ⟨W2.heap.size, 1, none⟩ (.bool k6) = Z := ⟨_, rfl⟩; have G6 : Hid (OG Bq w W4 Z6 W2.heap.size W3.heap.size 30 (.slice a6 n6 c6) k6 D6.2 #[.int .i64 K, .int .i64 D2.1, .int .i64 D3.1, .int .i64 D4.1, .complex .f64 0 0, .int .i64 0, .int .i64 0, .int .i64 0, .int .i64 0, .string ⟨#[]⟩, .int .i64 0, .string ⟨#[]⟩, .int .i64 0, .string ⟨#[]⟩, .slice none 0 0, .slice none 0 0]) := G5.out.step hb hr.out onz owz hZ HI.out.1 HI.out.2.1 HI.out.2.2 (no_u8 (by simp)); clear PB hr hb onz owz)
  clear hZ y0 y1 yg0 yg1
  obtain ⟨x0, x1, -, xo, xf⟩ := G6.out.cells
  have q4 : Z6.cell? ⟨W3.heap.size, 4, none⟩ = some (.complex .f64 0 0) := xo 4
  have qg4 := xf 4
  clear xo xf x0 x1
  obtain ⟨X6, hX⟩ : ∃ Z, Z6.setCell ⟨W3.heap.size, 4, none⟩ (.complex .f64 (floatOfInt .f64 D5.1) (floatOfInt .f64 D6.1)) = Z := ⟨_, rfl⟩
  have G7 : Hid (OG Bq w W4 X6 W2.heap.size W3.heap.size 30 (.slice a6 n6 c6) k6 D6.2 #[.int .i64 K, .int .i64 D2.1, .int .i64 D3.1, .int .i64 D4.1, .complex .f64 (floatOfInt .f64 D5.1) (floatOfInt .f64 D6.1), .int .i64 0, .int .i64 0, .int .i64 0, .int .i64 0, .string ⟨#[]⟩, .int .i64 0, .string ⟨#[]⟩, .int .i64 0, .string ⟨#[]⟩, .slice none 0 0, .slice none 0 0]) := G6.out.setO (by rw [← hX]; exact only1 _ _ _ _) (by rw [← hX]; exact (heap_set G6.out.own 4 _).trans rfl) HI.out.1 HI.out.2.2 (no_u8 (by simp))
  go_upto_region 10 with fail
  clear hX q4 qg4
  obtain ⟨x0, x1, -⟩ := G7.out.cells
  go_upto_region 11 with (go_at_call 29; refine (H7.out _ _ _ _ _ G7.out.ri).mono ?_; rintro e u7 ⟨a7, n7, c7, k7, rfl, hr, hb⟩; clear x0 x1; have PB := G7.out.below hb; obtain ⟨-, -, -, qo, qf⟩ := PB.cells; have q0 : u7.cell? ⟨W3.heap.size, 5, none⟩ = some (.int .i64 0) := qo 5; have qg0 := qf 5; clear qo qf; have ow0 : (u7.setCell ⟨W3.heap.size, 5, none⟩ (.int .i64 D7.1)).heap[W3.heap.size]? = some (.cells #[.int .i64 K, .int .i64 D2.1, .int .i64 D3.1, .int .i64 D4.1, .complex .f64 (floatOfInt .f64 D5.1) (floatOfInt .f64 D6.1), .int .i64 D7.1, .int .i64 0, .int .i64 0, .int .i64 0, .string ⟨#[]⟩, .int .i64 0, .string ⟨#[]⟩, .int .i64 0, .string ⟨#[]⟩, .slice none 0 0, .slice none 0 0] 30 (0, 0)) := (heap_set PB.own 5 _).trans rfl; have on0 : Only (· = W3.heap.size) u7 (u7.setCell ⟨W3.heap.size, 5, none⟩ (.int .i64 D7.1)) := only1 _ _ _ _; obtain ⟨Y7, hY⟩ : ∃ Y, (u7.setCell ⟨W3.heap.size, 5, none⟩ (.int .i64 D7.1)) = Y := ⟨_, rfl⟩; rw [hY] at ow0 on0; obtain ⟨y0, y1, yf⟩ := PB.put HI.out.1 on0; have yg0 := yf 0; have yg1 := yf 1; clear yf; obtain ⟨Z7, hZ⟩ : ∃ Z, (Y7.setCell ⟨W2.heap.size, 0, none⟩ (.slice a7 n7 c7)).setCell ⟨W2.heap.size, 1, none⟩ (.bool k7) = Z := ⟨_, rfl⟩; have G8 : Hid (OG Bq w W4 Z7 W2.heap.size W3.heap.size 30 (.slice a7 n7 c7) k7 D7.2 #[.int .i64 K, .int .i64 D2.1, .int .i64 D3.1, .int .i64 D4.1, .complex .f64 (floatOfInt .f64 D5.1) (floatOfInt .f64 D6.1), .int .i64 D7.1, .int .i64 0, .int .i64 0, .int .i64 0, .string ⟨#[]⟩, .int .i64 0, .string ⟨#[]⟩, .int .i64 0, .string ⟨#[]⟩, .slice none 0 0, .slice none 0 0]) := G7.out.step hb hr.out on0 ow0 hZ HI.out.1 HI.out.2.1 HI.out.2.2 (no_u8 (by simp)); clear PB hr hb on0 ow0)
  clear hY hZ y0 y1 yg0 yg1 q0 qg0
  obtain ⟨x0, x1, -, xo, xf⟩ := G8.out.cells
  clear xo xf
  go_upto_region 12 with (go_at_call 29; refine (H8.out _ _ _ _ _ G8.out.ri).mono ?_; rintro e u8 ⟨a8, n8, c8, k8, rfl, hr, hb⟩; clear x0 x1; have PB := G8.out.below hb; obtain ⟨-, -, -, qo, qf⟩ := PB.cells; clear qo qf; have onz : Only (· = W3.heap.size) u8 u8 := Only.refl _ _; have owz := PB.own; obtain ⟨y0, y1, yf⟩ := PB.put HI.out.1 onz; have yg0 := yf 0; have yg1 := yf 1; clear yf; obtain ⟨Z8, hZ⟩ : ∃ Z, (u8.setCell ⟨W2.heap.size, 0, none⟩ (.slice a8 n8 c8)).setCell ⟨W2.heap.size, 1, none⟩ (.bool k8) = Z := ⟨_, rfl⟩; have G9 : Hid (OG Bq w W4 Z8 W2.heap.size W3.heap.size 30 (.slice a8 n8 c8) k8 D8.2 #[.int .i64 K, .int .i64 D2.1, .int .i64 D3.1, .int .i64 D4.1, .complex .f64 (floatOfInt .f64 D5.1) (floatOfInt .f64 D6.1), .int .i64 D7.1, .int .i64 0, .int .i64 0, .int .i64 0, .string ⟨#[]⟩, .int .i64 0, .string ⟨#[]⟩, .int .i64 0, .string ⟨#[]⟩, .slice none 0 0, .slice none 0 0]) := G8.out.step hb hr.out onz owz hZ HI.out.1 HI.out.2.1 HI.out.2.2 (no_u8 (by simp)); clear PB hr hb onz owz)
  clear hZ y0 y1 yg0 yg1
  obtain ⟨x0, x1, -, xo, xf⟩ := G9.out.cells
  have q6 : Z8.cell? ⟨W3.heap.size, 6, none⟩ = some (.int .i64 0) := xo 6
  have qg6 := xf 6
  clear xo xf x0 x1
  obtain ⟨X8, hX⟩ : ∃ Z, Z8.setCell ⟨W3.heap.size, 6, none⟩ (.int .i64 D8.1) = Z := ⟨_, rfl⟩
  have G10 : Hid (OG Bq w W4 X8 W2.heap.size W3.heap.size 30 (.slice a8 n8 c8) k8 D8.2 #[.int .i64 K, .int .i64 D2.1, .int .i64 D3.1, .int .i64 D4.1, .complex .f64 (floatOfInt .f64 D5.1) (floatOfInt .f64 D6.1), .int .i64 D7.1, .int .i64 D8.1, .int .i64 0, .int .i64 0, .string ⟨#[]⟩, .int .i64 0, .string ⟨#[]⟩, .int .i64 0, .string ⟨#[]⟩, .slice none 0 0, .slice none 0 0]) := G9.out.setO (by rw [← hX]; exact only1 _ _ _ _) (by rw [← hX]; exact (heap_set G9.out.own 6 _).trans rfl) HI.out.1 HI.out.2.2 (no_u8 (by simp))
  go_upto_region 13 with fail
  clear hX q6 qg6
  obtain ⟨x0, x1, -, xo, -⟩ := G10.out.cells
  have xk : X8.cell? ⟨W3.heap.size, 0, none⟩ = some (.int .i64 K) := xo 0
  clear xo
  go_upto_region 34 with fail
  clear x0 x1 xk
  have hres : X8.heap[w.heap.size]? = some (.cells #[.int .i64 0, .int .i64 0, .int .i64 0, .int .i64 0, .complex .f64 0 0, .int .i64 0, .int .i64 0, .int .i64 0, .int .i64 0, .string ⟨#[]⟩, .int .i64 0, .string ⟨#[]⟩, .int .i64 0, .string ⟨#[]⟩, .slice none 0 0, .slice none 0 0] 30 (0, 0)) := (G10.out.only.block _ (Array.getElem?_eq_some_iff.1 HR.out.1).1 (by have := HL.out; omega)).trans HR.out.1
  have hins : X8.heap[W.heap.size]? = some (.cells #[.slice none 0 0, .bool false] 68 (0, 0)) := (G10.out.only.block _ (Array.getElem?_eq_some_iff.1 HR.out.2).1 (by have := HL.out; omega)).trans HR.out.2
  have s1 : ∀ w', Only (fun x => x = w.heap.size ∨ x = W.heap.size) X8.drew w' → w'.cell? ⟨W3.heap.size, 0, none⟩ = some (.int .i64 K) ∧ w'.cell? ⟨W3.heap.size, 1, none⟩ = some (.int .i64 D2.1) ∧ w'.cell? ⟨W3.heap.size, 2, none⟩ = some (.int .i64 D3.1) ∧ w'.cell? ⟨W3.heap.size, 3, none⟩ = some (.int .i64 D4.1) ∧ w'.cell? ⟨W3.heap.size, 4, none⟩ = some (.complex .f64 (floatOfInt .f64 D5.1) (floatOfInt .f64 D6.1)) ∧ w'.cell? ⟨W3.heap.size, 5, none⟩ = some (.int .i64 D7.1) ∧ w'.cell? ⟨W3.heap.size, 6, none⟩ = some (.int .i64 D8.1) ∧ w'.cell? ⟨W3.heap.size, 7, none⟩ = some (.int .i64 0) ∧ w'.cell? ⟨W3.heap.size, 8, none⟩ = some (.int .i64 0) ∧ w'.cell? ⟨W3.heap.size, 9, none⟩ = some (.string ⟨#[]⟩) ∧ w'.cell? ⟨W3.heap.size, 10, none⟩ = some (.int .i64 0) ∧ w'.cell? ⟨W3.heap.size, 11, none⟩ = some (.string ⟨#[]⟩) ∧ w'.cell? ⟨W3.heap.size, 12, none⟩ = some (.int .i64 0) ∧ w'.cell? ⟨W3.heap.size, 13, none⟩ = some (.string ⟨#[]⟩) ∧ w'.cell? ⟨W3.heap.size, 14, none⟩ = some (.slice none 0 0) ∧ w'.cell? ⟨W3.heap.size, 15, none⟩ = some (.slice none 0 0) ∧ w'.cell? ⟨W2.heap.size, 0, none⟩ = some (.slice a8 n8 c8) ∧ w'.cell? ⟨W2.heap.size, 1, none⟩ = some (.bool k8) := fun w' ho => by
    have e1 : w'.heap[W3.heap.size]? = X8.heap[W3.heap.size]? := ho.block _ (Array.getElem?_eq_some_iff.1 G10.out.own).1 (by have := HL.out; omega)
    have e2 : w'.heap[W2.heap.size]? = X8.heap[W2.heap.size]? := ho.block _ (Array.getElem?_eq_some_iff.1 G10.out.box).1 (by have := HL.out; omega)
    exact ⟨(World.cell?_of_block e1).trans (by rw [cell_of G10.out.own]; rfl), (World.cell?_of_block e1).trans (by rw [cell_of G10.out.own]; rfl), (World.cell?_of_block e1).trans (by rw [cell_of G10.out.own]; rfl), (World.cell?_of_block e1).trans (by rw [cell_of G10.out.own]; rfl), (World.cell?_of_block e1).trans (by rw [cell_of G10.out.own]; rfl), (World.cell?_of_block e1).trans (by rw [cell_of G10.out.own]; rfl), (World.cell?_of_block e1).trans (by rw [cell_of G10.out.own]; rfl), (World.cell?_of_block e1).trans (by rw [cell_of G10.out.own]; rfl), (World.cell?_of_block e1).trans (by rw [cell_of G10.out.own]; rfl), (World.cell?_of_block e1).trans (by rw [cell_of G10.out.own]; rfl), (World.cell?_of_block e1).trans (by rw [cell_of G10.out.own]; rfl), (World.cell?_of_block e1).trans (by rw [cell_of G10.out.own]; rfl), (World.cell?_of_block e1).trans (by rw [cell_of G10.out.own]; rfl), (World.cell?_of_block e1).trans (by rw [cell_of G10.out.own]; rfl), (World.cell?_of_block e1).trans (by rw [cell_of G10.out.own]; rfl), (World.cell?_of_block e1).trans (by rw [cell_of G10.out.own]; rfl), (World.cell?_of_block e2).trans (by rw [cell_of G10.out.box]; rfl), (World.cell?_of_block e2).trans (by rw [cell_of G10.out.box]; rfl)⟩
  have s0 := s1 _ (Only.refl _ _)
  obtain ⟨Y, hY⟩ : ∃ Y, ((((((((((((((((X8.setCell ⟨w.heap.size, 0, none⟩ (.int .i64 K)).setCell ⟨w.heap.size, 1, none⟩ (.int .i64 D2.1)).setCell ⟨w.heap.size, 2, none⟩ (.int .i64 D3.1)).setCell ⟨w.heap.size, 3, none⟩ (.int .i64 D4.1)).setCell ⟨w.heap.size, 4, none⟩ (.complex .f64 (floatOfInt .f64 D5.1) (floatOfInt .f64 D6.1))).setCell ⟨w.heap.size, 5, none⟩ (.int .i64 D7.1)).setCell ⟨w.heap.size, 6, none⟩ (.int .i64 D8.1)).setCell ⟨w.heap.size, 7, none⟩ (.int .i64 0)).setCell ⟨w.heap.size, 8, none⟩ (.int .i64 0)).setCell ⟨w.heap.size, 9, none⟩ (.string ⟨#[]⟩)).setCell ⟨w.heap.size, 10, none⟩ (.int .i64 0)).setCell ⟨w.heap.size, 11, none⟩ (.string ⟨#[]⟩)).setCell ⟨w.heap.size, 12, none⟩ (.int .i64 0)).setCell ⟨w.heap.size, 13, none⟩ (.string ⟨#[]⟩)).setCell ⟨w.heap.size, 14, none⟩ (.slice none 0 0)).setCell ⟨w.heap.size, 15, none⟩ (.slice none 0 0)) = Y := ⟨_, rfl⟩
  have hOY : Only (· = w.heap.size) X8 Y := by rw [← hY]; exact only16 X8 w.heap.size _ _ _ _ _ _ _ _ _ _ _ _ _ _ _ _
  have sY : Only (fun x => x = w.heap.size ∨ x = W.heap.size) X8 Y := hOY.mono fun _ h => .inl h
  have sYd : Only (fun x => x = w.heap.size ∨ x = W.heap.size) X8.drew Y := ⟨sY.os, sY.tape, sY.output, sY.size, sY.block⟩
  have r0 : X8.cell? ⟨w.heap.size, 0, none⟩ = some (.int .i64 0) := by rw [cell_of hres]; rfl
  have rg0 := free_of hres 0
  have r1 : X8.cell? ⟨w.heap.size, 1, none⟩ = some (.int .i64 0) := by rw [cell_of hres]; rfl
  have rg1 := free_of hres 1
  have r2 : X8.cell? ⟨w.heap.size, 2, none⟩ = some (.int .i64 0) := by rw [cell_of hres]; rfl
  have rg2 := free_of hres 2
  have r3 : X8.cell? ⟨w.heap.size, 3, none⟩ = some (.int .i64 0) := by rw [cell_of hres]; rfl
  have rg3 := free_of hres 3
  have r4 : X8.cell? ⟨w.heap.size, 4, none⟩ = some (.complex .f64 0 0) := by rw [cell_of hres]; rfl
  have rg4 := free_of hres 4
  have r5 : X8.cell? ⟨w.heap.size, 5, none⟩ = some (.int .i64 0) := by rw [cell_of hres]; rfl
  have rg5 := free_of hres 5
  have r6 : X8.cell? ⟨w.heap.size, 6, none⟩ = some (.int .i64 0) := by rw [cell_of hres]; rfl
  have rg6 := free_of hres 6
  have r7 : X8.cell? ⟨w.heap.size, 7, none⟩ = some (.int .i64 0) := by rw [cell_of hres]; rfl
  have rg7 := free_of hres 7
  have r8 : X8.cell? ⟨w.heap.size, 8, none⟩ = some (.int .i64 0) := by rw [cell_of hres]; rfl
  have rg8 := free_of hres 8
  have r9 : X8.cell? ⟨w.heap.size, 9, none⟩ = some (.string ⟨#[]⟩) := by rw [cell_of hres]; rfl
  have rg9 := free_of hres 9
  have r10 : X8.cell? ⟨w.heap.size, 10, none⟩ = some (.int .i64 0) := by rw [cell_of hres]; rfl
  have rg10 := free_of hres 10
  have r11 : X8.cell? ⟨w.heap.size, 11, none⟩ = some (.string ⟨#[]⟩) := by rw [cell_of hres]; rfl
  have rg11 := free_of hres 11
  have r12 : X8.cell? ⟨w.heap.size, 12, none⟩ = some (.int .i64 0) := by rw [cell_of hres]; rfl
  have rg12 := free_of hres 12
  have r13 : X8.cell? ⟨w.heap.size, 13, none⟩ = some (.string ⟨#[]⟩) := by rw [cell_of hres]; rfl
  have rg13 := free_of hres 13
  have r14 : X8.cell? ⟨w.heap.size, 14, none⟩ = some (.slice none 0 0) := by rw [cell_of hres]; rfl
  have rg14 := free_of hres 14
  have r15 : X8.cell? ⟨w.heap.size, 15, none⟩ = some (.slice none 0 0) := by rw [cell_of hres]; rfl
  have rg15 := free_of hres 15
  have hYW : Y.heap[w.heap.size]? = some (.cells #[.int .i64 K, .int .i64 D2.1, .int .i64 D3.1, .int .i64 D4.1, .complex .f64 (floatOfInt .f64 D5.1) (floatOfInt .f64 D6.1), .int .i64 D7.1, .int .i64 D8.1, .int .i64 0, .int .i64 0, .string ⟨#[]⟩, .int .i64 0, .string ⟨#[]⟩, .int .i64 0, .string ⟨#[]⟩, .slice none 0 0, .slice none 0 0] 30 (0, 0)) := by rw [← hY]; exact set16 hres
  have hYq : Y.heap[W.heap.size]? = some (.cells #[.slice none 0 0, .bool false] 68 (0, 0)) := (hOY.block _ (Array.getElem?_eq_some_iff.1 hins).1 (by have := HL.out; omega)).trans hins
  have u0 : Y.cell? ⟨W.heap.size, 0, none⟩ = some (.slice none 0 0) := by rw [cell_of hYq]; rfl
  have u1 : Y.cell? ⟨W.heap.size, 1, none⟩ = some (.bool false) := by rw [cell_of hYq]; rfl
  have ug0 := free_of hYq 0
  have ug1 := free_of hYq 1
  have HF : Hid (Y.heap[w.heap.size]? = some (.cells #[.int .i64 K, .int .i64 D2.1, .int .i64 D3.1, .int .i64 D4.1, .complex .f64 (floatOfInt .f64 D5.1) (floatOfInt .f64 D6.1), .int .i64 D7.1, .int .i64 D8.1, .int .i64 0, .int .i64 0, .string ⟨#[]⟩, .int .i64 0, .string ⟨#[]⟩, .int .i64 0, .string ⟨#[]⟩, .slice none 0 0, .slice none 0 0] 30 (0, 0)) ∧ Y.heap[W.heap.size]? = some (.cells #[.slice none 0 0, .bool false] 68 (0, 0)) ∧ Below w.heap.size w Y ∧ RI Bq Y (.slice a8 n8 c8) k8 D8.2 ∧ Row7 Y w.heap.size (.slice none 0 0) [] ∧ RowK Y w.heap.size (.slice none 0 0) []) := ⟨hYW, hYq, below_on1 G10.out.bel hOY (Nat.le_refl _), G10.out.ri.farO hres (no_u8 (by simp)) hOY, World.ownsRow_nil _ _ _ _, World.ownsRow_nil _ _ _ _⟩
  have sY2 := s1 Y sYd
  have sY3 : ∀ p p', Only (fun x => x = w.heap.size ∨ x = W.heap.size) X8.drew ((Y.setCell ⟨W.heap.size, 0, none⟩ p).setCell ⟨W.heap.size, 1, none⟩ p') := fun p p' => sYd.trans ((only2 Y W.heap.size p p').mono fun _ h => .inr h)
  have sY4 := fun p p' => s1 _ (sY3 p p')
  clear hYW hYq sY sYd sY3 s1 hOY hres hins
  go_region_held3 (fun w' => w'.cell? ⟨W3.heap.size, 0, none⟩ = some (.int .i64 K) ∧ w'.cell? ⟨W3.heap.size, 1, none⟩ = some (.int .i64 D2.1) ∧ w'.cell? ⟨W3.heap.size, 2, none⟩ = some (.int .i64 D3.1) ∧ w'.cell? ⟨W3.heap.size, 3, none⟩ = some (.int .i64 D4.1) ∧ w'.cell? ⟨W3.heap.size, 4, none⟩ = some (.complex .f64 (floatOfInt .f64 D5.1) (floatOfInt .f64 D6.1)) ∧ w'.cell? ⟨W3.heap.size, 5, none⟩ = some (.int .i64 D7.1) ∧ w'.cell? ⟨W3.heap.size, 6, none⟩ = some (.int .i64 D8.1) ∧ w'.cell? ⟨W3.heap.size, 7, none⟩ = some (.int .i64 0) ∧ w'.cell? ⟨W3.heap.size, 8, none⟩ = some (.int .i64 0) ∧ w'.cell? ⟨W3.heap.size, 9, none⟩ = some (.string ⟨#[]⟩) ∧ w'.cell? ⟨W3.heap.size, 10, none⟩ = some (.int .i64 0) ∧ w'.cell? ⟨W3.heap.size, 11, none⟩ = some (.string ⟨#[]⟩) ∧ w'.cell? ⟨W3.heap.size, 12, none⟩ = some (.int .i64 0) ∧ w'.cell? ⟨W3.heap.size, 13, none⟩ = some (.string ⟨#[]⟩) ∧ w'.cell? ⟨W3.heap.size, 14, none⟩ = some (.slice none 0 0) ∧ w'.cell? ⟨W3.heap.size, 15, none⟩ = some (.slice none 0 0) ∧ w'.cell? ⟨W2.heap.size, 0, none⟩ = some (.slice a8 n8 c8) ∧ w'.cell? ⟨W2.heap.size, 1, none⟩ = some (.bool k8)) (first | exact s0 | exact sY2 | exact sY4 _ _ | (rw [hY]; exact sY2)) (fail)
  go_wp2
  refine bodyPost_ret (ret_two rfl _ _ w.heap.size W.heap.size rfl rfl (run_loadVar_row _ w.heap.size 30 30 #[.int .i64 K, .int .i64 D2.1, .int .i64 D3.1, .int .i64 D4.1, .complex .f64 (floatOfInt .f64 D5.1) (floatOfInt .f64 D6.1), .int .i64 D7.1, .int .i64 D8.1, .int .i64 0, .int .i64 0, .string ⟨#[]⟩, .int .i64 0, .string ⟨#[]⟩, .int .i64 0, .string ⟨#[]⟩, .slice none 0 0, .slice none 0 0] (0, 0) _ (by exact (two_ne (Nat.ne_of_lt HL.out.1)).trans HF.out.1) Try.underlying30 rfl Try.sizeMsg8) (by exact set2 HF.out.2.1) rfl) rfl ?_
  unfold SaidR
  rw [HM.out, ← HL.out.2.2.2.2]
  have hri := (HF.out.2.2.2.1.far2 HF.out.2.1 (.slice a8 n8 c8) (.bool k8)).below (Below.refl _ _).drew
  have hOn := (only2 Y W.heap.size (.slice a8 n8 c8) (.bool k8))
  have hTg : Tag Y W.heap.size 68 := ⟨_, _, HF.out.2.1⟩
  exact ⟨(.slice none 0 0), (.slice none 0 0), _, _, rfl, (by rw [HL.out.2.2.2.2]; exact (owns_moved HF.out.2.2.2.2.1 fun q hq => hOn.block q (Tag.own HF.out.2.2.2.2.1 hq).lt ((Tag.own HF.out.2.2.2.2.1 hq).ne hTg (by decide)))), (by rw [HL.out.2.2.2.2]; exact (owns_moved HF.out.2.2.2.2.2 fun q hq => hOn.block q (Tag.own HF.out.2.2.2.2.2 hq).lt ((Tag.own HF.out.2.2.2.2.2 hq).ne hTg (by decide)))), hri, (by have hx := (below2 (.slice a8 n8 c8) (.bool k8) HF.out.2.2.1 (Nat.le_of_lt HL.out.1)).drew; rw [HL.out.2.2.2.2]; exact hx)⟩
end
end Go.Proofs.Ytekonakanieeaaa
