/- copied: a message with lists of its own. -/
import Derived.Test.YtpmcecenhgppbaaJTEpt08
namespace Go.Proofs.Ytpmcecenhgppbaa
section
open Go.RowKit Go.Shelf
attribute [local go_sem ↓ high] loadMsg storeMsg
attribute [local go_sem high] run_store_complex

def zMsg : Array Value := #[.int .i64 0, .int .i64 0, .int .i64 0, .int .i64 0, .complex .f64 0 0, .int .i64 0, .int .i64 0, .int .i64 0, .int .i64 0, .string ⟨#[]⟩, .int .i64 0, .string ⟨#[]⟩, .int .i64 0, .string ⟨#[]⟩, .slice none 0 0, .slice none 0 0]
theorem rowE_only {w w' : World} {base g : Nat} {v : Value} {es : List En} {t : TypeId} (h : Row7 w base v es) (hO : Only (· = g) w w') (ht : Tag w g t) (hn : t ≠ 57) : Row7 w' base v es :=
  owns_moved h fun k e => hO.block k (Tag.own h e).lt fun e' => by
    have t1 := Tag.own h e
    rw [e'] at t1; exact ht.two hn t1
theorem rowK_only {w w' : World} {base g : Nat} {v : Value} {es : List Ky} {t : TypeId} (h : RowK w base v es) (hO : Only (· = g) w w') (ht : Tag w g t) (hn : t ≠ 53) : RowK w' base v es :=
  owns_moved h fun k e => hO.block k (Tag.own h e).lt fun e' => by
    have t1 := Tag.own h e
    rw [e'] at t1; exact ht.two hn t1
set_option maxHeartbeats 4000000 in
set_option maxRecDepth 100000 in
theorem copied_p (x : Hm) (B : Nat) (w : World) (h : Lists w B x) : Calls Try.prog 42 #[.agg x.arr] w fun e w' => ∃ y : Hm, e = .returned (.agg y.arr) ∧ y.m = x.m ∧ Lists w' w.heap.size y ∧ Below w.heap.size w w' := by
  obtain ⟨X, hX⟩ : ∃ X, x.arr = X := ⟨_, rfl⟩
  rw [hX]
  obtain ⟨W, hW⟩ : ∃ W, w.alloc (.cells X 45) = W := ⟨_, rfl⟩
  obtain ⟨W2, hW2⟩ : ∃ W2, W.alloc (.cells #[.int .i64 0, .int .i64 0, .int .i64 0, .int .i64 0, .complex .f64 0 0, .int .i64 0, .int .i64 0, .int .i64 0, .int .i64 0, .string ⟨#[]⟩, .int .i64 0, .string ⟨#[]⟩, .int .i64 0, .string ⟨#[]⟩, .slice none 0 0, .slice none 0 0] 45) = W2 := ⟨_, rfl⟩
  have b1 := boxB hW
  have b2 := boxB hW2
  obtain ⟨r, hr⟩ : ∃ r, W.heap.size = r := ⟨_, rfl⟩
  rw [hr] at b2
  have hwr : w.heap.size < r := by rw [← hr]; exact (Array.getElem?_eq_some_iff.1 b1.1).1
  have hb0 : Below w.heap.size w W2 := by rw [← hr] at b2; exact chainB b1.2 b2.2
  have bx : W2.heap[w.heap.size]? = some (.cells X 45 (0, 0)) := by rw [← hr] at b2; exact hkeep b1.1 b2.2
  have HX : Hid (W2.heap[w.heap.size]? = some (.cells X 45 (0, 0)) ∧ W2.heap[r]? = some (.cells zMsg 45 (0, 0)) ∧ Below w.heap.size w W2 ∧ x.arr = X) := ⟨bx, b2.1, hb0, hX⟩
  have HE : Hid (∀ W3, Below W2.heap.size W2 W3 → Calls Try.prog 57 #[.slice x.ae x.m.es.length x.ce] W3 fun e w' => ∃ a c, e = .returned (.slice a x.m.es.length c) ∧ Row7 w' W3.heap.size (.slice a x.m.es.length c) x.m.es ∧ Below W3.heap.size W3 w') := fun W3 h3 => clone_e _ x.m.es B W3 (h.es.below (chainB hb0 h3)) h.le
  have HK : Hid (∀ W3, Below W2.heap.size W2 W3 → Calls Try.prog 58 #[.slice x.ak x.m.ks.length x.ck] W3 fun e w' => ∃ a c, e = .returned (.slice a x.m.ks.length c) ∧ RowK w' W3.heap.size (.slice a x.m.ks.length c) x.m.ks ∧ Below W3.heap.size W3 w') := fun W3 h3 => clone_k _ x.m.ks B W3 (h.ks.below (chainB hb0 h3)) h.lk
  have HC : Hid (∀ W3, Below W2.heap.size W2 W3 → W3.cell? ⟨w.heap.size, 14, none⟩ = some (.slice x.ae x.m.es.length x.ce) ∧ W3.cell? ⟨w.heap.size, 15, none⟩ = some (.slice x.ak x.m.ks.length x.ck) ∧ ∀ i, W3.frozen? ⟨w.heap.size, i, none⟩ = false) := fun W3 h3 => by
    have e := hkeep HX.out.1 h3
    refine ⟨?_, ?_, free_of e⟩
    · rw [cell_of e, ← HX.out.2.2.2]; rfl
    · rw [cell_of e, ← HX.out.2.2.2]; rfl
  have HL : Hid (x.m.es.length * 72 ≤ LB ∧ x.m.ks.length * 24 ≤ LB) := ⟨h.le, h.lk⟩
  have hd : Below W2.heap.size W2 W2.drew := (Below.refl _ _).drew
  obtain ⟨c14, c15, cf⟩ := HC.out W2 (Below.refl _ _)
  clear h b1 b2 bx hb0 hX
  go_enter Try.func42, Try.ntmps42
  go_upto_region 1 with fail
  clear hW hW2
  go_region_law (first
    | (go_simp; go_at_call 57; refine (HE.out _ hd).mono ?_; rintro e w2 ⟨a2, q2, rfl, hr2, hb2⟩; obtain ⟨d14, d15, df⟩ := HC.out w2 (chainB hd hb2))
    | (go_simp; go_at_call 58; refine (HK.out _ (chainB hd hb2)).mono ?_; rintro e w3 ⟨a3, q3, rfl, hr3, hb3⟩; obtain ⟨f14, f15, ff⟩ := HC.out w3 (chainB (chainB hd hb2) hb3)))
  all_goals
    obtain ⟨W5, hW5⟩ : ∃ W5, (w3.setCell ⟨w.heap.size, 14, none⟩ (.slice a2 x.m.es.length q2)).setCell ⟨w.heap.size, 15, none⟩ (.slice a3 x.m.ks.length q3) = W5 := ⟨_, rfl⟩
    have h23 := chainB (chainB hd hb2) hb3
    have e3 := hkeep HX.out.1 h23
    have z3 := hkeep HX.out.2.1 h23
    have o5 : Only (· = w.heap.size) w3 W5 := by rw [← hW5]; exact (only1 _ _ _ _).trans (only1 _ _ _ _)
    have e5 : W5.heap[w.heap.size]? = some (.cells (Hm.arr ⟨x.m, a2, q2, a3, q3⟩) 45 (0, 0)) := by
      rw [← hW5]
      have := heap_set (heap_set e3 14 (.slice a2 x.m.es.length q2)) 15 (.slice a3 x.m.ks.length q3)
      rw [← HX.out.2.2.2] at this
      simpa [Hm.arr, Pm.arr, Hm.ve, Hm.vk] using this
    have z5 : W5.heap[r]? = some (.cells zMsg 45 (0, 0)) := (o5.block r (Array.getElem?_eq_some_iff.1 z3).1 (fun (e : r = w.heap.size) => by omega)).trans z3
    obtain ⟨Y, hY⟩ : ∃ Y, Hm.arr ⟨x.m, a2, q2, a3, q3⟩ = Y := ⟨_, rfl⟩
    have hYs : Y.size = 16 ∧ Y.all (·.oneCell') = true := by rw [← hY]; exact ⟨rfl, Hm.one _⟩
    rw [hY] at e5
    obtain ⟨W6, hW6⟩ : ∃ W6, W5.setRow r Y = W6 := ⟨_, rfl⟩
    have ml := msgLd_of e5 hYs.1
    have ms := msgSt_of z5 rfl hYs.1 hYs.2 hW6
    have hfin : W6.heap[r]? = some (.cells Y 45 (0, 0)) := by rw [← hW6]; exact setRow_heap _ _ _ _ _ _ z5
    have o6 : Only (· = r) W5 W6 := by rw [← hW6]; exact onlyR _ _ _
    have t3 : Tag w3 w.heap.size 45 := ⟨_, _, e3⟩
    have t5 : Tag W5 r 45 := ⟨_, _, z5⟩
    have sz2 := HX.out.2.2.1.size
    have szd := hd.size
    have szb := hb2.size
    have HZ : Hid (Lists W6 w.heap.size ⟨x.m, a2, q2, a3, q3⟩ ∧ Below w.heap.size w W6) := by
      refine ⟨⟨rowE_only (rowE_only (owns_le (hr2.below hb3) (by omega)) o5 t3 (by decide)) o6 t5 (by decide), rowK_only (rowK_only (owns_le hr3 (by omega)) o5 t3 (by decide)) o6 t5 (by decide), HL.out.1, HL.out.2⟩, ?_⟩
      have hbw := chainB HX.out.2.2.1 h23
      exact o6.below (o5.below hbw hbw.size (fun k (hk : k = w.heap.size) => by omega)) (Nat.le_trans hbw.size o5.size) (fun k (hk : k = r) => by omega)
    rw [hW5]
    clear hW5 e3 z3 o5 e5 z5 o6 t3 t5 hr2 hr3 hb2 hb3 h23 f14 f15 ff d14 d15 df c14 c15 cf
    go_wp2
    refine bodyPost_ret (results_cell_row rfl _ _ r _ _ _ _ rfl hfin Try.underlying45 rfl (by rw [hYs.1]; exact Try.sizeMg)) rfl ?_
    exact ⟨⟨x.m, a2, q2, a3, q3⟩, by rw [hY], rfl, HZ.out.1, HZ.out.2⟩
end
section
open Go.RowKit Go.Shelf
attribute [local go_sem ↓ high] loadMsg storeMsg
attribute [local go_sem high] run_store_complex

def likeV (y x : Pm) : Bool := decide (y.kind = x.kind) && (Op.floatEq .f64 y.re x.re && Op.floatEq .f64 y.im x.im)
theorem floatEq_whole {x y : Nat} {n k : Int} (hx : fval x = some (n * U)) (hy : fval y = some (k * U)) : Op.floatEq .f64 x y = decide (n = k) := by
  unfold Op.floatEq
  rw [order_whole hx hy, beq_cmp_eq]
theorem like_is {e : Int} {y x : Pm} (hy : Mk y.re y.im e y.num) (hx : Mk x.re x.im e x.num) : likeV y x = likeM y x := by
  unfold likeV likeM
  rw [floatEq_whole hy.ha hx.ha, floatEq_whole hy.hb hx.hb]
  unfold Pm.ep
  rw [hy.pa, hx.pa]
  by_cases h1 : y.kind = x.kind <;> by_cases h2 : y.num = x.num <;> simp [h1, h2]
theorem eqC (w : World) (a b c d : Nat) : (binOp .eql 43 (.complex .f64 a b) (.complex .f64 c d)).run Try.prog w = .ok (.bool (Op.floatEq .f64 a c && Op.floatEq .f64 b d)) w := by
  simp [binOp, Op.complexOp, Op.Complex.cmp, Op.floatEq, Op.floatCmp, asBool]
attribute [local go_sem high] eqC
set_option maxHeartbeats 2000000 in
theorem like_p (y x : Hm) (b : Nat) (w : World) (h : w.heap[b]? = some (.cells x.arr 45 (0, 0))) : Calls Try.prog 64 #[.agg y.arr, .pointer (some ⟨b, 0, none⟩)] w fun e w' => e = .returned (.bool (likeV y.m x.m)) ∧ Below w.heap.size w w' := by
  obtain ⟨Y, hY⟩ : ∃ Y, y.arr = Y := ⟨_, rfl⟩
  rw [hY]
  obtain ⟨W, hW⟩ : ∃ W, w.alloc (.cells Y 45) = W := ⟨_, rfl⟩
  have bx := boxB hW
  have hx := hkeep h bx.2
  have y0 : W.cell? ⟨w.heap.size, 0, none⟩ = some (.int .i64 y.m.kind) := by rw [cell_of bx.1, ← hY]; rfl
  have y4 : W.cell? ⟨w.heap.size, 4, none⟩ = some (.complex .f64 y.m.re y.m.im) := by rw [cell_of bx.1, ← hY]; rfl
  have x0 : W.cell? ⟨b, 0, none⟩ = some (.int .i64 x.m.kind) := by rw [cell_of hx]; rfl
  have x4 : W.cell? ⟨b, 4, none⟩ = some (.complex .f64 x.m.re x.m.im) := by rw [cell_of hx]; rfl
  have HB : Hid (Below w.heap.size w W) := bx.2
  unfold likeV
  clear h bx hx hY
  by_cases hk : y.m.kind = x.m.kind
  · rw [decide_eq_true hk, Bool.true_and]
    have HK : Hid (decide (y.m.kind = x.m.kind) = true) := decide_eq_true hk
    rw [hk] at y0
    clear hk
    go_enter Try.func64, Try.ntmps64
    go_wp2
    go_ret
    exact ⟨rfl, HB.out⟩
  · rw [decide_eq_false hk, Bool.false_and]
    go_enter Try.func64, Try.ntmps64
    go_wp2
    go_ret
    exact ⟨rfl, HB.out⟩
theorem eg_like : ∀ args w, (callFunc 64 args).run Try.prog w = .ok (.enter 64 args) w := enters_of Try.func64 (by kernel_rfl) rfl
theorem any_same {α : Type} {l : List α} {p q : α → Bool} (h : ∀ x ∈ l, p x = q x) : l.any p = l.any q := by
  induction l with
  | nil => rfl
  | cons a l ih => rw [List.any_cons, List.any_cons, h a (List.mem_cons_self ..), ih fun x hx => h x (List.mem_cons_of_mem _ hx)]
/-- what is held already -/
theorem held_like {w : World} {B t : Nat} {s : Td} (h : IsT w B t s) {x : Pm} (hx : Mk x.re x.im (part s.a) x.num) : (s.hs.any fun y => likeV y.m x) = (s.say.held.any fun o => likeM o x) := by
  unfold Td.say
  rw [List.any_map]
  exact any_same fun y hy => like_is (h.each y hy).2.mkk hx
set_option maxHeartbeats 4000000 in
set_option maxRecDepth 100000 in
theorem hold_no (t B : Nat) (s : Td) (x : Hm) (w : World) (h : IsT w B t s) (hf : ¬ s.hs.length < s.hold) : Calls Try.prog 49 #[.pointer (some ⟨t, 0, none⟩), .agg x.arr] w fun e w' => e = .returned (.tuple #[]) ∧ Below w.heap.size w w' := by
  obtain ⟨X, hX⟩ : ∃ X, x.arr = X := ⟨_, rfl⟩
  rw [hX]
  obtain ⟨W, hW⟩ : ∃ W, w.alloc (.cells X 45) = W := ⟨_, rfl⟩
  have bx := boxB hW
  obtain ⟨-, -, -, -, -, -, -, -, c8, c9, -⟩ := (h.below bx.2).cells
  obtain ⟨a, cap, hv⟩ := owns_len h.held
  rw [hv] at c8
  have HB : Hid (Below w.heap.size w W) := bx.2
  have hz : ¬ (s.hs.length : Int) < (s.hold : Int) := by omega
  have hd : decide ((s.hs.length : Int) < (s.hold : Int)) = false := decide_eq_false hz
  have hd2 : decide (s.hs.length < s.hold) = false := decide_eq_false hf
  clear h bx hX hv hz
  go_enter Try.func49, Try.ntmps49
  go_upto_region 2 with fail
  clear hW
  go_quiet (fail)
  go_wp2
  go_end0
  exact ⟨rfl, below_drewN HB.out _⟩
set_option maxHeartbeats 4000000 in
set_option maxRecDepth 100000 in
theorem hold_had (t B : Nat) (s : Td) (x : Hm) (w : World) (h : IsT w B t s) (hf : s.hs.length < s.hold) (hl : (s.hs.any fun y => likeV y.m x.m) = true) : Calls Try.prog 49 #[.pointer (some ⟨t, 0, none⟩), .agg x.arr] w fun e w' => e = .returned (.tuple #[]) ∧ Below w.heap.size w w' := by
  obtain ⟨a, cap, hv⟩ := owns_len h.held
  obtain ⟨W, hW⟩ : ∃ W, w.alloc (.cells x.arr 45) = W := ⟨_, rfl⟩
  have bx := boxB hW
  obtain ⟨-, -, -, -, -, -, -, -, c8, c9, -⟩ := (h.below bx.2).cells
  rw [hv] at c8
  have HB : Hid (Below w.heap.size w W) := bx.2
  have hcon : Hid (Calls Try.prog 65 #[.slice a s.hs.length cap, .func (.func 64) #[] #[.pointer (some ⟨w.heap.size, 0, none⟩)]] W.drew fun e w' => e = .returned (.bool true) ∧ Below W.drew.heap.size W.drew w') := by
    have := contains_m 64 #[.pointer (some ⟨w.heap.size, 0, none⟩)] (fun y => likeV y.m x.m) a s.hs.length cap B s.hs W.drew (by rw [← hv]; exact (h.held.below bx.2).below (Below.refl _ _).drew) (by have := h.lh; have := h.l8; omega) eg_like (fun V y hb => like_p y x _ V (hkeep (hkeep bx.1 (Below.refl _ _).drew) hb))
    rw [hl] at this; exact this
  obtain ⟨X, hX⟩ : ∃ X, x.arr = X := ⟨_, rfl⟩
  rw [hX] at hW ⊢
  have hd : decide ((s.hs.length : Int) < (s.hold : Int)) = true := decide_eq_true (by omega)
  have hz : (s.hs.length : Int) < (s.hold : Int) := by omega
  have kS : W.drew.cell? ⟨t, 8, none⟩ = some (.slice a s.hs.length cap) ∧ W.drew.cell? ⟨t, 9, none⟩ = some (.int .i64 s.hold) := ⟨c8, c9⟩
  clear h bx hX hv hl
  go_enter Try.func49, Try.ntmps49
  go_upto_region 2 with fail
  clear hW
  go_region_held3 (fun w' => w'.cell? ⟨t, 8, none⟩ = some (.slice a s.hs.length cap) ∧ w'.cell? ⟨t, 9, none⟩ = some (.int .i64 s.hold))
    (with_reducible first | exact kS | exact kT)
    (first | (go_at_call 65; refine hcon.out.mono ?_; rintro e w1 ⟨rfl, hb1⟩; have kT : w1.cell? ⟨t, 8, none⟩ = some (.slice a s.hs.length cap) ∧ w1.cell? ⟨t, 9, none⟩ = some (.int .i64 s.hold) := ⟨(hb1.cell (cellLt kS.1)).trans kS.1, (hb1.cell (cellLt kS.2)).trans kS.2⟩))
  go_wp2
  go_end0
  exact ⟨rfl, chainB (chainB HB.out (Below.refl _ _).drew) hb1⟩
end
section
open Go.RowKit Go.Shelf

/-- a list of one message, made, shut -/
def msgOne (ps : Array (Nat × Value)) : Sem Value := Instr.buildSlice 60 1 ps
theorem buildMsg (ps : Array (Nat × Value)) : Instr.buildSlice 60 1 ps = msgOne ps := rfl
theorem msgOne_of (Y : Array Value) (hY : Y.size = 16) (w : World) : (msgOne #[(0, .agg Y)]).run Try.prog w = .ok (.slice (some ⟨w.heap.size, 0, none⟩) 1 1) (w.alloc (.cells Y 45)) := by
  obtain ⟨l⟩ := Y
  match l, hY with
  | [y0 , y1 , y2 , y3 , y4 , y5 , y6 , y7 , y8 , y9 , y10 , y11 , y12 , y13 , y14 , y15], _ =>
    unfold msgOne Instr.buildSlice
    simp [run_underlying Try.underlying60, Try.sizeOf45, Try.zeroValue45, Instr.fill, Value.cells, newRow]
    rw [show Array.range 16 = #[0, 1, 2, 3, 4, 5, 6, 7, 8, 9, 10, 11, 12, 13, 14, 15] from rfl]
    simp
attribute [irreducible] msgOne
attribute [local go_sem ↓ high] loadMsg storeMsg buildMsg
attribute [local go_sem high] run_store_complex eqC
/-- what is behind an append to what is held -/
theorem hold_end {w w1 w2 w3 : World} {B t : Nat} {s : Td} {y : Hm} {v3 : Value} (h : IsT w B t s) (hb : Below w.heap.size w w1) (h1 : IsT w1 B t s) (hb2 : Below w1.heap.size w1 w2) (hL : Lists w2 w1.heap.size y) (hG : Good (part s.a) y.m) (hf : s.hs.length < s.hold) (hB : B ≤ w.heap.size)
    (ho : w3.ownsRow B 45 16 v3 (s.hs.length + 1) (mc s.hs ++ y.vals)) (hg : (w2.alloc (.cells y.arr 45)).grownBy w3 s.hv.ownBlock) (hat : v3.ownBlock = s.hv.ownBlock ∨ v3.ownBlock = some (w2.alloc (.cells y.arr 45)).heap.size) :
    (w3.cell? ⟨t, 8, none⟩ = some s.hv ∧ ∀ i, w3.frozen? ⟨t, i, none⟩ = false) ∧ ∃ s', ST w (w3.setCell ⟨t, 8, none⟩ v3) B t s s' ∧ s'.say = { s.say with held := s.say.held ++ [y.m] } := by
  have ha : Below w2.heap.size w2 (w2.alloc (.cells y.arr 45)) := below_alloc _ _
  have hb3 : Below w1.heap.size w1 (w2.alloc (.cells y.arr 45)) := chainB hb2 ha
  have h2 := h1.below hb3
  have hLa := hL.below ha
  have hO := only_grown hg
  have hno : ∀ k, s.hv.ownBlock = some k → ∀ ty, 45 ≠ ty → ¬ Tag (w2.alloc (.cells y.arr 45)) k ty := fun k e ty hne => (h2.th e).two hne
  have htd : w3.heap[t]? = (w2.alloc (.cells y.arr 45)).heap[t]? := hO.block t h2.tt.lt fun e => hno t e _ (by decide) h2.tt
  have hd3 := htd.trans h2.head
  have hc3 : w3.cell? ⟨t, 8, none⟩ = some s.hv := by rw [cell_of hd3]; rfl
  refine ⟨⟨hc3, free_of hd3⟩, { s with hv := v3, hs := s.hs ++ [y] }, ?_, by simp [Td.say]⟩
  have o4 : Only (· = t) w3 (w3.setCell ⟨t, 8, none⟩ v3) := only1 _ t _ _
  have tt3 : Tag w3 t 68 := ⟨_, _, hd3⟩
  have ne4 : ∀ k ty, Tag w3 k ty → 68 ≠ ty → k ≠ t := fun k ty hk hne e => by rw [e] at hk; exact tt3.two hne hk
  have lists : ∀ z : Hm, Lists (w2.alloc (.cells y.arr 45)) B z → Lists (w3.setCell ⟨t, 8, none⟩ v3) B z := fun z hz => by
    have hz3 : Lists w3 B z := hz.only hO fun q e => ⟨hno q e _ (by decide), hno q e _ (by decide)⟩
    exact hz3.only o4 fun q (e : q = t) => by rw [e]; exact ⟨tt3.two (by decide), tt3.two (by decide)⟩
  have sz1 := hb.size
  have sz2 := hb3.size
  have sz3 := hO.size
  refine ⟨⟨?_, h.bt, h.mkk, ?_, fun z hz => ?_, ?_, h.isf, h.frn, h.ask0, ?_, h.l8⟩, ?_, ?_, ?_⟩
  · have := heap_set hd3 8 v3
    simpa [Td.arr] using this
  · show World.ownsRow _ _ _ _ _ _ _
    rw [List.length_append, mc_app, show mc [y] = y.vals by simp [mc]]
    exact owns_moved ho fun k e => o4.block k (Tag.own ho e).lt (ne4 k _ (Tag.own ho e) (by decide))
  · rcases List.mem_append.1 hz with hz | hz
    · exact ⟨lists z (h2.each z hz).1, (h2.each z hz).2⟩
    · rw [List.mem_singleton.1 hz]
      exact ⟨lists y (hLa.down (by omega)), hG⟩
  · refine h2.map.moved fun g e => ?_
    have hm := (h2.map.some' e).1
    have hn1 : s.hv.ownBlock ≠ some g := fun e' => by
      have := h2.th e'
      exact hm.no this
    have e3 := hO.block g hm.lt (fun e' => hn1 e')
    have hm3 := hm.moved e3
    refine (o4.block g (Nat.lt_of_lt_of_le hm.lt sz3) fun (e' : g = t) => ?_).trans e3
    rw [e'] at hm3; exact hm3.no tt3
  · rw [List.length_append]; exact hf
  · refine ⟨o4.os.trans (hO.os.trans (hb3.os.trans hb.os)), o4.tape.trans (hO.tape.trans (hb3.tape.trans hb.tape)), o4.output.trans (hO.output.trans (hb3.output.trans hb.output)), by have := o4.size; omega, fun k hk hn => ?_⟩
    have e1 := hb.block k hk
    have e2 := hb3.block k (by omega)
    have e3 := hO.block k (by omega) (fun e => hn (.inr (.inl e)))
    have e4 := o4.block k (by omega) (fun e => hn (.inl e))
    exact e4.trans (e3.trans (e2.trans e1))
  · rintro k (e | e | e)
    · exact .inl (.inl e)
    · rcases hat with h' | h'
      · exact .inl (.inr (.inl (h'.symm.trans e)))
      · have : (w2.alloc (.cells y.arr 45)).heap.size = k := Option.some.inj (h'.symm.trans e)
        exact .inr (by omega)
    · exact .inl (.inr (.inr e))
  · rintro k ((e | e | e) | ⟨z, hz, e⟩)
    · exact .inl (.inl (.inl e))
    · rcases hat with h' | h'
      · exact .inl (.inl (.inr (.inl (h'.symm.trans e))))
      · have : (w2.alloc (.cells y.arr 45)).heap.size = k := Option.some.inj (h'.symm.trans e)
        exact .inr (by omega)
    · exact .inl (.inl (.inr (.inr e)))
    · rcases List.mem_append.1 hz with hz | hz
      · exact .inl (.inr ⟨z, hz, e⟩)
      · rw [List.mem_singleton.1 hz] at e
        refine .inr ?_
        rcases e with e | e
        · have := (World.ownsRow.lt hL.es k e).1; omega
        · have := (World.ownsRow.lt hL.ks k e).1; omega
set_option maxHeartbeats 4000000 in
set_option maxRecDepth 100000 in
theorem hold_yes (t B : Nat) (s : Td) (x : Hm) (B' : Nat) (w : World) (h : IsT w B t s) (hB : B ≤ w.heap.size) (hL : Lists w B' x) (hG : Good (part s.a) x.m) (hf : s.hs.length < s.hold) (hl : (s.hs.any fun y => likeV y.m x.m) = false) : Calls Try.prog 49 #[.pointer (some ⟨t, 0, none⟩), .agg x.arr] w fun e w' => e = .returned (.tuple #[]) ∧ ∃ s', ST w w' B t s s' ∧ s'.say = { s.say with held := s.say.held ++ [x.m] } := by
  obtain ⟨a, cap, hv⟩ := owns_len h.held
  obtain ⟨W, hW⟩ : ∃ W, w.alloc (.cells x.arr 45) = W := ⟨_, rfl⟩
  have bx := boxB hW
  have h1 := h.below bx.2
  obtain ⟨-, -, -, -, -, -, -, -, c8, c9, -⟩ := h1.cells
  rw [hv] at c8
  have hcon : Hid (Calls Try.prog 65 #[.slice a s.hs.length cap, .func (.func 64) #[] #[.pointer (some ⟨w.heap.size, 0, none⟩)]] W.drew fun e w' => e = .returned (.bool false) ∧ Below W.drew.heap.size W.drew w') := by
    have := contains_m 64 #[.pointer (some ⟨w.heap.size, 0, none⟩)] (fun y => likeV y.m x.m) a s.hs.length cap B s.hs W.drew (by rw [← hv]; exact (h.held.below bx.2).below (Below.refl _ _).drew) (by have := h.lh; have := h.l8; omega) eg_like (fun V y hb => like_p y x _ V (hkeep (hkeep bx.1 (Below.refl _ _).drew) hb))
    rw [hl] at this; exact this
  obtain ⟨X, hX⟩ : ∃ X, x.arr = X := ⟨_, rfl⟩
  rw [hX] at hW ⊢
  have hd : decide ((s.hs.length : Int) < (s.hold : Int)) = true := decide_eq_true (by omega)
  have hz : (s.hs.length : Int) < (s.hold : Int) := by omega
  have kS : W.drew.cell? ⟨t, 8, none⟩ = some (.slice a s.hs.length cap) ∧ W.drew.cell? ⟨t, 9, none⟩ = some (.int .i64 s.hold) := ⟨c8, c9⟩
  have HI : Hid (IsT w B t s ∧ Below w.heap.size w W ∧ W.heap[w.heap.size]? = some (.cells X 45 (0, 0)) ∧ X.size = 16 ∧ Lists w B' x ∧ s.hv = .slice a s.hs.length cap ∧ Good (part s.a) x.m ∧ x.arr = X) := ⟨h, bx.2, by rw [← hX]; exact bx.1, by rw [← hX]; rfl, hL, hv, hG, hX⟩
  clear h h1 bx hX hv hl hL hG
  go_enter Try.func49, Try.ntmps49
  go_upto_region 2 with fail
  clear hW
  go_region_held3 (fun w' => w'.cell? ⟨t, 8, none⟩ = some (.slice a s.hs.length cap) ∧ w'.cell? ⟨t, 9, none⟩ = some (.int .i64 s.hold))
    (with_reducible first | exact kS | exact kT)
    (first | (go_at_call 65; refine hcon.out.mono ?_; rintro e w1 ⟨rfl, hb1⟩; have kT : w1.cell? ⟨t, 8, none⟩ = some (.slice a s.hs.length cap) ∧ w1.cell? ⟨t, 9, none⟩ = some (.int .i64 s.hold) := ⟨(hb1.cell (cellLt kS.1)).trans kS.1, (hb1.cell (cellLt kS.2)).trans kS.2⟩))
  go_upto_region 3 with fail
  have hb : Below w.heap.size w w1 := chainB (chainB HI.out.2.1 (Below.refl _ _).drew) hb1
  have ix := HI.out.1.below hb
  have bx1 : w1.heap[w.heap.size]? = some (.cells X 45 (0, 0)) := hkeep (hkeep HI.out.2.2.1 (Below.refl _ _).drew) hb1
  have ml := msgLd_of bx1 HI.out.2.2.2.1
  have cf := ix.cells.2.2.2.2.2.2.2.2.2.2
  obtain ⟨d8, -⟩ := kT
  have ml' : (msgLd (.pointer (some ⟨w.heap.size, 0, none⟩))).run Try.prog w1.drew = .ok (.agg X) w1.drew := msgLd_of (w := w1.drew) bx1 HI.out.2.2.2.1
  have hcp : Hid (Calls Try.prog 42 #[.agg X] w1.drew fun e w' => ∃ y : Hm, e = .returned (.agg y.arr) ∧ y.m = x.m ∧ Lists w' w1.drew.heap.size y ∧ Below w1.drew.heap.size w1.drew w') := by
    have := copied_p x B' w1.drew ((HI.out.2.2.2.2.1.below hb).below (Below.refl _ _).drew)
    rw [HI.out.2.2.2.2.2.2.2] at this; exact this
  have HY : Hid (Below w.heap.size w w1 ∧ IsT w1 B t s) := ⟨hb, ix⟩
  obtain ⟨i1, hi1, hw0, hw1, hw2⟩ := info_parts Try.infoMg
  have htl : t < w1.heap.size := ix.tt.lt
  clear hb ix bx1 hcon kS hb1 c8 c9 ml
  have hlen8 : s.hs.length ≤ 8 := by have := HY.out.2.lh; have := HY.out.2.l8; omega
  have hBs : ∀ V : World, Below w1.heap.size w1 V → B ≤ V.heap.size := fun V hV => by have := HY.out.1.size; have := hV.size; omega
  go_region_law (first
    | (refine step_append_own_at rfl (.tmp 29) (.tmp 32) 60 rfl B 45 i1 _ 16 192 Try.underlying60 hi1 hw0 hw1 hw2 rfl (by decide) (.slice a s.hs.length cap) s.hs.length (mc s.hs) (by simp [Act.eval]) (by exact e1) ⟨w2.heap.size, 0, none⟩ 1 1 y.vals (by simp [Act.eval]) rfl (by exact yat) y.one' (by unfold maxLen; omega) (by omega) (by exact hBw) ?_; intro v3 w3 hown3 hgrow3 hat3; have HE : Hid _ := hold_end HI.out.1 HY.out.1 HY.out.2 b2 hLy (by rw [hym]; exact HI.out.2.2.2.2.2.2.1) hf hB hown3 (by rw [HI.out.2.2.2.2.2.1]; exact hgrow3) (by rw [HI.out.2.2.2.2.2.1]; exact hat3); obtain ⟨a3, q3, rfl⟩ := owns_len hown3; obtain ⟨f8, ff⟩ := HE.out.1; rw [HI.out.2.2.2.2.2.1] at f8; clear hown3 hgrow3 hat3)
    | (go_simp; go_at_call 42; refine hcp.out.mono ?_; rintro e w2 ⟨y, rfl, hym, hLy, hb2⟩; have mo := msgOne_of y.arr rfl w2; have b2 : Below w1.heap.size w1 w2 := ⟨hb2.os, hb2.tape, hb2.output, hb2.size, hb2.block⟩; have e2 := (b2.cell (p := ⟨t, 8, none⟩) htl).trans d8; have ef := fun i => (b2.frozen (p := ⟨t, i, none⟩) htl).trans (cf i); have ba := chainB b2 (below_alloc w2 (.cells y.arr 45)); have hBw := hBs _ ba; have e1 : (w2.alloc (.cells y.arr 45)).ownsRow B 45 16 (.slice a s.hs.length cap) s.hs.length (mc s.hs) := (by rw [← HI.out.2.2.2.2.2.1]; exact (HY.out.2.held.below ba)); have yat : ∀ j u, y.vals[j]? = some u → (w2.alloc (.cells y.arr 45)).cell? ((⟨w2.heap.size, 0, none⟩ : Addr).add j) = some u := (fun j u hu => by rw [add_plain', Nat.zero_add, cell_of (heap_new _ _), ← Array.getElem?_toList]; exact hu); have e8 : (w2.alloc (.cells y.arr 45)).cell? ⟨t, 8, none⟩ = some (.slice a s.hs.length cap) := (ba.cell (p := ⟨t, 8, none⟩) htl).trans d8))
  all_goals
    have hE := HE.out.2
    rw [hym] at hE
    have HZ : Hid _ := hE
    clear HE hE
    go_wp2
    go_end0
    exact ⟨rfl, HZ.out⟩
end
end Go.Proofs.Ytpmcecenhgppbaa
