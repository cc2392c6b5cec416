/- The document's own Encode, kind by kind. -/
import Derived.Test.YtekonakanieeaaaJWEpt31
import Derived.Test.YtekonakanieeaaaJWEpt08
namespace Go.Proofs.Ytekonakanieeaaa
section
open Go.RowKit Go.Lib

theorem opB_1k {o : Opn} (h : opOk o) : (opB o).length ≤ 1000 := by
  unfold opB
  have := numI_len h.2.1
  have := numI_len h.2.2.1
  have := numI_len h.2.2.2.1
  have := textB_200 h.2.2.2.2.1
  have := textB_200 h.2.2.2.2.2.1
  have := textB_200 h.2.2.2.2.2.2
  simp only [List.length_cons, List.length_append]
  omega
theorem entB_1k {e : En} (h : entOk e) : (entB e).length ≤ 1000 := by
  obtain ⟨hk, h2⟩ := h
  unfold entB
  have := keyB_200 hk
  cases hn : e.neg with
  | true => simp; omega
  | false =>
    rw [hn] at h2
    have h2 : nodeOk e := by simpa using h2
    have := numI_len h2.1
    have := numI_len h2.2.1
    have := textB_200 h2.2.2.2
    unfold nodeB
    simp
    omega
/-- a whole message loaded, shut -/
def msgS (v : Value) : Sem Value := Instr.loadAt 30 v
theorem loadMg (v : Value) : Instr.loadAt 30 v = msgS v := rfl
theorem Try.sizeMsgL : (Try.prog.info? 30).map (·.size) = some 16 := by kernel_rfl
theorem msgS_of {w : World} {g : Nat} {cs : Array Value} {t : TypeId} {fr : Nat × Nat} (h : w.heap[g]? = some (.cells cs t fr)) (hs : cs.size = 16) : (msgS (.pointer (some ⟨g, 0, none⟩))).run Try.prog w = .ok (.agg cs) w := by
  unfold msgS Instr.loadAt Instr.sureAddr
  simp [run_loadVar_row w g t 30 cs fr _ h Try.underlying30 rfl (by rw [hs]; exact Try.sizeMsgL)]
attribute [irreducible] msgS
attribute [local go_sem ↓ high] loadMg

set_option maxRecDepth 20000 in
set_option maxHeartbeats 8000000 in
theorem encd_1 (client life seq : Int) (re im : Nat) (vers err : Int) (op : Opn) (ve vk : Value) (es : List En) (ks : List Ky) (w : World) (hr : Rows w ⟨1, client, life, seq, re, im, vers, err, op, ve, vk, es, ks⟩) (hP : plainB ⟨1, client, life, seq, re, im, vers, err, op, ve, vk, es, ks⟩ = true) : Calls Try.prog 17 #[.agg (Ms.arr ⟨1, client, life, seq, re, im, vers, err, op, ve, vk, es, ks⟩)] w fun x w' => ∃ a c, x = .returned (.tuple #[.slice a (msgB (Ms.mg ⟨1, client, life, seq, re, im, vers, err, op, ve, vk, es, ks⟩)).length c, .int .i64 0]) ∧ OwnB w' w.heap.size (.slice a (msgB (Ms.mg ⟨1, client, life, seq, re, im, vers, err, op, ve, vk, es, ks⟩)).length c) (msgB (Ms.mg ⟨1, client, life, seq, re, im, vers, err, op, ve, vk, es, ks⟩)) ∧ Below w.heap.size w w' := by
  obtain ⟨hG, hok⟩ := (plainB_iff _).1 hP
  have hG : goodB re im = true := hG
  obtain ⟨hH, hBd⟩ := hok
  have he := hr.es
  have hk := hr.ks
  simp only [] at he hk
  have HPl : Hid (∀ W2, Below w.heap.size w W2 → Calls Try.prog 37 #[.agg (Ms.arr ⟨1, client, life, seq, re, im, vers, err, op, ve, vk, es, ks⟩)] W2 fun e w' => e = .returned (.bool true) ∧ Below W2.heap.size W2 w') := fun W2 h2 => by have := plain_d ⟨1, client, life, seq, re, im, vers, err, op, ve, vk, es, ks⟩ W2 ⟨hr.es.below h2, hr.ks.below h2⟩; rw [hP] at this; exact this
  have HPt : Hid (∀ W, Calls Try.prog 38 #[.complex .f64 re im] W fun e w' => e = .returned (.tuple #[.int .i64 (part re), .int .i64 (part im), .bool true]) ∧ W = w') := fun W => (parts_any re im W).mono fun e w' h => by rw [hG] at h; exact ⟨h.1, h.2.symm⟩
  have hn1 : numOk client := hH.client
  have H1 : Hid (∀ W, Calls Try.prog 39 #[.int .i64 client] W fun e w' => Mk (numI client) W w' e) := fun W => number_i _ W hn1
  have l1 := numI_len hn1
  have hn2 : numOk life := hH.life
  have H2 : Hid (∀ W, Calls Try.prog 39 #[.int .i64 life] W fun e w' => Mk (numI life) W w' e) := fun W => number_i _ W hn2
  have l2 := numI_len hn2
  have hn3 : numOk seq := hH.seq
  have H3 : Hid (∀ W, Calls Try.prog 39 #[.int .i64 seq] W fun e w' => Mk (numI seq) W w' e) := fun W => number_i _ W hn3
  have l3 := numI_len hn3
  have hn4 : numOk (part re) := hH.ep
  have H4 : Hid (∀ W, Calls Try.prog 39 #[.int .i64 (part re)] W fun e w' => Mk (numI (part re)) W w' e) := fun W => number_i _ W hn4
  have l4 := numI_len hn4
  have hn5 : numOk (part im) := hH.nb
  have H5 : Hid (∀ W, Calls Try.prog 39 #[.int .i64 (part im)] W fun e w' => Mk (numI (part im)) W w' e) := fun W => number_i _ W hn5
  have l5 := numI_len hn5
  have hn6 : numOk vers := hH.vers
  have H6 : Hid (∀ W, Calls Try.prog 39 #[.int .i64 vers] W fun e w' => Mk (numI vers) W w' e) := fun W => number_i _ W hn6
  have l6 := numI_len hn6
  have hn7 : numOk err := hH.err
  have H7 : Hid (∀ W, Calls Try.prog 39 #[.int .i64 err] W fun e w' => Mk (numI err) W w' e) := fun W => number_i _ W hn7
  have l7 := numI_len hn7
  have hop : opOk op := by
    rcases hBd with ⟨q, hb⟩ | ⟨q, hb⟩ | ⟨q, hb⟩ | ⟨q, hb⟩
    · exact hb.1
    · have q : (1 : Int) = 2 := q; exact absurd q (by decide)
    · have q : (1 : Int) = 3 := q; exact absurd q (by decide)
    · have q : (1 : Int) = 4 := q; exact absurd q (by decide)
  have H8 : Hid (∀ W, Calls Try.prog 40 #[.agg #[.int .i64 op.kind, .int .i64 op.dir, .string op.nm, .int .i64 op.dst, .string op.new, .int .i64 op.mode, .string op.tg]] W fun x w' => Mk (opB op) W w' x) := fun W => op_d op W hop
  have l8 : (opB op).length ≤ 1000 := opB_1k hop
  have hB : msgB (Ms.mg ⟨1, client, life, seq, re, im, vers, err, op, ve, vk, es, ks⟩) = (1 : Int) :: (numI client ++ (numI life ++ (numI seq ++ (numI (part re) ++ (numI (part im) ++ (numI vers ++ (numI err ++ opB op))))))) := rfl
  rw [hB]
  obtain ⟨N1, hN1⟩ : ∃ x, numI client = x := ⟨_, rfl⟩
  rw [hN1] at H1 l1 ⊢
  obtain ⟨N2, hN2⟩ : ∃ x, numI life = x := ⟨_, rfl⟩
  rw [hN2] at H2 l2 ⊢
  obtain ⟨N3, hN3⟩ : ∃ x, numI seq = x := ⟨_, rfl⟩
  rw [hN3] at H3 l3 ⊢
  obtain ⟨N4, hN4⟩ : ∃ x, numI (part re) = x := ⟨_, rfl⟩
  rw [hN4] at H4 l4 ⊢
  obtain ⟨N5, hN5⟩ : ∃ x, numI (part im) = x := ⟨_, rfl⟩
  rw [hN5] at H5 l5 ⊢
  obtain ⟨N6, hN6⟩ : ∃ x, numI vers = x := ⟨_, rfl⟩
  rw [hN6] at H6 l6 ⊢
  obtain ⟨N7, hN7⟩ : ∃ x, numI err = x := ⟨_, rfl⟩
  rw [hN7] at H7 l7 ⊢
  obtain ⟨N8, hN8⟩ : ∃ x, opB op = x := ⟨_, rfl⟩
  rw [hN8] at H8 l8 ⊢
  clear hN8 hop
  clear hB hP hH hBd hG hN1 hn1 hN2 hn2 hN3 hn3 hN4 hn4 hN5 hn5 hN6 hn6 hN7 hn7
  obtain ⟨ae, ce, hve⟩ := owns_len he
  obtain ⟨ak, ck, hvk⟩ := owns_len hk
  subst hve hvk
  obtain ⟨A, hA⟩ : ∃ A, (#[.int .i64 1, .int .i64 client, .int .i64 life, .int .i64 seq, .complex .f64 re im, .int .i64 vers, .int .i64 err, .int .i64 op.kind, .int .i64 op.dir, .string op.nm, .int .i64 op.dst, .string op.new, .int .i64 op.mode, .string op.tg, .slice ae es.length ce, .slice ak ks.length ck] : Array Value) = A := ⟨_, rfl⟩
  have HPl2 : Hid (∀ W2, Below w.heap.size w W2 → Calls Try.prog 37 #[.agg A] W2 fun e w' => e = .returned (.bool true) ∧ Below W2.heap.size W2 w') := by rw [← hA]; exact HPl.out
  obtain ⟨W, hW⟩ : ∃ W, w.alloc (.cells A 30) = W := ⟨_, rfl⟩
  have hb := boxB hW
  have HBx : Hid (W.heap[w.heap.size]? = some (.cells #[.int .i64 1, .int .i64 client, .int .i64 life, .int .i64 seq, .complex .f64 re im, .int .i64 vers, .int .i64 err, .int .i64 op.kind, .int .i64 op.dir, .string op.nm, .int .i64 op.dst, .string op.new, .int .i64 op.mode, .string op.tg, .slice ae es.length ce, .slice ak ks.length ck] 30 (0, 0)) ∧ Below w.heap.size w W) := by rw [hA]; exact hb
  have nl := msgS_of hb.1 (by rw [← hA]; rfl)
  have HS : Hid (∀ w', Below W.heap.size W w' → w'.cell? ⟨w.heap.size, 0, none⟩ = some (.int .i64 1) ∧ w'.cell? ⟨w.heap.size, 1, none⟩ = some (.int .i64 client) ∧ w'.cell? ⟨w.heap.size, 2, none⟩ = some (.int .i64 life) ∧ w'.cell? ⟨w.heap.size, 3, none⟩ = some (.int .i64 seq) ∧ w'.cell? ⟨w.heap.size, 4, none⟩ = some (.complex .f64 re im) ∧ w'.cell? ⟨w.heap.size, 5, none⟩ = some (.int .i64 vers) ∧ w'.cell? ⟨w.heap.size, 6, none⟩ = some (.int .i64 err) ∧ w'.cell? ⟨w.heap.size, 7, none⟩ = some (.int .i64 op.kind) ∧ w'.cell? ⟨w.heap.size, 8, none⟩ = some (.int .i64 op.dir) ∧ w'.cell? ⟨w.heap.size, 9, none⟩ = some (.string op.nm) ∧ w'.cell? ⟨w.heap.size, 10, none⟩ = some (.int .i64 op.dst) ∧ w'.cell? ⟨w.heap.size, 11, none⟩ = some (.string op.new) ∧ w'.cell? ⟨w.heap.size, 12, none⟩ = some (.int .i64 op.mode) ∧ w'.cell? ⟨w.heap.size, 13, none⟩ = some (.string op.tg)) := fun w' h' => by
    have n1 := hkeep HBx.out.1 h'
    exact ⟨by have y := cell_of n1 0; simpa using y, by have y := cell_of n1 1; simpa using y, by have y := cell_of n1 2; simpa using y, by have y := cell_of n1 3; simpa using y, by have y := cell_of n1 4; simpa using y, by have y := cell_of n1 5; simpa using y, by have y := cell_of n1 6; simpa using y, by have y := cell_of n1 7; simpa using y, by have y := cell_of n1 8; simpa using y, by have y := cell_of n1 9; simpa using y, by have y := cell_of n1 10; simpa using y, by have y := cell_of n1 11; simpa using y, by have y := cell_of n1 12; simpa using y, by have y := cell_of n1 13; simpa using y⟩
  have HRw : Hid (∀ w', Below W.heap.size W w' → Row7 w' 0 (.slice ae es.length ce) es ∧ RowK w' 0 (.slice ak ks.length ck) ks) := fun w' h' => ⟨he.below (chainB HBx.out.2 h'), hk.below (chainB HBx.out.2 h')⟩
  show Calls Try.prog 17 #[.agg #[.int .i64 1, .int .i64 client, .int .i64 life, .int .i64 seq, .complex .f64 re im, .int .i64 vers, .int .i64 err, .int .i64 op.kind, .int .i64 op.dir, .string op.nm, .int .i64 op.dst, .string op.new, .int .i64 op.mode, .string op.tg, .slice ae es.length ce, .slice ak ks.length ck]] w _
  rw [hA]
  clear hA hb HPl he hk hr
  go_enter Try.func17, Try.ntmps17
  go_upto_region 1 with fail
  clear hW
  go_upto_region 5 with (first
    | (go_at_call 38; refine (HPt.out _).mono ?_; rintro x w9 ⟨rfl, rfl⟩)
    | (go_at_call 37; refine (HPl2.out W HBx.out.2).mono ?_; rintro x w1 ⟨rfl, hb1⟩; have y0 := (HS.out w1 hb1).1; have y4 := (HS.out w1 hb1).2.2.2.2.1; clear nl))
  obtain ⟨V0, hV0⟩ : ∃ x, w1.alloc (.cells #[.int .u8 1] 5) = x := ⟨_, rfl⟩
  have p0 : OwnB V0 W.heap.size (.slice (some ⟨w1.heap.size, 0, none⟩) 1 1) [1] := by rw [← hV0]; exact (OwnB.new1 _ _ _ rfl).le hb1.size
  have g0 : Below W.heap.size W V0 := by rw [← hV0]; exact chainB hb1 (below_alloc _ _)
  have P0 : Hid (OwnB V0 W.heap.size (.slice (some ⟨w1.heap.size, 0, none⟩) 1 1) [1] ∧ Below W.heap.size W V0) := ⟨p0, g0⟩
  have z1 := (HS.out V0 g0).2.1
  rw [hV0]
  clear hV0 p0 g0 y0 y4
  go_wp2_with (first
    | (at_builtin; refine wpList_apy rfl _ _ rfl W.heap.size _ ((((((([1] ++ N1) ++ N2) ++ N3) ++ N4) ++ N5) ++ N6) ++ N7) rfl (P7.out.1.below b8) _ N8 rfl o8.out.rb (by simp; omega) (chainB P7.out.2 b8).size ?_; intro v8 V8 p8 f8 _; have g8 := (chainB P7.out.2 b8).trans f8; have P8 : Hid (OwnB V8 W.heap.size v8 (((((((([1] ++ N1) ++ N2) ++ N3) ++ N4) ++ N5) ++ N6) ++ N7) ++ N8) ∧ Below W.heap.size W V8) := ⟨p8, g8⟩; clear p8 f8 g8 b8 o8)
    | (go_at_call 40; refine (H8.out V7).mono ?_; rintro x w18 ⟨a8, q8, rfl, o8, b8⟩; clear u0 z7 z8 z9 z10 z11 z12 z13)
    | (at_builtin; refine wpList_apy rfl _ _ rfl W.heap.size _ (((((([1] ++ N1) ++ N2) ++ N3) ++ N4) ++ N5) ++ N6) rfl (P6.out.1.below b7) _ N7 rfl o7.out.rb (by simp; omega) (chainB P6.out.2 b7).size ?_; intro v7 V7 p7 f7 _; have g7 := (chainB P6.out.2 b7).trans f7; have P7 : Hid (OwnB V7 W.heap.size v7 ((((((([1] ++ N1) ++ N2) ++ N3) ++ N4) ++ N5) ++ N6) ++ N7) ∧ Below W.heap.size W V7) := ⟨p7, g7⟩; have u0 := (HS.out V7 g7).1; have z7 := (HS.out V7 g7).2.2.2.2.2.2.2.1; have z8 := (HS.out V7 g7).2.2.2.2.2.2.2.2.1; have z9 := (HS.out V7 g7).2.2.2.2.2.2.2.2.2.1; have z10 := (HS.out V7 g7).2.2.2.2.2.2.2.2.2.2.1; have z11 := (HS.out V7 g7).2.2.2.2.2.2.2.2.2.2.2.1; have z12 := (HS.out V7 g7).2.2.2.2.2.2.2.2.2.2.2.2.1; have z13 := (HS.out V7 g7).2.2.2.2.2.2.2.2.2.2.2.2.2; clear p7 f7 g7 b7 o7)
    | (go_at_call 39; refine (H7.out V6).mono ?_; rintro x w17 ⟨a7, q7, rfl, o7, b7⟩; clear z6)
    | (at_builtin; refine wpList_apy rfl _ _ rfl W.heap.size _ ((((([1] ++ N1) ++ N2) ++ N3) ++ N4) ++ N5) rfl (P5.out.1.below b6) _ N6 rfl o6.out.rb (by simp; omega) (chainB P5.out.2 b6).size ?_; intro v6 V6 p6 f6 _; have g6 := (chainB P5.out.2 b6).trans f6; have P6 : Hid (OwnB V6 W.heap.size v6 (((((([1] ++ N1) ++ N2) ++ N3) ++ N4) ++ N5) ++ N6) ∧ Below W.heap.size W V6) := ⟨p6, g6⟩; have z6 := (HS.out V6 g6).2.2.2.2.2.2.1; clear p6 f6 g6 b6 o6)
    | (go_at_call 39; refine (H6.out V5).mono ?_; rintro x w16 ⟨a6, q6, rfl, o6, b6⟩; clear z5)
    | (at_builtin; refine wpList_apy rfl _ _ rfl W.heap.size _ (((([1] ++ N1) ++ N2) ++ N3) ++ N4) rfl (P4.out.1.below b5) _ N5 rfl o5.out.rb (by simp; omega) (chainB P4.out.2 b5).size ?_; intro v5 V5 p5 f5 _; have g5 := (chainB P4.out.2 b5).trans f5; have P5 : Hid (OwnB V5 W.heap.size v5 ((((([1] ++ N1) ++ N2) ++ N3) ++ N4) ++ N5) ∧ Below W.heap.size W V5) := ⟨p5, g5⟩; have z5 := (HS.out V5 g5).2.2.2.2.2.1; clear p5 f5 g5 b5 o5)
    | (go_at_call 39; refine (H5.out V4).mono ?_; rintro x w15 ⟨a5, q5, rfl, o5, b5⟩)
    | (at_builtin; refine wpList_apy rfl _ _ rfl W.heap.size _ ((([1] ++ N1) ++ N2) ++ N3) rfl (P3.out.1.below b4) _ N4 rfl o4.out.rb (by simp; omega) (chainB P3.out.2 b4).size ?_; intro v4 V4 p4 f4 _; have g4 := (chainB P3.out.2 b4).trans f4; have P4 : Hid (OwnB V4 W.heap.size v4 (((([1] ++ N1) ++ N2) ++ N3) ++ N4) ∧ Below W.heap.size W V4) := ⟨p4, g4⟩; clear p4 f4 g4 b4 o4)
    | (go_at_call 39; refine (H4.out V3).mono ?_; rintro x w14 ⟨a4, q4, rfl, o4, b4⟩)
    | (at_builtin; refine wpList_apy rfl _ _ rfl W.heap.size _ (([1] ++ N1) ++ N2) rfl (P2.out.1.below b3) _ N3 rfl o3.out.rb (by simp; omega) (chainB P2.out.2 b3).size ?_; intro v3 V3 p3 f3 _; have g3 := (chainB P2.out.2 b3).trans f3; have P3 : Hid (OwnB V3 W.heap.size v3 ((([1] ++ N1) ++ N2) ++ N3) ∧ Below W.heap.size W V3) := ⟨p3, g3⟩; clear p3 f3 g3 b3 o3)
    | (go_at_call 39; refine (H3.out V2).mono ?_; rintro x w13 ⟨a3, q3, rfl, o3, b3⟩; clear z3)
    | (at_builtin; refine wpList_apy rfl _ _ rfl W.heap.size _ ([1] ++ N1) rfl (P1.out.1.below b2) _ N2 rfl o2.out.rb (by simp; omega) (chainB P1.out.2 b2).size ?_; intro v2 V2 p2 f2 _; have g2 := (chainB P1.out.2 b2).trans f2; have P2 : Hid (OwnB V2 W.heap.size v2 (([1] ++ N1) ++ N2) ∧ Below W.heap.size W V2) := ⟨p2, g2⟩; have z3 := (HS.out V2 g2).2.2.2.1; clear p2 f2 g2 b2 o2)
    | (go_at_call 39; refine (H2.out V1).mono ?_; rintro x w12 ⟨a2, q2, rfl, o2, b2⟩; clear z2)
    | (at_builtin; refine wpList_apy rfl _ _ rfl W.heap.size _ [1] rfl (P0.out.1.below b1) _ N1 rfl o1.out.rb (by simp; omega) (chainB P0.out.2 b1).size ?_; intro v1 V1 p1 f1 _; have g1 := (chainB P0.out.2 b1).trans f1; have P1 : Hid (OwnB V1 W.heap.size v1 ([1] ++ N1) ∧ Below W.heap.size W V1) := ⟨p1, g1⟩; have z2 := (HS.out V1 g1).2.2.1; clear p1 f1 g1 b1 o1)
    | (go_at_call 39; refine (H1.out V0).mono ?_; rintro x w11 ⟨a1, q1, rfl, o1, b1⟩; clear z1))
  have e9 : (((((((([1] ++ N1) ++ N2) ++ N3) ++ N4) ++ N5) ++ N6) ++ N7) ++ N8) = (1 : Int) :: (N1 ++ (N2 ++ (N3 ++ (N4 ++ (N5 ++ (N6 ++ (N7 ++ N8))))))) := by simp
  have h9 := P8.out.1
  rw [e9] at h9
  obtain ⟨a9, q9, rfl⟩ := owns_len h9
  go_ret2
  exact ⟨a9, q9, rfl, h9.le HBx.out.2.size, chainB HBx.out.2 P8.out.2⟩
set_option maxRecDepth 20000 in
set_option maxHeartbeats 8000000 in
theorem encd_2 (client life seq : Int) (re im : Nat) (vers err : Int) (op : Opn) (ve vk : Value) (es : List En) (ks : List Ky) (w : World) (hr : Rows w ⟨2, client, life, seq, re, im, vers, err, op, ve, vk, es, ks⟩) (hP : plainB ⟨2, client, life, seq, re, im, vers, err, op, ve, vk, es, ks⟩ = true) : Calls Try.prog 17 #[.agg (Ms.arr ⟨2, client, life, seq, re, im, vers, err, op, ve, vk, es, ks⟩)] w fun x w' => ∃ a c, x = .returned (.tuple #[.slice a (msgB (Ms.mg ⟨2, client, life, seq, re, im, vers, err, op, ve, vk, es, ks⟩)).length c, .int .i64 0]) ∧ OwnB w' w.heap.size (.slice a (msgB (Ms.mg ⟨2, client, life, seq, re, im, vers, err, op, ve, vk, es, ks⟩)).length c) (msgB (Ms.mg ⟨2, client, life, seq, re, im, vers, err, op, ve, vk, es, ks⟩)) ∧ Below w.heap.size w w' := by
  obtain ⟨hG, hok⟩ := (plainB_iff _).1 hP
  have hG : goodB re im = true := hG
  obtain ⟨hH, hBd⟩ := hok
  have he := hr.es
  have hk := hr.ks
  simp only [] at he hk
  have HPl : Hid (∀ W2, Below w.heap.size w W2 → Calls Try.prog 37 #[.agg (Ms.arr ⟨2, client, life, seq, re, im, vers, err, op, ve, vk, es, ks⟩)] W2 fun e w' => e = .returned (.bool true) ∧ Below W2.heap.size W2 w') := fun W2 h2 => by have := plain_d ⟨2, client, life, seq, re, im, vers, err, op, ve, vk, es, ks⟩ W2 ⟨hr.es.below h2, hr.ks.below h2⟩; rw [hP] at this; exact this
  have HPt : Hid (∀ W, Calls Try.prog 38 #[.complex .f64 re im] W fun e w' => e = .returned (.tuple #[.int .i64 (part re), .int .i64 (part im), .bool true]) ∧ W = w') := fun W => (parts_any re im W).mono fun e w' h => by rw [hG] at h; exact ⟨h.1, h.2.symm⟩
  have hn1 : numOk client := hH.client
  have H1 : Hid (∀ W, Calls Try.prog 39 #[.int .i64 client] W fun e w' => Mk (numI client) W w' e) := fun W => number_i _ W hn1
  have l1 := numI_len hn1
  have hn2 : numOk life := hH.life
  have H2 : Hid (∀ W, Calls Try.prog 39 #[.int .i64 life] W fun e w' => Mk (numI life) W w' e) := fun W => number_i _ W hn2
  have l2 := numI_len hn2
  have hn3 : numOk seq := hH.seq
  have H3 : Hid (∀ W, Calls Try.prog 39 #[.int .i64 seq] W fun e w' => Mk (numI seq) W w' e) := fun W => number_i _ W hn3
  have l3 := numI_len hn3
  have hn4 : numOk (part re) := hH.ep
  have H4 : Hid (∀ W, Calls Try.prog 39 #[.int .i64 (part re)] W fun e w' => Mk (numI (part re)) W w' e) := fun W => number_i _ W hn4
  have l4 := numI_len hn4
  have hn5 : numOk (part im) := hH.nb
  have H5 : Hid (∀ W, Calls Try.prog 39 #[.int .i64 (part im)] W fun e w' => Mk (numI (part im)) W w' e) := fun W => number_i _ W hn5
  have l5 := numI_len hn5
  have hn6 : numOk vers := hH.vers
  have H6 : Hid (∀ W, Calls Try.prog 39 #[.int .i64 vers] W fun e w' => Mk (numI vers) W w' e) := fun W => number_i _ W hn6
  have l6 := numI_len hn6
  have hn7 : numOk err := hH.err
  have H7 : Hid (∀ W, Calls Try.prog 39 #[.int .i64 err] W fun e w' => Mk (numI err) W w' e) := fun W => number_i _ W hn7
  have l7 := numI_len hn7
  have hes : es.length ≤ 48 ∧ ∀ e ∈ es, entOk e := by
    rcases hBd with ⟨q, hb⟩ | ⟨q, hb⟩ | ⟨q, hb⟩ | ⟨q, hb⟩
    · have q : (2 : Int) = 1 := q; exact absurd q (by decide)
    · exact ⟨hb.2.1, hb.2.2.1⟩
    · have q : (2 : Int) = 3 := q; exact absurd q (by decide)
    · have q : (2 : Int) = 4 := q; exact absurd q (by decide)
  have H8 : Hid (∀ W, Calls Try.prog 39 #[.int .i64 es.length] W fun e w' => Mk (numI es.length) W w' e) := fun W => number_i _ W ⟨by omega, by have := hes.1; omega⟩
  have l8 := numI_len (v := es.length) ⟨by omega, by have := hes.1; omega⟩
  have HA : Hid (es.length ≤ 48 ∧ ∀ e ∈ es, entOk e) := hes
  have hB : msgB (Ms.mg ⟨2, client, life, seq, re, im, vers, err, op, ve, vk, es, ks⟩) = (2 : Int) :: (numI client ++ (numI life ++ (numI seq ++ (numI (part re) ++ (numI (part im) ++ (numI vers ++ (numI err ++ (numI es.length ++ es.flatMap entB)))))))) := rfl
  rw [hB]
  obtain ⟨N1, hN1⟩ : ∃ x, numI client = x := ⟨_, rfl⟩
  rw [hN1] at H1 l1 ⊢
  obtain ⟨N2, hN2⟩ : ∃ x, numI life = x := ⟨_, rfl⟩
  rw [hN2] at H2 l2 ⊢
  obtain ⟨N3, hN3⟩ : ∃ x, numI seq = x := ⟨_, rfl⟩
  rw [hN3] at H3 l3 ⊢
  obtain ⟨N4, hN4⟩ : ∃ x, numI (part re) = x := ⟨_, rfl⟩
  rw [hN4] at H4 l4 ⊢
  obtain ⟨N5, hN5⟩ : ∃ x, numI (part im) = x := ⟨_, rfl⟩
  rw [hN5] at H5 l5 ⊢
  obtain ⟨N6, hN6⟩ : ∃ x, numI vers = x := ⟨_, rfl⟩
  rw [hN6] at H6 l6 ⊢
  obtain ⟨N7, hN7⟩ : ∃ x, numI err = x := ⟨_, rfl⟩
  rw [hN7] at H7 l7 ⊢
  obtain ⟨N8, hN8⟩ : ∃ x, numI es.length = x := ⟨_, rfl⟩
  rw [hN8] at H8 l8 ⊢
  clear hN8 hes
  clear hB hP hH hBd hG hN1 hn1 hN2 hn2 hN3 hn3 hN4 hn4 hN5 hn5 hN6 hn6 hN7 hn7
  obtain ⟨BB, hBB⟩ : ∃ x, (2 : Int) :: (N1 ++ (N2 ++ (N3 ++ (N4 ++ (N5 ++ (N6 ++ (N7 ++ (N8 ++ es.flatMap entB)))))))) = x := ⟨_, rfl⟩
  rw [hBB]
  have HBB : Hid ((2 : Int) :: (N1 ++ (N2 ++ (N3 ++ (N4 ++ (N5 ++ (N6 ++ (N7 ++ (N8 ++ es.flatMap entB)))))))) = BB) := hBB
  clear hBB
  obtain ⟨ae, ce, hve⟩ := owns_len he
  obtain ⟨ak, ck, hvk⟩ := owns_len hk
  subst hve hvk
  obtain ⟨A, hA⟩ : ∃ A, (#[.int .i64 2, .int .i64 client, .int .i64 life, .int .i64 seq, .complex .f64 re im, .int .i64 vers, .int .i64 err, .int .i64 op.kind, .int .i64 op.dir, .string op.nm, .int .i64 op.dst, .string op.new, .int .i64 op.mode, .string op.tg, .slice ae es.length ce, .slice ak ks.length ck] : Array Value) = A := ⟨_, rfl⟩
  have HPl2 : Hid (∀ W2, Below w.heap.size w W2 → Calls Try.prog 37 #[.agg A] W2 fun e w' => e = .returned (.bool true) ∧ Below W2.heap.size W2 w') := by rw [← hA]; exact HPl.out
  obtain ⟨W, hW⟩ : ∃ W, w.alloc (.cells A 30) = W := ⟨_, rfl⟩
  have hb := boxB hW
  have HBx : Hid (W.heap[w.heap.size]? = some (.cells #[.int .i64 2, .int .i64 client, .int .i64 life, .int .i64 seq, .complex .f64 re im, .int .i64 vers, .int .i64 err, .int .i64 op.kind, .int .i64 op.dir, .string op.nm, .int .i64 op.dst, .string op.new, .int .i64 op.mode, .string op.tg, .slice ae es.length ce, .slice ak ks.length ck] 30 (0, 0)) ∧ Below w.heap.size w W) := by rw [hA]; exact hb
  have nl := msgS_of hb.1 (by rw [← hA]; rfl)
  have HS : Hid (∀ w', Below W.heap.size W w' → w'.cell? ⟨w.heap.size, 0, none⟩ = some (.int .i64 2) ∧ w'.cell? ⟨w.heap.size, 1, none⟩ = some (.int .i64 client) ∧ w'.cell? ⟨w.heap.size, 2, none⟩ = some (.int .i64 life) ∧ w'.cell? ⟨w.heap.size, 3, none⟩ = some (.int .i64 seq) ∧ w'.cell? ⟨w.heap.size, 4, none⟩ = some (.complex .f64 re im) ∧ w'.cell? ⟨w.heap.size, 5, none⟩ = some (.int .i64 vers) ∧ w'.cell? ⟨w.heap.size, 6, none⟩ = some (.int .i64 err) ∧ w'.cell? ⟨w.heap.size, 14, none⟩ = some (.slice ae es.length ce)) := fun w' h' => by
    have n1 := hkeep HBx.out.1 h'
    exact ⟨by have y := cell_of n1 0; simpa using y, by have y := cell_of n1 1; simpa using y, by have y := cell_of n1 2; simpa using y, by have y := cell_of n1 3; simpa using y, by have y := cell_of n1 4; simpa using y, by have y := cell_of n1 5; simpa using y, by have y := cell_of n1 6; simpa using y, by have y := cell_of n1 14; simpa using y⟩
  have HRw : Hid (∀ w', Below W.heap.size W w' → Row7 w' 0 (.slice ae es.length ce) es ∧ RowK w' 0 (.slice ak ks.length ck) ks) := fun w' h' => ⟨he.below (chainB HBx.out.2 h'), hk.below (chainB HBx.out.2 h')⟩
  show Calls Try.prog 17 #[.agg #[.int .i64 2, .int .i64 client, .int .i64 life, .int .i64 seq, .complex .f64 re im, .int .i64 vers, .int .i64 err, .int .i64 op.kind, .int .i64 op.dir, .string op.nm, .int .i64 op.dst, .string op.new, .int .i64 op.mode, .string op.tg, .slice ae es.length ce, .slice ak ks.length ck]] w _
  rw [hA]
  clear hA hb HPl he hk hr
  go_enter Try.func17, Try.ntmps17
  go_upto_region 1 with fail
  clear hW
  go_upto_region 5 with (first
    | (go_at_call 38; refine (HPt.out _).mono ?_; rintro x w9 ⟨rfl, rfl⟩)
    | (go_at_call 37; refine (HPl2.out W HBx.out.2).mono ?_; rintro x w1 ⟨rfl, hb1⟩; have y0 := (HS.out w1 hb1).1; have y4 := (HS.out w1 hb1).2.2.2.2.1; clear nl))
  obtain ⟨V0, hV0⟩ : ∃ x, w1.alloc (.cells #[.int .u8 2] 5) = x := ⟨_, rfl⟩
  have p0 : OwnB V0 W.heap.size (.slice (some ⟨w1.heap.size, 0, none⟩) 1 1) [2] := by rw [← hV0]; exact (OwnB.new1 _ _ _ rfl).le hb1.size
  have g0 : Below W.heap.size W V0 := by rw [← hV0]; exact chainB hb1 (below_alloc _ _)
  have P0 : Hid (OwnB V0 W.heap.size (.slice (some ⟨w1.heap.size, 0, none⟩) 1 1) [2] ∧ Below W.heap.size W V0) := ⟨p0, g0⟩
  have z1 := (HS.out V0 g0).2.1
  rw [hV0]
  clear hV0 p0 g0 y0 y4
  go_wp2_with (first
    | (at_builtin; refine wpList_apy rfl _ _ rfl W.heap.size _ ((((((([2] ++ N1) ++ N2) ++ N3) ++ N4) ++ N5) ++ N6) ++ N7) rfl (P7.out.1.below b8) _ N8 rfl o8.out.rb (by simp; omega) (chainB P7.out.2 b8).size ?_; intro v8 V8 p8 f8 _; have g8 := (chainB P7.out.2 b8).trans f8; have P8 : Hid (OwnB V8 W.heap.size v8 (((((((([2] ++ N1) ++ N2) ++ N3) ++ N4) ++ N5) ++ N6) ++ N7) ++ N8) ∧ Below W.heap.size W V8) := ⟨p8, g8⟩; clear p8 f8 g8 b8 o8)
    | (go_at_call 39; refine (H8.out V7).mono ?_; rintro x w18 ⟨a8, q8, rfl, o8, b8⟩; clear u0 z14)
    | (at_builtin; refine wpList_apy rfl _ _ rfl W.heap.size _ (((((([2] ++ N1) ++ N2) ++ N3) ++ N4) ++ N5) ++ N6) rfl (P6.out.1.below b7) _ N7 rfl o7.out.rb (by simp; omega) (chainB P6.out.2 b7).size ?_; intro v7 V7 p7 f7 _; have g7 := (chainB P6.out.2 b7).trans f7; have P7 : Hid (OwnB V7 W.heap.size v7 ((((((([2] ++ N1) ++ N2) ++ N3) ++ N4) ++ N5) ++ N6) ++ N7) ∧ Below W.heap.size W V7) := ⟨p7, g7⟩; have u0 := (HS.out V7 g7).1; have z14 := (HS.out V7 g7).2.2.2.2.2.2.2; clear p7 f7 g7 b7 o7)
    | (go_at_call 39; refine (H7.out V6).mono ?_; rintro x w17 ⟨a7, q7, rfl, o7, b7⟩; clear z6)
    | (at_builtin; refine wpList_apy rfl _ _ rfl W.heap.size _ ((((([2] ++ N1) ++ N2) ++ N3) ++ N4) ++ N5) rfl (P5.out.1.below b6) _ N6 rfl o6.out.rb (by simp; omega) (chainB P5.out.2 b6).size ?_; intro v6 V6 p6 f6 _; have g6 := (chainB P5.out.2 b6).trans f6; have P6 : Hid (OwnB V6 W.heap.size v6 (((((([2] ++ N1) ++ N2) ++ N3) ++ N4) ++ N5) ++ N6) ∧ Below W.heap.size W V6) := ⟨p6, g6⟩; have z6 := (HS.out V6 g6).2.2.2.2.2.2.1; clear p6 f6 g6 b6 o6)
    | (go_at_call 39; refine (H6.out V5).mono ?_; rintro x w16 ⟨a6, q6, rfl, o6, b6⟩; clear z5)
    | (at_builtin; refine wpList_apy rfl _ _ rfl W.heap.size _ (((([2] ++ N1) ++ N2) ++ N3) ++ N4) rfl (P4.out.1.below b5) _ N5 rfl o5.out.rb (by simp; omega) (chainB P4.out.2 b5).size ?_; intro v5 V5 p5 f5 _; have g5 := (chainB P4.out.2 b5).trans f5; have P5 : Hid (OwnB V5 W.heap.size v5 ((((([2] ++ N1) ++ N2) ++ N3) ++ N4) ++ N5) ∧ Below W.heap.size W V5) := ⟨p5, g5⟩; have z5 := (HS.out V5 g5).2.2.2.2.2.1; clear p5 f5 g5 b5 o5)
    | (go_at_call 39; refine (H5.out V4).mono ?_; rintro x w15 ⟨a5, q5, rfl, o5, b5⟩)
    | (at_builtin; refine wpList_apy rfl _ _ rfl W.heap.size _ ((([2] ++ N1) ++ N2) ++ N3) rfl (P3.out.1.below b4) _ N4 rfl o4.out.rb (by simp; omega) (chainB P3.out.2 b4).size ?_; intro v4 V4 p4 f4 _; have g4 := (chainB P3.out.2 b4).trans f4; have P4 : Hid (OwnB V4 W.heap.size v4 (((([2] ++ N1) ++ N2) ++ N3) ++ N4) ∧ Below W.heap.size W V4) := ⟨p4, g4⟩; clear p4 f4 g4 b4 o4)
    | (go_at_call 39; refine (H4.out V3).mono ?_; rintro x w14 ⟨a4, q4, rfl, o4, b4⟩)
    | (at_builtin; refine wpList_apy rfl _ _ rfl W.heap.size _ (([2] ++ N1) ++ N2) rfl (P2.out.1.below b3) _ N3 rfl o3.out.rb (by simp; omega) (chainB P2.out.2 b3).size ?_; intro v3 V3 p3 f3 _; have g3 := (chainB P2.out.2 b3).trans f3; have P3 : Hid (OwnB V3 W.heap.size v3 ((([2] ++ N1) ++ N2) ++ N3) ∧ Below W.heap.size W V3) := ⟨p3, g3⟩; clear p3 f3 g3 b3 o3)
    | (go_at_call 39; refine (H3.out V2).mono ?_; rintro x w13 ⟨a3, q3, rfl, o3, b3⟩; clear z3)
    | (at_builtin; refine wpList_apy rfl _ _ rfl W.heap.size _ ([2] ++ N1) rfl (P1.out.1.below b2) _ N2 rfl o2.out.rb (by simp; omega) (chainB P1.out.2 b2).size ?_; intro v2 V2 p2 f2 _; have g2 := (chainB P1.out.2 b2).trans f2; have P2 : Hid (OwnB V2 W.heap.size v2 (([2] ++ N1) ++ N2) ∧ Below W.heap.size W V2) := ⟨p2, g2⟩; have z3 := (HS.out V2 g2).2.2.2.1; clear p2 f2 g2 b2 o2)
    | (go_at_call 39; refine (H2.out V1).mono ?_; rintro x w12 ⟨a2, q2, rfl, o2, b2⟩; clear z2)
    | (at_builtin; refine wpList_apy rfl _ _ rfl W.heap.size _ [2] rfl (P0.out.1.below b1) _ N1 rfl o1.out.rb (by simp; omega) (chainB P0.out.2 b1).size ?_; intro v1 V1 p1 f1 _; have g1 := (chainB P0.out.2 b1).trans f1; have P1 : Hid (OwnB V1 W.heap.size v1 ([2] ++ N1) ∧ Below W.heap.size W V1) := ⟨p1, g1⟩; have z2 := (HS.out V1 g1).2.2.1; clear p1 f1 g1 b1 o1)
    | (go_at_call 39; refine (H1.out V0).mono ?_; rintro x w11 ⟨a1, q1, rfl, o1, b1⟩; clear z1))
  obtain ⟨B8, hB8⟩ : ∃ x, (((((((([2] ++ N1) ++ N2) ++ N3) ++ N4) ++ N5) ++ N6) ++ N7) ++ N8) = x := ⟨_, rfl⟩
  rw [hB8] at P8
  have hB8l : B8.length ≤ 1000 := by rw [← hB8]; simp; omega
  have HB8 : Hid ((((((((([2] ++ N1) ++ N2) ++ N3) ++ N4) ++ N5) ++ N6) ++ N7) ++ N8) = B8) := hB8
  clear hB8
  go_loopw [7, 8] (fun b i wr => ∃ q : Nat, q ≤ es.length ∧ i = .int .i64 q ∧ Hid (OwnB wr W.heap.size b (B8 ++ (es.take q).flatMap entB) ∧ Below W.heap.size W wr ∧ ((es.take q).flatMap entB).length ≤ q * 1000)) (fun _ i _ => es.length - (intOf i).toNat)
  case atStart => exact ⟨0, Nat.zero_le _, rfl, by simpa using P8.out.1, P8.out.2, by simp⟩
  case round =>
    obtain ⟨q, hq, rfl, hI⟩ := hrel
    have hcl := (HS.out _ hI.out.2.1).2.2.2.2.2.2.2
    have hq48 : q ≤ 48 := Nat.le_trans hq HA.out.1
    by_cases hlt : q < es.length
    · obtain ⟨e, he⟩ : ∃ e, es[q]? = some e := ⟨_, List.getElem?_eq_getElem hlt⟩
      have hrow := (HRw.out _ hI.out.2.1).1
      obtain ⟨g, rfl, -, -, hg, hc, -⟩ := owns_entry hrow he
      have x0 := hc.c0
      have x1 := hc.c1
      have x2 := hc.c2
      have x3 := hc.c3
      have x4 := hc.c4
      have x5 := hc.c5
      have x6 := hc.c6
      have hki : (q : Int) < (es.length : Int) := by omega
      have hoe : entOk e := HA.out.2 e (List.mem_of_getElem? he)
      have HEl : Hid ((es.take (q + 1)).flatMap entB = (es.take q).flatMap entB ++ entB e) := by
        show _ = _
        rw [List.take_add_one, he]; simp
      have HP : Hid (∀ W2, Calls Try.prog 41 #[.agg #[.int .i64 e.d, .string e.nm, .bool e.neg, .int .i64 e.id, .int .i64 e.kind, .int .i64 e.mode, .string e.tg]] W2 fun x w' => Mk (entB e) W2 w' x) := fun W2 => entry_d e W2 hoe
      have hl9 : (entB e).length ≤ 1000 := entB_1k hoe
      obtain ⟨T, hT⟩ : ∃ x, (es.take q).flatMap entB = x := ⟨_, rfl⟩
      rw [hT] at hI HEl
      clear hrow he hoe hT hc
      go_wp2_with (first
        | (go_at_call 41; refine (HP.out _).mono ?_; rintro x w5 ⟨a5, q5, rfl, o5, b5⟩)
        | (at_builtin; refine wpList_apy rfl _ _ rfl W.heap.size _ (B8 ++ T) rfl (hI.out.1.below b5) _ (entB e) rfl o5.out.rb (by have := hI.out.2.2; simp; omega) (chainB hI.out.2.1 b5).size ?_; intro v6 w6 p6 f6 _))
      go_roundw
      case rel =>
        refine ⟨q + 1, by omega, by go_num, ?_, (chainB hI.out.2.1 b5).trans f6, ?_⟩
        · rw [HEl.out, ← List.append_assoc]; exact p6
        · rw [HEl.out, List.length_append]; have := hI.out.2.2; omega
      case measure => simp [intOf]; omega
    · have hki : ¬ (q : Int) < (es.length : Int) := by omega
      have h9 := hI.out.1
      rw [List.take_of_length_le (by omega)] at h9
      have e9 : B8 ++ es.flatMap entB = BB := by rw [← HB8.out, ← HBB.out]; simp
      rw [e9] at h9
      obtain ⟨a9, q9, rfl⟩ := owns_len h9
      go_wp2
      go_ret2
      exact ⟨a9, q9, rfl, h9.le HBx.out.2.size, chainB HBx.out.2 hI.out.2.1⟩
set_option maxRecDepth 20000 in
set_option maxHeartbeats 8000000 in
theorem encd_3 (client life seq : Int) (re im : Nat) (vers err : Int) (op : Opn) (ve vk : Value) (es : List En) (ks : List Ky) (w : World) (hr : Rows w ⟨3, client, life, seq, re, im, vers, err, op, ve, vk, es, ks⟩) (hP : plainB ⟨3, client, life, seq, re, im, vers, err, op, ve, vk, es, ks⟩ = true) : Calls Try.prog 17 #[.agg (Ms.arr ⟨3, client, life, seq, re, im, vers, err, op, ve, vk, es, ks⟩)] w fun x w' => ∃ a c, x = .returned (.tuple #[.slice a (msgB (Ms.mg ⟨3, client, life, seq, re, im, vers, err, op, ve, vk, es, ks⟩)).length c, .int .i64 0]) ∧ OwnB w' w.heap.size (.slice a (msgB (Ms.mg ⟨3, client, life, seq, re, im, vers, err, op, ve, vk, es, ks⟩)).length c) (msgB (Ms.mg ⟨3, client, life, seq, re, im, vers, err, op, ve, vk, es, ks⟩)) ∧ Below w.heap.size w w' := by
  obtain ⟨hG, hok⟩ := (plainB_iff _).1 hP
  have hG : goodB re im = true := hG
  obtain ⟨hH, hBd⟩ := hok
  have he := hr.es
  have hk := hr.ks
  simp only [] at he hk
  have HPl : Hid (∀ W2, Below w.heap.size w W2 → Calls Try.prog 37 #[.agg (Ms.arr ⟨3, client, life, seq, re, im, vers, err, op, ve, vk, es, ks⟩)] W2 fun e w' => e = .returned (.bool true) ∧ Below W2.heap.size W2 w') := fun W2 h2 => by have := plain_d ⟨3, client, life, seq, re, im, vers, err, op, ve, vk, es, ks⟩ W2 ⟨hr.es.below h2, hr.ks.below h2⟩; rw [hP] at this; exact this
  have HPt : Hid (∀ W, Calls Try.prog 38 #[.complex .f64 re im] W fun e w' => e = .returned (.tuple #[.int .i64 (part re), .int .i64 (part im), .bool true]) ∧ W = w') := fun W => (parts_any re im W).mono fun e w' h => by rw [hG] at h; exact ⟨h.1, h.2.symm⟩
  have hn1 : numOk client := hH.client
  have H1 : Hid (∀ W, Calls Try.prog 39 #[.int .i64 client] W fun e w' => Mk (numI client) W w' e) := fun W => number_i _ W hn1
  have l1 := numI_len hn1
  have hn2 : numOk life := hH.life
  have H2 : Hid (∀ W, Calls Try.prog 39 #[.int .i64 life] W fun e w' => Mk (numI life) W w' e) := fun W => number_i _ W hn2
  have l2 := numI_len hn2
  have hn3 : numOk seq := hH.seq
  have H3 : Hid (∀ W, Calls Try.prog 39 #[.int .i64 seq] W fun e w' => Mk (numI seq) W w' e) := fun W => number_i _ W hn3
  have l3 := numI_len hn3
  have hn4 : numOk (part re) := hH.ep
  have H4 : Hid (∀ W, Calls Try.prog 39 #[.int .i64 (part re)] W fun e w' => Mk (numI (part re)) W w' e) := fun W => number_i _ W hn4
  have l4 := numI_len hn4
  have hn5 : numOk (part im) := hH.nb
  have H5 : Hid (∀ W, Calls Try.prog 39 #[.int .i64 (part im)] W fun e w' => Mk (numI (part im)) W w' e) := fun W => number_i _ W hn5
  have l5 := numI_len hn5
  have hn6 : numOk vers := hH.vers
  have H6 : Hid (∀ W, Calls Try.prog 39 #[.int .i64 vers] W fun e w' => Mk (numI vers) W w' e) := fun W => number_i _ W hn6
  have l6 := numI_len hn6
  have hn7 : numOk err := hH.err
  have H7 : Hid (∀ W, Calls Try.prog 39 #[.int .i64 err] W fun e w' => Mk (numI err) W w' e) := fun W => number_i _ W hn7
  have l7 := numI_len hn7
  have hes : ks.length ≤ 48 ∧ ∀ e ∈ ks, keyOk e := by
    rcases hBd with ⟨q, hb⟩ | ⟨q, hb⟩ | ⟨q, hb⟩ | ⟨q, hb⟩
    · have q : (3 : Int) = 1 := q; exact absurd q (by decide)
    · have q : (3 : Int) = 2 := q; exact absurd q (by decide)
    · exact ⟨hb.2.2.2.1, hb.2.2.2.2⟩
    · have q : (3 : Int) = 4 := q; exact absurd q (by decide)
  have H8 : Hid (∀ W, Calls Try.prog 39 #[.int .i64 ks.length] W fun e w' => Mk (numI ks.length) W w' e) := fun W => number_i _ W ⟨by omega, by have := hes.1; omega⟩
  have l8 := numI_len (v := ks.length) ⟨by omega, by have := hes.1; omega⟩
  have HA : Hid (ks.length ≤ 48 ∧ ∀ e ∈ ks, keyOk e) := hes
  have hB : msgB (Ms.mg ⟨3, client, life, seq, re, im, vers, err, op, ve, vk, es, ks⟩) = (3 : Int) :: (numI client ++ (numI life ++ (numI seq ++ (numI (part re) ++ (numI (part im) ++ (numI vers ++ (numI err ++ (numI ks.length ++ ks.flatMap keyB)))))))) := rfl
  rw [hB]
  obtain ⟨N1, hN1⟩ : ∃ x, numI client = x := ⟨_, rfl⟩
  rw [hN1] at H1 l1 ⊢
  obtain ⟨N2, hN2⟩ : ∃ x, numI life = x := ⟨_, rfl⟩
  rw [hN2] at H2 l2 ⊢
  obtain ⟨N3, hN3⟩ : ∃ x, numI seq = x := ⟨_, rfl⟩
  rw [hN3] at H3 l3 ⊢
  obtain ⟨N4, hN4⟩ : ∃ x, numI (part re) = x := ⟨_, rfl⟩
  rw [hN4] at H4 l4 ⊢
  obtain ⟨N5, hN5⟩ : ∃ x, numI (part im) = x := ⟨_, rfl⟩
  rw [hN5] at H5 l5 ⊢
  obtain ⟨N6, hN6⟩ : ∃ x, numI vers = x := ⟨_, rfl⟩
  rw [hN6] at H6 l6 ⊢
  obtain ⟨N7, hN7⟩ : ∃ x, numI err = x := ⟨_, rfl⟩
  rw [hN7] at H7 l7 ⊢
  obtain ⟨N8, hN8⟩ : ∃ x, numI ks.length = x := ⟨_, rfl⟩
  rw [hN8] at H8 l8 ⊢
  clear hN8 hes
  clear hB hP hH hBd hG hN1 hn1 hN2 hn2 hN3 hn3 hN4 hn4 hN5 hn5 hN6 hn6 hN7 hn7
  obtain ⟨BB, hBB⟩ : ∃ x, (3 : Int) :: (N1 ++ (N2 ++ (N3 ++ (N4 ++ (N5 ++ (N6 ++ (N7 ++ (N8 ++ ks.flatMap keyB)))))))) = x := ⟨_, rfl⟩
  rw [hBB]
  have HBB : Hid ((3 : Int) :: (N1 ++ (N2 ++ (N3 ++ (N4 ++ (N5 ++ (N6 ++ (N7 ++ (N8 ++ ks.flatMap keyB)))))))) = BB) := hBB
  clear hBB
  obtain ⟨ae, ce, hve⟩ := owns_len he
  obtain ⟨ak, ck, hvk⟩ := owns_len hk
  subst hve hvk
  obtain ⟨A, hA⟩ : ∃ A, (#[.int .i64 3, .int .i64 client, .int .i64 life, .int .i64 seq, .complex .f64 re im, .int .i64 vers, .int .i64 err, .int .i64 op.kind, .int .i64 op.dir, .string op.nm, .int .i64 op.dst, .string op.new, .int .i64 op.mode, .string op.tg, .slice ae es.length ce, .slice ak ks.length ck] : Array Value) = A := ⟨_, rfl⟩
  have HPl2 : Hid (∀ W2, Below w.heap.size w W2 → Calls Try.prog 37 #[.agg A] W2 fun e w' => e = .returned (.bool true) ∧ Below W2.heap.size W2 w') := by rw [← hA]; exact HPl.out
  obtain ⟨W, hW⟩ : ∃ W, w.alloc (.cells A 30) = W := ⟨_, rfl⟩
  have hb := boxB hW
  have HBx : Hid (W.heap[w.heap.size]? = some (.cells #[.int .i64 3, .int .i64 client, .int .i64 life, .int .i64 seq, .complex .f64 re im, .int .i64 vers, .int .i64 err, .int .i64 op.kind, .int .i64 op.dir, .string op.nm, .int .i64 op.dst, .string op.new, .int .i64 op.mode, .string op.tg, .slice ae es.length ce, .slice ak ks.length ck] 30 (0, 0)) ∧ Below w.heap.size w W) := by rw [hA]; exact hb
  have nl := msgS_of hb.1 (by rw [← hA]; rfl)
  have HS : Hid (∀ w', Below W.heap.size W w' → w'.cell? ⟨w.heap.size, 0, none⟩ = some (.int .i64 3) ∧ w'.cell? ⟨w.heap.size, 1, none⟩ = some (.int .i64 client) ∧ w'.cell? ⟨w.heap.size, 2, none⟩ = some (.int .i64 life) ∧ w'.cell? ⟨w.heap.size, 3, none⟩ = some (.int .i64 seq) ∧ w'.cell? ⟨w.heap.size, 4, none⟩ = some (.complex .f64 re im) ∧ w'.cell? ⟨w.heap.size, 5, none⟩ = some (.int .i64 vers) ∧ w'.cell? ⟨w.heap.size, 6, none⟩ = some (.int .i64 err) ∧ w'.cell? ⟨w.heap.size, 15, none⟩ = some (.slice ak ks.length ck)) := fun w' h' => by
    have n1 := hkeep HBx.out.1 h'
    exact ⟨by have y := cell_of n1 0; simpa using y, by have y := cell_of n1 1; simpa using y, by have y := cell_of n1 2; simpa using y, by have y := cell_of n1 3; simpa using y, by have y := cell_of n1 4; simpa using y, by have y := cell_of n1 5; simpa using y, by have y := cell_of n1 6; simpa using y, by have y := cell_of n1 15; simpa using y⟩
  have HRw : Hid (∀ w', Below W.heap.size W w' → Row7 w' 0 (.slice ae es.length ce) es ∧ RowK w' 0 (.slice ak ks.length ck) ks) := fun w' h' => ⟨he.below (chainB HBx.out.2 h'), hk.below (chainB HBx.out.2 h')⟩
  show Calls Try.prog 17 #[.agg #[.int .i64 3, .int .i64 client, .int .i64 life, .int .i64 seq, .complex .f64 re im, .int .i64 vers, .int .i64 err, .int .i64 op.kind, .int .i64 op.dir, .string op.nm, .int .i64 op.dst, .string op.new, .int .i64 op.mode, .string op.tg, .slice ae es.length ce, .slice ak ks.length ck]] w _
  rw [hA]
  clear hA hb HPl he hk hr
  go_enter Try.func17, Try.ntmps17
  go_upto_region 1 with fail
  clear hW
  go_upto_region 5 with (first
    | (go_at_call 38; refine (HPt.out _).mono ?_; rintro x w9 ⟨rfl, rfl⟩)
    | (go_at_call 37; refine (HPl2.out W HBx.out.2).mono ?_; rintro x w1 ⟨rfl, hb1⟩; have y0 := (HS.out w1 hb1).1; have y4 := (HS.out w1 hb1).2.2.2.2.1; clear nl))
  obtain ⟨V0, hV0⟩ : ∃ x, w1.alloc (.cells #[.int .u8 3] 5) = x := ⟨_, rfl⟩
  have p0 : OwnB V0 W.heap.size (.slice (some ⟨w1.heap.size, 0, none⟩) 1 1) [3] := by rw [← hV0]; exact (OwnB.new1 _ _ _ rfl).le hb1.size
  have g0 : Below W.heap.size W V0 := by rw [← hV0]; exact chainB hb1 (below_alloc _ _)
  have P0 : Hid (OwnB V0 W.heap.size (.slice (some ⟨w1.heap.size, 0, none⟩) 1 1) [3] ∧ Below W.heap.size W V0) := ⟨p0, g0⟩
  have z1 := (HS.out V0 g0).2.1
  rw [hV0]
  clear hV0 p0 g0 y0 y4
  go_wp2_with (first
    | (at_builtin; refine wpList_apy rfl _ _ rfl W.heap.size _ ((((((([3] ++ N1) ++ N2) ++ N3) ++ N4) ++ N5) ++ N6) ++ N7) rfl (P7.out.1.below b8) _ N8 rfl o8.out.rb (by simp; omega) (chainB P7.out.2 b8).size ?_; intro v8 V8 p8 f8 _; have g8 := (chainB P7.out.2 b8).trans f8; have P8 : Hid (OwnB V8 W.heap.size v8 (((((((([3] ++ N1) ++ N2) ++ N3) ++ N4) ++ N5) ++ N6) ++ N7) ++ N8) ∧ Below W.heap.size W V8) := ⟨p8, g8⟩; clear p8 f8 g8 b8 o8)
    | (go_at_call 39; refine (H8.out V7).mono ?_; rintro x w18 ⟨a8, q8, rfl, o8, b8⟩; clear u0 z15)
    | (at_builtin; refine wpList_apy rfl _ _ rfl W.heap.size _ (((((([3] ++ N1) ++ N2) ++ N3) ++ N4) ++ N5) ++ N6) rfl (P6.out.1.below b7) _ N7 rfl o7.out.rb (by simp; omega) (chainB P6.out.2 b7).size ?_; intro v7 V7 p7 f7 _; have g7 := (chainB P6.out.2 b7).trans f7; have P7 : Hid (OwnB V7 W.heap.size v7 ((((((([3] ++ N1) ++ N2) ++ N3) ++ N4) ++ N5) ++ N6) ++ N7) ∧ Below W.heap.size W V7) := ⟨p7, g7⟩; have u0 := (HS.out V7 g7).1; have z15 := (HS.out V7 g7).2.2.2.2.2.2.2; clear p7 f7 g7 b7 o7)
    | (go_at_call 39; refine (H7.out V6).mono ?_; rintro x w17 ⟨a7, q7, rfl, o7, b7⟩; clear z6)
    | (at_builtin; refine wpList_apy rfl _ _ rfl W.heap.size _ ((((([3] ++ N1) ++ N2) ++ N3) ++ N4) ++ N5) rfl (P5.out.1.below b6) _ N6 rfl o6.out.rb (by simp; omega) (chainB P5.out.2 b6).size ?_; intro v6 V6 p6 f6 _; have g6 := (chainB P5.out.2 b6).trans f6; have P6 : Hid (OwnB V6 W.heap.size v6 (((((([3] ++ N1) ++ N2) ++ N3) ++ N4) ++ N5) ++ N6) ∧ Below W.heap.size W V6) := ⟨p6, g6⟩; have z6 := (HS.out V6 g6).2.2.2.2.2.2.1; clear p6 f6 g6 b6 o6)
    | (go_at_call 39; refine (H6.out V5).mono ?_; rintro x w16 ⟨a6, q6, rfl, o6, b6⟩; clear z5)
    | (at_builtin; refine wpList_apy rfl _ _ rfl W.heap.size _ (((([3] ++ N1) ++ N2) ++ N3) ++ N4) rfl (P4.out.1.below b5) _ N5 rfl o5.out.rb (by simp; omega) (chainB P4.out.2 b5).size ?_; intro v5 V5 p5 f5 _; have g5 := (chainB P4.out.2 b5).trans f5; have P5 : Hid (OwnB V5 W.heap.size v5 ((((([3] ++ N1) ++ N2) ++ N3) ++ N4) ++ N5) ∧ Below W.heap.size W V5) := ⟨p5, g5⟩; have z5 := (HS.out V5 g5).2.2.2.2.2.1; clear p5 f5 g5 b5 o5)
    | (go_at_call 39; refine (H5.out V4).mono ?_; rintro x w15 ⟨a5, q5, rfl, o5, b5⟩)
    | (at_builtin; refine wpList_apy rfl _ _ rfl W.heap.size _ ((([3] ++ N1) ++ N2) ++ N3) rfl (P3.out.1.below b4) _ N4 rfl o4.out.rb (by simp; omega) (chainB P3.out.2 b4).size ?_; intro v4 V4 p4 f4 _; have g4 := (chainB P3.out.2 b4).trans f4; have P4 : Hid (OwnB V4 W.heap.size v4 (((([3] ++ N1) ++ N2) ++ N3) ++ N4) ∧ Below W.heap.size W V4) := ⟨p4, g4⟩; clear p4 f4 g4 b4 o4)
    | (go_at_call 39; refine (H4.out V3).mono ?_; rintro x w14 ⟨a4, q4, rfl, o4, b4⟩)
    | (at_builtin; refine wpList_apy rfl _ _ rfl W.heap.size _ (([3] ++ N1) ++ N2) rfl (P2.out.1.below b3) _ N3 rfl o3.out.rb (by simp; omega) (chainB P2.out.2 b3).size ?_; intro v3 V3 p3 f3 _; have g3 := (chainB P2.out.2 b3).trans f3; have P3 : Hid (OwnB V3 W.heap.size v3 ((([3] ++ N1) ++ N2) ++ N3) ∧ Below W.heap.size W V3) := ⟨p3, g3⟩; clear p3 f3 g3 b3 o3)
    | (go_at_call 39; refine (H3.out V2).mono ?_; rintro x w13 ⟨a3, q3, rfl, o3, b3⟩; clear z3)
    | (at_builtin; refine wpList_apy rfl _ _ rfl W.heap.size _ ([3] ++ N1) rfl (P1.out.1.below b2) _ N2 rfl o2.out.rb (by simp; omega) (chainB P1.out.2 b2).size ?_; intro v2 V2 p2 f2 _; have g2 := (chainB P1.out.2 b2).trans f2; have P2 : Hid (OwnB V2 W.heap.size v2 (([3] ++ N1) ++ N2) ∧ Below W.heap.size W V2) := ⟨p2, g2⟩; have z3 := (HS.out V2 g2).2.2.2.1; clear p2 f2 g2 b2 o2)
    | (go_at_call 39; refine (H2.out V1).mono ?_; rintro x w12 ⟨a2, q2, rfl, o2, b2⟩; clear z2)
    | (at_builtin; refine wpList_apy rfl _ _ rfl W.heap.size _ [3] rfl (P0.out.1.below b1) _ N1 rfl o1.out.rb (by simp; omega) (chainB P0.out.2 b1).size ?_; intro v1 V1 p1 f1 _; have g1 := (chainB P0.out.2 b1).trans f1; have P1 : Hid (OwnB V1 W.heap.size v1 ([3] ++ N1) ∧ Below W.heap.size W V1) := ⟨p1, g1⟩; have z2 := (HS.out V1 g1).2.2.1; clear p1 f1 g1 b1 o1)
    | (go_at_call 39; refine (H1.out V0).mono ?_; rintro x w11 ⟨a1, q1, rfl, o1, b1⟩; clear z1))
  obtain ⟨B8, hB8⟩ : ∃ x, (((((((([3] ++ N1) ++ N2) ++ N3) ++ N4) ++ N5) ++ N6) ++ N7) ++ N8) = x := ⟨_, rfl⟩
  rw [hB8] at P8
  have hB8l : B8.length ≤ 1000 := by rw [← hB8]; simp; omega
  have HB8 : Hid ((((((((([3] ++ N1) ++ N2) ++ N3) ++ N4) ++ N5) ++ N6) ++ N7) ++ N8) = B8) := hB8
  clear hB8
  go_loopw [7, 9] (fun b i wr => ∃ q : Nat, q ≤ ks.length ∧ i = .int .i64 q ∧ Hid (OwnB wr W.heap.size b (B8 ++ (ks.take q).flatMap keyB) ∧ Below W.heap.size W wr ∧ ((ks.take q).flatMap keyB).length ≤ q * 1000)) (fun _ i _ => ks.length - (intOf i).toNat)
  case atStart => exact ⟨0, Nat.zero_le _, rfl, by simpa using P8.out.1, P8.out.2, by simp⟩
  case round =>
    obtain ⟨q, hq, rfl, hI⟩ := hrel
    have hcl := (HS.out _ hI.out.2.1).2.2.2.2.2.2.2
    have hq48 : q ≤ 48 := Nat.le_trans hq HA.out.1
    by_cases hlt : q < ks.length
    · obtain ⟨e, he⟩ : ∃ e, ks[q]? = some e := ⟨_, List.getElem?_eq_getElem hlt⟩
      have hrow := (HRw.out _ hI.out.2.1).2
      obtain ⟨g, rfl, x0, x1⟩ := owns_key0 hrow he
      have hki : (q : Int) < (ks.length : Int) := by omega
      have hoe : keyOk e := HA.out.2 e (List.mem_of_getElem? he)
      have HEl : Hid ((ks.take (q + 1)).flatMap keyB = (ks.take q).flatMap keyB ++ keyB e) := by
        show _ = _
        rw [List.take_add_one, he]; simp
      have HP : Hid (∀ W2, Calls Try.prog 42 #[.agg #[.int .i64 e.d, .string e.nm]] W2 fun x w' => Mk (keyB e) W2 w' x) := fun W2 => key_d e W2 hoe
      have hl9 : (keyB e).length ≤ 1000 := Nat.le_trans (keyB_200 hoe) (by decide)
      obtain ⟨T, hT⟩ : ∃ x, (ks.take q).flatMap keyB = x := ⟨_, rfl⟩
      rw [hT] at hI HEl
      clear hrow he hoe hT
      go_wp2_with (first
        | (go_at_call 42; refine (HP.out _).mono ?_; rintro x w5 ⟨a5, q5, rfl, o5, b5⟩)
        | (at_builtin; refine wpList_apy rfl _ _ rfl W.heap.size _ (B8 ++ T) rfl (hI.out.1.below b5) _ (keyB e) rfl o5.out.rb (by have := hI.out.2.2; simp; omega) (chainB hI.out.2.1 b5).size ?_; intro v6 w6 p6 f6 _))
      go_roundw
      case rel =>
        refine ⟨q + 1, by omega, by go_num, ?_, (chainB hI.out.2.1 b5).trans f6, ?_⟩
        · rw [HEl.out, ← List.append_assoc]; exact p6
        · rw [HEl.out, List.length_append]; have := hI.out.2.2; omega
      case measure => simp [intOf]; omega
    · have hki : ¬ (q : Int) < (ks.length : Int) := by omega
      have h9 := hI.out.1
      rw [List.take_of_length_le (by omega)] at h9
      have e9 : B8 ++ ks.flatMap keyB = BB := by rw [← HB8.out, ← HBB.out]; simp
      rw [e9] at h9
      obtain ⟨a9, q9, rfl⟩ := owns_len h9
      go_wp2
      go_ret2
      exact ⟨a9, q9, rfl, h9.le HBx.out.2.size, chainB HBx.out.2 hI.out.2.1⟩
set_option maxRecDepth 20000 in
set_option maxHeartbeats 8000000 in
theorem encd_4 (client life seq : Int) (re im : Nat) (vers err : Int) (op : Opn) (ve vk : Value) (es : List En) (ks : List Ky) (w : World) (hr : Rows w ⟨4, client, life, seq, re, im, vers, err, op, ve, vk, es, ks⟩) (hP : plainB ⟨4, client, life, seq, re, im, vers, err, op, ve, vk, es, ks⟩ = true) : Calls Try.prog 17 #[.agg (Ms.arr ⟨4, client, life, seq, re, im, vers, err, op, ve, vk, es, ks⟩)] w fun x w' => ∃ a c, x = .returned (.tuple #[.slice a (msgB (Ms.mg ⟨4, client, life, seq, re, im, vers, err, op, ve, vk, es, ks⟩)).length c, .int .i64 0]) ∧ OwnB w' w.heap.size (.slice a (msgB (Ms.mg ⟨4, client, life, seq, re, im, vers, err, op, ve, vk, es, ks⟩)).length c) (msgB (Ms.mg ⟨4, client, life, seq, re, im, vers, err, op, ve, vk, es, ks⟩)) ∧ Below w.heap.size w w' := by
  obtain ⟨hG, hok⟩ := (plainB_iff _).1 hP
  have hG : goodB re im = true := hG
  obtain ⟨hH, hBd⟩ := hok
  have he := hr.es
  have hk := hr.ks
  simp only [] at he hk
  have HPl : Hid (∀ W2, Below w.heap.size w W2 → Calls Try.prog 37 #[.agg (Ms.arr ⟨4, client, life, seq, re, im, vers, err, op, ve, vk, es, ks⟩)] W2 fun e w' => e = .returned (.bool true) ∧ Below W2.heap.size W2 w') := fun W2 h2 => by have := plain_d ⟨4, client, life, seq, re, im, vers, err, op, ve, vk, es, ks⟩ W2 ⟨hr.es.below h2, hr.ks.below h2⟩; rw [hP] at this; exact this
  have HPt : Hid (∀ W, Calls Try.prog 38 #[.complex .f64 re im] W fun e w' => e = .returned (.tuple #[.int .i64 (part re), .int .i64 (part im), .bool true]) ∧ W = w') := fun W => (parts_any re im W).mono fun e w' h => by rw [hG] at h; exact ⟨h.1, h.2.symm⟩
  have hn1 : numOk client := hH.client
  have H1 : Hid (∀ W, Calls Try.prog 39 #[.int .i64 client] W fun e w' => Mk (numI client) W w' e) := fun W => number_i _ W hn1
  have l1 := numI_len hn1
  have hn2 : numOk life := hH.life
  have H2 : Hid (∀ W, Calls Try.prog 39 #[.int .i64 life] W fun e w' => Mk (numI life) W w' e) := fun W => number_i _ W hn2
  have l2 := numI_len hn2
  have hn3 : numOk seq := hH.seq
  have H3 : Hid (∀ W, Calls Try.prog 39 #[.int .i64 seq] W fun e w' => Mk (numI seq) W w' e) := fun W => number_i _ W hn3
  have l3 := numI_len hn3
  have hn4 : numOk (part re) := hH.ep
  have H4 : Hid (∀ W, Calls Try.prog 39 #[.int .i64 (part re)] W fun e w' => Mk (numI (part re)) W w' e) := fun W => number_i _ W hn4
  have l4 := numI_len hn4
  have hn5 : numOk (part im) := hH.nb
  have H5 : Hid (∀ W, Calls Try.prog 39 #[.int .i64 (part im)] W fun e w' => Mk (numI (part im)) W w' e) := fun W => number_i _ W hn5
  have l5 := numI_len hn5
  have hn6 : numOk vers := hH.vers
  have H6 : Hid (∀ W, Calls Try.prog 39 #[.int .i64 vers] W fun e w' => Mk (numI vers) W w' e) := fun W => number_i _ W hn6
  have l6 := numI_len hn6
  have hn7 : numOk err := hH.err
  have H7 : Hid (∀ W, Calls Try.prog 39 #[.int .i64 err] W fun e w' => Mk (numI err) W w' e) := fun W => number_i _ W hn7
  have l7 := numI_len hn7
  have hB : msgB (Ms.mg ⟨4, client, life, seq, re, im, vers, err, op, ve, vk, es, ks⟩) = (4 : Int) :: (numI client ++ (numI life ++ (numI seq ++ (numI (part re) ++ (numI (part im) ++ (numI vers ++ (numI err ++ []))))))) := rfl
  rw [hB]
  obtain ⟨N1, hN1⟩ : ∃ x, numI client = x := ⟨_, rfl⟩
  rw [hN1] at H1 l1 ⊢
  obtain ⟨N2, hN2⟩ : ∃ x, numI life = x := ⟨_, rfl⟩
  rw [hN2] at H2 l2 ⊢
  obtain ⟨N3, hN3⟩ : ∃ x, numI seq = x := ⟨_, rfl⟩
  rw [hN3] at H3 l3 ⊢
  obtain ⟨N4, hN4⟩ : ∃ x, numI (part re) = x := ⟨_, rfl⟩
  rw [hN4] at H4 l4 ⊢
  obtain ⟨N5, hN5⟩ : ∃ x, numI (part im) = x := ⟨_, rfl⟩
  rw [hN5] at H5 l5 ⊢
  obtain ⟨N6, hN6⟩ : ∃ x, numI vers = x := ⟨_, rfl⟩
  rw [hN6] at H6 l6 ⊢
  obtain ⟨N7, hN7⟩ : ∃ x, numI err = x := ⟨_, rfl⟩
  rw [hN7] at H7 l7 ⊢
  clear hB hP hH hBd hG hN1 hn1 hN2 hn2 hN3 hn3 hN4 hn4 hN5 hn5 hN6 hn6 hN7 hn7
  obtain ⟨ae, ce, hve⟩ := owns_len he
  obtain ⟨ak, ck, hvk⟩ := owns_len hk
  subst hve hvk
  obtain ⟨A, hA⟩ : ∃ A, (#[.int .i64 4, .int .i64 client, .int .i64 life, .int .i64 seq, .complex .f64 re im, .int .i64 vers, .int .i64 err, .int .i64 op.kind, .int .i64 op.dir, .string op.nm, .int .i64 op.dst, .string op.new, .int .i64 op.mode, .string op.tg, .slice ae es.length ce, .slice ak ks.length ck] : Array Value) = A := ⟨_, rfl⟩
  have HPl2 : Hid (∀ W2, Below w.heap.size w W2 → Calls Try.prog 37 #[.agg A] W2 fun e w' => e = .returned (.bool true) ∧ Below W2.heap.size W2 w') := by rw [← hA]; exact HPl.out
  obtain ⟨W, hW⟩ : ∃ W, w.alloc (.cells A 30) = W := ⟨_, rfl⟩
  have hb := boxB hW
  have HBx : Hid (W.heap[w.heap.size]? = some (.cells #[.int .i64 4, .int .i64 client, .int .i64 life, .int .i64 seq, .complex .f64 re im, .int .i64 vers, .int .i64 err, .int .i64 op.kind, .int .i64 op.dir, .string op.nm, .int .i64 op.dst, .string op.new, .int .i64 op.mode, .string op.tg, .slice ae es.length ce, .slice ak ks.length ck] 30 (0, 0)) ∧ Below w.heap.size w W) := by rw [hA]; exact hb
  have nl := msgS_of hb.1 (by rw [← hA]; rfl)
  have HS : Hid (∀ w', Below W.heap.size W w' → w'.cell? ⟨w.heap.size, 0, none⟩ = some (.int .i64 4) ∧ w'.cell? ⟨w.heap.size, 1, none⟩ = some (.int .i64 client) ∧ w'.cell? ⟨w.heap.size, 2, none⟩ = some (.int .i64 life) ∧ w'.cell? ⟨w.heap.size, 3, none⟩ = some (.int .i64 seq) ∧ w'.cell? ⟨w.heap.size, 4, none⟩ = some (.complex .f64 re im) ∧ w'.cell? ⟨w.heap.size, 5, none⟩ = some (.int .i64 vers) ∧ w'.cell? ⟨w.heap.size, 6, none⟩ = some (.int .i64 err)) := fun w' h' => by
    have n1 := hkeep HBx.out.1 h'
    exact ⟨by have y := cell_of n1 0; simpa using y, by have y := cell_of n1 1; simpa using y, by have y := cell_of n1 2; simpa using y, by have y := cell_of n1 3; simpa using y, by have y := cell_of n1 4; simpa using y, by have y := cell_of n1 5; simpa using y, by have y := cell_of n1 6; simpa using y⟩
  have HRw : Hid (∀ w', Below W.heap.size W w' → Row7 w' 0 (.slice ae es.length ce) es ∧ RowK w' 0 (.slice ak ks.length ck) ks) := fun w' h' => ⟨he.below (chainB HBx.out.2 h'), hk.below (chainB HBx.out.2 h')⟩
  show Calls Try.prog 17 #[.agg #[.int .i64 4, .int .i64 client, .int .i64 life, .int .i64 seq, .complex .f64 re im, .int .i64 vers, .int .i64 err, .int .i64 op.kind, .int .i64 op.dir, .string op.nm, .int .i64 op.dst, .string op.new, .int .i64 op.mode, .string op.tg, .slice ae es.length ce, .slice ak ks.length ck]] w _
  rw [hA]
  clear hA hb HPl he hk hr
  go_enter Try.func17, Try.ntmps17
  go_upto_region 1 with fail
  clear hW
  go_upto_region 5 with (first
    | (go_at_call 38; refine (HPt.out _).mono ?_; rintro x w9 ⟨rfl, rfl⟩)
    | (go_at_call 37; refine (HPl2.out W HBx.out.2).mono ?_; rintro x w1 ⟨rfl, hb1⟩; have y0 := (HS.out w1 hb1).1; have y4 := (HS.out w1 hb1).2.2.2.2.1; clear nl))
  obtain ⟨V0, hV0⟩ : ∃ x, w1.alloc (.cells #[.int .u8 4] 5) = x := ⟨_, rfl⟩
  have p0 : OwnB V0 W.heap.size (.slice (some ⟨w1.heap.size, 0, none⟩) 1 1) [4] := by rw [← hV0]; exact (OwnB.new1 _ _ _ rfl).le hb1.size
  have g0 : Below W.heap.size W V0 := by rw [← hV0]; exact chainB hb1 (below_alloc _ _)
  have P0 : Hid (OwnB V0 W.heap.size (.slice (some ⟨w1.heap.size, 0, none⟩) 1 1) [4] ∧ Below W.heap.size W V0) := ⟨p0, g0⟩
  have z1 := (HS.out V0 g0).2.1
  rw [hV0]
  clear hV0 p0 g0 y0 y4
  go_wp2_with (first
    | (at_builtin; refine wpList_apy rfl _ _ rfl W.heap.size _ (((((([4] ++ N1) ++ N2) ++ N3) ++ N4) ++ N5) ++ N6) rfl (P6.out.1.below b7) _ N7 rfl o7.out.rb (by simp; omega) (chainB P6.out.2 b7).size ?_; intro v7 V7 p7 f7 _; have g7 := (chainB P6.out.2 b7).trans f7; have P7 : Hid (OwnB V7 W.heap.size v7 ((((((([4] ++ N1) ++ N2) ++ N3) ++ N4) ++ N5) ++ N6) ++ N7) ∧ Below W.heap.size W V7) := ⟨p7, g7⟩; have u0 := (HS.out V7 g7).1; clear p7 f7 g7 b7 o7)
    | (go_at_call 39; refine (H7.out V6).mono ?_; rintro x w17 ⟨a7, q7, rfl, o7, b7⟩; clear z6)
    | (at_builtin; refine wpList_apy rfl _ _ rfl W.heap.size _ ((((([4] ++ N1) ++ N2) ++ N3) ++ N4) ++ N5) rfl (P5.out.1.below b6) _ N6 rfl o6.out.rb (by simp; omega) (chainB P5.out.2 b6).size ?_; intro v6 V6 p6 f6 _; have g6 := (chainB P5.out.2 b6).trans f6; have P6 : Hid (OwnB V6 W.heap.size v6 (((((([4] ++ N1) ++ N2) ++ N3) ++ N4) ++ N5) ++ N6) ∧ Below W.heap.size W V6) := ⟨p6, g6⟩; have z6 := (HS.out V6 g6).2.2.2.2.2.2; clear p6 f6 g6 b6 o6)
    | (go_at_call 39; refine (H6.out V5).mono ?_; rintro x w16 ⟨a6, q6, rfl, o6, b6⟩; clear z5)
    | (at_builtin; refine wpList_apy rfl _ _ rfl W.heap.size _ (((([4] ++ N1) ++ N2) ++ N3) ++ N4) rfl (P4.out.1.below b5) _ N5 rfl o5.out.rb (by simp; omega) (chainB P4.out.2 b5).size ?_; intro v5 V5 p5 f5 _; have g5 := (chainB P4.out.2 b5).trans f5; have P5 : Hid (OwnB V5 W.heap.size v5 ((((([4] ++ N1) ++ N2) ++ N3) ++ N4) ++ N5) ∧ Below W.heap.size W V5) := ⟨p5, g5⟩; have z5 := (HS.out V5 g5).2.2.2.2.2.1; clear p5 f5 g5 b5 o5)
    | (go_at_call 39; refine (H5.out V4).mono ?_; rintro x w15 ⟨a5, q5, rfl, o5, b5⟩)
    | (at_builtin; refine wpList_apy rfl _ _ rfl W.heap.size _ ((([4] ++ N1) ++ N2) ++ N3) rfl (P3.out.1.below b4) _ N4 rfl o4.out.rb (by simp; omega) (chainB P3.out.2 b4).size ?_; intro v4 V4 p4 f4 _; have g4 := (chainB P3.out.2 b4).trans f4; have P4 : Hid (OwnB V4 W.heap.size v4 (((([4] ++ N1) ++ N2) ++ N3) ++ N4) ∧ Below W.heap.size W V4) := ⟨p4, g4⟩; clear p4 f4 g4 b4 o4)
    | (go_at_call 39; refine (H4.out V3).mono ?_; rintro x w14 ⟨a4, q4, rfl, o4, b4⟩)
    | (at_builtin; refine wpList_apy rfl _ _ rfl W.heap.size _ (([4] ++ N1) ++ N2) rfl (P2.out.1.below b3) _ N3 rfl o3.out.rb (by simp; omega) (chainB P2.out.2 b3).size ?_; intro v3 V3 p3 f3 _; have g3 := (chainB P2.out.2 b3).trans f3; have P3 : Hid (OwnB V3 W.heap.size v3 ((([4] ++ N1) ++ N2) ++ N3) ∧ Below W.heap.size W V3) := ⟨p3, g3⟩; clear p3 f3 g3 b3 o3)
    | (go_at_call 39; refine (H3.out V2).mono ?_; rintro x w13 ⟨a3, q3, rfl, o3, b3⟩; clear z3)
    | (at_builtin; refine wpList_apy rfl _ _ rfl W.heap.size _ ([4] ++ N1) rfl (P1.out.1.below b2) _ N2 rfl o2.out.rb (by simp; omega) (chainB P1.out.2 b2).size ?_; intro v2 V2 p2 f2 _; have g2 := (chainB P1.out.2 b2).trans f2; have P2 : Hid (OwnB V2 W.heap.size v2 (([4] ++ N1) ++ N2) ∧ Below W.heap.size W V2) := ⟨p2, g2⟩; have z3 := (HS.out V2 g2).2.2.2.1; clear p2 f2 g2 b2 o2)
    | (go_at_call 39; refine (H2.out V1).mono ?_; rintro x w12 ⟨a2, q2, rfl, o2, b2⟩; clear z2)
    | (at_builtin; refine wpList_apy rfl _ _ rfl W.heap.size _ [4] rfl (P0.out.1.below b1) _ N1 rfl o1.out.rb (by simp; omega) (chainB P0.out.2 b1).size ?_; intro v1 V1 p1 f1 _; have g1 := (chainB P0.out.2 b1).trans f1; have P1 : Hid (OwnB V1 W.heap.size v1 ([4] ++ N1) ∧ Below W.heap.size W V1) := ⟨p1, g1⟩; have z2 := (HS.out V1 g1).2.2.1; clear p1 f1 g1 b1 o1)
    | (go_at_call 39; refine (H1.out V0).mono ?_; rintro x w11 ⟨a1, q1, rfl, o1, b1⟩; clear z1))
  have e9 : ((((((([4] ++ N1) ++ N2) ++ N3) ++ N4) ++ N5) ++ N6) ++ N7) = (4 : Int) :: (N1 ++ (N2 ++ (N3 ++ (N4 ++ (N5 ++ (N6 ++ (N7 ++ []))))))) := by simp
  have h9 := P7.out.1
  rw [e9] at h9
  obtain ⟨a9, q9, rfl⟩ := owns_len h9
  go_ret2
  exact ⟨a9, q9, rfl, h9.le HBx.out.2.size, chainB HBx.out.2 P7.out.2⟩
set_option maxRecDepth 20000 in
set_option maxHeartbeats 4000000 in
theorem encd_no (m : Ms) (w : World) (hr : Rows w m) (hP : plainB m = false) : Calls Try.prog 17 #[.agg m.arr] w fun x w' => x = .returned (.tuple #[.slice none 0 0, .int .i64 50]) ∧ Below w.heap.size w w' := by
  have HPl : Hid (∀ W2, Below w.heap.size w W2 → Calls Try.prog 37 #[.agg m.arr] W2 fun e w' => e = .returned (.bool false) ∧ Below W2.heap.size W2 w') := fun W2 h2 => by have := plain_d m W2 ⟨hr.es.below h2, hr.ks.below h2⟩; rw [hP] at this; exact this
  have hsz : m.arr.size = 16 := rfl
  obtain ⟨A, hA⟩ : ∃ x, m.arr = x := ⟨_, rfl⟩
  rw [hA] at HPl hsz ⊢
  obtain ⟨W, hW⟩ : ∃ W, w.alloc (.cells A 30) = W := ⟨_, rfl⟩
  have hb := boxB hW
  have HB : Hid (Below w.heap.size w W) := hb.2
  have nl := msgS_of hb.1 hsz
  clear hA hb hsz hP hr
  go_enter Try.func17, Try.ntmps17
  go_upto_region 1 with fail
  clear hW
  go_wp2_with (go_at_call 37; refine (HPl.out W HB.out).mono ?_; rintro x w1 ⟨rfl, hb1⟩)
  go_ret2
  exact ⟨rfl, chainB HB.out hb1⟩
theorem encode_d (m : Ms) (w : World) (hr : Rows w m) : Calls Try.prog 17 #[.agg m.arr] w fun x w' => EncR (plainB m) (msgB m.mg) w w' x := by
  cases hP : plainB m with
  | false => exact (encd_no m w hr hP).mono fun x w' h => .inr ⟨rfl, h.1, h.2⟩
  | true =>
    have hk : m.kind = 1 ∨ m.kind = 2 ∨ m.kind = 3 ∨ m.kind = 4 := by
      rcases ((plainB_iff m).1 hP).2.2 with hb | hb | hb | hb
      · exact .inl hb.1
      · exact .inr (.inl hb.1)
      · exact .inr (.inr (.inl hb.1))
      · exact .inr (.inr (.inr hb.1))
    have key : (Calls Try.prog 17 #[.agg m.arr] w fun x w' => ∃ a c, x = .returned (.tuple #[.slice a (msgB m.mg).length c, .int .i64 0]) ∧ OwnB w' w.heap.size (.slice a (msgB m.mg).length c) (msgB m.mg) ∧ Below w.heap.size w w') → Calls Try.prog 17 #[.agg m.arr] w fun x w' => EncR true (msgB m.mg) w w' x := fun h => h.mono fun x w' ⟨a, c, h1, h2, h3⟩ => .inl ⟨rfl, _, h1, h2, h3⟩
    refine key ?_
    obtain ⟨kind, client, life, seq, re, im, vers, err, op, ve, vk, es, ks⟩ := m
    simp only [] at hk
    rcases hk with rfl | rfl | rfl | rfl
    · exact encd_1 client life seq re im vers err op ve vk es ks w hr hP
    · exact encd_2 client life seq re im vers err op ve vk es ks w hr hP
    · exact encd_3 client life seq re im vers err op ve vk es ks w hr hP
    · exact encd_4 client life seq re im vers err op ve vk es ks w hr hP
end
end Go.Proofs.Ytekonakanieeaaa
