/- The document's own Pack. -/
import Derived.Test.YtekonakanieeaaaJWDes14
import Derived.Test.YtekonakanieeaaaJWDes15
import Derived.Test.YtekonakanieeaaaJWDes16
namespace Go.Proofs.Ytekonakanieeaaa
section
open Go.RowKit Go.Lib
attribute [local go_sem ↓ high] loadN

theorem plainNote_d (n : Nt) (w : World) : Calls Try.prog 62 #[.agg n.arr] w fun x w' => x = .returned (.bool (plainN n)) ∧ Below w.heap.size w w' := by
  obtain ⟨kind, epoch, vers, next, client, e, life, seq, err, op⟩ := n
  have key : ∀ (b : Bool), plainN ⟨kind, epoch, vers, next, client, e, life, seq, err, op⟩ = b → (Calls Try.prog 62 #[.agg (Nt.arr ⟨kind, epoch, vers, next, client, e, life, seq, err, op⟩)] w fun x w' => x = .returned (.bool b) ∧ Below w.heap.size w w') → Calls Try.prog 62 #[.agg (Nt.arr ⟨kind, epoch, vers, next, client, e, life, seq, err, op⟩)] w fun x w' => x = .returned (.bool (plainN ⟨kind, epoch, vers, next, client, e, life, seq, err, op⟩)) ∧ Below w.heap.size w w' := fun b h1 h2 => by rw [h1]; exact h2
  have hk : ¬ (kind = 1 ∨ kind = 2 ∨ kind = 3 ∨ kind = 4 ∨ kind = 5) → plainN ⟨kind, epoch, vers, next, client, e, life, seq, err, op⟩ = false := fun h => by
    have : kindN ⟨kind, epoch, vers, next, client, e, life, seq, err, op⟩ = false := by
      unfold kindN; simp only []
      rw [if_neg (fun h' => h (.inl h')), if_neg (fun h' => h (.inr (.inl h'))), if_neg (fun h' => h (.inr (.inr (.inr (.inl h'))))), if_neg (fun h' => h (.inr (.inr (.inl h')))), if_neg (fun h' => h (.inr (.inr (.inr (.inr h')))))]
    unfold plainN
    rw [this]
    simp
  cases hE : eqNt ⟨kind, epoch, vers, next, client, e, life, seq, err, op⟩ (onlyF ⟨kind, epoch, vers, next, client, e, life, seq, err, op⟩) with
  | false =>
    refine key false ?_ (plainNote_dne kind epoch vers next client e life seq err op w hE)
    by_cases h : kind = 1 ∨ kind = 2 ∨ kind = 3 ∨ kind = 4 ∨ kind = 5
    · exact plainN_0 (by rw [show onlyF ⟨kind, epoch, vers, next, client, e, life, seq, err, op⟩ = onlyN ⟨kind, epoch, vers, next, client, e, life, seq, err, op⟩ from if_pos h] at hE; exact hE)
    · exact hk h
  | true =>
    by_cases hK : kind = 0
    · exact key false (hk (by omega)) (plainNote_dk0 kind epoch vers next client e life seq err op w hE hK)
    have h5 : kind = 1 ∨ kind = 2 ∨ kind = 3 ∨ kind = 4 ∨ kind = 5 := by
      by_cases h : kind = 1 ∨ kind = 2 ∨ kind = 3 ∨ kind = 4 ∨ kind = 5
      · exact h
      · have h9 := (eqNt_iff _ _).1 hE
        rw [show onlyF ⟨kind, epoch, vers, next, client, e, life, seq, err, op⟩ = zeroNt from if_neg h] at h9
        exact absurd (congrArg Nt.kind h9) hK
    have hE2 : eqNt ⟨kind, epoch, vers, next, client, e, life, seq, err, op⟩ (onlyN ⟨kind, epoch, vers, next, client, e, life, seq, err, op⟩) = true := by rw [show onlyF ⟨kind, epoch, vers, next, client, e, life, seq, err, op⟩ = onlyN ⟨kind, epoch, vers, next, client, e, life, seq, err, op⟩ from if_pos h5] at hE; exact hE
    by_cases h0 : numOk epoch
    case neg => exact key false (plainN_1 (by simp [numsOkB, h0])) (plainNote_d0 kind epoch vers next client e life seq err op w hE hK  h0)
    by_cases h1 : numOk vers
    case neg => exact key false (plainN_1 (by simp [numsOkB, h1])) (plainNote_d1 kind epoch vers next client e life seq err op w hE hK h0 h1)
    by_cases h2 : numOk next
    case neg => exact key false (plainN_1 (by simp [numsOkB, h2])) (plainNote_d2 kind epoch vers next client e life seq err op w hE hK h0 h1 h2)
    by_cases h3 : numOk client
    case neg => exact key false (plainN_1 (by simp [numsOkB, h3])) (plainNote_d3 kind epoch vers next client e life seq err op w hE hK h0 h1 h2 h3)
    by_cases h4 : numOk life
    case neg => exact key false (plainN_1 (by simp [numsOkB, h4])) (plainNote_d4 kind epoch vers next client e life seq err op w hE hK h0 h1 h2 h3 h4)
    by_cases h5' : numOk seq
    case neg => exact key false (plainN_1 (by simp [numsOkB, h5'])) (plainNote_d5 kind epoch vers next client e life seq err op w hE hK h0 h1 h2 h3 h4 h5')
    by_cases h6 : numOk err
    case neg => exact key false (plainN_1 (by simp [numsOkB, h6])) (plainNote_d6 kind epoch vers next client e life seq err op w hE hK h0 h1 h2 h3 h4 h5' h6)
    exact key _ (plainN_2 hE2 (by simp [numsOkB, h0, h1, h2, h3, h4, h5', h6])) (plainNote_dok kind epoch vers next client e life seq err op w hE hK h0 h1 h2 h3 h4 h5' h6)
end
section
open Go.RowKit Go.Lib
attribute [local go_sem ↓ high] loadN

theorem opB_1000 {o : Opn} (h : opOk o) : (opB o).length ≤ 1000 := by
  unfold opB
  have := numI_len h.2.1
  have := numI_len h.2.2.1
  have := numI_len h.2.2.2.1
  have := textB_200 h.2.2.2.2.1
  have := textB_200 h.2.2.2.2.2.1
  have := textB_200 h.2.2.2.2.2.2
  simp only [List.length_cons, List.length_append]
  omega
theorem entB_1000 {e : En} (h : entOk e) : (entB e).length ≤ 1000 := by
  obtain ⟨hk, h2⟩ := h
  unfold entB
  have := keyB_200 hk
  cases hn : e.neg with
  | true => simp; omega
  | false =>
    rw [hn] at h2
    have h2 : nodeOk e := by simpa using h2
    have := numI_len h2.1
    have := numI_len h2.2.1
    have := textB_200 h2.2.2.2
    unfold nodeB
    simp
    omega
set_option maxRecDepth 20000 in
set_option maxHeartbeats 8000000 in
theorem packd_1 (epoch vers next client : Int) (e : En) (life seq err : Int) (op : Opn) (w : World) (hP : noteOk ⟨1, epoch, vers, next, client, e, life, seq, err, op⟩) : Calls Try.prog 32 #[.agg #[.int .i64 1, .int .i64 epoch, .int .i64 vers, .int .i64 next, .int .i64 client, .int .i64 e.d, .string e.nm, .bool e.neg, .int .i64 e.id, .int .i64 e.kind, .int .i64 e.mode, .string e.tg, .int .i64 life, .int .i64 seq, .int .i64 err, .int .i64 op.kind, .int .i64 op.dir, .string op.nm, .int .i64 op.dst, .string op.new, .int .i64 op.mode, .string op.tg]] w fun x w' => ∃ a c, x = .returned (.tuple #[.slice a (noteB ⟨1, epoch, vers, next, client, e, life, seq, err, op⟩).length c, .int .i64 0]) ∧ OwnB w' w.heap.size (.slice a (noteB ⟨1, epoch, vers, next, client, e, life, seq, err, op⟩).length c) (noteB ⟨1, epoch, vers, next, client, e, life, seq, err, op⟩) ∧ Below w.heap.size w w' := by
  have hnum := hP.2.1
  have HPl : Hid (∀ W2, Calls Try.prog 62 #[.agg (Nt.arr ⟨1, epoch, vers, next, client, e, life, seq, err, op⟩)] W2 fun e w' => e = .returned (.bool true) ∧ Below W2.heap.size W2 w') := fun W2 => by have := plainNote_d ⟨1, epoch, vers, next, client, e, life, seq, err, op⟩ W2; rw [(plainN_iff _).2 hP] at this; exact this
  have H1 : Hid (∀ W, Calls Try.prog 39 #[.int .i64 epoch] W fun e w' => Mk (numI epoch) W w' e) := fun W => number_i _ W hnum.epoch
  have l1 := numI_len hnum.epoch
  have hB : noteB ⟨1, epoch, vers, next, client, e, life, seq, err, op⟩ = (1 : Int) :: numI epoch := rfl
  rw [hB]
  obtain ⟨N1, hN1⟩ : ∃ x, numI epoch = x := ⟨_, rfl⟩
  rw [hN1] at H1 l1 ⊢
  clear hB hP hnum hN1
  obtain ⟨A, hA⟩ : ∃ A, (#[.int .i64 1, .int .i64 epoch, .int .i64 vers, .int .i64 next, .int .i64 client, .int .i64 e.d, .string e.nm, .bool e.neg, .int .i64 e.id, .int .i64 e.kind, .int .i64 e.mode, .string e.tg, .int .i64 life, .int .i64 seq, .int .i64 err, .int .i64 op.kind, .int .i64 op.dir, .string op.nm, .int .i64 op.dst, .string op.new, .int .i64 op.mode, .string op.tg] : Array Value) = A := ⟨_, rfl⟩
  have HPl2 : Hid (∀ W2, Calls Try.prog 62 #[.agg A] W2 fun e w' => e = .returned (.bool true) ∧ Below W2.heap.size W2 w') := by rw [← hA]; exact HPl.out
  obtain ⟨W, hW⟩ : ∃ W, w.alloc (.cells A 48) = W := ⟨_, rfl⟩
  have hb := boxB hW
  have HBx : Hid (W.heap[w.heap.size]? = some (.cells #[.int .i64 1, .int .i64 epoch, .int .i64 vers, .int .i64 next, .int .i64 client, .int .i64 e.d, .string e.nm, .bool e.neg, .int .i64 e.id, .int .i64 e.kind, .int .i64 e.mode, .string e.tg, .int .i64 life, .int .i64 seq, .int .i64 err, .int .i64 op.kind, .int .i64 op.dir, .string op.nm, .int .i64 op.dst, .string op.new, .int .i64 op.mode, .string op.tg] 48 (0, 0)) ∧ Below w.heap.size w W) := by rw [hA]; exact hb
  have nl := noteS_of hb.1 (by rw [← hA]; rfl)
  have HS : Hid (∀ w', Below W.heap.size W w' → w'.cell? ⟨w.heap.size, 0, none⟩ = some (.int .i64 1) ∧ w'.cell? ⟨w.heap.size, 1, none⟩ = some (.int .i64 epoch)) := fun w' h' => by
    have n1 := hkeep HBx.out.1 h'
    exact ⟨by have y := cell_of n1 0; simpa using y, by have y := cell_of n1 1; simpa using y⟩
  rw [hA]
  clear hA hb HPl
  go_enter Try.func32, Try.ntmps32
  go_upto_region 1 with fail
  clear hW
  go_upto_region 4 with (go_at_call 62; refine (HPl2.out W).mono ?_; rintro x w1 ⟨rfl, hb1⟩; have y0 := (HS.out w1 hb1).1)
  clear nl
  obtain ⟨V0, hV0⟩ : ∃ x, w1.alloc (.cells #[.int .u8 1] 5) = x := ⟨_, rfl⟩
  have p0 : OwnB V0 W.heap.size (.slice (some ⟨w1.heap.size, 0, none⟩) 1 1) [1] := by rw [← hV0]; exact (OwnB.new1 _ _ _ rfl).le hb1.size
  have g0 : Below W.heap.size W V0 := by rw [← hV0]; exact chainB hb1 (below_alloc _ _)
  have P0 : Hid (OwnB V0 W.heap.size (.slice (some ⟨w1.heap.size, 0, none⟩) 1 1) [1] ∧ Below W.heap.size W V0) := ⟨p0, g0⟩
  have u0 := (HS.out V0 g0).1
  have z1 := (HS.out V0 g0).2
  rw [hV0]
  clear hV0 p0 g0 y0
  go_wp2_with (first
    | (at_builtin; refine wpList_apy rfl _ _ rfl W.heap.size _ [1] rfl (P0.out.1.below b1) _ N1 rfl o1.out.rb (by simp; omega) (chainB P0.out.2 b1).size ?_; intro v1 V1 p1 f1 _; have g1 := (chainB P0.out.2 b1).trans f1; have P1 : Hid (OwnB V1 W.heap.size v1 ([1] ++ N1) ∧ Below W.heap.size W V1) := ⟨p1, g1⟩; clear p1 f1 g1 b1 o1)
    | (go_at_call 39; refine (H1.out V0).mono ?_; rintro x w2 ⟨a1, q1, rfl, o1, b1⟩; clear z1 u0))
  have e9 : ([1] ++ N1) = (1 : Int) :: N1 := by simp
  have h9 := P1.out.1
  rw [e9] at h9
  obtain ⟨a9, q9, rfl⟩ := owns_len h9
  go_ret2
  exact ⟨a9, q9, rfl, h9.le HBx.out.2.size, chainB HBx.out.2 P1.out.2⟩
set_option maxRecDepth 20000 in
set_option maxHeartbeats 8000000 in
theorem packd_2 (epoch vers next client : Int) (e : En) (life seq err : Int) (op : Opn) (w : World) (hP : noteOk ⟨2, epoch, vers, next, client, e, life, seq, err, op⟩) : Calls Try.prog 32 #[.agg #[.int .i64 2, .int .i64 epoch, .int .i64 vers, .int .i64 next, .int .i64 client, .int .i64 e.d, .string e.nm, .bool e.neg, .int .i64 e.id, .int .i64 e.kind, .int .i64 e.mode, .string e.tg, .int .i64 life, .int .i64 seq, .int .i64 err, .int .i64 op.kind, .int .i64 op.dir, .string op.nm, .int .i64 op.dst, .string op.new, .int .i64 op.mode, .string op.tg]] w fun x w' => ∃ a c, x = .returned (.tuple #[.slice a (noteB ⟨2, epoch, vers, next, client, e, life, seq, err, op⟩).length c, .int .i64 0]) ∧ OwnB w' w.heap.size (.slice a (noteB ⟨2, epoch, vers, next, client, e, life, seq, err, op⟩).length c) (noteB ⟨2, epoch, vers, next, client, e, life, seq, err, op⟩) ∧ Below w.heap.size w w' := by
  have hnum := hP.2.1
  have HPl : Hid (∀ W2, Calls Try.prog 62 #[.agg (Nt.arr ⟨2, epoch, vers, next, client, e, life, seq, err, op⟩)] W2 fun e w' => e = .returned (.bool true) ∧ Below W2.heap.size W2 w') := fun W2 => by have := plainNote_d ⟨2, epoch, vers, next, client, e, life, seq, err, op⟩ W2; rw [(plainN_iff _).2 hP] at this; exact this
  have H1 : Hid (∀ W, Calls Try.prog 39 #[.int .i64 epoch] W fun e w' => Mk (numI epoch) W w' e) := fun W => number_i _ W hnum.epoch
  have l1 := numI_len hnum.epoch
  have H2 : Hid (∀ W, Calls Try.prog 39 #[.int .i64 vers] W fun e w' => Mk (numI vers) W w' e) := fun W => number_i _ W hnum.vers
  have l2 := numI_len hnum.vers
  have H3 : Hid (∀ W, Calls Try.prog 39 #[.int .i64 next] W fun e w' => Mk (numI next) W w' e) := fun W => number_i _ W hnum.next
  have l3 := numI_len hnum.next
  have hB : noteB ⟨2, epoch, vers, next, client, e, life, seq, err, op⟩ = (2 : Int) :: (numI epoch ++ (numI vers ++ numI next)) := rfl
  rw [hB]
  obtain ⟨N1, hN1⟩ : ∃ x, numI epoch = x := ⟨_, rfl⟩
  rw [hN1] at H1 l1 ⊢
  obtain ⟨N2, hN2⟩ : ∃ x, numI vers = x := ⟨_, rfl⟩
  rw [hN2] at H2 l2 ⊢
  obtain ⟨N3, hN3⟩ : ∃ x, numI next = x := ⟨_, rfl⟩
  rw [hN3] at H3 l3 ⊢
  clear hB hP hnum hN1 hN2 hN3
  obtain ⟨A, hA⟩ : ∃ A, (#[.int .i64 2, .int .i64 epoch, .int .i64 vers, .int .i64 next, .int .i64 client, .int .i64 e.d, .string e.nm, .bool e.neg, .int .i64 e.id, .int .i64 e.kind, .int .i64 e.mode, .string e.tg, .int .i64 life, .int .i64 seq, .int .i64 err, .int .i64 op.kind, .int .i64 op.dir, .string op.nm, .int .i64 op.dst, .string op.new, .int .i64 op.mode, .string op.tg] : Array Value) = A := ⟨_, rfl⟩
  have HPl2 : Hid (∀ W2, Calls Try.prog 62 #[.agg A] W2 fun e w' => e = .returned (.bool true) ∧ Below W2.heap.size W2 w') := by rw [← hA]; exact HPl.out
  obtain ⟨W, hW⟩ : ∃ W, w.alloc (.cells A 48) = W := ⟨_, rfl⟩
  have hb := boxB hW
  have HBx : Hid (W.heap[w.heap.size]? = some (.cells #[.int .i64 2, .int .i64 epoch, .int .i64 vers, .int .i64 next, .int .i64 client, .int .i64 e.d, .string e.nm, .bool e.neg, .int .i64 e.id, .int .i64 e.kind, .int .i64 e.mode, .string e.tg, .int .i64 life, .int .i64 seq, .int .i64 err, .int .i64 op.kind, .int .i64 op.dir, .string op.nm, .int .i64 op.dst, .string op.new, .int .i64 op.mode, .string op.tg] 48 (0, 0)) ∧ Below w.heap.size w W) := by rw [hA]; exact hb
  have nl := noteS_of hb.1 (by rw [← hA]; rfl)
  have HS : Hid (∀ w', Below W.heap.size W w' → w'.cell? ⟨w.heap.size, 0, none⟩ = some (.int .i64 2) ∧ w'.cell? ⟨w.heap.size, 1, none⟩ = some (.int .i64 epoch) ∧ w'.cell? ⟨w.heap.size, 2, none⟩ = some (.int .i64 vers) ∧ w'.cell? ⟨w.heap.size, 3, none⟩ = some (.int .i64 next)) := fun w' h' => by
    have n1 := hkeep HBx.out.1 h'
    exact ⟨by have y := cell_of n1 0; simpa using y, by have y := cell_of n1 1; simpa using y, by have y := cell_of n1 2; simpa using y, by have y := cell_of n1 3; simpa using y⟩
  rw [hA]
  clear hA hb HPl
  go_enter Try.func32, Try.ntmps32
  go_upto_region 1 with fail
  clear hW
  go_upto_region 4 with (go_at_call 62; refine (HPl2.out W).mono ?_; rintro x w1 ⟨rfl, hb1⟩; have y0 := (HS.out w1 hb1).1)
  clear nl
  obtain ⟨V0, hV0⟩ : ∃ x, w1.alloc (.cells #[.int .u8 2] 5) = x := ⟨_, rfl⟩
  have p0 : OwnB V0 W.heap.size (.slice (some ⟨w1.heap.size, 0, none⟩) 1 1) [2] := by rw [← hV0]; exact (OwnB.new1 _ _ _ rfl).le hb1.size
  have g0 : Below W.heap.size W V0 := by rw [← hV0]; exact chainB hb1 (below_alloc _ _)
  have P0 : Hid (OwnB V0 W.heap.size (.slice (some ⟨w1.heap.size, 0, none⟩) 1 1) [2] ∧ Below W.heap.size W V0) := ⟨p0, g0⟩
  have u0 := (HS.out V0 g0).1
  have z1 := (HS.out V0 g0).2.1
  rw [hV0]
  clear hV0 p0 g0 y0
  go_wp2_with (first
    | (at_builtin; refine wpList_apy rfl _ _ rfl W.heap.size _ (([2] ++ N1) ++ N2) rfl (P2.out.1.below b3) _ N3 rfl o3.out.rb (by simp; omega) (chainB P2.out.2 b3).size ?_; intro v3 V3 p3 f3 _; have g3 := (chainB P2.out.2 b3).trans f3; have P3 : Hid (OwnB V3 W.heap.size v3 ((([2] ++ N1) ++ N2) ++ N3) ∧ Below W.heap.size W V3) := ⟨p3, g3⟩; clear p3 f3 g3 b3 o3)
    | (go_at_call 39; refine (H3.out V2).mono ?_; rintro x w4 ⟨a3, q3, rfl, o3, b3⟩; clear z3)
    | (at_builtin; refine wpList_apy rfl _ _ rfl W.heap.size _ ([2] ++ N1) rfl (P1.out.1.below b2) _ N2 rfl o2.out.rb (by simp; omega) (chainB P1.out.2 b2).size ?_; intro v2 V2 p2 f2 _; have g2 := (chainB P1.out.2 b2).trans f2; have P2 : Hid (OwnB V2 W.heap.size v2 (([2] ++ N1) ++ N2) ∧ Below W.heap.size W V2) := ⟨p2, g2⟩; have z3 := (HS.out V2 g2).2.2.2; clear p2 f2 g2 b2 o2)
    | (go_at_call 39; refine (H2.out V1).mono ?_; rintro x w3 ⟨a2, q2, rfl, o2, b2⟩; clear z2)
    | (at_builtin; refine wpList_apy rfl _ _ rfl W.heap.size _ [2] rfl (P0.out.1.below b1) _ N1 rfl o1.out.rb (by simp; omega) (chainB P0.out.2 b1).size ?_; intro v1 V1 p1 f1 _; have g1 := (chainB P0.out.2 b1).trans f1; have P1 : Hid (OwnB V1 W.heap.size v1 ([2] ++ N1) ∧ Below W.heap.size W V1) := ⟨p1, g1⟩; have z2 := (HS.out V1 g1).2.2.1; clear p1 f1 g1 b1 o1)
    | (go_at_call 39; refine (H1.out V0).mono ?_; rintro x w2 ⟨a1, q1, rfl, o1, b1⟩; clear z1 u0))
  have e9 : ((([2] ++ N1) ++ N2) ++ N3) = (2 : Int) :: (N1 ++ (N2 ++ N3)) := by simp
  have h9 := P3.out.1
  rw [e9] at h9
  obtain ⟨a9, q9, rfl⟩ := owns_len h9
  go_ret2
  exact ⟨a9, q9, rfl, h9.le HBx.out.2.size, chainB HBx.out.2 P3.out.2⟩
set_option maxRecDepth 20000 in
set_option maxHeartbeats 8000000 in
theorem packd_3 (epoch vers next client : Int) (e : En) (life seq err : Int) (op : Opn) (w : World) (hP : noteOk ⟨3, epoch, vers, next, client, e, life, seq, err, op⟩) : Calls Try.prog 32 #[.agg #[.int .i64 3, .int .i64 epoch, .int .i64 vers, .int .i64 next, .int .i64 client, .int .i64 e.d, .string e.nm, .bool e.neg, .int .i64 e.id, .int .i64 e.kind, .int .i64 e.mode, .string e.tg, .int .i64 life, .int .i64 seq, .int .i64 err, .int .i64 op.kind, .int .i64 op.dir, .string op.nm, .int .i64 op.dst, .string op.new, .int .i64 op.mode, .string op.tg]] w fun x w' => ∃ a c, x = .returned (.tuple #[.slice a (noteB ⟨3, epoch, vers, next, client, e, life, seq, err, op⟩).length c, .int .i64 0]) ∧ OwnB w' w.heap.size (.slice a (noteB ⟨3, epoch, vers, next, client, e, life, seq, err, op⟩).length c) (noteB ⟨3, epoch, vers, next, client, e, life, seq, err, op⟩) ∧ Below w.heap.size w w' := by
  have hnum := hP.2.1
  have HPl : Hid (∀ W2, Calls Try.prog 62 #[.agg (Nt.arr ⟨3, epoch, vers, next, client, e, life, seq, err, op⟩)] W2 fun e w' => e = .returned (.bool true) ∧ Below W2.heap.size W2 w') := fun W2 => by have := plainNote_d ⟨3, epoch, vers, next, client, e, life, seq, err, op⟩ W2; rw [(plainN_iff _).2 hP] at this; exact this
  have hent : entOk e := by
    rcases hP.2.2 with h | h | h | h | h
    · simp at h
    · simp at h
    · simp at h
    · exact h.2.2
    · simp at h
  have H1 : Hid (∀ W, Calls Try.prog 41 #[.agg #[.int .i64 e.d, .string e.nm, .bool e.neg, .int .i64 e.id, .int .i64 e.kind, .int .i64 e.mode, .string e.tg]] W fun x w' => Mk (entB e) W w' x) := fun W => entry_d e W hent
  have l1 : (entB e).length ≤ 1000 := entB_1000 hent
  have hB : noteB ⟨3, epoch, vers, next, client, e, life, seq, err, op⟩ = (3 : Int) :: entB e := rfl
  rw [hB]
  obtain ⟨N1, hN1⟩ : ∃ x, entB e = x := ⟨_, rfl⟩
  rw [hN1] at H1 l1 ⊢
  clear hB hP hnum hN1 hent
  obtain ⟨A, hA⟩ : ∃ A, (#[.int .i64 3, .int .i64 epoch, .int .i64 vers, .int .i64 next, .int .i64 client, .int .i64 e.d, .string e.nm, .bool e.neg, .int .i64 e.id, .int .i64 e.kind, .int .i64 e.mode, .string e.tg, .int .i64 life, .int .i64 seq, .int .i64 err, .int .i64 op.kind, .int .i64 op.dir, .string op.nm, .int .i64 op.dst, .string op.new, .int .i64 op.mode, .string op.tg] : Array Value) = A := ⟨_, rfl⟩
  have HPl2 : Hid (∀ W2, Calls Try.prog 62 #[.agg A] W2 fun e w' => e = .returned (.bool true) ∧ Below W2.heap.size W2 w') := by rw [← hA]; exact HPl.out
  obtain ⟨W, hW⟩ : ∃ W, w.alloc (.cells A 48) = W := ⟨_, rfl⟩
  have hb := boxB hW
  have HBx : Hid (W.heap[w.heap.size]? = some (.cells #[.int .i64 3, .int .i64 epoch, .int .i64 vers, .int .i64 next, .int .i64 client, .int .i64 e.d, .string e.nm, .bool e.neg, .int .i64 e.id, .int .i64 e.kind, .int .i64 e.mode, .string e.tg, .int .i64 life, .int .i64 seq, .int .i64 err, .int .i64 op.kind, .int .i64 op.dir, .string op.nm, .int .i64 op.dst, .string op.new, .int .i64 op.mode, .string op.tg] 48 (0, 0)) ∧ Below w.heap.size w W) := by rw [hA]; exact hb
  have nl := noteS_of hb.1 (by rw [← hA]; rfl)
  have HS : Hid (∀ w', Below W.heap.size W w' → w'.cell? ⟨w.heap.size, 0, none⟩ = some (.int .i64 3) ∧ w'.cell? ⟨w.heap.size, 5, none⟩ = some (.int .i64 e.d) ∧ w'.cell? ⟨w.heap.size, 6, none⟩ = some (.string e.nm) ∧ w'.cell? ⟨w.heap.size, 7, none⟩ = some (.bool e.neg) ∧ w'.cell? ⟨w.heap.size, 8, none⟩ = some (.int .i64 e.id) ∧ w'.cell? ⟨w.heap.size, 9, none⟩ = some (.int .i64 e.kind) ∧ w'.cell? ⟨w.heap.size, 10, none⟩ = some (.int .i64 e.mode) ∧ w'.cell? ⟨w.heap.size, 11, none⟩ = some (.string e.tg)) := fun w' h' => by
    have n1 := hkeep HBx.out.1 h'
    exact ⟨by have y := cell_of n1 0; simpa using y, by have y := cell_of n1 5; simpa using y, by have y := cell_of n1 6; simpa using y, by have y := cell_of n1 7; simpa using y, by have y := cell_of n1 8; simpa using y, by have y := cell_of n1 9; simpa using y, by have y := cell_of n1 10; simpa using y, by have y := cell_of n1 11; simpa using y⟩
  rw [hA]
  clear hA hb HPl
  go_enter Try.func32, Try.ntmps32
  go_upto_region 1 with fail
  clear hW
  go_upto_region 4 with (go_at_call 62; refine (HPl2.out W).mono ?_; rintro x w1 ⟨rfl, hb1⟩; have y0 := (HS.out w1 hb1).1)
  clear nl
  obtain ⟨V0, hV0⟩ : ∃ x, w1.alloc (.cells #[.int .u8 3] 5) = x := ⟨_, rfl⟩
  have p0 : OwnB V0 W.heap.size (.slice (some ⟨w1.heap.size, 0, none⟩) 1 1) [3] := by rw [← hV0]; exact (OwnB.new1 _ _ _ rfl).le hb1.size
  have g0 : Below W.heap.size W V0 := by rw [← hV0]; exact chainB hb1 (below_alloc _ _)
  have P0 : Hid (OwnB V0 W.heap.size (.slice (some ⟨w1.heap.size, 0, none⟩) 1 1) [3] ∧ Below W.heap.size W V0) := ⟨p0, g0⟩
  have u0 := (HS.out V0 g0).1
  have z5 := (HS.out V0 g0).2.1
  have z6 := (HS.out V0 g0).2.2.1
  have z7 := (HS.out V0 g0).2.2.2.1
  have z8 := (HS.out V0 g0).2.2.2.2.1
  have z9 := (HS.out V0 g0).2.2.2.2.2.1
  have z10 := (HS.out V0 g0).2.2.2.2.2.2.1
  have z11 := (HS.out V0 g0).2.2.2.2.2.2.2
  rw [hV0]
  clear hV0 p0 g0 y0
  go_wp2_with (first
    | (at_builtin; refine wpList_apy rfl _ _ rfl W.heap.size _ [3] rfl (P0.out.1.below b1) _ N1 rfl o1.out.rb (by simp; omega) (chainB P0.out.2 b1).size ?_; intro v1 V1 p1 f1 _; have g1 := (chainB P0.out.2 b1).trans f1; have P1 : Hid (OwnB V1 W.heap.size v1 ([3] ++ N1) ∧ Below W.heap.size W V1) := ⟨p1, g1⟩; clear p1 f1 g1 b1 o1)
    | (go_at_call 41; refine (H1.out V0).mono ?_; rintro x w2 ⟨a1, q1, rfl, o1, b1⟩; clear z5 z6 z7 z8 z9 z10 z11 u0))
  have e9 : ([3] ++ N1) = (3 : Int) :: N1 := by simp
  have h9 := P1.out.1
  rw [e9] at h9
  obtain ⟨a9, q9, rfl⟩ := owns_len h9
  go_ret2
  exact ⟨a9, q9, rfl, h9.le HBx.out.2.size, chainB HBx.out.2 P1.out.2⟩
set_option maxRecDepth 20000 in
set_option maxHeartbeats 8000000 in
theorem packd_4 (epoch vers next client : Int) (e : En) (life seq err : Int) (op : Opn) (w : World) (hP : noteOk ⟨4, epoch, vers, next, client, e, life, seq, err, op⟩) : Calls Try.prog 32 #[.agg #[.int .i64 4, .int .i64 epoch, .int .i64 vers, .int .i64 next, .int .i64 client, .int .i64 e.d, .string e.nm, .bool e.neg, .int .i64 e.id, .int .i64 e.kind, .int .i64 e.mode, .string e.tg, .int .i64 life, .int .i64 seq, .int .i64 err, .int .i64 op.kind, .int .i64 op.dir, .string op.nm, .int .i64 op.dst, .string op.new, .int .i64 op.mode, .string op.tg]] w fun x w' => ∃ a c, x = .returned (.tuple #[.slice a (noteB ⟨4, epoch, vers, next, client, e, life, seq, err, op⟩).length c, .int .i64 0]) ∧ OwnB w' w.heap.size (.slice a (noteB ⟨4, epoch, vers, next, client, e, life, seq, err, op⟩).length c) (noteB ⟨4, epoch, vers, next, client, e, life, seq, err, op⟩) ∧ Below w.heap.size w w' := by
  have hnum := hP.2.1
  have HPl : Hid (∀ W2, Calls Try.prog 62 #[.agg (Nt.arr ⟨4, epoch, vers, next, client, e, life, seq, err, op⟩)] W2 fun e w' => e = .returned (.bool true) ∧ Below W2.heap.size W2 w') := fun W2 => by have := plainNote_d ⟨4, epoch, vers, next, client, e, life, seq, err, op⟩ W2; rw [(plainN_iff _).2 hP] at this; exact this
  have H1 : Hid (∀ W, Calls Try.prog 39 #[.int .i64 client] W fun e w' => Mk (numI client) W w' e) := fun W => number_i _ W hnum.client
  have l1 := numI_len hnum.client
  have H2 : Hid (∀ W, Calls Try.prog 39 #[.int .i64 life] W fun e w' => Mk (numI life) W w' e) := fun W => number_i _ W hnum.life
  have l2 := numI_len hnum.life
  have H3 : Hid (∀ W, Calls Try.prog 39 #[.int .i64 seq] W fun e w' => Mk (numI seq) W w' e) := fun W => number_i _ W hnum.seq
  have l3 := numI_len hnum.seq
  have H4 : Hid (∀ W, Calls Try.prog 39 #[.int .i64 err] W fun e w' => Mk (numI err) W w' e) := fun W => number_i _ W hnum.err
  have l4 := numI_len hnum.err
  have hB : noteB ⟨4, epoch, vers, next, client, e, life, seq, err, op⟩ = (4 : Int) :: (numI client ++ (numI life ++ (numI seq ++ numI err))) := rfl
  rw [hB]
  obtain ⟨N1, hN1⟩ : ∃ x, numI client = x := ⟨_, rfl⟩
  rw [hN1] at H1 l1 ⊢
  obtain ⟨N2, hN2⟩ : ∃ x, numI life = x := ⟨_, rfl⟩
  rw [hN2] at H2 l2 ⊢
  obtain ⟨N3, hN3⟩ : ∃ x, numI seq = x := ⟨_, rfl⟩
  rw [hN3] at H3 l3 ⊢
  obtain ⟨N4, hN4⟩ : ∃ x, numI err = x := ⟨_, rfl⟩
  rw [hN4] at H4 l4 ⊢
  clear hB hP hnum hN1 hN2 hN3 hN4
  obtain ⟨A, hA⟩ : ∃ A, (#[.int .i64 4, .int .i64 epoch, .int .i64 vers, .int .i64 next, .int .i64 client, .int .i64 e.d, .string e.nm, .bool e.neg, .int .i64 e.id, .int .i64 e.kind, .int .i64 e.mode, .string e.tg, .int .i64 life, .int .i64 seq, .int .i64 err, .int .i64 op.kind, .int .i64 op.dir, .string op.nm, .int .i64 op.dst, .string op.new, .int .i64 op.mode, .string op.tg] : Array Value) = A := ⟨_, rfl⟩
  have HPl2 : Hid (∀ W2, Calls Try.prog 62 #[.agg A] W2 fun e w' => e = .returned (.bool true) ∧ Below W2.heap.size W2 w') := by rw [← hA]; exact HPl.out
  obtain ⟨W, hW⟩ : ∃ W, w.alloc (.cells A 48) = W := ⟨_, rfl⟩
  have hb := boxB hW
  have HBx : Hid (W.heap[w.heap.size]? = some (.cells #[.int .i64 4, .int .i64 epoch, .int .i64 vers, .int .i64 next, .int .i64 client, .int .i64 e.d, .string e.nm, .bool e.neg, .int .i64 e.id, .int .i64 e.kind, .int .i64 e.mode, .string e.tg, .int .i64 life, .int .i64 seq, .int .i64 err, .int .i64 op.kind, .int .i64 op.dir, .string op.nm, .int .i64 op.dst, .string op.new, .int .i64 op.mode, .string op.tg] 48 (0, 0)) ∧ Below w.heap.size w W) := by rw [hA]; exact hb
  have nl := noteS_of hb.1 (by rw [← hA]; rfl)
  have HS : Hid (∀ w', Below W.heap.size W w' → w'.cell? ⟨w.heap.size, 0, none⟩ = some (.int .i64 4) ∧ w'.cell? ⟨w.heap.size, 4, none⟩ = some (.int .i64 client) ∧ w'.cell? ⟨w.heap.size, 12, none⟩ = some (.int .i64 life) ∧ w'.cell? ⟨w.heap.size, 13, none⟩ = some (.int .i64 seq) ∧ w'.cell? ⟨w.heap.size, 14, none⟩ = some (.int .i64 err)) := fun w' h' => by
    have n1 := hkeep HBx.out.1 h'
    exact ⟨by have y := cell_of n1 0; simpa using y, by have y := cell_of n1 4; simpa using y, by have y := cell_of n1 12; simpa using y, by have y := cell_of n1 13; simpa using y, by have y := cell_of n1 14; simpa using y⟩
  rw [hA]
  clear hA hb HPl
  go_enter Try.func32, Try.ntmps32
  go_upto_region 1 with fail
  clear hW
  go_upto_region 4 with (go_at_call 62; refine (HPl2.out W).mono ?_; rintro x w1 ⟨rfl, hb1⟩; have y0 := (HS.out w1 hb1).1)
  clear nl
  obtain ⟨V0, hV0⟩ : ∃ x, w1.alloc (.cells #[.int .u8 4] 5) = x := ⟨_, rfl⟩
  have p0 : OwnB V0 W.heap.size (.slice (some ⟨w1.heap.size, 0, none⟩) 1 1) [4] := by rw [← hV0]; exact (OwnB.new1 _ _ _ rfl).le hb1.size
  have g0 : Below W.heap.size W V0 := by rw [← hV0]; exact chainB hb1 (below_alloc _ _)
  have P0 : Hid (OwnB V0 W.heap.size (.slice (some ⟨w1.heap.size, 0, none⟩) 1 1) [4] ∧ Below W.heap.size W V0) := ⟨p0, g0⟩
  have u0 := (HS.out V0 g0).1
  have z4 := (HS.out V0 g0).2.1
  rw [hV0]
  clear hV0 p0 g0 y0
  go_wp2_with (first
    | (at_builtin; refine wpList_apy rfl _ _ rfl W.heap.size _ ((([4] ++ N1) ++ N2) ++ N3) rfl (P3.out.1.below b4) _ N4 rfl o4.out.rb (by simp; omega) (chainB P3.out.2 b4).size ?_; intro v4 V4 p4 f4 _; have g4 := (chainB P3.out.2 b4).trans f4; have P4 : Hid (OwnB V4 W.heap.size v4 (((([4] ++ N1) ++ N2) ++ N3) ++ N4) ∧ Below W.heap.size W V4) := ⟨p4, g4⟩; have u9 := (HS.out V4 g4).1; clear p4 f4 g4 b4 o4)
    | (go_at_call 39; refine (H4.out V3).mono ?_; rintro x w5 ⟨a4, q4, rfl, o4, b4⟩; clear z14)
    | (at_builtin; refine wpList_apy rfl _ _ rfl W.heap.size _ (([4] ++ N1) ++ N2) rfl (P2.out.1.below b3) _ N3 rfl o3.out.rb (by simp; omega) (chainB P2.out.2 b3).size ?_; intro v3 V3 p3 f3 _; have g3 := (chainB P2.out.2 b3).trans f3; have P3 : Hid (OwnB V3 W.heap.size v3 ((([4] ++ N1) ++ N2) ++ N3) ∧ Below W.heap.size W V3) := ⟨p3, g3⟩; have z14 := (HS.out V3 g3).2.2.2.2; clear p3 f3 g3 b3 o3)
    | (go_at_call 39; refine (H3.out V2).mono ?_; rintro x w4 ⟨a3, q3, rfl, o3, b3⟩; clear z13)
    | (at_builtin; refine wpList_apy rfl _ _ rfl W.heap.size _ ([4] ++ N1) rfl (P1.out.1.below b2) _ N2 rfl o2.out.rb (by simp; omega) (chainB P1.out.2 b2).size ?_; intro v2 V2 p2 f2 _; have g2 := (chainB P1.out.2 b2).trans f2; have P2 : Hid (OwnB V2 W.heap.size v2 (([4] ++ N1) ++ N2) ∧ Below W.heap.size W V2) := ⟨p2, g2⟩; have z13 := (HS.out V2 g2).2.2.2.1; clear p2 f2 g2 b2 o2)
    | (go_at_call 39; refine (H2.out V1).mono ?_; rintro x w3 ⟨a2, q2, rfl, o2, b2⟩; clear z12)
    | (at_builtin; refine wpList_apy rfl _ _ rfl W.heap.size _ [4] rfl (P0.out.1.below b1) _ N1 rfl o1.out.rb (by simp; omega) (chainB P0.out.2 b1).size ?_; intro v1 V1 p1 f1 _; have g1 := (chainB P0.out.2 b1).trans f1; have P1 : Hid (OwnB V1 W.heap.size v1 ([4] ++ N1) ∧ Below W.heap.size W V1) := ⟨p1, g1⟩; have z12 := (HS.out V1 g1).2.2.1; clear p1 f1 g1 b1 o1)
    | (go_at_call 39; refine (H1.out V0).mono ?_; rintro x w2 ⟨a1, q1, rfl, o1, b1⟩; clear z4 u0))
  have e9 : (((([4] ++ N1) ++ N2) ++ N3) ++ N4) = (4 : Int) :: (N1 ++ (N2 ++ (N3 ++ N4))) := by simp
  have h9 := P4.out.1
  rw [e9] at h9
  obtain ⟨a9, q9, rfl⟩ := owns_len h9
  go_ret2
  exact ⟨a9, q9, rfl, h9.le HBx.out.2.size, chainB HBx.out.2 P4.out.2⟩
set_option maxRecDepth 20000 in
set_option maxHeartbeats 8000000 in
theorem packd_5 (epoch vers next client : Int) (e : En) (life seq err : Int) (op : Opn) (w : World) (hP : noteOk ⟨5, epoch, vers, next, client, e, life, seq, err, op⟩) : Calls Try.prog 32 #[.agg #[.int .i64 5, .int .i64 epoch, .int .i64 vers, .int .i64 next, .int .i64 client, .int .i64 e.d, .string e.nm, .bool e.neg, .int .i64 e.id, .int .i64 e.kind, .int .i64 e.mode, .string e.tg, .int .i64 life, .int .i64 seq, .int .i64 err, .int .i64 op.kind, .int .i64 op.dir, .string op.nm, .int .i64 op.dst, .string op.new, .int .i64 op.mode, .string op.tg]] w fun x w' => ∃ a c, x = .returned (.tuple #[.slice a (noteB ⟨5, epoch, vers, next, client, e, life, seq, err, op⟩).length c, .int .i64 0]) ∧ OwnB w' w.heap.size (.slice a (noteB ⟨5, epoch, vers, next, client, e, life, seq, err, op⟩).length c) (noteB ⟨5, epoch, vers, next, client, e, life, seq, err, op⟩) ∧ Below w.heap.size w w' := by
  have hnum := hP.2.1
  have HPl : Hid (∀ W2, Calls Try.prog 62 #[.agg (Nt.arr ⟨5, epoch, vers, next, client, e, life, seq, err, op⟩)] W2 fun e w' => e = .returned (.bool true) ∧ Below W2.heap.size W2 w') := fun W2 => by have := plainNote_d ⟨5, epoch, vers, next, client, e, life, seq, err, op⟩ W2; rw [(plainN_iff _).2 hP] at this; exact this
  have H1 : Hid (∀ W, Calls Try.prog 39 #[.int .i64 client] W fun e w' => Mk (numI client) W w' e) := fun W => number_i _ W hnum.client
  have l1 := numI_len hnum.client
  have H2 : Hid (∀ W, Calls Try.prog 39 #[.int .i64 life] W fun e w' => Mk (numI life) W w' e) := fun W => number_i _ W hnum.life
  have l2 := numI_len hnum.life
  have H3 : Hid (∀ W, Calls Try.prog 39 #[.int .i64 seq] W fun e w' => Mk (numI seq) W w' e) := fun W => number_i _ W hnum.seq
  have l3 := numI_len hnum.seq
  have H4 : Hid (∀ W, Calls Try.prog 39 #[.int .i64 err] W fun e w' => Mk (numI err) W w' e) := fun W => number_i _ W hnum.err
  have l4 := numI_len hnum.err
  have hop : opOk op := by
    rcases hP.2.2 with h | h | h | h | h
    · simp at h
    · simp at h
    · simp at h
    · simp at h
    · exact h.2
  have H5 : Hid (∀ W, Calls Try.prog 40 #[.agg #[.int .i64 op.kind, .int .i64 op.dir, .string op.nm, .int .i64 op.dst, .string op.new, .int .i64 op.mode, .string op.tg]] W fun x w' => Mk (opB op) W w' x) := fun W => op_d op W hop
  have l5 : (opB op).length ≤ 1000 := opB_1000 hop
  have hB : noteB ⟨5, epoch, vers, next, client, e, life, seq, err, op⟩ = (5 : Int) :: ((numI client ++ (numI life ++ (numI seq ++ numI err))) ++ opB op) := rfl
  rw [hB]
  obtain ⟨N1, hN1⟩ : ∃ x, numI client = x := ⟨_, rfl⟩
  rw [hN1] at H1 l1 ⊢
  obtain ⟨N2, hN2⟩ : ∃ x, numI life = x := ⟨_, rfl⟩
  rw [hN2] at H2 l2 ⊢
  obtain ⟨N3, hN3⟩ : ∃ x, numI seq = x := ⟨_, rfl⟩
  rw [hN3] at H3 l3 ⊢
  obtain ⟨N4, hN4⟩ : ∃ x, numI err = x := ⟨_, rfl⟩
  rw [hN4] at H4 l4 ⊢
  obtain ⟨N5, hN5⟩ : ∃ x, opB op = x := ⟨_, rfl⟩
  rw [hN5] at H5 l5 ⊢
  clear hB hP hnum hN1 hN2 hN3 hN4 hN5 hop
  obtain ⟨A, hA⟩ : ∃ A, (#[.int .i64 5, .int .i64 epoch, .int .i64 vers, .int .i64 next, .int .i64 client, .int .i64 e.d, .string e.nm, .bool e.neg, .int .i64 e.id, .int .i64 e.kind, .int .i64 e.mode, .string e.tg, .int .i64 life, .int .i64 seq, .int .i64 err, .int .i64 op.kind, .int .i64 op.dir, .string op.nm, .int .i64 op.dst, .string op.new, .int .i64 op.mode, .string op.tg] : Array Value) = A := ⟨_, rfl⟩
  have HPl2 : Hid (∀ W2, Calls Try.prog 62 #[.agg A] W2 fun e w' => e = .returned (.bool true) ∧ Below W2.heap.size W2 w') := by rw [← hA]; exact HPl.out
  obtain ⟨W, hW⟩ : ∃ W, w.alloc (.cells A 48) = W := ⟨_, rfl⟩
  have hb := boxB hW
  have HBx : Hid (W.heap[w.heap.size]? = some (.cells #[.int .i64 5, .int .i64 epoch, .int .i64 vers, .int .i64 next, .int .i64 client, .int .i64 e.d, .string e.nm, .bool e.neg, .int .i64 e.id, .int .i64 e.kind, .int .i64 e.mode, .string e.tg, .int .i64 life, .int .i64 seq, .int .i64 err, .int .i64 op.kind, .int .i64 op.dir, .string op.nm, .int .i64 op.dst, .string op.new, .int .i64 op.mode, .string op.tg] 48 (0, 0)) ∧ Below w.heap.size w W) := by rw [hA]; exact hb
  have nl := noteS_of hb.1 (by rw [← hA]; rfl)
  have HS : Hid (∀ w', Below W.heap.size W w' → w'.cell? ⟨w.heap.size, 0, none⟩ = some (.int .i64 5) ∧ w'.cell? ⟨w.heap.size, 4, none⟩ = some (.int .i64 client) ∧ w'.cell? ⟨w.heap.size, 12, none⟩ = some (.int .i64 life) ∧ w'.cell? ⟨w.heap.size, 13, none⟩ = some (.int .i64 seq) ∧ w'.cell? ⟨w.heap.size, 14, none⟩ = some (.int .i64 err) ∧ w'.cell? ⟨w.heap.size, 15, none⟩ = some (.int .i64 op.kind) ∧ w'.cell? ⟨w.heap.size, 16, none⟩ = some (.int .i64 op.dir) ∧ w'.cell? ⟨w.heap.size, 17, none⟩ = some (.string op.nm) ∧ w'.cell? ⟨w.heap.size, 18, none⟩ = some (.int .i64 op.dst) ∧ w'.cell? ⟨w.heap.size, 19, none⟩ = some (.string op.new) ∧ w'.cell? ⟨w.heap.size, 20, none⟩ = some (.int .i64 op.mode) ∧ w'.cell? ⟨w.heap.size, 21, none⟩ = some (.string op.tg)) := fun w' h' => by
    have n1 := hkeep HBx.out.1 h'
    exact ⟨by have y := cell_of n1 0; simpa using y, by have y := cell_of n1 4; simpa using y, by have y := cell_of n1 12; simpa using y, by have y := cell_of n1 13; simpa using y, by have y := cell_of n1 14; simpa using y, by have y := cell_of n1 15; simpa using y, by have y := cell_of n1 16; simpa using y, by have y := cell_of n1 17; simpa using y, by have y := cell_of n1 18; simpa using y, by have y := cell_of n1 19; simpa using y, by have y := cell_of n1 20; simpa using y, by have y := cell_of n1 21; simpa using y⟩
  rw [hA]
  clear hA hb HPl
  go_enter Try.func32, Try.ntmps32
  go_upto_region 1 with fail
  clear hW
  go_upto_region 4 with (go_at_call 62; refine (HPl2.out W).mono ?_; rintro x w1 ⟨rfl, hb1⟩; have y0 := (HS.out w1 hb1).1)
  clear nl
  obtain ⟨V0, hV0⟩ : ∃ x, w1.alloc (.cells #[.int .u8 5] 5) = x := ⟨_, rfl⟩
  have p0 : OwnB V0 W.heap.size (.slice (some ⟨w1.heap.size, 0, none⟩) 1 1) [5] := by rw [← hV0]; exact (OwnB.new1 _ _ _ rfl).le hb1.size
  have g0 : Below W.heap.size W V0 := by rw [← hV0]; exact chainB hb1 (below_alloc _ _)
  have P0 : Hid (OwnB V0 W.heap.size (.slice (some ⟨w1.heap.size, 0, none⟩) 1 1) [5] ∧ Below W.heap.size W V0) := ⟨p0, g0⟩
  have u0 := (HS.out V0 g0).1
  have z4 := (HS.out V0 g0).2.1
  rw [hV0]
  clear hV0 p0 g0 y0
  go_wp2_with (first
    | (at_builtin; refine wpList_apy rfl _ _ rfl W.heap.size _ (((([5] ++ N1) ++ N2) ++ N3) ++ N4) rfl (P4.out.1.below b5) _ N5 rfl o5.out.rb (by simp; omega) (chainB P4.out.2 b5).size ?_; intro v5 V5 p5 f5 _; have g5 := (chainB P4.out.2 b5).trans f5; have P5 : Hid (OwnB V5 W.heap.size v5 ((((([5] ++ N1) ++ N2) ++ N3) ++ N4) ++ N5) ∧ Below W.heap.size W V5) := ⟨p5, g5⟩; clear p5 f5 g5 b5 o5)
    | (go_at_call 40; refine (H5.out V4).mono ?_; rintro x w6 ⟨a5, q5, rfl, o5, b5⟩; clear z15 z16 z17 z18 z19 z20 z21)
    | (at_builtin; refine wpList_apy rfl _ _ rfl W.heap.size _ ((([5] ++ N1) ++ N2) ++ N3) rfl (P3.out.1.below b4) _ N4 rfl o4.out.rb (by simp; omega) (chainB P3.out.2 b4).size ?_; intro v4 V4 p4 f4 _; have g4 := (chainB P3.out.2 b4).trans f4; have P4 : Hid (OwnB V4 W.heap.size v4 (((([5] ++ N1) ++ N2) ++ N3) ++ N4) ∧ Below W.heap.size W V4) := ⟨p4, g4⟩; have z15 := (HS.out V4 g4).2.2.2.2.2.1; have z16 := (HS.out V4 g4).2.2.2.2.2.2.1; have z17 := (HS.out V4 g4).2.2.2.2.2.2.2.1; have z18 := (HS.out V4 g4).2.2.2.2.2.2.2.2.1; have z19 := (HS.out V4 g4).2.2.2.2.2.2.2.2.2.1; have z20 := (HS.out V4 g4).2.2.2.2.2.2.2.2.2.2.1; have z21 := (HS.out V4 g4).2.2.2.2.2.2.2.2.2.2.2; have u9 := (HS.out V4 g4).1; clear p4 f4 g4 b4 o4)
    | (go_at_call 39; refine (H4.out V3).mono ?_; rintro x w5 ⟨a4, q4, rfl, o4, b4⟩; clear z14)
    | (at_builtin; refine wpList_apy rfl _ _ rfl W.heap.size _ (([5] ++ N1) ++ N2) rfl (P2.out.1.below b3) _ N3 rfl o3.out.rb (by simp; omega) (chainB P2.out.2 b3).size ?_; intro v3 V3 p3 f3 _; have g3 := (chainB P2.out.2 b3).trans f3; have P3 : Hid (OwnB V3 W.heap.size v3 ((([5] ++ N1) ++ N2) ++ N3) ∧ Below W.heap.size W V3) := ⟨p3, g3⟩; have z14 := (HS.out V3 g3).2.2.2.2.1; clear p3 f3 g3 b3 o3)
    | (go_at_call 39; refine (H3.out V2).mono ?_; rintro x w4 ⟨a3, q3, rfl, o3, b3⟩; clear z13)
    | (at_builtin; refine wpList_apy rfl _ _ rfl W.heap.size _ ([5] ++ N1) rfl (P1.out.1.below b2) _ N2 rfl o2.out.rb (by simp; omega) (chainB P1.out.2 b2).size ?_; intro v2 V2 p2 f2 _; have g2 := (chainB P1.out.2 b2).trans f2; have P2 : Hid (OwnB V2 W.heap.size v2 (([5] ++ N1) ++ N2) ∧ Below W.heap.size W V2) := ⟨p2, g2⟩; have z13 := (HS.out V2 g2).2.2.2.1; clear p2 f2 g2 b2 o2)
    | (go_at_call 39; refine (H2.out V1).mono ?_; rintro x w3 ⟨a2, q2, rfl, o2, b2⟩; clear z12)
    | (at_builtin; refine wpList_apy rfl _ _ rfl W.heap.size _ [5] rfl (P0.out.1.below b1) _ N1 rfl o1.out.rb (by simp; omega) (chainB P0.out.2 b1).size ?_; intro v1 V1 p1 f1 _; have g1 := (chainB P0.out.2 b1).trans f1; have P1 : Hid (OwnB V1 W.heap.size v1 ([5] ++ N1) ∧ Below W.heap.size W V1) := ⟨p1, g1⟩; have z12 := (HS.out V1 g1).2.2.1; clear p1 f1 g1 b1 o1)
    | (go_at_call 39; refine (H1.out V0).mono ?_; rintro x w2 ⟨a1, q1, rfl, o1, b1⟩; clear z4 u0))
  have e9 : ((((([5] ++ N1) ++ N2) ++ N3) ++ N4) ++ N5) = (5 : Int) :: ((N1 ++ (N2 ++ (N3 ++ N4))) ++ N5) := by simp
  have h9 := P5.out.1
  rw [e9] at h9
  obtain ⟨a9, q9, rfl⟩ := owns_len h9
  go_ret2
  exact ⟨a9, q9, rfl, h9.le HBx.out.2.size, chainB HBx.out.2 P5.out.2⟩
set_option maxRecDepth 20000 in
set_option maxHeartbeats 4000000 in
theorem packd_no (n : Nt) (w : World) (hP : plainN n = false) : Calls Try.prog 32 #[.agg n.arr] w fun x w' => x = .returned (.tuple #[.slice none 0 0, .int .i64 50]) ∧ Below w.heap.size w w' := by
  have HPl : Hid (∀ W2, Calls Try.prog 62 #[.agg n.arr] W2 fun e w' => e = .returned (.bool false) ∧ Below W2.heap.size W2 w') := fun W2 => by have := plainNote_d n W2; rw [hP] at this; exact this
  have hsz : n.arr.size = 22 := rfl
  obtain ⟨A, hA⟩ : ∃ x, n.arr = x := ⟨_, rfl⟩
  rw [hA] at HPl hsz ⊢
  obtain ⟨W, hW⟩ : ∃ W, w.alloc (.cells A 48) = W := ⟨_, rfl⟩
  have hb := boxB hW
  have HB : Hid (Below w.heap.size w W) := hb.2
  have nl := noteS_of hb.1 hsz
  clear hA hb hsz hP
  go_enter Try.func32, Try.ntmps32
  go_upto_region 1 with fail
  clear hW
  go_wp2_with (go_at_call 62; refine (HPl.out W).mono ?_; rintro x w1 ⟨rfl, hb1⟩)
  go_ret2
  exact ⟨rfl, chainB HB.out hb1⟩
theorem packd_yes (n : Nt) (w : World) (hP : noteOk n) : Calls Try.prog 32 #[.agg n.arr] w fun x w' => ∃ a c, x = .returned (.tuple #[.slice a (noteB n).length c, .int .i64 0]) ∧ OwnB w' w.heap.size (.slice a (noteB n).length c) (noteB n) ∧ Below w.heap.size w w' := by
  obtain ⟨kind, epoch, vers, next, client, e, life, seq, err, op⟩ := n
  have h5 := hP.2.2
  simp only [] at h5
  rcases h5 with rfl | rfl | rfl | h | h
  · exact packd_1 epoch vers next client e life seq err op w hP
  · exact packd_2 epoch vers next client e life seq err op w hP
  · exact packd_4 epoch vers next client e life seq err op w hP
  · obtain ⟨rfl, _⟩ := h
    exact packd_3 epoch vers next client e life seq err op w hP
  · obtain ⟨rfl, _⟩ := h
    exact packd_5 epoch vers next client e life seq err op w hP
end
end Go.Proofs.Ytekonakanieeaaa
