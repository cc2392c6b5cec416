/- What a walker knows of a key. -/
import Derived.Test.YtmndnjgbbpkidaaGreatJWLks27
namespace Go.Proofs.YtmndnjgbbpkidaaGreat
section
open Go.RowKit
attribute [local go_sem ↓ high] loadEn storeEn loadNd storeNd storeOu buildNd

theorem methF (g : Nat) (w : World) : (method 289 81 (.map (some g)) "vista/walk.tell").run Tryz.prog w = .ok (141, .map (some g)) w := by kernel_rfl
theorem methC (p : Nat) (w : World) : (method 289 84 (.agg #[.pointer (some ⟨p, 0, none⟩)]) "vista/walk.tell").run Tryz.prog w = .ok (142, .agg #[.pointer (some ⟨p, 0, none⟩)]) w := by kernel_rfl
set_option maxRecDepth 20000 in
set_option maxHeartbeats 4000000 in
theorem known_p {w0 w : World} {P : Pw} {wv uv : Value} {s : Ws} {l : Nat} {F : Nat → Prop} (k : Ky) (h : IsW w0 w P wv uv s l F) : Calls Tryz.prog 73 #[.pointer (some ⟨P.t, 0, none⟩), .agg #[.int .i64 k.d, .string k.nm]] w fun r w' => r = .returned (.tuple #[((knF P.fl P.cs k).getD zeroEn).agg, .bool (knF P.fl P.cs k).isSome]) ∧ Below w.heap.size w w' := by
  obtain ⟨W1, hW1⟩ : ∃ W, w.alloc (.cells #[.int .i64 k.d, .string k.nm] 29) = W := ⟨_, rfl⟩
  have b1 := boxO hW1
  obtain ⟨W2, hW2⟩ : ∃ W, W1.alloc (.cells zeroes7 52) = W := ⟨_, rfl⟩
  have b2 := boxO hW2
  have hb2 := chainB b1.2.1 b2.2.1
  have h2 := h.on' hb2
  have HS : Hid (∀ W, Below W2.heap.size W2 W → W.cell? ⟨w.heap.size, 0, none⟩ = some (.int .i64 k.d) ∧ W.cell? ⟨w.heap.size, 1, none⟩ = some (.string k.nm) ∧ W.heap[W1.heap.size]? = some (.cells zeroes7 52 (0, 0)) ∧ W.cell? ⟨P.gs, 0, none⟩ = some (.iface 81 (.map (some P.g))) ∧ W.cell? ⟨P.gs, 1, none⟩ = some (.iface 84 (.agg #[.pointer (some ⟨P.p, 0, none⟩)]))) := fun W hW => by
    have q1 := hkeep (hkeep b1.1 b2.2.1) hW
    have q2 := (h2.on' hW).src
    exact ⟨by rw [cell_of q1]; rfl, by rw [cell_of q1]; rfl, hkeep b2.1 hW, by rw [cell_of q2]; rfl, by rw [cell_of q2]; rfl⟩
  have HF : Hid (∀ W, Below W2.heap.size W2 W → Calls Tryz.prog 141 #[.map (some P.g), .agg #[.int .i64 k.d, .string k.nm]] W fun r w' => r = .returned (.tuple #[((fget P.fl k).getD zeroEn).agg, .bool (fget P.fl k).isSome]) ∧ Below W.heap.size W w') := fun W hW => tellF_p P.g P.fl k W (h2.on' hW).fr
  have HC : Hid (∀ W, Below W2.heap.size W2 W → Calls Tryz.prog 142 #[.agg #[.pointer (some ⟨P.p, 0, none⟩)], .agg #[.int .i64 k.d, .string k.nm]] W fun r w' => r = .returned (.tuple #[((knC P.cs k).getD zeroEn).agg, .bool (knC P.cs k).isSome]) ∧ Below W.heap.size W w') := fun W hW => tellC_p P.p P.c P.cs k W (h2.on' hW).ca h2.say
  have HT : Hid (∀ W (x : En), Below W2.heap.size W2 W → ∃ Z, (enSt (.pointer (some ⟨W1.heap.size, 0, none⟩)) x.agg).run Tryz.prog W = .ok () Z ∧ Z.heap[W1.heap.size]? = some (.cells x.vals.toArray 52 (0, 0)) ∧ Below w.heap.size w Z) := fun W x hW => by
    have z := (HS.out W hW).2.2.1
    have e1 := chainB hb2 hW
    exact ⟨_, enSt_of z rfl rfl, setRow_heap _ _ _ _ _ _ z, (onlyR _ _ _).below e1 e1.size fun k e => by have := b1.2.2; omega⟩
  have c0 := h2.cells.1
  have bx := box7
  have hB0 : Below W2.heap.size W2 W2 := Below.refl _ _
  have e1 : w.heap.size + 1 = W1.heap.size := b1.2.2.symm
  have e2 : W1.heap.size + 1 = W2.heap.size := b2.2.2.symm
  clear h h2 b1 b2 hb2
  go_enter Tryz.func73, Tryz.ntmps73
  go_wp2
  go_loopw [15] (fun i wr => ∃ j : Nat, j ≤ 2 ∧ i = .int .i64 j ∧ Hid (Below W2.heap.size W2 wr ∧ (1 ≤ j → fget P.fl k = none) ∧ (2 ≤ j → knC P.cs k = none))) (fun i _ => 2 - (intOf i).toNat)
  case atStart => exact ⟨0, by omega, rfl, hB0, fun h => by omega, fun h => by omega⟩
  case round =>
    clear hB0
    obtain ⟨j, hj, rfl, HJ⟩ := hrel
    obtain ⟨q0, q1, -, q3, q4⟩ := HS.out wr HJ.out.1
    have hcase : j = 0 ∨ j = 1 ∨ j = 2 := by omega
    have m0 := methF P.g
    have m1 := methC P.p
    rcases hcase with rfl | rfl | rfl
    · have HFw : Hid (Calls Tryz.prog 141 #[.map (some P.g), .agg #[.int .i64 k.d, .string k.nm]] wr fun r w' => r = .returned (.tuple #[((fget P.fl k).getD zeroEn).agg, .bool (fget P.fl k).isSome]) ∧ Below wr.heap.size wr w') := HF.out wr HJ.out.1
      obtain ⟨og, hg⟩ : ∃ o, fget P.fl k = o := ⟨_, rfl⟩
      cases og with
      | some x =>
        rw [hg] at HFw
        have HKn : Hid (knF P.fl P.cs k = some x) := by unfold knF; rw [hg]; rfl
        simp only [Option.getD_some, Option.isSome_some] at HFw
        clear hg m1
        go_wp2_with (go_at_call 141; refine HFw.out.mono ?_; rintro r W3 ⟨rfl, hb⟩; obtain ⟨V, hV⟩ : ∃ V, W3.alloc (.cells x.vals.toArray 52) = V := ⟨_, rfl⟩; have bV := boxO hV; have lV := enLd_at (cells7_of bV.1); obtain ⟨Z, st, HZ⟩ := HT.out V x (chainB HJ.out.1 (chainB hb bV.2.1)); have HZ' : Hid (Z.heap[W1.heap.size]? = some (.cells x.vals.toArray 52 (0, 0)) ∧ Below w.heap.size w Z) := HZ; clear hb bV HZ)
        (try simp only [Exit.inBlock, Exit.then])
        refine bodyPost_ret (ret_entry2 rfl _ _ W1.heap.size rfl HZ'.out.1) rfl ?_
        exact ⟨by rw [HKn.out]; rfl, HZ'.out.2⟩
      | none =>
        rw [hg] at HFw
        simp only [Option.getD_none, Option.isSome_none] at HFw
        have HG : Hid (fget P.fl k = none) := hg
        clear hg m1
        go_wp2_with (go_at_call 141; refine HFw.out.mono ?_; rintro r W3 ⟨rfl, hb⟩; obtain ⟨V, hV⟩ : ∃ V, W3.alloc (.cells zeroEn.vals.toArray 52) = V := ⟨_, rfl⟩; have bV := boxO hV; have HV : Hid (Below W2.heap.size W2 V) := chainB HJ.out.1 (chainB hb bV.2.1); clear hb bV)
        go_roundw
        case rel => exact ⟨1, by omega, rfl, HV.out, fun _ => HG.out, fun h => by omega⟩
        case measure => simp [intOf]
    · have HCw : Hid (Calls Tryz.prog 142 #[.agg #[.pointer (some ⟨P.p, 0, none⟩)], .agg #[.int .i64 k.d, .string k.nm]] wr fun r w' => r = .returned (.tuple #[((knC P.cs k).getD zeroEn).agg, .bool (knC P.cs k).isSome]) ∧ Below wr.heap.size wr w') := HC.out wr HJ.out.1
      have hg0 := HJ.out.2.1 (Nat.le_refl _)
      have hkn : knF P.fl P.cs k = knC P.cs k := by unfold knF; rw [hg0]
      have HG0 : Hid (fget P.fl k = none) := hg0
      clear hg0
      obtain ⟨og, hg⟩ : ∃ o, knC P.cs k = o := ⟨_, rfl⟩
      cases og with
      | some x =>
        rw [hg] at HCw hkn
        have HKn : Hid (knF P.fl P.cs k = some x) := hkn
        simp only [Option.getD_some, Option.isSome_some] at HCw
        clear hg hkn m0
        go_wp2_with (go_at_call 142; refine HCw.out.mono ?_; rintro r W3 ⟨rfl, hb⟩; obtain ⟨V, hV⟩ : ∃ V, W3.alloc (.cells x.vals.toArray 52) = V := ⟨_, rfl⟩; have bV := boxO hV; have lV := enLd_at (cells7_of bV.1); obtain ⟨Z, st, HZ⟩ := HT.out V x (chainB HJ.out.1 (chainB hb bV.2.1)); have HZ' : Hid (Z.heap[W1.heap.size]? = some (.cells x.vals.toArray 52 (0, 0)) ∧ Below w.heap.size w Z) := HZ; clear hb bV HZ)
        (try simp only [Exit.inBlock, Exit.then])
        refine bodyPost_ret (ret_entry2 rfl _ _ W1.heap.size rfl HZ'.out.1) rfl ?_
        exact ⟨by rw [HKn.out]; rfl, HZ'.out.2⟩
      | none =>
        rw [hg] at HCw
        simp only [Option.getD_none, Option.isSome_none] at HCw
        have HG : Hid (knC P.cs k = none) := hg
        clear hg m0 hkn
        go_wp2_with (go_at_call 142; refine HCw.out.mono ?_; rintro r W3 ⟨rfl, hb⟩; obtain ⟨V, hV⟩ : ∃ V, W3.alloc (.cells zeroEn.vals.toArray 52) = V := ⟨_, rfl⟩; have bV := boxO hV; have HV : Hid (Below W2.heap.size W2 V) := chainB HJ.out.1 (chainB hb bV.2.1); clear hb bV)
        go_roundw
        case rel => exact ⟨2, by omega, rfl, HV.out, fun _ => HG0.out, fun _ => HG.out⟩
        case measure => simp [intOf]
    · have hkn : knF P.fl P.cs k = none := by unfold knF; rw [HJ.out.2.1 (by omega)]; exact HJ.out.2.2 (Nat.le_refl _)
      have HKn : Hid (knF P.fl P.cs k = none) := hkn
      obtain ⟨Z, st, HZ⟩ := HT.out wr zeroEn HJ.out.1
      have st2 : (enSt (.pointer (some ⟨W1.heap.size, 0, none⟩)) (.agg #[.int .i64 0, .string ⟨#[]⟩, .bool false, .int .i64 0, .int .i64 0, .int .i64 0, .string ⟨#[]⟩])).run Tryz.prog wr = .ok () Z := st
      have HZ' : Hid (Z.heap[W1.heap.size]? = some (.cells zeroEn.vals.toArray 52 (0, 0)) ∧ Below w.heap.size w Z) := HZ
      clear HZ st hkn m0 m1
      go_wp2
      (try simp only [Exit.inBlock, Exit.then])
      refine bodyPost_ret (ret_entry2 rfl _ _ W1.heap.size rfl HZ'.out.1) rfl ?_
      exact ⟨by rw [HKn.out]; rfl, HZ'.out.2⟩
end
section
open Go.RowKit
attribute [local go_sem ↓ high] loadEn storeEn loadNd storeNd storeOu buildNd

section
variable {w0 w : World} {P : Pw} {wv uv : Value} {s : Ws} {l : Nat} {F : Nat → Prop}
theorem IsW.setL (h : IsW w0 w P wv uv s l F) (l' : Nat) : IsW w0 (w.setCell ⟨P.t, 5, none⟩ (.int .i64 l')) P wv uv s l' F ∧ ∀ b, F b → (w.setCell ⟨P.t, 5, none⟩ (.int .i64 l')).heap[b]? = w.heap[b]? := by
  have hO : Only (· = P.t) w (w.setCell ⟨P.t, 5, none⟩ (.int .i64 l')) := only1 _ _ _ _
  exact h.step (hO.mono fun b hb => .inl hb) (setCell_heap h.head) (owns_moved h.way fun b hb => hO.block b (World.ownsRow.lt h.way b hb).2 (by have := (World.ownsRow.lt h.way b hb).1; omega)) (owns_moved h.used fun b hb => hO.block b (World.ownsRow.lt h.used b hb).2 (by have := (World.ownsRow.lt h.used b hb).1; omega)) h.ne h.some1 (fun b hb => .inl hb) (fun b hb => .inl hb)
theorem IsW.setD (h : IsW w0 w P wv uv s l F) (d : Bool) : IsW w0 (w.setCell ⟨P.t, 3, none⟩ (.bool d)) P wv uv ⟨s.way, s.used, d⟩ l F ∧ ∀ b, F b → (w.setCell ⟨P.t, 3, none⟩ (.bool d)).heap[b]? = w.heap[b]? := by
  have hO : Only (· = P.t) w (w.setCell ⟨P.t, 3, none⟩ (.bool d)) := only1 _ _ _ _
  exact h.step (s' := ⟨s.way, s.used, d⟩) (hO.mono fun b hb => .inl hb) (setCell_heap h.head) (owns_moved h.way fun b hb => hO.block b (World.ownsRow.lt h.way b hb).2 (by have := (World.ownsRow.lt h.way b hb).1; omega)) (owns_moved h.used fun b hb => hO.block b (World.ownsRow.lt h.used b hb).2 (by have := (World.ownsRow.lt h.used b hb).1; omega)) h.ne h.some1 (fun b hb => .inl hb) (fun b hb => .inl hb)
end
set_option maxRecDepth 20000 in
set_option maxHeartbeats 4000000 in
theorem meets_p {w0 w : World} {P : Pw} {wv uv : Value} {s : Ws} {l : Nat} {F : Nat → Prop} (n : Nd) (a : Option Addr) (k c : Nat) (h : IsW w0 w P wv uv s l F) : Calls Tryz.prog 74 #[.pointer (some ⟨P.t, 0, none⟩), .agg #[.int .i64 n.id, .int .i64 n.kind, .int .i64 n.mode, .string n.tg], .slice a k c] w fun r w' => r = .returned (.bool (decide (n.kind = 3) && (decide (0 < k) || s.dir || P.fol))) ∧ Below w.heap.size w w' := by
  obtain ⟨W1, hW1⟩ : ∃ W, w.alloc (.cells #[.int .i64 n.id, .int .i64 n.kind, .int .i64 n.mode, .string n.tg] 32) = W := ⟨_, rfl⟩
  have b1 := boxO hW1
  have q1 : W1.cell? ⟨w.heap.size, 1, none⟩ = some (.int .i64 n.kind) := by rw [cell_of b1.1]; rfl
  obtain ⟨-, -, -, c3, c4, -, -⟩ := (h.on' b1.2.1).cells
  have HB : Hid (Below w.heap.size w W1) := b1.2.1
  obtain ⟨d, hd⟩ : ∃ d, s.dir = d := ⟨_, rfl⟩
  obtain ⟨f, hf⟩ : ∃ d, P.fol = d := ⟨_, rfl⟩
  rw [hd] at c3
  rw [hf] at c4
  rw [hd, hf]
  clear h b1 hd hf
  by_cases h3 : n.kind = 3
  · have h3b : (n.kind == 3) = true := by rw [h3]; rfl
    have h3d : decide (n.kind = 3) = true := decide_eq_true h3
    rw [h3d, Bool.true_and]
    by_cases hk : 0 < k
    · have hkz : (0 : Int) < (k : Int) := by omega
      rw [decide_eq_true hk, Bool.true_or, Bool.true_or]
      clear h3 h3d
      go_enter Tryz.func74, Tryz.ntmps74
      go_wp2
      go_ret
      exact ⟨rfl, HB.out⟩
    · have hkz : ¬ (0 : Int) < (k : Int) := by omega
      rw [decide_eq_false hk, Bool.false_or]
      clear h3 h3d
      cases d with
      | true =>
        rw [Bool.true_or]
        go_enter Tryz.func74, Tryz.ntmps74
        go_wp2
        go_ret
        exact ⟨rfl, HB.out⟩
      | false =>
        rw [Bool.false_or]
        go_enter Tryz.func74, Tryz.ntmps74
        go_wp2
        go_ret
        exact ⟨rfl, HB.out⟩
  · have h3b : (n.kind == 3) = false := beq_eq_false_iff_ne.2 h3
    have h3d : decide (n.kind = 3) = false := decide_eq_false h3
    rw [h3d, Bool.false_and]
    clear h3 h3d
    go_enter Tryz.func74, Tryz.ntmps74
    go_wp2
    go_ret
    exact ⟨rfl, HB.out⟩
set_option maxRecDepth 20000 in
set_option maxHeartbeats 4000000 in
theorem meet_loop {w0 w : World} {P : Pw} {wv uv : Value} {s : Ws} {F : Nat → Prop} (n : Nd) (a : Option Addr) (k c : Nat) (h : IsW w0 w P wv uv s 0 F) : Calls Tryz.prog 75 #[.pointer (some ⟨P.t, 0, none⟩), .agg #[.int .i64 n.id, .int .i64 n.kind, .int .i64 n.mode, .string n.tg], .slice a k c] w fun r w' => r = .returned (.tuple #[.slice none 0 0, .int .i64 49]) ∧ Below w.heap.size w w' := by
  obtain ⟨W1, hW1⟩ : ∃ W, w.alloc (.cells #[.int .i64 n.id, .int .i64 n.kind, .int .i64 n.mode, .string n.tg] 32) = W := ⟨_, rfl⟩
  have b1 := boxO hW1
  obtain ⟨-, -, -, -, -, c5, -⟩ := (h.on' b1.2.1).cells
  have c5' : W1.cell? ⟨P.t, 5, none⟩ = some (.int .i64 0) := c5
  have HB : Hid (Below w.heap.size w W1) := b1.2.1
  clear h b1 c5
  go_enter Tryz.func75, Tryz.ntmps75
  go_wp2
  go_ret2
  exact ⟨rfl, HB.out⟩
/-- what meet leaves -/
def MetR (w0 w w' : World) (P : Pw) (s : Ws) (l : Nat) (F : Nat → Prop) (v : Value) (L : List ByteArray) : Prop := Own w' w.heap.size v L ∧ ∃ wv uv, IsW w0 w' P wv uv s l (fun b => F b ∨ v.ownBlock = some b) ∧ (∀ b, F b → w'.heap[b]? = w.heap[b]?) ∧ w.heap.size ≤ w'.heap.size
set_option maxRecDepth 20000 in
set_option maxHeartbeats 8000000 in
theorem meet_bad {w0 w : World} {P : Pw} {wv uv : Value} {s : Ws} {l : Nat} {F : Nat → Prop} (n : Nd) (a : Option Addr) (k c : Nat) (h : IsW w0 w P wv uv s (l + 1) F) (hl : l + 1 ≤ 8) (hE : cutE n.tg (fullB n.tg) ≠ 0) : Calls Tryz.prog 75 #[.pointer (some ⟨P.t, 0, none⟩), .agg #[.int .i64 n.id, .int .i64 n.kind, .int .i64 n.mode, .string n.tg], .slice a k c] w fun r w' => r = .returned (.tuple #[.slice none 0 0, .int .i64 (cutE n.tg (fullB n.tg))]) ∧ AfW w0 w w' P s l F := by
  obtain ⟨W1, hW1⟩ : ∃ W, w.alloc (.cells #[.int .i64 n.id, .int .i64 n.kind, .int .i64 n.mode, .string n.tg] 32) = W := ⟨_, rfl⟩
  have b1 := boxO hW1
  have h1 := h.on b1.2.1
  obtain ⟨-, -, -, -, -, c5, fz⟩ := h1.cells
  obtain ⟨L1, hL1⟩ : ∃ L, l + 1 = L := ⟨_, rfl⟩
  have c5' : W1.cell? ⟨P.t, 5, none⟩ = some (.int .i64 L1) := by rw [← hL1]; exact c5
  have hn0 : ((L1 : Int) == 0) = false := beq_eq_false_iff_ne.2 (by omega)
  have hsub : IntKind.i64.wrap ((L1 : Int) - 1) = (l : Int) := by
    rw [show (L1 : Int) - 1 = (l : Int) by omega]; exact IntWalk.i64_in _ (by omega)
  obtain ⟨W2, hW2⟩ : ∃ W, W1.setCell ⟨P.t, 5, none⟩ (.int .i64 l) = W := ⟨_, rfl⟩
  obtain ⟨h2, k2⟩ := h1.setL l
  rw [hW2] at h2 k2
  have q3 : W2.cell? ⟨w.heap.size, 3, none⟩ = some (.string n.tg) := by
    rw [cell_of ((k2 w.heap.size (.inr ⟨Nat.le_refl _, by omega⟩)).trans b1.1)]; rfl
  obtain ⟨E, hEE⟩ : ∃ E, cutE n.tg (fullB n.tg) = E := ⟨_, rfl⟩
  rw [hEE] at hE ⊢
  have HTg : Hid (∀ W, Calls Tryz.prog 89 #[.string n.tg] W fun e w' => ∃ v W' D, e = .returned (.tuple #[v, .bool W', .bool D, .int .i64 E]) ∧ Below W.heap.size W w') := fun W => by
    refine (target_any n.tg W).mono ?_
    rintro e w' ⟨v, rfl, -, hb⟩
    exact ⟨v, _, _, by rw [hEE], hb⟩
  have hEb : (E != 0) = true := by simpa using hE
  have HZ : Hid (∀ W, Below W2.heap.size W2 W → AfW w0 w W P s l F) := fun W hW => ⟨wv, uv, (h2.on' hW).mono fun b hb => .inl hb, fun b hb => (hW.block b (h2.fk b (.inl hb)).1).trans ((k2 b (.inl hb)).trans (b1.2.1.block b (h.fk b hb).1)), by have := hW.size; have : W1.heap.size ≤ W2.heap.size := (by rw [← hW2]; exact (only1 W1 P.t 5 (.int .i64 l)).size); omega⟩
  clear h h1 h2 b1 k2 c5 hL1 hEE hE hl
  go_enter Tryz.func75, Tryz.ntmps75
  go_wp2_with (go_at_call 89; refine (HTg.out _).mono ?_; rintro r W3 ⟨v3, T3, D3, rfl, hb⟩; have HY : Hid (AfW w0 w W3 P s l F) := HZ.out W3 hb; clear hb)
  go_ret2
  exact ⟨rfl, HY.out⟩
end
section
open Go.RowKit
attribute [local go_sem ↓ high] loadEn storeEn loadNd storeNd storeOu buildNd

set_option maxRecDepth 20000 in
set_option maxHeartbeats 16000000 in
theorem meet_ok {w0 w : World} {P : Pw} {wv uv : Value} {s : Ws} {l : Nat} {F : Nat → Prop} (n : Nd) (a : Option Addr) (k c : Nat) (h : IsW w0 w P wv uv s (l + 1) F) (hl : l + 1 ≤ 8) (hE : cutE n.tg (fullB n.tg) = 0) : Calls Tryz.prog 75 #[.pointer (some ⟨P.t, 0, none⟩), .agg #[.int .i64 n.id, .int .i64 n.kind, .int .i64 n.mode, .string n.tg], .slice a k c] w fun r w' => ∃ v, r = .returned (.tuple #[v, .int .i64 0]) ∧ MetR w0 w w' P (s.met n.tg (decide (k = 0))) l F v (cutL n.tg (fullB n.tg)) := by
  obtain ⟨W1, hW1⟩ : ∃ W, w.alloc (.cells #[.int .i64 n.id, .int .i64 n.kind, .int .i64 n.mode, .string n.tg] 32) = W := ⟨_, rfl⟩
  have b1 := boxO hW1
  have h1 := h.on b1.2.1
  obtain ⟨-, -, -, -, -, c5, fz⟩ := h1.cells
  obtain ⟨L1, hL1⟩ : ∃ L, l + 1 = L := ⟨_, rfl⟩
  have c5' : W1.cell? ⟨P.t, 5, none⟩ = some (.int .i64 L1) := by rw [← hL1]; exact c5
  have hn0 : ((L1 : Int) == 0) = false := beq_eq_false_iff_ne.2 (by omega)
  have hsub : IntKind.i64.wrap ((L1 : Int) - 1) = (l : Int) := by
    rw [show (L1 : Int) - 1 = (l : Int) by omega]; exact IntWalk.i64_in _ (by omega)
  obtain ⟨W2, hW2⟩ : ∃ W, W1.setCell ⟨P.t, 5, none⟩ (.int .i64 l) = W := ⟨_, rfl⟩
  obtain ⟨h2, k2⟩ := h1.setL l
  rw [hW2] at h2 k2
  have q3 : W2.cell? ⟨w.heap.size, 3, none⟩ = some (.string n.tg) := by
    rw [cell_of ((k2 w.heap.size (.inr ⟨Nat.le_refl _, by omega⟩)).trans b1.1)]; rfl
  have hsz : w.heap.size ≤ W2.heap.size := by
    have : W1.heap.size ≤ W2.heap.size := (by rw [← hW2]; exact (only1 W1 P.t 5 (.int .i64 l)).size)
    omega
  obtain ⟨T, hT⟩ : ∃ T, tgtW n.tg = T := ⟨_, rfl⟩
  obtain ⟨D, hD⟩ : ∃ D, cutD n.tg (fullB n.tg) = D := ⟨_, rfl⟩
  obtain ⟨L, hL⟩ : ∃ L, cutL n.tg (fullB n.tg) = L := ⟨_, rfl⟩
  obtain ⟨dr, hdr⟩ : ∃ d, s.dir = d := ⟨_, rfl⟩
  have hmet : s.met n.tg (decide (k = 0)) = ⟨if T then [rootN] else s.way, s.used, if decide (k = 0) then dr || D else dr⟩ := by
    unfold Ws.met
    rw [hT, hD, hdr]
  rw [hmet, hL]
  have HTg : Hid (∀ W, Calls Tryz.prog 89 #[.string n.tg] W fun e w' => ∃ v, e = .returned (.tuple #[v, .bool T, .bool D, .int .i64 0]) ∧ Own w' W.heap.size v L ∧ Below W.heap.size W w') := fun W => by
    refine (target_any n.tg W).mono ?_
    rintro e w' ⟨v, rfl, ho, hb⟩
    rw [hL] at ho
    exact ⟨v, by rw [hE, hT, hD], ho, hb⟩
  have HI3 : Hid (∀ W3, Below W2.heap.size W2 W3 → IsW w0 W3 P wv uv s l (fun b => (F b ∨ w.heap.size ≤ b ∧ b < W1.heap.size) ∨ W2.heap.size ≤ b ∧ b < W3.heap.size)) := fun W3 hW => h2.on hW
  have HFin : Hid (∀ W3 v3 W wv' uv' s', Below W2.heap.size W2 W3 → Own W3 W2.heap.size v3 L → IsW w0 W P wv' uv' s' l (fun b => (F b ∨ w.heap.size ≤ b ∧ b < W1.heap.size) ∨ W2.heap.size ≤ b ∧ b < W3.heap.size) → (∀ b, ((F b ∨ w.heap.size ≤ b ∧ b < W1.heap.size) ∨ W2.heap.size ≤ b ∧ b < W3.heap.size) → W.heap[b]? = W3.heap[b]?) → W3.heap.size ≤ W.heap.size → MetR w0 w W P s' l F v3 L) := fun W3 v3 W wv' uv' s' hb ho hI hk hs => by
    refine ⟨Own.le (owns_moved ho fun b hb' => hk b (.inr (World.ownsRow.lt ho b hb'))) hsz, wv', uv', hI.mono fun b hb' => ?_, fun b hb' => ?_, by have := hb.size; omega⟩
    · rcases hb' with hb' | hb'
      · exact .inl (.inl hb')
      · exact .inr (World.ownsRow.lt ho b hb')
    · exact (hk b (.inl (.inl hb'))).trans ((hb.block b (h2.fk b (.inl hb')).1).trans ((k2 b (.inl hb')).trans (b1.2.1.block b (h.fk b hb').1)))
  have HHm : Hid (∀ W3, Below W2.heap.size W2 W3 → Calls Tryz.prog 49 #[.pointer (some ⟨P.t, 0, none⟩)] W3 fun r w' => r = .returned (.tuple #[]) ∧ AfW w0 W3 w' P ⟨[rootN], s.used, s.dir⟩ l (fun b => (F b ∨ w.heap.size ≤ b ∧ b < W1.heap.size) ∨ W2.heap.size ≤ b ∧ b < W3.heap.size)) := fun W3 hW => home_p (h2.on hW)
  have HSz : Hid (∀ W i u, (W : World).heap.size ≤ (W.setCell ⟨P.t, i, none⟩ u).heap.size) := fun W i u => (only1 W P.t i u).size
  clear h h1 h2 b1 k2 c5 hL1 hE hl hmet hL hsz
  cases T with
  | false =>
    simp only [Bool.false_eq_true, if_false]
    by_cases hk : k = 0
    · subst hk
      simp only [decide_true, if_true]
      go_enter Tryz.func75, Tryz.ntmps75
      cases dr with
      | true =>
        go_wp2_with (go_at_call 89; refine (HTg.out _).mono ?_; rintro r W3 ⟨v3, rfl, ho, hb⟩; have H3 : Hid (Below W2.heap.size W2 W3 ∧ Own W3 W2.heap.size v3 L) := ⟨hb, ho⟩; obtain ⟨-, -, -, d3, -, -, f3⟩ := (HI3.out W3 hb).cells; rw [hdr] at d3; clear hb ho)
        go_ret2
        obtain ⟨g1, g2⟩ := (HI3.out W3 H3.out.1).setD true
        exact ⟨_, rfl, HFin.out W3 v3 _ wv uv _ H3.out.1 H3.out.2 g1 g2 (HSz.out _ _ _)⟩
      | false =>
        go_wp2_with (go_at_call 89; refine (HTg.out _).mono ?_; rintro r W3 ⟨v3, rfl, ho, hb⟩; have H3 : Hid (Below W2.heap.size W2 W3 ∧ Own W3 W2.heap.size v3 L) := ⟨hb, ho⟩; obtain ⟨-, -, -, d3, -, -, f3⟩ := (HI3.out W3 hb).cells; rw [hdr] at d3; clear hb ho)
        go_ret2
        obtain ⟨g1, g2⟩ := (HI3.out W3 H3.out.1).setD D
        exact ⟨_, rfl, HFin.out W3 v3 _ wv uv _ H3.out.1 H3.out.2 g1 g2 (HSz.out _ _ _)⟩
    · have hkz : ((k : Int) == 0) = false := beq_eq_false_iff_ne.2 (by omega)
      simp only [hk, decide_false, Bool.false_eq_true, if_false]
      clear hk
      go_enter Tryz.func75, Tryz.ntmps75
      go_wp2_with (go_at_call 89; refine (HTg.out _).mono ?_; rintro r W3 ⟨v3, rfl, ho, hb⟩; have H3 : Hid (Below W2.heap.size W2 W3 ∧ Own W3 W2.heap.size v3 L) := ⟨hb, ho⟩; clear hb ho)
      go_ret2
      have hI := HI3.out W3 H3.out.1
      exact ⟨_, rfl, by
        have := HFin.out W3 v3 W3 wv uv s H3.out.1 H3.out.2 hI (fun _ _ => rfl) (Nat.le_refl _)
        rw [show s = ⟨s.way, s.used, dr⟩ from ws_ext rfl rfl hdr] at this
        exact this⟩
  | true =>
    simp only [if_true]
    by_cases hk : k = 0
    · subst hk
      simp only [decide_true, if_true]
      go_enter Tryz.func75, Tryz.ntmps75
      cases dr with
      | true =>
        go_wp2_with (first
          | (go_at_call 49; refine (HHm.out _ H3.out.1).mono ?_; rintro r W4 ⟨rfl, wv4, uv4, hI4, hk4, hs4⟩; have H4 : Hid (IsW w0 W4 P wv4 uv4 ⟨[rootN], s.used, s.dir⟩ l (fun b => (F b ∨ w.heap.size ≤ b ∧ b < W1.heap.size) ∨ W2.heap.size ≤ b ∧ b < W3.heap.size) ∧ (∀ b, ((F b ∨ w.heap.size ≤ b ∧ b < W1.heap.size) ∨ W2.heap.size ≤ b ∧ b < W3.heap.size) → W4.heap[b]? = W3.heap[b]?) ∧ W3.heap.size ≤ W4.heap.size) := ⟨hI4, hk4, hs4⟩; obtain ⟨-, -, -, d3, -, -, f3⟩ := hI4.cells; simp only [hdr] at d3; clear hI4 hk4 hs4)
          | (go_at_call 89; refine (HTg.out _).mono ?_; rintro r W3 ⟨v3, rfl, ho, hb⟩; have H3 : Hid (Below W2.heap.size W2 W3 ∧ Own W3 W2.heap.size v3 L) := ⟨hb, ho⟩; clear hb ho))
        go_ret2
        obtain ⟨g1, g2⟩ := H4.out.1.setD true
        exact ⟨_, rfl, HFin.out W3 v3 _ wv4 uv4 _ H3.out.1 H3.out.2 g1 (fun b hb => (g2 b hb).trans (H4.out.2.1 b hb)) (Nat.le_trans H4.out.2.2 (HSz.out _ _ _))⟩
      | false =>
        go_wp2_with (first
          | (go_at_call 49; refine (HHm.out _ H3.out.1).mono ?_; rintro r W4 ⟨rfl, wv4, uv4, hI4, hk4, hs4⟩; have H4 : Hid (IsW w0 W4 P wv4 uv4 ⟨[rootN], s.used, s.dir⟩ l (fun b => (F b ∨ w.heap.size ≤ b ∧ b < W1.heap.size) ∨ W2.heap.size ≤ b ∧ b < W3.heap.size) ∧ (∀ b, ((F b ∨ w.heap.size ≤ b ∧ b < W1.heap.size) ∨ W2.heap.size ≤ b ∧ b < W3.heap.size) → W4.heap[b]? = W3.heap[b]?) ∧ W3.heap.size ≤ W4.heap.size) := ⟨hI4, hk4, hs4⟩; obtain ⟨-, -, -, d3, -, -, f3⟩ := hI4.cells; simp only [hdr] at d3; clear hI4 hk4 hs4)
          | (go_at_call 89; refine (HTg.out _).mono ?_; rintro r W3 ⟨v3, rfl, ho, hb⟩; have H3 : Hid (Below W2.heap.size W2 W3 ∧ Own W3 W2.heap.size v3 L) := ⟨hb, ho⟩; clear hb ho))
        go_ret2
        obtain ⟨g1, g2⟩ := H4.out.1.setD D
        exact ⟨_, rfl, HFin.out W3 v3 _ wv4 uv4 _ H3.out.1 H3.out.2 g1 (fun b hb => (g2 b hb).trans (H4.out.2.1 b hb)) (Nat.le_trans H4.out.2.2 (HSz.out _ _ _))⟩
    · have hkz : ((k : Int) == 0) = false := beq_eq_false_iff_ne.2 (by omega)
      simp only [hk, decide_false, Bool.false_eq_true, if_false]
      clear hk
      go_enter Tryz.func75, Tryz.ntmps75
      go_wp2_with (first
        | (go_at_call 49; refine (HHm.out _ H3.out.1).mono ?_; rintro r W4 ⟨rfl, wv4, uv4, hI4, hk4, hs4⟩; have H4 : Hid (IsW w0 W4 P wv4 uv4 ⟨[rootN], s.used, s.dir⟩ l (fun b => (F b ∨ w.heap.size ≤ b ∧ b < W1.heap.size) ∨ W2.heap.size ≤ b ∧ b < W3.heap.size) ∧ (∀ b, ((F b ∨ w.heap.size ≤ b ∧ b < W1.heap.size) ∨ W2.heap.size ≤ b ∧ b < W3.heap.size) → W4.heap[b]? = W3.heap[b]?) ∧ W3.heap.size ≤ W4.heap.size) := ⟨hI4, hk4, hs4⟩; clear hI4 hk4 hs4)
        | (go_at_call 89; refine (HTg.out _).mono ?_; rintro r W3 ⟨v3, rfl, ho, hb⟩; have H3 : Hid (Below W2.heap.size W2 W3 ∧ Own W3 W2.heap.size v3 L) := ⟨hb, ho⟩; clear hb ho))
      go_ret2
      exact ⟨_, rfl, by
        have := HFin.out W3 v3 W4 wv4 uv4 _ H3.out.1 H3.out.2 H4.out.1 H4.out.2.1 H4.out.2.2
        rw [hdr] at this
        exact this⟩
end
end Go.Proofs.YtmndnjgbbpkidaaGreat
