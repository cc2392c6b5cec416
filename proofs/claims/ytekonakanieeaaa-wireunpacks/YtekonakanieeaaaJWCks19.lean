/- What is plain: notes; one whose kind does not name all that it has. -/
import Derived.Test.YtekonakanieeaaaJWCks18
import Derived.Test.YtekonakanieeaaaJWCks09
import Derived.Test.YtekonakanieeaaaJWCks00
namespace Go.Proofs.Ytekonakanieeaaa
section
open Go.RowKit Go.Lib
attribute [local go_sem ↓ high] loadN
attribute [local go_sem high] guardNt

def kindN (n : Nt) : Bool := if n.kind = 1 then true else if n.kind = 2 then true else if n.kind = 4 then true else if n.kind = 3 then (!n.e.neg) && decide (entOk n.e) else if n.kind = 5 then decide (opOk n.op) else false
def plainN (n : Nt) : Bool := eqNt n (onlyN n) && (numsOkB [n.epoch, n.vers, n.next, n.client, n.life, n.seq, n.err] && kindN n)
theorem kindN_iff (n : Nt) : kindN n = true ↔ (n.kind = 1 ∨ n.kind = 2 ∨ n.kind = 4 ∨ n.kind = 3 ∧ n.e.neg = false ∧ entOk n.e ∨ n.kind = 5 ∧ opOk n.op) := by
  unfold kindN
  by_cases h1 : n.kind = 1
  · simp [h1]
  · by_cases h2 : n.kind = 2
    · simp [h2]
    · by_cases h4 : n.kind = 4
      · simp [h4]
      · by_cases h3 : n.kind = 3
        · simp [h3]
        · by_cases h5 : n.kind = 5
          · simp [h5]
          · simp [h1, h2, h3, h4, h5]
theorem plainN_iff (n : Nt) : plainN n = true ↔ noteOk n := by
  unfold plainN noteOk
  rw [Bool.and_eq_true, Bool.and_eq_true, kindN_iff, eqNt_iff]
  unfold numsOkB
  simp only [List.all_cons, List.all_nil, Bool.and_true, Bool.and_eq_true, decide_eq_true_eq]
  constructor
  · rintro ⟨h0, ⟨h1, h2, h3, h4, h5, h6, h7⟩, hb⟩
    exact ⟨h0, ⟨h1, h2, h3, h4, h5, h6, h7⟩, hb⟩
  · rintro ⟨h0, h, hb⟩
    exact ⟨h0, ⟨h.epoch, h.vers, h.next, h.client, h.life, h.seq, h.err⟩, hb⟩
theorem plainN_0 {n : Nt} (h : eqNt n (onlyN n) = false) : plainN n = false := by unfold plainN; rw [h]; rfl
theorem plainN_1 {n : Nt} (h : numsOkB [n.epoch, n.vers, n.next, n.client, n.life, n.seq, n.err] = false) : plainN n = false := by unfold plainN; rw [h]; simp
theorem plainN_2 {n : Nt} (h : eqNt n (onlyN n) = true) (h2 : numsOkB [n.epoch, n.vers, n.next, n.client, n.life, n.seq, n.err] = true) : plainN n = kindN n := by unfold plainN; rw [h, h2]; rfl
theorem take_no {P : Program} {md : Region.Mode} {ops : Array Oper} {Q : Exit → Act → World → Prop} {S : World → Prop} {i : Nat} {oi : Oper} {fuel : Nat} {listed : Array Bool} {a : Act} {w : World} (d : Option Nat) (hi : ops[i]? = some oi) (hd : oi.dst = d)
    (hs : Region.noSelect ops = true) (hf : Region.free md ops listed i = true) (hr : (Region.ready md ops listed).contains i = true)
    (hQ : ∀ c a w, Q (.panic c) (a.put d undef) w → Q (.panic c) a w) (hn : Region.wanted oi (yielded ops a.tmps) = false) (hS : S w)
    (h : wpAnyH P md ops Q S fuel (listed.setIfInBounds i true) (a.put d undef) w) : wpAnyH P md ops Q S (fuel + 1) listed a w := by
  subst hd
  exact wpAnyH_take hi hs hf hr hQ (Or.inr ⟨hn, rfl⟩) hS h
theorem take_yes {P : Program} {md : Region.Mode} {ops : Array Oper} {Q : Exit → Act → World → Prop} {S : World → Prop} {i : Nat} {oi : Oper} {fuel : Nat} {listed : Array Bool} {a : Act} {w : World} (d : Option Nat) (v : Value) (hi : ops[i]? = some oi) (hd : oi.dst = d)
    (hs : Region.noSelect ops = true) (hf : Region.free md ops listed i = true) (hr : (Region.ready md ops listed).contains i = true)
    (hQ : ∀ c a w, Q (.panic c) (a.put d v) w → Q (.panic c) a w) (hn : Region.wanted oi (yielded ops a.tmps) = true) (hy : ∀ w, S w → (execOp a.eval oi).run P w = .ok (.value v) w) (hS : S w)
    (h : wpAnyH P md ops Q S fuel (listed.setIfInBounds i true) (a.put d v) w) : wpAnyH P md ops Q S (fuel + 1) listed a w := by
  subst hd
  exact wpAnyH_take hi hs hf hr hQ (Or.inl ⟨hn, hy⟩) hS h

set_option maxRecDepth 20000 in
set_option maxHeartbeats 8000000 in
theorem plainNote_0 (kind epoch vers next client : Int) (e : En) (life seq err : Int) (op : Opn) (w : World) (hE : eqNt ⟨kind, epoch, vers, next, client, e, life, seq, err, op⟩ (onlyN ⟨kind, epoch, vers, next, client, e, life, seq, err, op⟩) = false) : Calls Try.prog 27 #[.agg #[.int .i64 kind, .int .i64 epoch, .int .i64 vers, .int .i64 next, .int .i64 client, .int .i64 e.d, .string e.nm, .bool e.neg, .int .i64 e.id, .int .i64 e.kind, .int .i64 e.mode, .string e.tg, .int .i64 life, .int .i64 seq, .int .i64 err, .int .i64 op.kind, .int .i64 op.dir, .string op.nm, .int .i64 op.dst, .string op.new, .int .i64 op.mode, .string op.tg]] w fun x w' => x = .returned (.bool false) ∧ Below w.heap.size w w' := by
  have hq0 := fun w' => neqNt w' ⟨kind, epoch, vers, next, client, e, life, seq, err, op⟩ (onlyN ⟨kind, epoch, vers, next, client, e, life, seq, err, op⟩)
  have hnm0 := fun w' => named_p ⟨kind, epoch, vers, next, client, e, life, seq, err, op⟩ w'
  rw [hE] at hq0
  obtain ⟨B, hB⟩ : ∃ B, (onlyN ⟨kind, epoch, vers, next, client, e, life, seq, err, op⟩).arr = B := ⟨_, rfl⟩
  rw [hB] at hq0
  simp only [hB] at hnm0
  obtain ⟨A, hA⟩ : ∃ A, (#[.int .i64 kind, .int .i64 epoch, .int .i64 vers, .int .i64 next, .int .i64 client, .int .i64 e.d, .string e.nm, .bool e.neg, .int .i64 e.id, .int .i64 e.kind, .int .i64 e.mode, .string e.tg, .int .i64 life, .int .i64 seq, .int .i64 err, .int .i64 op.kind, .int .i64 op.dir, .string op.nm, .int .i64 op.dst, .string op.new, .int .i64 op.mode, .string op.tg] : Array Value) = A := ⟨_, rfl⟩
  have hq : ∀ w', (binOp .neq 48 (.agg A) (.agg B)).run Try.prog w' = .ok (.bool true) w' := by rw [← hA]; exact hq0
  have HNm : Hid (∀ w', Calls Try.prog 60 #[.agg A] w' fun x w2 => x = .returned (.agg B) ∧ Below w'.heap.size w' w2) := by rw [← hA]; exact hnm0
  obtain ⟨W, hW⟩ : ∃ W, w.alloc (.cells A 48) = W := ⟨_, rfl⟩
  have hb := boxB hW
  have HBx : Hid (W.heap[w.heap.size]? = some (.cells #[.int .i64 kind, .int .i64 epoch, .int .i64 vers, .int .i64 next, .int .i64 client, .int .i64 e.d, .string e.nm, .bool e.neg, .int .i64 e.id, .int .i64 e.kind, .int .i64 e.mode, .string e.tg, .int .i64 life, .int .i64 seq, .int .i64 err, .int .i64 op.kind, .int .i64 op.dir, .string op.nm, .int .i64 op.dst, .string op.new, .int .i64 op.mode, .string op.tg] 48 (0, 0)) ∧ Below w.heap.size w W) := by rw [hA]; exact hb
  have HS : Hid (∀ w', Below W.heap.size W w' → (noteS (.pointer (some ⟨w.heap.size, 0, none⟩))).run Try.prog w' = .ok (.agg A) w' ∧ w'.cell? ⟨w.heap.size, 1, none⟩ = some (.int .i64 epoch) ∧ w'.cell? ⟨w.heap.size, 2, none⟩ = some (.int .i64 vers) ∧ w'.cell? ⟨w.heap.size, 3, none⟩ = some (.int .i64 next) ∧ w'.cell? ⟨w.heap.size, 4, none⟩ = some (.int .i64 client) ∧ w'.cell? ⟨w.heap.size, 12, none⟩ = some (.int .i64 life) ∧ w'.cell? ⟨w.heap.size, 13, none⟩ = some (.int .i64 seq) ∧ w'.cell? ⟨w.heap.size, 14, none⟩ = some (.int .i64 err)) := fun w' h' => by
    have n1 := hkeep HBx.out.1 h'
    have n2 := n1
    rw [hA] at n2
    refine ⟨noteS_of n2 (by rw [← hA]; rfl), by have y := cell_of n1 1; simpa using y, by have y := cell_of n1 2; simpa using y, by have y := cell_of n1 3; simpa using y, by have y := cell_of n1 4; simpa using y, by have y := cell_of n1 12; simpa using y, by have y := cell_of n1 13; simpa using y, by have y := cell_of n1 14; simpa using y⟩
  rw [hA]
  clear hA hB hq0 hnm0 hE hb
  go_enter Try.func27, Try.ntmps27
  go_upto_region 1 with fail
  clear hW
  have k0 := HS.out W.drew (Below.refl _ _).drew
  refine wp_region_held_drew (S := fun w' => (noteS (.pointer (some ⟨w.heap.size, 0, none⟩))).run Try.prog w' = .ok (.agg A) w' ∧ w'.cell? ⟨w.heap.size, 1, none⟩ = some (.int .i64 epoch) ∧ w'.cell? ⟨w.heap.size, 2, none⟩ = some (.int .i64 vers) ∧ w'.cell? ⟨w.heap.size, 3, none⟩ = some (.int .i64 next) ∧ w'.cell? ⟨w.heap.size, 4, none⟩ = some (.int .i64 client) ∧ w'.cell? ⟨w.heap.size, 12, none⟩ = some (.int .i64 life) ∧ w'.cell? ⟨w.heap.size, 13, none⟩ = some (.int .i64 seq) ∧ w'.cell? ⟨w.heap.size, 14, none⟩ = some (.int .i64 err)) (by kernel_rfl) k0 (fun hHeld => ?_)
  refine take_yes (i := 0) (some 3) (.agg A) rfl rfl (by kernel_rfl) (by kernel_rfl) (by kernel_rfl) (fun _ _ _ h => h) (by rfl) (fun w hSw => ?_) (by assumption) ?_
  · try dsimp only at hSw
    go_simp
  try simp only [Act.put, List.setIfInBounds_toArray, List.set_cons_zero, List.set_cons_succ]
  refine take_yes (i := 1) (some 4) (.agg A) rfl rfl (by kernel_rfl) (by kernel_rfl) (by kernel_rfl) (fun _ _ _ h => h) (by rfl) (fun w hSw => ?_) (by assumption) ?_
  · try dsimp only at hSw
    go_simp
  try simp only [Act.put, List.setIfInBounds_toArray, List.set_cons_zero, List.set_cons_succ]
  refine wpAnyH_ready (rs := [2]) (by kernel_rfl) (by simp) ?_
  refine AllReadyH.cons rfl (fun K hK => ?_) AllReadyH.nil
  go_simp
  go_at_call 60
  refine (HNm.out _).mono ?_
  rintro x w1 ⟨rfl, hb1⟩
  have hc1 := chainB (Below.refl W.heap.size W).drew hb1
  have k1 := HS.out w1 hc1
  refine hK.out _ _ k1 (fun hHeld => ?_)
  clear hK K
  try simp only [Act.put, List.setIfInBounds_toArray, List.set_cons_zero, List.set_cons_succ]
  refine take_yes (i := 3) (some 6) (.bool true) rfl rfl (by kernel_rfl) (by kernel_rfl) (by kernel_rfl) (fun _ _ _ h => h) (by rfl) (fun w hSw => ?_) (by assumption) ?_
  · try dsimp only at hSw
    go_simp
  try simp only [Act.put, List.setIfInBounds_toArray, List.set_cons_zero, List.set_cons_succ]
  refine take_yes (i := 4) (some 7) (.bool true) rfl rfl (by kernel_rfl) (by kernel_rfl) (by kernel_rfl) (fun _ _ _ h => h) (by rfl) (fun w hSw => ?_) (by assumption) ?_
  · try dsimp only at hSw
    go_simp
  try simp only [Act.put, List.setIfInBounds_toArray, List.set_cons_zero, List.set_cons_succ]
  refine take_no (i := 5) (some 8) rfl rfl (by kernel_rfl) (by kernel_rfl) (by kernel_rfl) (fun _ _ _ h => h) (by rfl) (by assumption) ?_
  try simp only [Act.put, List.setIfInBounds_toArray, List.set_cons_zero, List.set_cons_succ]
  refine take_no (i := 6) (some 9) rfl rfl (by kernel_rfl) (by kernel_rfl) (by kernel_rfl) (fun _ _ _ h => h) (by rfl) (by assumption) ?_
  try simp only [Act.put, List.setIfInBounds_toArray, List.set_cons_zero, List.set_cons_succ]
  refine take_no (i := 7) (some 10) rfl rfl (by kernel_rfl) (by kernel_rfl) (by kernel_rfl) (fun _ _ _ h => h) (by rfl) (by assumption) ?_
  try simp only [Act.put, List.setIfInBounds_toArray, List.set_cons_zero, List.set_cons_succ]
  refine take_no (i := 8) (some 11) rfl rfl (by kernel_rfl) (by kernel_rfl) (by kernel_rfl) (fun _ _ _ h => h) (by rfl) (by assumption) ?_
  try simp only [Act.put, List.setIfInBounds_toArray, List.set_cons_zero, List.set_cons_succ]
  refine take_no (i := 9) (some 12) rfl rfl (by kernel_rfl) (by kernel_rfl) (by kernel_rfl) (fun _ _ _ h => h) (by rfl) (by assumption) ?_
  try simp only [Act.put, List.setIfInBounds_toArray, List.set_cons_zero, List.set_cons_succ]
  refine take_no (i := 10) (some 13) rfl rfl (by kernel_rfl) (by kernel_rfl) (by kernel_rfl) (fun _ _ _ h => h) (by rfl) (by assumption) ?_
  try simp only [Act.put, List.setIfInBounds_toArray, List.set_cons_zero, List.set_cons_succ]
  refine take_no (i := 11) (some 14) rfl rfl (by kernel_rfl) (by kernel_rfl) (by kernel_rfl) (fun _ _ _ h => h) (by rfl) (by assumption) ?_
  try simp only [Act.put, List.setIfInBounds_toArray, List.set_cons_zero, List.set_cons_succ]
  refine take_no (i := 12) (some 15) rfl rfl (by kernel_rfl) (by kernel_rfl) (by kernel_rfl) (fun _ _ _ h => h) (by rfl) (by assumption) ?_
  try simp only [Act.put, List.setIfInBounds_toArray, List.set_cons_zero, List.set_cons_succ]
  refine take_no (i := 13) (some 16) rfl rfl (by kernel_rfl) (by kernel_rfl) (by kernel_rfl) (fun _ _ _ h => h) (by rfl) (by assumption) ?_
  try simp only [Act.put, List.setIfInBounds_toArray, List.set_cons_zero, List.set_cons_succ]
  refine take_no (i := 14) (some 17) rfl rfl (by kernel_rfl) (by kernel_rfl) (by kernel_rfl) (fun _ _ _ h => h) (by rfl) (by assumption) ?_
  try simp only [Act.put, List.setIfInBounds_toArray, List.set_cons_zero, List.set_cons_succ]
  refine take_no (i := 15) (some 18) rfl rfl (by kernel_rfl) (by kernel_rfl) (by kernel_rfl) (fun _ _ _ h => h) (by rfl) (by assumption) ?_
  try simp only [Act.put, List.setIfInBounds_toArray, List.set_cons_zero, List.set_cons_succ]
  refine take_no (i := 16) (some 19) rfl rfl (by kernel_rfl) (by kernel_rfl) (by kernel_rfl) (fun _ _ _ h => h) (by rfl) (by assumption) ?_
  try simp only [Act.put, List.setIfInBounds_toArray, List.set_cons_zero, List.set_cons_succ]
  refine take_no (i := 17) (some 20) rfl rfl (by kernel_rfl) (by kernel_rfl) (by kernel_rfl) (fun _ _ _ h => h) (by rfl) (by assumption) ?_
  try simp only [Act.put, List.setIfInBounds_toArray, List.set_cons_zero, List.set_cons_succ]
  refine take_no (i := 18) (some 21) rfl rfl (by kernel_rfl) (by kernel_rfl) (by kernel_rfl) (fun _ _ _ h => h) (by rfl) (by assumption) ?_
  try simp only [Act.put, List.setIfInBounds_toArray, List.set_cons_zero, List.set_cons_succ]
  refine take_no (i := 19) (some 22) rfl rfl (by kernel_rfl) (by kernel_rfl) (by kernel_rfl) (fun _ _ _ h => h) (by rfl) (by assumption) ?_
  try simp only [Act.put, List.setIfInBounds_toArray, List.set_cons_zero, List.set_cons_succ]
  refine take_no (i := 20) (some 23) rfl rfl (by kernel_rfl) (by kernel_rfl) (by kernel_rfl) (fun _ _ _ h => h) (by rfl) (by assumption) ?_
  try simp only [Act.put, List.setIfInBounds_toArray, List.set_cons_zero, List.set_cons_succ]
  refine take_no (i := 21) (some 24) rfl rfl (by kernel_rfl) (by kernel_rfl) (by kernel_rfl) (fun _ _ _ h => h) (by rfl) (by assumption) ?_
  try simp only [Act.put, List.setIfInBounds_toArray, List.set_cons_zero, List.set_cons_succ]
  refine take_no (i := 22) (some 25) rfl rfl (by kernel_rfl) (by kernel_rfl) (by kernel_rfl) (fun _ _ _ h => h) (by rfl) (by assumption) ?_
  try simp only [Act.put, List.setIfInBounds_toArray, List.set_cons_zero, List.set_cons_succ]
  refine take_no (i := 23) (some 26) rfl rfl (by kernel_rfl) (by kernel_rfl) (by kernel_rfl) (fun _ _ _ h => h) (by rfl) (by assumption) ?_
  try simp only [Act.put, List.setIfInBounds_toArray, List.set_cons_zero, List.set_cons_succ]
  refine take_no (i := 24) (some 27) rfl rfl (by kernel_rfl) (by kernel_rfl) (by kernel_rfl) (fun _ _ _ h => h) (by rfl) (by assumption) ?_
  try simp only [Act.put, List.setIfInBounds_toArray, List.set_cons_zero, List.set_cons_succ]
  refine take_yes (i := 25) (some 28) (.bool true) rfl rfl (by kernel_rfl) (by kernel_rfl) (by kernel_rfl) (fun _ _ _ h => h) (by rfl) (fun w hSw => ?_) (by assumption) ?_
  · try dsimp only at hSw
    go_simp
  try simp only [Act.put, List.setIfInBounds_toArray, List.set_cons_zero, List.set_cons_succ]
  refine wpAnyH_done (by kernel_rfl) ?_ _
  go_wp2
  go_ret
  exact ⟨rfl, chainB HBx.out.2 hc1⟩
end
section
open Go.RowKit Go.Lib
theorem take_no2 {P : Program} {md : Region.Mode} {ops : Array Oper} {Q : Exit → Act → World → Prop} {S : World → Prop} {i : Nat} {oi : Oper} {fuel : Nat} {listed : Array Bool} {a : Act} {w : World} (d : Option Nat) (hi : ops[i]? = some oi) (hd : oi.dst = d)
    (hs : Region.noSelect ops = true) (hf : Region.free md ops listed i = true) (hr : (Region.ready md ops listed).contains i = true)
    (hQ : ∀ c a w, Q (.panic c) (a.put d undef) w → Q (.panic c) a w) (hn : Region.wanted oi (yielded ops a.tmps) = false) (hS : S w)
    (h : wpAnyH P md ops Q S fuel (listed.setIfInBounds i true) (a.put d undef) w) : wpAnyH P md ops Q S (fuel + 1) listed a w := by
  subst hd
  exact wpAnyH_take hi hs hf hr hQ (Or.inr ⟨hn, rfl⟩) hS h
theorem take_yes2 {P : Program} {md : Region.Mode} {ops : Array Oper} {Q : Exit → Act → World → Prop} {S : World → Prop} {i : Nat} {oi : Oper} {fuel : Nat} {listed : Array Bool} {a : Act} {w : World} (d : Option Nat) (hi : ops[i]? = some oi) (hd : oi.dst = d)
    (hs : Region.noSelect ops = true) (hf : Region.free md ops listed i = true) (hr : (Region.ready md ops listed).contains i = true)
    (hn : Region.wanted oi (yielded ops a.tmps) = true) (hS : S w)
    (h : ∃ v, (∀ w, S w → (execOp a.eval oi).run P w = .ok (.value v) w) ∧ (∀ c a w, Q (.panic c) (a.put d v) w → Q (.panic c) a w) ∧ wpAnyH P md ops Q S fuel (listed.setIfInBounds i true) (a.put d v) w) : wpAnyH P md ops Q S (fuel + 1) listed a w := by
  subst hd
  obtain ⟨v, hy, hQ, h⟩ := h
  exact wpAnyH_take hi hs hf hr hQ (Or.inl ⟨hn, hy⟩) hS h
theorem tkn {P : Program} {md : Region.Mode} {ops : Array Oper} {Q : Exit → Act → World → Prop} {S : World → Prop} (i : Nat) {oi : Oper} {fuel : Nat} {listed : Array Bool} {a : Act} {w : World} (d : Option Nat) (hi : ops[i]? = some oi) (hd : oi.dst = d)
    (h : wpAnyH P md ops Q S fuel (listed.setIfInBounds i true) (a.put d undef) w) (hQ : ∀ c a w, Q (.panic c) (a.put d undef) w → Q (.panic c) a w := by exact fun _ _ _ h => h)
    (hs : Region.noSelect ops = true := by kernel_rfl) (hf : Region.free md ops listed i = true := by kernel_rfl) (hr : (Region.ready md ops listed).contains i = true := by kernel_rfl)
    (hn : Region.wanted oi (yielded ops a.tmps) = false := by rfl) (hS : S w := by assumption) : wpAnyH P md ops Q S (fuel + 1) listed a w := take_no2 d hi hd hs hf hr hQ hn hS h
theorem tky {P : Program} {md : Region.Mode} {ops : Array Oper} {Q : Exit → Act → World → Prop} {S : World → Prop} (i : Nat) {oi : Oper} {fuel : Nat} {listed : Array Bool} {a : Act} {w : World} (d : Option Nat) (hi : ops[i]? = some oi) (hd : oi.dst = d)
    (h : ∃ v, (∀ w, S w → (execOp a.eval oi).run P w = .ok (.value v) w) ∧ (∀ c a w, Q (.panic c) (a.put d v) w → Q (.panic c) a w) ∧ wpAnyH P md ops Q S fuel (listed.setIfInBounds i true) (a.put d v) w)
    (hs : Region.noSelect ops = true := by kernel_rfl) (hf : Region.free md ops listed i = true := by kernel_rfl) (hr : (Region.ready md ops listed).contains i = true := by kernel_rfl)
    (hn : Region.wanted oi (yielded ops a.tmps) = true := by rfl) (hS : S w := by assumption) : wpAnyH P md ops Q S (fuel + 1) listed a w := take_yes2 d hi hd hs hf hr hn hS h
end
end Go.Proofs.Ytekonakanieeaaa
