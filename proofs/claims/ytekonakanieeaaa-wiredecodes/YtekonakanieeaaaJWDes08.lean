/- What is plain: within, short. -/
import Derived.Test.YtekonakanieeaaaJWDes07
namespace Go.Proofs.Ytekonakanieeaaa
section
open Go.RowKit Go.Lib

/-- a row of plain cells at the beginning of a block -/
def RowV (w : World) (a : Option Addr) (vs : List Value) : Prop := ∃ g, a = some ⟨g, 0, none⟩ ∧ g < w.heap.size ∧ ∀ (i : Nat) (x : Value), vs[i]? = some x → w.cell? ⟨g, i, none⟩ = some x
theorem rowV_new (w : World) (vs : List Value) (ty : TypeId) : RowV (w.alloc (.cells vs.toArray ty)) (some ⟨w.heap.size, 0, none⟩) vs := by
  refine ⟨_, rfl, by simp, fun i x hx => ?_⟩
  rw [cell_of (heap_new _ _)]
  simpa using hx
theorem rowV_newD (w : World) (vs : List Value) (ty : TypeId) : RowV (w.alloc (.cells vs.toArray ty)).drew (some ⟨w.heap.size, 0, none⟩) vs := by
  refine ⟨_, rfl, by simp, fun i x hx => ?_⟩
  have hh : (w.alloc (.cells vs.toArray ty)).drew.heap[w.heap.size]? = some (.cells vs.toArray ty (0, 0)) := heap_new _ _
  rw [cell_of hh]
  simpa using hx
def numsOkB (xs : List Int) : Bool := xs.all fun x => decide (numOk x)
def sizesB (ss : List ByteArray) : Bool := ss.all fun s => decide (s.size ≤ 96)
theorem all_no {α : Type} (p : α → Bool) (xs : List α) (k : Nat) (x : α) (h : xs[k]? = some x) (hx : p x = false) : xs.all p = false := by
  rw [List.all_eq_false]
  exact ⟨x, List.mem_of_getElem? h, by simp [hx]⟩
theorem all_yes {α : Type} (p : α → Bool) (xs : List α) (n : Nat) (hn : xs.length = n) (h : ∀ j x, j < n → xs[j]? = some x → p x = true) : xs.all p = true := by
  rw [List.all_eq_true]
  intro x hx
  obtain ⟨i, hi⟩ := List.getElem?_of_mem hx
  exact h i x (by have := (List.getElem?_eq_some_iff.1 hi).1; omega) hi
set_option maxRecDepth 20000 in
set_option maxHeartbeats 4000000 in
theorem within_p (a : Option Addr) (cap : Nat) (xs : List Int) (w : World) (hr : RowV w a (xs.map (Value.int .i64))) (hl : xs.length ≤ 1000) :
    Calls Try.prog 51 #[.slice a xs.length cap] w fun e w' => e = .returned (.bool (numsOkB xs)) ∧ Below w.heap.size w w' := by
  obtain ⟨n, hn⟩ : ∃ n, xs.length = n := ⟨_, rfl⟩
  rw [hn] at hl ⊢
  obtain ⟨g, rfl, hg, hc⟩ := hr
  have H : Hid ((∀ (i : Nat) (x : Int), xs[i]? = some x → w.cell? ⟨g, i, none⟩ = some (.int .i64 x)) ∧ xs.length = n) := ⟨fun i x hx => hc i _ (by simp [hx]), hn⟩
  clear hc hn
  go_enter Try.func51, Try.ntmps51
  go_wp2
  go_loopw [7] (fun i wr => ∃ k : Nat, k ≤ n ∧ i = .int .i64 k ∧ Hid ((∀ (j : Nat) (x : Int), j < k → xs[j]? = some x → decide (numOk x) = true) ∧ Below w.heap.size w wr)) (fun i _ => n - (intOf i).toNat)
  case atStart => exact ⟨0, Nat.zero_le _, rfl, fun j x hj => (by omega), Below.refl _ _⟩
  case round =>
    obtain ⟨k, hk, rfl, hI⟩ := hrel
    by_cases hkn : k < n
    · obtain ⟨x, hx⟩ : ∃ x, xs[k]? = some x := ⟨_, List.getElem?_eq_getElem (by rw [H.out.2]; exact hkn)⟩
      have x0 := (hI.out.2.cell (p := ⟨g, k, none⟩) hg).trans (H.out.1 k x hx)
      have hki : (k : Int) < (n : Int) := by omega
      have HX : Hid (xs[k]? = some x) := hx
      by_cases h0 : x < 0
      · have hd : decide (x < 0) = true := decide_eq_true h0
        have HF : Hid (numsOkB xs = false) := all_no _ xs k x hx (decide_eq_false (by unfold numOk; omega))
        clear hx
        go_wp2
        go_ret
        exact ⟨by rw [HF.out]; rfl, hI.out.2⟩
      · have hd : decide (x < 0) = false := decide_eq_false h0
        by_cases h1 : 1099511627776 < x
        · have HF : Hid (numsOkB xs = false) := all_no _ xs k x hx (decide_eq_false (by unfold numOk; omega))
          clear hx
          go_wp2
          go_ret
          exact ⟨by rw [HF.out]; rfl, hI.out.2⟩
        · have HO : Hid (decide (numOk x) = true) := decide_eq_true (by unfold numOk; omega)
          clear hx
          go_wp2
          refine ⟨⟨k + 1, by omega, by simp, fun j y hj hy => ?_, hI.out.2⟩, by simp [intOf]; omega⟩
          by_cases hjk : j < k
          · exact hI.out.1 j y hjk hy
          · obtain rfl : j = k := by omega
            rw [HX.out] at hy
            cases hy
            exact HO.out
    · have hkn' : ¬ (k : Int) < (n : Int) := by omega
      obtain rfl : k = n := by omega
      have HF : Hid (numsOkB xs = true) := all_yes _ xs k H.out.2 hI.out.1
      go_wp2
      go_ret
      exact ⟨by rw [HF.out]; rfl, hI.out.2⟩
set_option maxRecDepth 20000 in
set_option maxHeartbeats 4000000 in
theorem short_p (a : Option Addr) (cap : Nat) (xs : List ByteArray) (w : World) (hr : RowV w a (xs.map Value.string)) (hl : xs.length ≤ 1000) :
    Calls Try.prog 83 #[.slice a xs.length cap] w fun e w' => e = .returned (.bool (sizesB xs)) ∧ Below w.heap.size w w' := by
  obtain ⟨n, hn⟩ : ∃ n, xs.length = n := ⟨_, rfl⟩
  rw [hn] at hl ⊢
  obtain ⟨g, rfl, hg, hc⟩ := hr
  have H : Hid ((∀ (i : Nat) (x : ByteArray), xs[i]? = some x → w.cell? ⟨g, i, none⟩ = some (.string x)) ∧ xs.length = n) := ⟨fun i x hx => hc i _ (by simp [hx]), hn⟩
  clear hc hn
  go_enter Try.func83, Try.ntmps83
  go_wp2
  go_loopw [7] (fun i wr => ∃ k : Nat, k ≤ n ∧ i = .int .i64 k ∧ Hid ((∀ (j : Nat) (x : ByteArray), j < k → xs[j]? = some x → decide (x.size ≤ 96) = true) ∧ Below w.heap.size w wr)) (fun i _ => n - (intOf i).toNat)
  case atStart => exact ⟨0, Nat.zero_le _, rfl, fun j x hj => (by omega), Below.refl _ _⟩
  case round =>
    obtain ⟨k, hk, rfl, hI⟩ := hrel
    by_cases hkn : k < n
    · obtain ⟨x, hx⟩ : ∃ x, xs[k]? = some x := ⟨_, List.getElem?_eq_getElem (by rw [H.out.2]; exact hkn)⟩
      have x0 := (hI.out.2.cell (p := ⟨g, k, none⟩) hg).trans (H.out.1 k x hx)
      have hki : (k : Int) < (n : Int) := by omega
      have HX : Hid (xs[k]? = some x) := hx
      by_cases h1 : 96 < x.size
      · have hd : (96 : Int) < (x.size : Int) := by omega
        have HF : Hid (sizesB xs = false) := all_no _ xs k x hx (decide_eq_false (by omega))
        clear hx
        go_wp2
        go_ret
        exact ⟨by rw [HF.out]; rfl, hI.out.2⟩
      · have hd : ¬ (96 : Int) < (x.size : Int) := by omega
        have HO : Hid (decide (x.size ≤ 96) = true) := decide_eq_true (by omega)
        clear hx
        go_wp2
        refine ⟨⟨k + 1, by omega, by simp, fun j y hj hy => ?_, hI.out.2⟩, by simp [intOf]; omega⟩
        by_cases hjk : j < k
        · exact hI.out.1 j y hjk hy
        · obtain rfl : j = k := by omega
          rw [HX.out] at hy
          cases hy
          exact HO.out
    · have hkn' : ¬ (k : Int) < (n : Int) := by omega
      obtain rfl : k = n := by omega
      have HF : Hid (sizesB xs = true) := all_yes _ xs k H.out.2 hI.out.1
      go_wp2
      go_ret
      exact ⟨by rw [HF.out]; rfl, hI.out.2⟩
end
section
open Go.RowKit Go.Lib

instance (k : Ky) : Decidable (keyOk k) := by unfold keyOk; infer_instance
instance (e : En) : Decidable (nodeOk e) := by unfold nodeOk; infer_instance
instance (e : En) : Decidable (nodeZ e) := by unfold nodeZ; infer_instance
instance (e : En) : Decidable (entOk e) := by unfold entOk; infer_instance
instance (o : Opn) : Decidable (opOk o) := by unfold opOk; infer_instance
theorem within_new (w : World) (xs : List Int) (hl : xs.length ≤ 1000) :
    Calls Try.prog 51 #[.slice (some ⟨w.heap.size, 0, none⟩) xs.length xs.length] (w.alloc (.cells (xs.map (Value.int .i64)).toArray 3)) fun e w' => e = .returned (.bool (numsOkB xs)) ∧ Below w.heap.size w w' :=
  (within_p _ xs.length xs _ (rowV_new w _ _) hl).mono fun _ _ h => ⟨h.1, chainB (below_alloc _ _) h.2⟩
theorem short_new (w : World) (xs : List ByteArray) (hl : xs.length ≤ 1000) :
    Calls Try.prog 83 #[.slice (some ⟨w.heap.size, 0, none⟩) xs.length xs.length] (w.alloc (.cells (xs.map Value.string).toArray 9)) fun e w' => e = .returned (.bool (sizesB xs)) ∧ Below w.heap.size w w' :=
  (short_p _ xs.length xs _ (rowV_new w _ _) hl).mono fun _ _ h => ⟨h.1, chainB (below_alloc _ _) h.2⟩
theorem numsOk1 (x : Int) : numsOkB [x] = decide (numOk x) := by simp [numsOkB]
theorem sizes1 (s : ByteArray) : sizesB [s] = decide (s.size ≤ 96) := by simp [sizesB]
/-- the box of a parameter -/
theorem boxB {w W : World} {cs : Array Value} {ty : TypeId} (hW : w.alloc (.cells cs ty) = W) : W.heap[w.heap.size]? = some (.cells cs ty (0, 0)) ∧ Below w.heap.size w W := by
  subst hW; exact ⟨heap_new _ _, below_alloc _ _⟩
set_option maxRecDepth 20000 in
set_option maxHeartbeats 4000000 in
theorem plainKey_p (k : Ky) (w : World) : Calls Try.prog 57 #[.agg #[.int .i64 k.d, .string k.nm]] w fun e w' => e = .returned (.bool (decide (keyOk k))) ∧ Below w.heap.size w w' := by
  obtain ⟨W, hW⟩ : ∃ W, w.alloc (.cells #[.int .i64 k.d, .string k.nm] 40) = W := ⟨_, rfl⟩
  have hb := boxB hW
  have HB : Hid (W.heap[w.heap.size]? = some (.cells #[.int .i64 k.d, .string k.nm] 40 (0, 0)) ∧ Below w.heap.size w W) := hb
  have x0 := cell_of hb.1 0
  simp at x0
  have HS : Hid (∀ W2, Calls Try.prog 83 #[.slice (some ⟨W2.heap.size, 0, none⟩) 1 1] (W2.alloc (.cells #[.string k.nm] 9)) fun e w' => e = .returned (.bool (sizesB [k.nm])) ∧ Below W2.heap.size W2 w') := fun W2 => short_new W2 [k.nm] (by simp)
  cases h1 : numsOkB [k.d] with
  | true =>
    have HN : Hid (∀ W2, Calls Try.prog 51 #[.slice (some ⟨W2.heap.size, 0, none⟩) 1 1] (W2.alloc (.cells #[.int .i64 k.d] 3)) fun e w' => e = .returned (.bool true) ∧ Below W2.heap.size W2 w') := fun W2 => by rw [← h1]; exact within_new W2 [k.d] (by simp)
    have HE : Hid (decide (keyOk k) = sizesB [k.nm]) := by
      show _ = _
      rw [numsOk1] at h1
      rw [sizes1]
      exact decide_eq_decide.2 ⟨fun h => h.2, fun h => ⟨of_decide_eq_true h1, h⟩⟩
    clear h1 hb
    go_enter Try.func57, Try.ntmps57
    go_upto_region 1 with fail
    clear hW
    go_wp2_with (first
      | (go_at_call 51; refine (HN.out _).mono ?_; rintro e w1 ⟨rfl, hb1⟩; have x1 := cell_of (hkeep HB.out.1 hb1) 1; simp at x1)
      | (go_at_call 83; refine (HS.out _).mono ?_; rintro e w2 ⟨rfl, hb2⟩))
    go_ret
    exact ⟨by rw [HE.out]; rfl, chainB HB.out.2 (chainB hb1 hb2)⟩
  | false =>
    have HN : Hid (∀ W2, Calls Try.prog 51 #[.slice (some ⟨W2.heap.size, 0, none⟩) 1 1] (W2.alloc (.cells #[.int .i64 k.d] 3)) fun e w' => e = .returned (.bool false) ∧ Below W2.heap.size W2 w') := fun W2 => by rw [← h1]; exact within_new W2 [k.d] (by simp)
    have HE : Hid (decide (keyOk k) = false) := decide_eq_false (fun h => by rw [numsOk1] at h1; exact of_decide_eq_false h1 h.1)
    clear h1 hb
    go_enter Try.func57, Try.ntmps57
    go_upto_region 1 with fail
    clear hW
    go_wp2_with (first
      | (go_at_call 51; refine (HN.out _).mono ?_; rintro e w1 ⟨rfl, hb1⟩)
      | (go_at_call 83; refine (HS.out _).mono ?_; rintro e w2 ⟨rfl, hb2⟩))
    go_ret
    exact ⟨by rw [HE.out]; rfl, chainB HB.out.2 hb1⟩
end
section
open Go.RowKit Go.Lib

set_option maxRecDepth 20000 in
set_option maxHeartbeats 8000000 in
theorem plainNode_p (x : En) (w : World) : Calls Try.prog 84 #[.agg #[.int .i64 x.id, .int .i64 x.kind, .int .i64 x.mode, .string x.tg]] w fun e w' => e = .returned (.bool (decide (nodeOk x))) ∧ Below w.heap.size w w' := by
  obtain ⟨W, hW⟩ : ∃ W, w.alloc (.cells #[.int .i64 x.id, .int .i64 x.kind, .int .i64 x.mode, .string x.tg] 42) = W := ⟨_, rfl⟩
  have hb := boxB hW
  have HB : Hid (W.heap[w.heap.size]? = some (.cells #[.int .i64 x.id, .int .i64 x.kind, .int .i64 x.mode, .string x.tg] 42 (0, 0)) ∧ Below w.heap.size w W) := hb
  have x0 := cell_of hb.1 0
  have x1 := cell_of hb.1 1
  have x2 := cell_of hb.1 2
  have x3 := cell_of hb.1 3
  simp at x0 x1 x2 x3
  have HS : Hid (∀ W2, Calls Try.prog 83 #[.slice (some ⟨W2.heap.size, 0, none⟩) 1 1] (W2.alloc (.cells #[.string x.tg] 9)) fun e w' => e = .returned (.bool (sizesB [x.tg])) ∧ Below W2.heap.size W2 w') := fun W2 => short_new W2 [x.tg] (by simp)
  have hOk : nodeOk x ↔ (1 ≤ x.kind ∧ x.kind ≤ 3) ∧ numsOkB [x.id, x.mode] = true ∧ sizesB [x.tg] = true := by unfold nodeOk numsOkB sizesB; simp only [List.all_cons, List.all_nil, Bool.and_true, Bool.and_eq_true, decide_eq_true_eq]; exact ⟨fun h => ⟨h.2.2.1, ⟨h.1, h.2.1⟩, h.2.2.2⟩, fun h => ⟨h.2.1.1, h.2.1.2, h.1, h.2.2⟩⟩
  by_cases h1 : 1 ≤ x.kind
  case neg =>
    have hd : decide (1 ≤ x.kind) = false := decide_eq_false h1
    have HE : Hid (decide (nodeOk x) = false) := decide_eq_false (fun h => h1 (hOk.1 h).1.1)
    clear hb hOk
    go_enter Try.func84, Try.ntmps84
    go_upto_region 1 with fail
    clear hW
    go_wp2_with fail
    go_ret
    exact ⟨by rw [HE.out]; rfl, HB.out.2⟩
  have hd1 : decide (1 ≤ x.kind) = true := decide_eq_true h1
  by_cases h2 : x.kind ≤ 3
  case neg =>
    have hd : decide (x.kind ≤ 3) = false := decide_eq_false h2
    have HE : Hid (decide (nodeOk x) = false) := decide_eq_false (fun h => h2 (hOk.1 h).1.2)
    clear hb hOk
    go_enter Try.func84, Try.ntmps84
    go_upto_region 1 with fail
    clear hW
    go_wp2_with fail
    go_ret
    exact ⟨by rw [HE.out]; rfl, HB.out.2⟩
  have hd2 : decide (x.kind ≤ 3) = true := decide_eq_true h2
  cases h3 : numsOkB [x.id, x.mode]
  case false =>
    have HN : Hid (∀ W2, Calls Try.prog 51 #[.slice (some ⟨W2.heap.size, 0, none⟩) 2 2] (W2.alloc (.cells #[.int .i64 x.id, .int .i64 x.mode] 3)) fun e w' => e = .returned (.bool false) ∧ Below W2.heap.size W2 w') := fun W2 => by rw [← h3]; exact within_new W2 [x.id, x.mode] (by simp)
    have HE : Hid (decide (nodeOk x) = false) := decide_eq_false (fun h => by have := (hOk.1 h).2.1; rw [h3] at this; cases this)
    clear hb hOk h3
    go_enter Try.func84, Try.ntmps84
    go_upto_region 1 with fail
    clear hW
    go_wp2_with (first
      | (go_at_call 51; refine (HN.out _).mono ?_; rintro e w1 ⟨rfl, hb1⟩; have y3 := cell_of (hkeep HB.out.1 hb1) 3; simp at y3)
      | (go_at_call 83; refine (HS.out _).mono ?_; rintro e w2 ⟨rfl, hb2⟩))
    go_ret
    exact ⟨by rw [HE.out]; rfl, chainB HB.out.2 hb1⟩
  case true =>
    have HN : Hid (∀ W2, Calls Try.prog 51 #[.slice (some ⟨W2.heap.size, 0, none⟩) 2 2] (W2.alloc (.cells #[.int .i64 x.id, .int .i64 x.mode] 3)) fun e w' => e = .returned (.bool true) ∧ Below W2.heap.size W2 w') := fun W2 => by rw [← h3]; exact within_new W2 [x.id, x.mode] (by simp)
    have HE : Hid (decide (nodeOk x) = sizesB [x.tg]) := by show _ = _; cases hs : sizesB [x.tg] with | true => exact decide_eq_true (hOk.2 ⟨⟨h1, h2⟩, h3, hs⟩) | false => exact decide_eq_false (fun h => by have := (hOk.1 h).2.2; rw [hs] at this; cases this)
    clear hb hOk h3
    go_enter Try.func84, Try.ntmps84
    go_upto_region 1 with fail
    clear hW
    go_wp2_with (first
      | (go_at_call 51; refine (HN.out _).mono ?_; rintro e w1 ⟨rfl, hb1⟩; have y3 := cell_of (hkeep HB.out.1 hb1) 3; simp at y3)
      | (go_at_call 83; refine (HS.out _).mono ?_; rintro e w2 ⟨rfl, hb2⟩))
    go_ret
    exact ⟨by rw [HE.out]; rfl, chainB HB.out.2 (chainB hb1 hb2)⟩
set_option maxRecDepth 20000 in
set_option maxHeartbeats 8000000 in
theorem plainOp_p (x : Opn) (w : World) : Calls Try.prog 53 #[.agg #[.int .i64 x.kind, .int .i64 x.dir, .string x.nm, .int .i64 x.dst, .string x.new, .int .i64 x.mode, .string x.tg]] w fun e w' => e = .returned (.bool (decide (opOk x))) ∧ Below w.heap.size w w' := by
  obtain ⟨W, hW⟩ : ∃ W, w.alloc (.cells #[.int .i64 x.kind, .int .i64 x.dir, .string x.nm, .int .i64 x.dst, .string x.new, .int .i64 x.mode, .string x.tg] 26) = W := ⟨_, rfl⟩
  have hb := boxB hW
  have HB : Hid (W.heap[w.heap.size]? = some (.cells #[.int .i64 x.kind, .int .i64 x.dir, .string x.nm, .int .i64 x.dst, .string x.new, .int .i64 x.mode, .string x.tg] 26 (0, 0)) ∧ Below w.heap.size w W) := hb
  have x0 := cell_of hb.1 0
  have x1 := cell_of hb.1 1
  have x2 := cell_of hb.1 2
  have x3 := cell_of hb.1 3
  have x4 := cell_of hb.1 4
  have x5 := cell_of hb.1 5
  have x6 := cell_of hb.1 6
  simp at x0 x1 x2 x3 x4 x5 x6
  have HS : Hid (∀ W2, Calls Try.prog 83 #[.slice (some ⟨W2.heap.size, 0, none⟩) 3 3] (W2.alloc (.cells #[.string x.nm, .string x.new, .string x.tg] 9)) fun e w' => e = .returned (.bool (sizesB [x.nm, x.new, x.tg])) ∧ Below W2.heap.size W2 w') := fun W2 => short_new W2 [x.nm, x.new, x.tg] (by simp)
  have hOk : opOk x ↔ (1 ≤ x.kind ∧ x.kind ≤ 11) ∧ numsOkB [x.dir, x.dst, x.mode] = true ∧ sizesB [x.nm, x.new, x.tg] = true := by unfold opOk numsOkB sizesB; simp only [List.all_cons, List.all_nil, Bool.and_true, Bool.and_eq_true, decide_eq_true_eq]; exact ⟨fun h => ⟨h.1, ⟨h.2.1, h.2.2.1, h.2.2.2.1⟩, h.2.2.2.2.1, h.2.2.2.2.2.1, h.2.2.2.2.2.2⟩, fun h => ⟨h.1, h.2.1.1, h.2.1.2.1, h.2.1.2.2, h.2.2.1, h.2.2.2.1, h.2.2.2.2⟩⟩
  by_cases h1 : 1 ≤ x.kind
  case neg =>
    have hd : decide (1 ≤ x.kind) = false := decide_eq_false h1
    have HE : Hid (decide (opOk x) = false) := decide_eq_false (fun h => h1 (hOk.1 h).1.1)
    clear hb hOk
    go_enter Try.func53, Try.ntmps53
    go_upto_region 1 with fail
    clear hW
    go_wp2_with fail
    go_ret
    exact ⟨by rw [HE.out]; rfl, HB.out.2⟩
  have hd1 : decide (1 ≤ x.kind) = true := decide_eq_true h1
  by_cases h2 : x.kind ≤ 11
  case neg =>
    have hd : decide (x.kind ≤ 11) = false := decide_eq_false h2
    have HE : Hid (decide (opOk x) = false) := decide_eq_false (fun h => h2 (hOk.1 h).1.2)
    clear hb hOk
    go_enter Try.func53, Try.ntmps53
    go_upto_region 1 with fail
    clear hW
    go_wp2_with fail
    go_ret
    exact ⟨by rw [HE.out]; rfl, HB.out.2⟩
  have hd2 : decide (x.kind ≤ 11) = true := decide_eq_true h2
  cases h3 : numsOkB [x.dir, x.dst, x.mode]
  case false =>
    have HN : Hid (∀ W2, Calls Try.prog 51 #[.slice (some ⟨W2.heap.size, 0, none⟩) 3 3] (W2.alloc (.cells #[.int .i64 x.dir, .int .i64 x.dst, .int .i64 x.mode] 3)) fun e w' => e = .returned (.bool false) ∧ Below W2.heap.size W2 w') := fun W2 => by rw [← h3]; exact within_new W2 [x.dir, x.dst, x.mode] (by simp)
    have HE : Hid (decide (opOk x) = false) := decide_eq_false (fun h => by have := (hOk.1 h).2.1; rw [h3] at this; cases this)
    clear hb hOk h3
    go_enter Try.func53, Try.ntmps53
    go_upto_region 1 with fail
    clear hW
    go_wp2_with (first
      | (go_at_call 51; refine (HN.out _).mono ?_; rintro e w1 ⟨rfl, hb1⟩; have y2 := cell_of (hkeep HB.out.1 hb1) 2; simp at y2; have y4 := cell_of (hkeep HB.out.1 hb1) 4; simp at y4; have y6 := cell_of (hkeep HB.out.1 hb1) 6; simp at y6)
      | (go_at_call 83; refine (HS.out _).mono ?_; rintro e w2 ⟨rfl, hb2⟩))
    go_ret
    exact ⟨by rw [HE.out]; rfl, chainB HB.out.2 hb1⟩
  case true =>
    have HN : Hid (∀ W2, Calls Try.prog 51 #[.slice (some ⟨W2.heap.size, 0, none⟩) 3 3] (W2.alloc (.cells #[.int .i64 x.dir, .int .i64 x.dst, .int .i64 x.mode] 3)) fun e w' => e = .returned (.bool true) ∧ Below W2.heap.size W2 w') := fun W2 => by rw [← h3]; exact within_new W2 [x.dir, x.dst, x.mode] (by simp)
    have HE : Hid (decide (opOk x) = sizesB [x.nm, x.new, x.tg]) := by show _ = _; cases hs : sizesB [x.nm, x.new, x.tg] with | true => exact decide_eq_true (hOk.2 ⟨⟨h1, h2⟩, h3, hs⟩) | false => exact decide_eq_false (fun h => by have := (hOk.1 h).2.2; rw [hs] at this; cases this)
    clear hb hOk h3
    go_enter Try.func53, Try.ntmps53
    go_upto_region 1 with fail
    clear hW
    go_wp2_with (first
      | (go_at_call 51; refine (HN.out _).mono ?_; rintro e w1 ⟨rfl, hb1⟩; have y2 := cell_of (hkeep HB.out.1 hb1) 2; simp at y2; have y4 := cell_of (hkeep HB.out.1 hb1) 4; simp at y4; have y6 := cell_of (hkeep HB.out.1 hb1) 6; simp at y6)
      | (go_at_call 83; refine (HS.out _).mono ?_; rintro e w2 ⟨rfl, hb2⟩))
    go_ret
    exact ⟨by rw [HE.out]; rfl, chainB HB.out.2 (chainB hb1 hb2)⟩
end
section
open Go.RowKit Go.Lib
attribute [local go_sem high] eqN neqN guardN

theorem nodeZ_b (x : En) : decide (nodeZ x) = (decide (x.id = 0) && (decide (x.kind = 0) && (decide (x.mode = 0) && decide (x.tg = ⟨#[]⟩)))) := by
  rw [show decide (nodeZ x) = decide (x.id = 0 ∧ x.kind = 0 ∧ x.mode = 0 ∧ x.tg = ⟨#[]⟩) from decide_eq_decide.2 Iff.rfl]
  simp only [Bool.decide_and]
set_option maxRecDepth 20000 in
set_option maxHeartbeats 8000000 in
theorem plainEntry_p (x : En) (w : World) : Calls Try.prog 55 #[x.agg] w fun e w' => e = .returned (.bool (decide (entOk x))) ∧ Below w.heap.size w w' := by
  obtain ⟨W, hW⟩ : ∃ W, w.alloc (.cells #[.int .i64 x.d, .string x.nm, .bool x.neg, .int .i64 x.id, .int .i64 x.kind, .int .i64 x.mode, .string x.tg] 44) = W := ⟨_, rfl⟩
  unfold En.agg
  have hb := boxB hW
  have HB : Hid (W.heap[w.heap.size]? = some (.cells #[.int .i64 x.d, .string x.nm, .bool x.neg, .int .i64 x.id, .int .i64 x.kind, .int .i64 x.mode, .string x.tg] 44 (0, 0)) ∧ Below w.heap.size w W) := hb
  have x0 := cell_of hb.1 0
  have x1 := cell_of hb.1 1
  simp at x0 x1
  have HK : Hid (∀ W2, Calls Try.prog 57 #[.agg #[.int .i64 x.d, .string x.nm]] W2 fun e w' => e = .returned (.bool (decide (keyOk ⟨x.d, x.nm⟩))) ∧ Below W2.heap.size W2 w') := fun W2 => plainKey_p ⟨x.d, x.nm⟩ W2
  have HND : Hid (∀ W2, Calls Try.prog 84 #[.agg #[.int .i64 x.id, .int .i64 x.kind, .int .i64 x.mode, .string x.tg]] W2 fun e w' => e = .returned (.bool (decide (nodeOk x))) ∧ Below W2.heap.size W2 w') := fun W2 => plainNode_p x W2
  cases hk : decide (keyOk ⟨x.d, x.nm⟩) with
  | false =>
    rw [hk] at HK
    have HE : Hid (decide (entOk x) = false) := decide_eq_false (fun h => of_decide_eq_false hk h.1)
    clear hk hb
    go_enter Try.func55, Try.ntmps55
    go_upto_region 1 with fail
    clear hW
    go_wp2_with (go_at_call 57; refine (HK.out _).mono ?_; rintro e w1 ⟨rfl, hb1⟩)
    go_ret
    exact ⟨by rw [HE.out]; rfl, chainB HB.out.2 hb1⟩
  | true =>
    rw [hk] at HK
    have hk' := of_decide_eq_true hk
    cases hn : x.neg with
    | true =>
      rw [hn] at HB hW
      have HE : Hid (decide (entOk x) = (decide (x.id = 0) && (decide (x.kind = 0) && (decide (x.mode = 0) && decide (x.tg = ⟨#[]⟩))))) := by
        show _ = _
        rw [← nodeZ_b]
        exact decide_eq_decide.2 ⟨fun h => by have := h.2; rw [hn] at this; simpa using this, fun h => ⟨hk', by rw [hn]; simpa using h⟩⟩
      clear hk hb hk'
      go_enter Try.func55, Try.ntmps55
      go_upto_region 1 with fail
      clear hW
      go_wp2_with (go_at_call 57; refine (HK.out _).mono ?_; rintro e w1 ⟨rfl, hb1⟩; have y2 := cell_of (hkeep HB.out.1 hb1) 2; have y3 := cell_of (hkeep HB.out.1 hb1) 3; have y4 := cell_of (hkeep HB.out.1 hb1) 4; have y5 := cell_of (hkeep HB.out.1 hb1) 5; have y6 := cell_of (hkeep HB.out.1 hb1) 6; simp at y2 y3 y4 y5 y6)
      go_ret
      exact ⟨by rw [HE.out]; rfl, chainB HB.out.2 hb1⟩
    | false =>
      rw [hn] at HB hW
      have HE : Hid (decide (entOk x) = decide (nodeOk x)) := decide_eq_decide.2 ⟨fun h => by have := h.2; rw [hn] at this; simpa using this, fun h => ⟨hk', by rw [hn]; simpa using h⟩⟩
      clear hk hb hk'
      go_enter Try.func55, Try.ntmps55
      go_upto_region 1 with fail
      clear hW
      go_wp2_with (first
        | (go_at_call 57; refine (HK.out _).mono ?_; rintro e w1 ⟨rfl, hb1⟩; have y2 := cell_of (hkeep HB.out.1 hb1) 2; have y3 := cell_of (hkeep HB.out.1 hb1) 3; have y4 := cell_of (hkeep HB.out.1 hb1) 4; have y5 := cell_of (hkeep HB.out.1 hb1) 5; have y6 := cell_of (hkeep HB.out.1 hb1) 6; simp at y2 y3 y4 y5 y6)
        | (go_at_call 84; refine (HND.out _).mono ?_; rintro e w2 ⟨rfl, hb2⟩))
      go_ret
      exact ⟨by rw [HE.out]; rfl, chainB HB.out.2 (chainB hb1 hb2)⟩
end
section
open Go.RowKit Go.Lib

def listOkB {α : Type} (Ok : α → Prop) [∀ x, Decidable (Ok x)] (es : List α) : Bool := decide (es.length ≤ 48) && es.all fun e => decide (Ok e)
theorem listOkB_iff {α : Type} (Ok : α → Prop) [∀ x, Decidable (Ok x)] (es : List α) : listOkB Ok es = true ↔ es.length ≤ 48 ∧ ∀ e ∈ es, Ok e := by
  unfold listOkB
  simp

set_option maxRecDepth 20000 in
set_option maxHeartbeats 8000000 in
theorem plainListE_p (v : Value) (es : List En) (base : Nat) (w : World) (hr : Row7 w base v es) : Calls Try.prog 54 #[v, .func (.func 55) #[] #[]] w fun e w' => e = .returned (.bool (listOkB entOk es)) ∧ Below w.heap.size w w' := by
  obtain ⟨a, cap, rfl⟩ := owns_len hr
  obtain ⟨n, hn⟩ : ∃ n, es.length = n := ⟨_, rfl⟩
  have H : Hid (Row7 w base (.slice a n cap) es ∧ es.length = n) := ⟨by rw [← hn]; exact hr, hn⟩
  rw [hn]
  clear hr
  by_cases h48 : 48 < n
  · have hd : (48 : Int) < (n : Int) := by omega
    have HE : Hid (listOkB entOk es = false) := by show _ = _; unfold listOkB; rw [hn, decide_eq_false (by omega)]; rfl
    clear hn
    go_enter Try.func54, Try.ntmps54
    go_wp2
    go_ret
    exact ⟨by rw [HE.out]; rfl, Below.refl _ _⟩
  · have hd : ¬ (48 : Int) < (n : Int) := by omega
    have HE : Hid (listOkB entOk es = es.all fun e => decide (entOk e)) := by show _ = _; unfold listOkB; rw [hn, decide_eq_true (by omega)]; rfl
    clear hn
    go_enter Try.func54, Try.ntmps54
    go_wp2
    go_loopw [12] (fun i wr => ∃ k : Nat, k ≤ n ∧ i = .int .i64 k ∧ Hid ((∀ (j : Nat) (x : En), j < k → es[j]? = some x → decide (entOk x) = true) ∧ Below w.heap.size w wr)) (fun i _ => n - (intOf i).toNat)
    case atStart => exact ⟨0, Nat.zero_le _, rfl, fun j x hj => (by omega), Below.refl _ _⟩
    case round =>
      obtain ⟨k, hk, rfl, hI⟩ := hrel
      by_cases hkn : k < n
      · obtain ⟨e, he⟩ : ∃ e, es[k]? = some e := ⟨_, List.getElem?_eq_getElem (by rw [H.out.2]; exact hkn)⟩
        have hrow := H.out.1.below hI.out.2
        obtain ⟨g, rfl, -, -, hg, hc, -⟩ := owns_entry hrow he
        have x0 := hc.c0
        have x1 := hc.c1
        have x2 := hc.c2
        have x3 := hc.c3
        have x4 := hc.c4
        have x5 := hc.c5
        have x6 := hc.c6
        have hki : (k : Int) < (n : Int) := by omega
        have HEo : Hid (es[k]? = some e) := he
        obtain ⟨W5, hW5⟩ : ∃ W5, wr.alloc (.cells #[.int .i64 e.d, .string e.nm, .bool e.neg, .int .i64 e.id, .int .i64 e.kind, .int .i64 e.mode, .string e.tg] 44) = W5 := ⟨_, rfl⟩
        have hb5 := boxB hW5
        have HB : Hid (Below w.heap.size w W5) := chainB hI.out.2 hb5.2
        have y0 := cell_of hb5.1 0
        have y1 := cell_of hb5.1 1
        have y2 := cell_of hb5.1 2
        have y3 := cell_of hb5.1 3
        have y4 := cell_of hb5.1 4
        have y5 := cell_of hb5.1 5
        have y6 := cell_of hb5.1 6
        simp at y0 y1 y2 y3 y4 y5 y6
        have HP : Hid (∀ W2, Calls Try.prog 55 #[.agg #[.int .i64 e.d, .string e.nm, .bool e.neg, .int .i64 e.id, .int .i64 e.kind, .int .i64 e.mode, .string e.tg]] W2 fun x w' => x = .returned (.bool (decide (entOk e))) ∧ Below W2.heap.size W2 w') := fun W2 => plainEntry_p e W2
        clear hrow hc he hb5
        cases hq : decide (entOk e) with
        | false =>
          rw [hq] at HP
          have HF : Hid ((es.all fun e => decide (entOk e)) = false) := all_no _ es k e HEo.out hq
          go_upto_region 6 with fail
          clear hW5 x0 x1 x2 x3 x4 x5 x6
          go_wp2_with (go_at_call 55; refine (HP.out _).mono ?_; rintro x w7 ⟨rfl, hb7⟩)
          go_ret
          exact ⟨by rw [HE.out, HF.out]; rfl, chainB HB.out hb7⟩
        | true =>
          rw [hq] at HP
          have HQ : Hid (decide (entOk e) = true) := hq
          clear hq
          go_upto_region 6 with fail
          clear hW5 x0 x1 x2 x3 x4 x5 x6
          go_wp2_with (go_at_call 55; refine (HP.out _).mono ?_; rintro x w7 ⟨rfl, hb7⟩)
          refine ⟨⟨k + 1, by omega, by simp, fun j y hj hy => ?_, chainB HB.out hb7⟩, by simp [intOf]; omega⟩
          by_cases hjk : j < k
          · exact hI.out.1 j y hjk hy
          · obtain rfl : j = k := by omega
            rw [HEo.out] at hy
            cases hy
            exact HQ.out
      · have hkn' : ¬ (k : Int) < (n : Int) := by omega
        obtain rfl : k = n := by omega
        have HF : Hid ((es.all fun e => decide (entOk e)) = true) := all_yes _ es k H.out.2 hI.out.1
        go_wp2
        go_ret
        exact ⟨by rw [HE.out, HF.out]; rfl, hI.out.2⟩

set_option maxRecDepth 20000 in
set_option maxHeartbeats 8000000 in
theorem plainListK_p (v : Value) (es : List Ky) (base : Nat) (w : World) (hr : RowK w base v es) : Calls Try.prog 56 #[v, .func (.func 57) #[] #[]] w fun e w' => e = .returned (.bool (listOkB keyOk es)) ∧ Below w.heap.size w w' := by
  obtain ⟨a, cap, rfl⟩ := owns_len hr
  obtain ⟨n, hn⟩ : ∃ n, es.length = n := ⟨_, rfl⟩
  have H : Hid (RowK w base (.slice a n cap) es ∧ es.length = n) := ⟨by rw [← hn]; exact hr, hn⟩
  rw [hn]
  clear hr
  by_cases h48 : 48 < n
  · have hd : (48 : Int) < (n : Int) := by omega
    have HE : Hid (listOkB keyOk es = false) := by show _ = _; unfold listOkB; rw [hn, decide_eq_false (by omega)]; rfl
    clear hn
    go_enter Try.func56, Try.ntmps56
    go_wp2
    go_ret
    exact ⟨by rw [HE.out]; rfl, Below.refl _ _⟩
  · have hd : ¬ (48 : Int) < (n : Int) := by omega
    have HE : Hid (listOkB keyOk es = es.all fun e => decide (keyOk e)) := by show _ = _; unfold listOkB; rw [hn, decide_eq_true (by omega)]; rfl
    clear hn
    go_enter Try.func56, Try.ntmps56
    go_wp2
    go_loopw [12] (fun i wr => ∃ k : Nat, k ≤ n ∧ i = .int .i64 k ∧ Hid ((∀ (j : Nat) (x : Ky), j < k → es[j]? = some x → decide (keyOk x) = true) ∧ Below w.heap.size w wr)) (fun i _ => n - (intOf i).toNat)
    case atStart => exact ⟨0, Nat.zero_le _, rfl, fun j x hj => (by omega), Below.refl _ _⟩
    case round =>
      obtain ⟨k, hk, rfl, hI⟩ := hrel
      by_cases hkn : k < n
      · obtain ⟨e, he⟩ : ∃ e, es[k]? = some e := ⟨_, List.getElem?_eq_getElem (by rw [H.out.2]; exact hkn)⟩
        have hrow := H.out.1.below hI.out.2
        obtain ⟨g, rfl, -, hg, x0, x1, -⟩ := hrow.key he
        have hc : True := trivial
        have hki : (k : Int) < (n : Int) := by omega
        have HEo : Hid (es[k]? = some e) := he
        obtain ⟨W5, hW5⟩ : ∃ W5, wr.alloc (.cells #[.int .i64 e.d, .string e.nm] 40) = W5 := ⟨_, rfl⟩
        have hb5 := boxB hW5
        have HB : Hid (Below w.heap.size w W5) := chainB hI.out.2 hb5.2
        have y0 := cell_of hb5.1 0
        have y1 := cell_of hb5.1 1
        simp at y0 y1
        have HP : Hid (∀ W2, Calls Try.prog 57 #[.agg #[.int .i64 e.d, .string e.nm]] W2 fun x w' => x = .returned (.bool (decide (keyOk e))) ∧ Below W2.heap.size W2 w') := fun W2 => plainKey_p e W2
        clear hrow hc he hb5
        cases hq : decide (keyOk e) with
        | false =>
          rw [hq] at HP
          have HF : Hid ((es.all fun e => decide (keyOk e)) = false) := all_no _ es k e HEo.out hq
          go_upto_region 6 with fail
          clear hW5 x0 x1
          go_wp2_with (go_at_call 57; refine (HP.out _).mono ?_; rintro x w7 ⟨rfl, hb7⟩)
          go_ret
          exact ⟨by rw [HE.out, HF.out]; rfl, chainB HB.out hb7⟩
        | true =>
          rw [hq] at HP
          have HQ : Hid (decide (keyOk e) = true) := hq
          clear hq
          go_upto_region 6 with fail
          clear hW5 x0 x1
          go_wp2_with (go_at_call 57; refine (HP.out _).mono ?_; rintro x w7 ⟨rfl, hb7⟩)
          refine ⟨⟨k + 1, by omega, by simp, fun j y hj hy => ?_, chainB HB.out hb7⟩, by simp [intOf]; omega⟩
          by_cases hjk : j < k
          · exact hI.out.1 j y hjk hy
          · obtain rfl : j = k := by omega
            rw [HEo.out] at hy
            cases hy
            exact HQ.out
      · have hkn' : ¬ (k : Int) < (n : Int) := by omega
        obtain rfl : k = n := by omega
        have HF : Hid ((es.all fun e => decide (keyOk e)) = true) := all_yes _ es k H.out.2 hI.out.1
        go_wp2
        go_ret
        exact ⟨by rw [HE.out, HF.out]; rfl, hI.out.2⟩
end
end Go.Proofs.Ytekonakanieeaaa
