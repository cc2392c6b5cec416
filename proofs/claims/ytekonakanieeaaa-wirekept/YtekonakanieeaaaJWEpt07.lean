/- What is plain: nodes, ops. -/
import Derived.Test.YtekonakanieeaaaJWEpt06
namespace Go.Proofs.Ytekonakanieeaaa
section
open Go.RowKit Go.Lib

set_option maxRecDepth 20000 in
set_option maxHeartbeats 8000000 in
theorem plainNode_p (x : En) (w : World) : Calls Try.prog 84 #[.agg #[.int .i64 x.id, .int .i64 x.kind, .int .i64 x.mode, .string x.tg]] w fun e w' => e = .returned (.bool (decide (nodeOk x))) ∧ Below w.heap.size w w' := by
  obtain ⟨W, hW⟩ : ∃ W, w.alloc (.cells #[.int .i64 x.id, .int .i64 x.kind, .int .i64 x.mode, .string x.tg] 42) = W := ⟨_, rfl⟩
  have hb := boxB hW
  have HB : Hid (W.heap[w.heap.size]? = some (.cells #[.int .i64 x.id, .int .i64 x.kind, .int .i64 x.mode, .string x.tg] 42 (0, 0)) ∧ Below w.heap.size w W) := hb
  have x0 := cell_of hb.1 0
  have x1 := cell_of hb.1 1
  have x2 := cell_of hb.1 2
  have x3 := cell_of hb.1 3
  simp at x0 x1 x2 x3
  have HS : Hid (∀ W2, Calls Try.prog 83 #[.slice (some ⟨W2.heap.size, 0, none⟩) 1 1] (W2.alloc (.cells #[.string x.tg] 9)) fun e w' => e = .returned (.bool (sizesB [x.tg])) ∧ Below W2.heap.size W2 w') := fun W2 => short_new W2 [x.tg] (by simp)
  have hOk : nodeOk x ↔ (1 ≤ x.kind ∧ x.kind ≤ 3) ∧ numsOkB [x.id, x.mode] = true ∧ sizesB [x.tg] = true := by unfold nodeOk numsOkB sizesB; simp only [List.all_cons, List.all_nil, Bool.and_true, Bool.and_eq_true, decide_eq_true_eq]; exact ⟨fun h => ⟨h.2.2.1, ⟨h.1, h.2.1⟩, h.2.2.2⟩, fun h => ⟨h.2.1.1, h.2.1.2, h.1, h.2.2⟩⟩
  by_cases h1 : 1 ≤ x.kind
  case neg =>
    have hd : decide (1 ≤ x.kind) = false := decide_eq_false h1
    have HE : Hid (decide (nodeOk x) = false) := decide_eq_false (fun h => h1 (hOk.1 h).1.1)
    clear hb hOk
    go_enter Try.func84, Try.ntmps84
    go_upto_region 1 with fail
    clear hW
    go_wp2_with fail
    go_ret
    exact ⟨by rw [HE.out]; rfl, HB.out.2⟩
  have hd1 : decide (1 ≤ x.kind) = true := decide_eq_true h1
  by_cases h2 : x.kind ≤ 3
  case neg =>
    have hd : decide (x.kind ≤ 3) = false := decide_eq_false h2
    have HE : Hid (decide (nodeOk x) = false) := decide_eq_false (fun h => h2 (hOk.1 h).1.2)
    clear hb hOk
    go_enter Try.func84, Try.ntmps84
    go_upto_region 1 with fail
    clear hW
    go_wp2_with fail
    go_ret
    exact ⟨by rw [HE.out]; rfl, HB.out.2⟩
  have hd2 : decide (x.kind ≤ 3) = true := decide_eq_true h2
  cases h3 : numsOkB [x.id, x.mode]
  case false =>
    have HN : Hid (∀ W2, Calls Try.prog 51 #[.slice (some ⟨W2.heap.size, 0, none⟩) 2 2] (W2.alloc (.cells #[.int .i64 x.id, .int .i64 x.mode] 3)) fun e w' => e = .returned (.bool false) ∧ Below W2.heap.size W2 w') := fun W2 => by rw [← h3]; exact within_new W2 [x.id, x.mode] (by simp)
    have HE : Hid (decide (nodeOk x) = false) := decide_eq_false (fun h => by have := (hOk.1 h).2.1; rw [h3] at this; cases this)
    clear hb hOk h3
    go_enter Try.func84, Try.ntmps84
    go_upto_region 1 with fail
    clear hW
    go_wp2_with (first
      | (go_at_call 51; refine (HN.out _).mono ?_; rintro e w1 ⟨rfl, hb1⟩; have y3 := cell_of (hkeep HB.out.1 hb1) 3; simp at y3)
      | (go_at_call 83; refine (HS.out _).mono ?_; rintro e w2 ⟨rfl, hb2⟩))
    go_ret
    exact ⟨by rw [HE.out]; rfl, chainB HB.out.2 hb1⟩
  case true =>
    have HN : Hid (∀ W2, Calls Try.prog 51 #[.slice (some ⟨W2.heap.size, 0, none⟩) 2 2] (W2.alloc (.cells #[.int .i64 x.id, .int .i64 x.mode] 3)) fun e w' => e = .returned (.bool true) ∧ Below W2.heap.size W2 w') := fun W2 => by rw [← h3]; exact within_new W2 [x.id, x.mode] (by simp)
    have HE : Hid (decide (nodeOk x) = sizesB [x.tg]) := by show _ = _; cases hs : sizesB [x.tg] with | true => exact decide_eq_true (hOk.2 ⟨⟨h1, h2⟩, h3, hs⟩) | false => exact decide_eq_false (fun h => by have := (hOk.1 h).2.2; rw [hs] at this; cases this)
    clear hb hOk h3
    go_enter Try.func84, Try.ntmps84
    go_upto_region 1 with fail
    clear hW
    go_wp2_with (first
      | (go_at_call 51; refine (HN.out _).mono ?_; rintro e w1 ⟨rfl, hb1⟩; have y3 := cell_of (hkeep HB.out.1 hb1) 3; simp at y3)
      | (go_at_call 83; refine (HS.out _).mono ?_; rintro e w2 ⟨rfl, hb2⟩))
    go_ret
    exact ⟨by rw [HE.out]; rfl, chainB HB.out.2 (chainB hb1 hb2)⟩
set_option maxRecDepth 20000 in
set_option maxHeartbeats 8000000 in
theorem plainOp_p (x : Opn) (w : World) : Calls Try.prog 53 #[.agg #[.int .i64 x.kind, .int .i64 x.dir, .string x.nm, .int .i64 x.dst, .string x.new, .int .i64 x.mode, .string x.tg]] w fun e w' => e = .returned (.bool (decide (opOk x))) ∧ Below w.heap.size w w' := by
  obtain ⟨W, hW⟩ : ∃ W, w.alloc (.cells #[.int .i64 x.kind, .int .i64 x.dir, .string x.nm, .int .i64 x.dst, .string x.new, .int .i64 x.mode, .string x.tg] 26) = W := ⟨_, rfl⟩
  have hb := boxB hW
  have HB : Hid (W.heap[w.heap.size]? = some (.cells #[.int .i64 x.kind, .int .i64 x.dir, .string x.nm, .int .i64 x.dst, .string x.new, .int .i64 x.mode, .string x.tg] 26 (0, 0)) ∧ Below w.heap.size w W) := hb
  have x0 := cell_of hb.1 0
  have x1 := cell_of hb.1 1
  have x2 := cell_of hb.1 2
  have x3 := cell_of hb.1 3
  have x4 := cell_of hb.1 4
  have x5 := cell_of hb.1 5
  have x6 := cell_of hb.1 6
  simp at x0 x1 x2 x3 x4 x5 x6
  have HS : Hid (∀ W2, Calls Try.prog 83 #[.slice (some ⟨W2.heap.size, 0, none⟩) 3 3] (W2.alloc (.cells #[.string x.nm, .string x.new, .string x.tg] 9)) fun e w' => e = .returned (.bool (sizesB [x.nm, x.new, x.tg])) ∧ Below W2.heap.size W2 w') := fun W2 => short_new W2 [x.nm, x.new, x.tg] (by simp)
  have hOk : opOk x ↔ (1 ≤ x.kind ∧ x.kind ≤ 11) ∧ numsOkB [x.dir, x.dst, x.mode] = true ∧ sizesB [x.nm, x.new, x.tg] = true := by unfold opOk numsOkB sizesB; simp only [List.all_cons, List.all_nil, Bool.and_true, Bool.and_eq_true, decide_eq_true_eq]; exact ⟨fun h => ⟨h.1, ⟨h.2.1, h.2.2.1, h.2.2.2.1⟩, h.2.2.2.2.1, h.2.2.2.2.2.1, h.2.2.2.2.2.2⟩, fun h => ⟨h.1, h.2.1.1, h.2.1.2.1, h.2.1.2.2, h.2.2.1, h.2.2.2.1, h.2.2.2.2⟩⟩
  by_cases h1 : 1 ≤ x.kind
  case neg =>
    have hd : decide (1 ≤ x.kind) = false := decide_eq_false h1
    have HE : Hid (decide (opOk x) = false) := decide_eq_false (fun h => h1 (hOk.1 h).1.1)
    clear hb hOk
    go_enter Try.func53, Try.ntmps53
    go_upto_region 1 with fail
    clear hW
    go_wp2_with fail
    go_ret
    exact ⟨by rw [HE.out]; rfl, HB.out.2⟩
  have hd1 : decide (1 ≤ x.kind) = true := decide_eq_true h1
  by_cases h2 : x.kind ≤ 11
  case neg =>
    have hd : decide (x.kind ≤ 11) = false := decide_eq_false h2
    have HE : Hid (decide (opOk x) = false) := decide_eq_false (fun h => h2 (hOk.1 h).1.2)
    clear hb hOk
    go_enter Try.func53, Try.ntmps53
    go_upto_region 1 with fail
    clear hW
    go_wp2_with fail
    go_ret
    exact ⟨by rw [HE.out]; rfl, HB.out.2⟩
  have hd2 : decide (x.kind ≤ 11) = true := decide_eq_true h2
  cases h3 : numsOkB [x.dir, x.dst, x.mode]
  case false =>
    have HN : Hid (∀ W2, Calls Try.prog 51 #[.slice (some ⟨W2.heap.size, 0, none⟩) 3 3] (W2.alloc (.cells #[.int .i64 x.dir, .int .i64 x.dst, .int .i64 x.mode] 3)) fun e w' => e = .returned (.bool false) ∧ Below W2.heap.size W2 w') := fun W2 => by rw [← h3]; exact within_new W2 [x.dir, x.dst, x.mode] (by simp)
    have HE : Hid (decide (opOk x) = false) := decide_eq_false (fun h => by have := (hOk.1 h).2.1; rw [h3] at this; cases this)
    clear hb hOk h3
    go_enter Try.func53, Try.ntmps53
    go_upto_region 1 with fail
    clear hW
    go_wp2_with (first
      | (go_at_call 51; refine (HN.out _).mono ?_; rintro e w1 ⟨rfl, hb1⟩; have y2 := cell_of (hkeep HB.out.1 hb1) 2; simp at y2; have y4 := cell_of (hkeep HB.out.1 hb1) 4; simp at y4; have y6 := cell_of (hkeep HB.out.1 hb1) 6; simp at y6)
      | (go_at_call 83; refine (HS.out _).mono ?_; rintro e w2 ⟨rfl, hb2⟩))
    go_ret
    exact ⟨by rw [HE.out]; rfl, chainB HB.out.2 hb1⟩
  case true =>
    have HN : Hid (∀ W2, Calls Try.prog 51 #[.slice (some ⟨W2.heap.size, 0, none⟩) 3 3] (W2.alloc (.cells #[.int .i64 x.dir, .int .i64 x.dst, .int .i64 x.mode] 3)) fun e w' => e = .returned (.bool true) ∧ Below W2.heap.size W2 w') := fun W2 => by rw [← h3]; exact within_new W2 [x.dir, x.dst, x.mode] (by simp)
    have HE : Hid (decide (opOk x) = sizesB [x.nm, x.new, x.tg]) := by show _ = _; cases hs : sizesB [x.nm, x.new, x.tg] with | true => exact decide_eq_true (hOk.2 ⟨⟨h1, h2⟩, h3, hs⟩) | false => exact decide_eq_false (fun h => by have := (hOk.1 h).2.2; rw [hs] at this; cases this)
    clear hb hOk h3
    go_enter Try.func53, Try.ntmps53
    go_upto_region 1 with fail
    clear hW
    go_wp2_with (first
      | (go_at_call 51; refine (HN.out _).mono ?_; rintro e w1 ⟨rfl, hb1⟩; have y2 := cell_of (hkeep HB.out.1 hb1) 2; simp at y2; have y4 := cell_of (hkeep HB.out.1 hb1) 4; simp at y4; have y6 := cell_of (hkeep HB.out.1 hb1) 6; simp at y6)
      | (go_at_call 83; refine (HS.out _).mono ?_; rintro e w2 ⟨rfl, hb2⟩))
    go_ret
    exact ⟨by rw [HE.out]; rfl, chainB HB.out.2 (chainB hb1 hb2)⟩
end
section
open Go.RowKit Go.Lib
attribute [local go_sem high] eqN neqN guardN

theorem nodeZ_b (x : En) : decide (nodeZ x) = (decide (x.id = 0) && (decide (x.kind = 0) && (decide (x.mode = 0) && decide (x.tg = ⟨#[]⟩)))) := by
  rw [show decide (nodeZ x) = decide (x.id = 0 ∧ x.kind = 0 ∧ x.mode = 0 ∧ x.tg = ⟨#[]⟩) from decide_eq_decide.2 Iff.rfl]
  simp only [Bool.decide_and]
set_option maxRecDepth 20000 in
set_option maxHeartbeats 8000000 in
theorem plainEntry_p (x : En) (w : World) : Calls Try.prog 55 #[x.agg] w fun e w' => e = .returned (.bool (decide (entOk x))) ∧ Below w.heap.size w w' := by
  obtain ⟨W, hW⟩ : ∃ W, w.alloc (.cells #[.int .i64 x.d, .string x.nm, .bool x.neg, .int .i64 x.id, .int .i64 x.kind, .int .i64 x.mode, .string x.tg] 44) = W := ⟨_, rfl⟩
  unfold En.agg
  have hb := boxB hW
  have HB : Hid (W.heap[w.heap.size]? = some (.cells #[.int .i64 x.d, .string x.nm, .bool x.neg, .int .i64 x.id, .int .i64 x.kind, .int .i64 x.mode, .string x.tg] 44 (0, 0)) ∧ Below w.heap.size w W) := hb
  have x0 := cell_of hb.1 0
  have x1 := cell_of hb.1 1
  simp at x0 x1
  have HK : Hid (∀ W2, Calls Try.prog 57 #[.agg #[.int .i64 x.d, .string x.nm]] W2 fun e w' => e = .returned (.bool (decide (keyOk ⟨x.d, x.nm⟩))) ∧ Below W2.heap.size W2 w') := fun W2 => plainKey_p ⟨x.d, x.nm⟩ W2
  have HND : Hid (∀ W2, Calls Try.prog 84 #[.agg #[.int .i64 x.id, .int .i64 x.kind, .int .i64 x.mode, .string x.tg]] W2 fun e w' => e = .returned (.bool (decide (nodeOk x))) ∧ Below W2.heap.size W2 w') := fun W2 => plainNode_p x W2
  cases hk : decide (keyOk ⟨x.d, x.nm⟩) with
  | false =>
    rw [hk] at HK
    have HE : Hid (decide (entOk x) = false) := decide_eq_false (fun h => of_decide_eq_false hk h.1)
    clear hk hb
    go_enter Try.func55, Try.ntmps55
    go_upto_region 1 with fail
    clear hW
    go_wp2_with (go_at_call 57; refine (HK.out _).mono ?_; rintro e w1 ⟨rfl, hb1⟩)
    go_ret
    exact ⟨by rw [HE.out]; rfl, chainB HB.out.2 hb1⟩
  | true =>
    rw [hk] at HK
    have hk' := of_decide_eq_true hk
    cases hn : x.neg with
    | true =>
      rw [hn] at HB hW
      have HE : Hid (decide (entOk x) = (decide (x.id = 0) && (decide (x.kind = 0) && (decide (x.mode = 0) && decide (x.tg = ⟨#[]⟩))))) := by
        show _ = _
        rw [← nodeZ_b]
        exact decide_eq_decide.2 ⟨fun h => by have := h.2; rw [hn] at this; simpa using this, fun h => ⟨hk', by rw [hn]; simpa using h⟩⟩
      clear hk hb hk'
      go_enter Try.func55, Try.ntmps55
      go_upto_region 1 with fail
      clear hW
      go_wp2_with (go_at_call 57; refine (HK.out _).mono ?_; rintro e w1 ⟨rfl, hb1⟩; have y2 := cell_of (hkeep HB.out.1 hb1) 2; have y3 := cell_of (hkeep HB.out.1 hb1) 3; have y4 := cell_of (hkeep HB.out.1 hb1) 4; have y5 := cell_of (hkeep HB.out.1 hb1) 5; have y6 := cell_of (hkeep HB.out.1 hb1) 6; simp at y2 y3 y4 y5 y6)
      go_ret
      exact ⟨by rw [HE.out]; rfl, chainB HB.out.2 hb1⟩
    | false =>
      rw [hn] at HB hW
      have HE : Hid (decide (entOk x) = decide (nodeOk x)) := decide_eq_decide.2 ⟨fun h => by have := h.2; rw [hn] at this; simpa using this, fun h => ⟨hk', by rw [hn]; simpa using h⟩⟩
      clear hk hb hk'
      go_enter Try.func55, Try.ntmps55
      go_upto_region 1 with fail
      clear hW
      go_wp2_with (first
        | (go_at_call 57; refine (HK.out _).mono ?_; rintro e w1 ⟨rfl, hb1⟩; have y2 := cell_of (hkeep HB.out.1 hb1) 2; have y3 := cell_of (hkeep HB.out.1 hb1) 3; have y4 := cell_of (hkeep HB.out.1 hb1) 4; have y5 := cell_of (hkeep HB.out.1 hb1) 5; have y6 := cell_of (hkeep HB.out.1 hb1) 6; simp at y2 y3 y4 y5 y6)
        | (go_at_call 84; refine (HND.out _).mono ?_; rintro e w2 ⟨rfl, hb2⟩))
      go_ret
      exact ⟨by rw [HE.out]; rfl, chainB HB.out.2 (chainB hb1 hb2)⟩
end
section
open Go.RowKit Go.Lib

def listOkB {α : Type} (Ok : α → Prop) [∀ x, Decidable (Ok x)] (es : List α) : Bool := decide (es.length ≤ 48) && es.all fun e => decide (Ok e)
theorem listOkB_iff {α : Type} (Ok : α → Prop) [∀ x, Decidable (Ok x)] (es : List α) : listOkB Ok es = true ↔ es.length ≤ 48 ∧ ∀ e ∈ es, Ok e := by
  unfold listOkB
  simp

set_option maxRecDepth 20000 in
set_option maxHeartbeats 8000000 in
theorem plainListE_p (v : Value) (es : List En) (base : Nat) (w : World) (hr : Row7 w base v es) : Calls Try.prog 54 #[v, .func (.func 55) #[] #[]] w fun e w' => e = .returned (.bool (listOkB entOk es)) ∧ Below w.heap.size w w' := by
  obtain ⟨a, cap, rfl⟩ := owns_len hr
  obtain ⟨n, hn⟩ : ∃ n, es.length = n := ⟨_, rfl⟩
  have H : Hid (Row7 w base (.slice a n cap) es ∧ es.length = n) := ⟨by rw [← hn]; exact hr, hn⟩
  rw [hn]
  clear hr
  by_cases h48 : 48 < n
  · have hd : (48 : Int) < (n : Int) := by omega
    have HE : Hid (listOkB entOk es = false) := by show _ = _; unfold listOkB; rw [hn, decide_eq_false (by omega)]; rfl
    clear hn
    go_enter Try.func54, Try.ntmps54
    go_wp2
    go_ret
    exact ⟨by rw [HE.out]; rfl, Below.refl _ _⟩
  · have hd : ¬ (48 : Int) < (n : Int) := by omega
    have HE : Hid (listOkB entOk es = es.all fun e => decide (entOk e)) := by show _ = _; unfold listOkB; rw [hn, decide_eq_true (by omega)]; rfl
    clear hn
    go_enter Try.func54, Try.ntmps54
    go_wp2
    go_loopw [12] (fun i wr => ∃ k : Nat, k ≤ n ∧ i = .int .i64 k ∧ Hid ((∀ (j : Nat) (x : En), j < k → es[j]? = some x → decide (entOk x) = true) ∧ Below w.heap.size w wr)) (fun i _ => n - (intOf i).toNat)
    case atStart => exact ⟨0, Nat.zero_le _, rfl, fun j x hj => (by omega), Below.refl _ _⟩
    case round =>
      obtain ⟨k, hk, rfl, hI⟩ := hrel
      by_cases hkn : k < n
      · obtain ⟨e, he⟩ : ∃ e, es[k]? = some e := ⟨_, List.getElem?_eq_getElem (by rw [H.out.2]; exact hkn)⟩
        have hrow := H.out.1.below hI.out.2
        obtain ⟨g, rfl, -, -, hg, hc, -⟩ := owns_entry hrow he
        have x0 := hc.c0
        have x1 := hc.c1
        have x2 := hc.c2
        have x3 := hc.c3
        have x4 := hc.c4
        have x5 := hc.c5
        have x6 := hc.c6
        have hki : (k : Int) < (n : Int) := by omega
        have HEo : Hid (es[k]? = some e) := he
        obtain ⟨W5, hW5⟩ : ∃ W5, wr.alloc (.cells #[.int .i64 e.d, .string e.nm, .bool e.neg, .int .i64 e.id, .int .i64 e.kind, .int .i64 e.mode, .string e.tg] 44) = W5 := ⟨_, rfl⟩
        have hb5 := boxB hW5
        have HB : Hid (Below w.heap.size w W5) := chainB hI.out.2 hb5.2
        have y0 := cell_of hb5.1 0
        have y1 := cell_of hb5.1 1
        have y2 := cell_of hb5.1 2
        have y3 := cell_of hb5.1 3
        have y4 := cell_of hb5.1 4
        have y5 := cell_of hb5.1 5
        have y6 := cell_of hb5.1 6
        simp at y0 y1 y2 y3 y4 y5 y6
        have HP : Hid (∀ W2, Calls Try.prog 55 #[.agg #[.int .i64 e.d, .string e.nm, .bool e.neg, .int .i64 e.id, .int .i64 e.kind, .int .i64 e.mode, .string e.tg]] W2 fun x w' => x = .returned (.bool (decide (entOk e))) ∧ Below W2.heap.size W2 w') := fun W2 => plainEntry_p e W2
        clear hrow hc he hb5
        cases hq : decide (entOk e) with
        | false =>
          rw [hq] at HP
          have HF : Hid ((es.all fun e => decide (entOk e)) = false) := all_no _ es k e HEo.out hq
          go_upto_region 6 with fail
          clear hW5 x0 x1 x2 x3 x4 x5 x6
          go_wp2_with (go_at_call 55; refine (HP.out _).mono ?_; rintro x w7 ⟨rfl, hb7⟩)
          go_ret
          exact ⟨by rw [HE.out, HF.out]; rfl, chainB HB.out hb7⟩
        | true =>
          rw [hq] at HP
          have HQ : Hid (decide (entOk e) = true) := hq
          clear hq
          go_upto_region 6 with fail
          clear hW5 x0 x1 x2 x3 x4 x5 x6
          go_wp2_with (go_at_call 55; refine (HP.out _).mono ?_; rintro x w7 ⟨rfl, hb7⟩)
          refine ⟨⟨k + 1, by omega, by simp, fun j y hj hy => ?_, chainB HB.out hb7⟩, by simp [intOf]; omega⟩
          by_cases hjk : j < k
          · exact hI.out.1 j y hjk hy
          · obtain rfl : j = k := by omega
            rw [HEo.out] at hy
            cases hy
            exact HQ.out
      · have hkn' : ¬ (k : Int) < (n : Int) := by omega
        obtain rfl : k = n := by omega
        have HF : Hid ((es.all fun e => decide (entOk e)) = true) := all_yes _ es k H.out.2 hI.out.1
        go_wp2
        go_ret
        exact ⟨by rw [HE.out, HF.out]; rfl, hI.out.2⟩

set_option maxRecDepth 20000 in
set_option maxHeartbeats 8000000 in
theorem plainListK_p (v : Value) (es : List Ky) (base : Nat) (w : World) (hr : RowK w base v es) : Calls Try.prog 56 #[v, .func (.func 57) #[] #[]] w fun e w' => e = .returned (.bool (listOkB keyOk es)) ∧ Below w.heap.size w w' := by
  obtain ⟨a, cap, rfl⟩ := owns_len hr
  obtain ⟨n, hn⟩ : ∃ n, es.length = n := ⟨_, rfl⟩
  have H : Hid (RowK w base (.slice a n cap) es ∧ es.length = n) := ⟨by rw [← hn]; exact hr, hn⟩
  rw [hn]
  clear hr
  by_cases h48 : 48 < n
  · have hd : (48 : Int) < (n : Int) := by omega
    have HE : Hid (listOkB keyOk es = false) := by show _ = _; unfold listOkB; rw [hn, decide_eq_false (by omega)]; rfl
    clear hn
    go_enter Try.func56, Try.ntmps56
    go_wp2
    go_ret
    exact ⟨by rw [HE.out]; rfl, Below.refl _ _⟩
  · have hd : ¬ (48 : Int) < (n : Int) := by omega
    have HE : Hid (listOkB keyOk es = es.all fun e => decide (keyOk e)) := by show _ = _; unfold listOkB; rw [hn, decide_eq_true (by omega)]; rfl
    clear hn
    go_enter Try.func56, Try.ntmps56
    go_wp2
    go_loopw [12] (fun i wr => ∃ k : Nat, k ≤ n ∧ i = .int .i64 k ∧ Hid ((∀ (j : Nat) (x : Ky), j < k → es[j]? = some x → decide (keyOk x) = true) ∧ Below w.heap.size w wr)) (fun i _ => n - (intOf i).toNat)
    case atStart => exact ⟨0, Nat.zero_le _, rfl, fun j x hj => (by omega), Below.refl _ _⟩
    case round =>
      obtain ⟨k, hk, rfl, hI⟩ := hrel
      by_cases hkn : k < n
      · obtain ⟨e, he⟩ : ∃ e, es[k]? = some e := ⟨_, List.getElem?_eq_getElem (by rw [H.out.2]; exact hkn)⟩
        have hrow := H.out.1.below hI.out.2
        obtain ⟨g, rfl, -, hg, x0, x1, -⟩ := hrow.key he
        have hc : True := trivial
        have hki : (k : Int) < (n : Int) := by omega
        have HEo : Hid (es[k]? = some e) := he
        obtain ⟨W5, hW5⟩ : ∃ W5, wr.alloc (.cells #[.int .i64 e.d, .string e.nm] 40) = W5 := ⟨_, rfl⟩
        have hb5 := boxB hW5
        have HB : Hid (Below w.heap.size w W5) := chainB hI.out.2 hb5.2
        have y0 := cell_of hb5.1 0
        have y1 := cell_of hb5.1 1
        simp at y0 y1
        have HP : Hid (∀ W2, Calls Try.prog 57 #[.agg #[.int .i64 e.d, .string e.nm]] W2 fun x w' => x = .returned (.bool (decide (keyOk e))) ∧ Below W2.heap.size W2 w') := fun W2 => plainKey_p e W2
        clear hrow hc he hb5
        cases hq : decide (keyOk e) with
        | false =>
          rw [hq] at HP
          have HF : Hid ((es.all fun e => decide (keyOk e)) = false) := all_no _ es k e HEo.out hq
          go_upto_region 6 with fail
          clear hW5 x0 x1
          go_wp2_with (go_at_call 57; refine (HP.out _).mono ?_; rintro x w7 ⟨rfl, hb7⟩)
          go_ret
          exact ⟨by rw [HE.out, HF.out]; rfl, chainB HB.out hb7⟩
        | true =>
          rw [hq] at HP
          have HQ : Hid (decide (keyOk e) = true) := hq
          clear hq
          go_upto_region 6 with fail
          clear hW5 x0 x1
          go_wp2_with (go_at_call 57; refine (HP.out _).mono ?_; rintro x w7 ⟨rfl, hb7⟩)
          refine ⟨⟨k + 1, by omega, by simp, fun j y hj hy => ?_, chainB HB.out hb7⟩, by simp [intOf]; omega⟩
          by_cases hjk : j < k
          · exact hI.out.1 j y hjk hy
          · obtain rfl : j = k := by omega
            rw [HEo.out] at hy
            cases hy
            exact HQ.out
      · have hkn' : ¬ (k : Int) < (n : Int) := by omega
        obtain rfl : k = n := by omega
        have HF : Hid ((es.all fun e => decide (keyOk e)) = true) := all_yes _ es k H.out.2 hI.out.1
        go_wp2
        go_ret
        exact ⟨by rw [HE.out, HF.out]; rfl, hI.out.2⟩
end
section
open Go.RowKit Go.Lib

theorem Try.stoodO : Try.prog.stoodInHeld 26 = false := by kernel_rfl
theorem Try.guardO : Try.prog.eqGuardType Try.prog.depth 26 = false := by kernel_rfl
theorem Try.undO : Try.prog.underlying 26 = some (.struct (Try.prog.fieldsOf 26)) := by kernel_rfl
theorem guardO (w : World) (op : BinOp) (p q : Operand) (xs ys : Array Value) : (eqGuard op 26 p q (.agg xs) (.agg ys)).run Try.prog w = .ok () w := run_eqGuard_agg w op _ p q xs ys Try.guardO
/-- are two ops the same (shut) -/
def eqOp (e f : Opn) : Bool := decide (e.kind = f.kind) && (decide (e.dir = f.dir) && (decide (e.nm = f.nm) && (decide (e.dst = f.dst) && (decide (e.new = f.new) && (decide (e.mode = f.mode) && decide (e.tg = f.tg))))))
theorem eqOp_iff (e f : Opn) : eqOp e f = true ↔ e = f := by
  obtain ⟨a, b, c, d, g, h, i⟩ := e
  obtain ⟨a', b', c', d', g', h', i'⟩ := f
  unfold eqOp
  simp
theorem eqInO (n : Nat) (w : World) (e f : Opn) : (Op.equalIn (n + 1 + 1) 26 (.agg #[.int .i64 e.kind, .int .i64 e.dir, .string e.nm, .int .i64 e.dst, .string e.new, .int .i64 e.mode, .string e.tg]) (.agg #[.int .i64 f.kind, .int .i64 f.dir, .string f.nm, .int .i64 f.dst, .string f.new, .int .i64 f.mode, .string f.tg])).run Try.prog w = .ok (eqOp e f) w := by
  rw [run_equalIn_agg _ _ _ _ _ Try.undO Try.stoodO]
  simp [Program.fieldsOf, Try.underlying26, Op.eqFields, go_sem]
  simp only [bytes_eq]
  unfold eqOp
  obtain ⟨a, b, c, d, g, h, i⟩ := e
  obtain ⟨a', b', c', d', g', h', i'⟩ := f
  by_cases h1 : a = a' <;> by_cases h2 : b = b' <;> by_cases h3 : c = c' <;> by_cases h4 : d = d' <;> by_cases h5 : g = g' <;> by_cases h6 : h = h' <;> by_cases h7 : i = i' <;> simp [h1, h2, h3, h4, h5, h6, h7]
theorem eqO (w : World) (a b d m a' b' d' m' : Int) (x y z x' y' z' : ByteArray) : (binOp .eql 26 (.agg #[.int .i64 a, .int .i64 b, .string x, .int .i64 d, .string y, .int .i64 m, .string z]) (.agg #[.int .i64 a', .int .i64 b', .string x', .int .i64 d', .string y', .int .i64 m', .string z'])).run Try.prog w = .ok (.bool (eqOp ⟨a, b, x, d, y, m, z⟩ ⟨a', b', x', d', y', m', z'⟩)) w := by
  rw [run_eql_struct]
  have := eqInO 9998 w ⟨a, b, x, d, y, m, z⟩ ⟨a', b', x', d', y', m', z'⟩
  rw [this]; rfl
theorem neqO (w : World) (a b d m a' b' d' m' : Int) (x y z x' y' z' : ByteArray) : (binOp .neq 26 (.agg #[.int .i64 a, .int .i64 b, .string x, .int .i64 d, .string y, .int .i64 m, .string z]) (.agg #[.int .i64 a', .int .i64 b', .string x', .int .i64 d', .string y', .int .i64 m', .string z'])).run Try.prog w = .ok (.bool (!eqOp ⟨a, b, x, d, y, m, z⟩ ⟨a', b', x', d', y', m', z'⟩)) w := by
  rw [run_neq_struct]
  have := eqInO 9998 w ⟨a, b, x, d, y, m, z⟩ ⟨a', b', x', d', y', m', z'⟩
  rw [this]; rfl
/-- is it plain, but for the mark and the numbers? -/
def kindOkB (m : Mg) : Bool :=
  if m.kind = 1 then decide (opOk m.op) && (decide (m.es.length = 0) && decide (m.ks.length = 0))
  else if m.kind = 2 then eqOp m.op zeroOp && (listOkB entOk m.es && decide (m.ks.length = 0))
  else if m.kind = 3 then eqOp m.op zeroOp && (decide (m.es.length = 0) && (decide (0 < m.ks.length) && listOkB keyOk m.ks))
  else if m.kind = 4 then eqOp m.op zeroOp && (decide (m.es.length = 0) && decide (m.ks.length = 0))
  else false
theorem kindOkB_iff (m : Mg) : kindOkB m = true ↔ bodyOk m := by
  unfold kindOkB bodyOk
  by_cases h1 : m.kind = 1
  · simp [h1]
  · by_cases h2 : m.kind = 2
    · simp [h2, eqOp_iff, listOkB_iff, and_assoc]
    · by_cases h3 : m.kind = 3
      · simp [h3, eqOp_iff, listOkB_iff]
      · by_cases h4 : m.kind = 4
        · simp [h4, eqOp_iff]
        · simp [h1, h2, h3, h4]
end
end Go.Proofs.Ytekonakanieeaaa
