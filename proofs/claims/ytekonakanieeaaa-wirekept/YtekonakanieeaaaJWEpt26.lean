/- What is plain, in the document's own words. -/
import Derived.Test.YtekonakanieeaaaJWEpt25
import Derived.Test.YtekonakanieeaaaJWEpt07
import Derived.Test.YtekonakanieeaaaJWEpt06
namespace Go.Proofs.Ytekonakanieeaaa
section
open Go.RowKit Go.Lib

theorem bad_d (v : Int) (w : World) : Calls Try.prog 72 #[.int .i64 v] w fun e w' => e = .returned (.bool (!decide (numOk v))) ∧ w = w' := by
  by_cases h : v < 0
  · have hd : decide (v < 0) = true := decide_eq_true h
    have hn : decide (numOk v) = false := decide_eq_false (fun h2 => by have := h2.1; omega)
    rw [hn]
    go_enter Try.func72, Try.ntmps72
    go_wp2
    go_ret
    exact ⟨rfl, rfl⟩
  · have hd : decide (v < 0) = false := decide_eq_false h
    have hn : decide (numOk v) = !decide (1099511627776 < v) := by
      by_cases h2 : 1099511627776 < v
      · rw [decide_eq_true h2, decide_eq_false (fun h3 => by have := h3.2; omega)]; rfl
      · rw [decide_eq_false h2, decide_eq_true (show numOk v from ⟨by omega, by omega⟩)]; rfl
    rw [hn]
    go_enter Try.func72, Try.ntmps72
    go_wp2
    go_ret
    exact ⟨by simp, rfl⟩
set_option maxRecDepth 20000 in
set_option maxHeartbeats 4000000 in
theorem plainKey_d (k : Ky) (w : World) : Calls Try.prog 75 #[.agg #[.int .i64 k.d, .string k.nm]] w fun e w' => e = .returned (.bool (decide (keyOk k))) ∧ Below w.heap.size w w' := by
  obtain ⟨W, hW⟩ : ∃ W, w.alloc (.cells #[.int .i64 k.d, .string k.nm] 40) = W := ⟨_, rfl⟩
  have hb := boxB hW
  have HB : Hid (W.heap[w.heap.size]? = some (.cells #[.int .i64 k.d, .string k.nm] 40 (0, 0)) ∧ Below w.heap.size w W) := hb
  have x0 := cell_of hb.1 0
  have x1 := cell_of hb.1 1
  simp at x0 x1
  clear hb
  by_cases h1 : numOk k.d
  case neg =>
    have HB1 : Hid (∀ W, Calls Try.prog 72 #[.int .i64 k.d] W fun e w' => e = .returned (.bool true) ∧ W = w') := fun W => by have := bad_d k.d W; rw [decide_eq_false h1] at this; exact this
    have HE : Hid (decide (keyOk k) = false) := decide_eq_false (fun h => h1 h.1)
    go_enter Try.func75, Try.ntmps75
    go_upto_region 1 with fail
    clear hW
    go_wp2_with (first
      | (go_at_call 72; refine (HB1.out _).mono ?_; rintro e w1 ⟨rfl, rfl⟩))
    go_ret
    exact ⟨by rw [HE.out]; rfl, HB.out.2⟩
  have HB1 : Hid (∀ W, Calls Try.prog 72 #[.int .i64 k.d] W fun e w' => e = .returned (.bool false) ∧ W = w') := fun W => by have := bad_d k.d W; rw [decide_eq_true h1] at this; exact this
  by_cases h2 : k.nm.size ≤ 96
  case neg =>
    have d2 : decide ((k.nm.size : Int) ≤ 96) = false := decide_eq_false (by omega)
    have d2n : ¬ (k.nm.size : Int) ≤ 96 := by omega
    have HE : Hid (decide (keyOk k) = false) := decide_eq_false (fun h => h2 h.2)
    go_enter Try.func75, Try.ntmps75
    go_upto_region 1 with fail
    clear hW
    go_wp2_with (first
      | (go_at_call 72; refine (HB1.out _).mono ?_; rintro e w1 ⟨rfl, rfl⟩))
    go_ret
    exact ⟨by rw [HE.out]; rfl, HB.out.2⟩
  have d2 : decide ((k.nm.size : Int) ≤ 96) = true := decide_eq_true (by omega)
  have HE : Hid (decide (keyOk k) = true) := decide_eq_true ⟨h1, h2⟩
  go_enter Try.func75, Try.ntmps75
  go_upto_region 1 with fail
  clear hW
  go_wp2_with (first
    | (go_at_call 72; refine (HB1.out _).mono ?_; rintro e w1 ⟨rfl, rfl⟩))
  go_ret
  exact ⟨by rw [HE.out]; rfl, HB.out.2⟩
set_option maxRecDepth 20000 in
set_option maxHeartbeats 4000000 in
theorem plainOp_d (x : Opn) (w : World) : Calls Try.prog 73 #[.agg #[.int .i64 x.kind, .int .i64 x.dir, .string x.nm, .int .i64 x.dst, .string x.new, .int .i64 x.mode, .string x.tg]] w fun e w' => e = .returned (.bool (decide (opOk x))) ∧ Below w.heap.size w w' := by
  obtain ⟨W, hW⟩ : ∃ W, w.alloc (.cells #[.int .i64 x.kind, .int .i64 x.dir, .string x.nm, .int .i64 x.dst, .string x.new, .int .i64 x.mode, .string x.tg] 26) = W := ⟨_, rfl⟩
  have hb := boxB hW
  have HB : Hid (W.heap[w.heap.size]? = some (.cells #[.int .i64 x.kind, .int .i64 x.dir, .string x.nm, .int .i64 x.dst, .string x.new, .int .i64 x.mode, .string x.tg] 26 (0, 0)) ∧ Below w.heap.size w W) := hb
  have x0 := cell_of hb.1 0
  have x1 := cell_of hb.1 1
  have x2 := cell_of hb.1 2
  have x3 := cell_of hb.1 3
  have x4 := cell_of hb.1 4
  have x5 := cell_of hb.1 5
  have x6 := cell_of hb.1 6
  simp at x0 x1 x2 x3 x4 x5 x6
  clear hb
  have HBad : Hid (∀ v W, Calls Try.prog 72 #[.int .i64 v] W fun e w' => e = .returned (.bool (!decide (numOk v))) ∧ W = w') := bad_d
  by_cases h1 : 1 ≤ x.kind
  case neg =>
    have d1 : decide (1 ≤ x.kind) = false := decide_eq_false h1
    have HE : Hid (decide (opOk x) = false) := decide_eq_false (fun h => h1 h.1.1)
    go_enter Try.func73, Try.ntmps73
    go_upto_region 1 with fail
    clear hW
    go_wp2
    go_ret
    exact ⟨by rw [HE.out]; rfl, HB.out.2⟩
  have d1 : decide (1 ≤ x.kind) = true := decide_eq_true h1
  by_cases h2 : x.kind ≤ 11
  case neg =>
    have d2 : decide (x.kind ≤ 11) = false := decide_eq_false h2
    have HE : Hid (decide (opOk x) = false) := decide_eq_false (fun h => h2 h.1.2)
    go_enter Try.func73, Try.ntmps73
    go_upto_region 1 with fail
    clear hW
    go_wp2
    go_ret
    exact ⟨by rw [HE.out]; rfl, HB.out.2⟩
  have d2 : decide (x.kind ≤ 11) = true := decide_eq_true h2
  by_cases h3 : numOk x.dir
  case neg =>
    have e3 : decide (numOk x.dir) = false := decide_eq_false h3
    have HE : Hid (decide (opOk x) = false) := decide_eq_false (fun h => h3 h.2.1)
    go_enter Try.func73, Try.ntmps73
    go_upto_region 1 with fail
    clear hW
    go_wp2_with (go_at_call 72; refine (HBad.out _ _).mono ?_; rintro e w9 ⟨rfl, rfl⟩; first | rw [e3])
    go_ret
    exact ⟨by rw [HE.out]; rfl, HB.out.2⟩
  have e3 : decide (numOk x.dir) = true := decide_eq_true h3
  by_cases h4 : numOk x.dst
  case neg =>
    have e4 : decide (numOk x.dst) = false := decide_eq_false h4
    have HE : Hid (decide (opOk x) = false) := decide_eq_false (fun h => h4 h.2.2.1)
    go_enter Try.func73, Try.ntmps73
    go_upto_region 1 with fail
    clear hW
    go_wp2_with (go_at_call 72; refine (HBad.out _ _).mono ?_; rintro e w9 ⟨rfl, rfl⟩; first | rw [e3] | rw [e4])
    go_ret
    exact ⟨by rw [HE.out]; rfl, HB.out.2⟩
  have e4 : decide (numOk x.dst) = true := decide_eq_true h4
  by_cases h5 : numOk x.mode
  case neg =>
    have e5 : decide (numOk x.mode) = false := decide_eq_false h5
    have HE : Hid (decide (opOk x) = false) := decide_eq_false (fun h => h5 h.2.2.2.1)
    go_enter Try.func73, Try.ntmps73
    go_upto_region 1 with fail
    clear hW
    go_wp2_with (go_at_call 72; refine (HBad.out _ _).mono ?_; rintro e w9 ⟨rfl, rfl⟩; first | rw [e3] | rw [e4] | rw [e5])
    go_ret
    exact ⟨by rw [HE.out]; rfl, HB.out.2⟩
  have e5 : decide (numOk x.mode) = true := decide_eq_true h5
  by_cases h6 : x.nm.size ≤ 96
  case neg =>
    have d6 : decide ((x.nm.size : Int) ≤ 96) = false := decide_eq_false (by omega)
    have d6n : ¬ (x.nm.size : Int) ≤ 96 := by omega
    have HE : Hid (decide (opOk x) = false) := decide_eq_false (fun h => h6 h.2.2.2.2.1)
    go_enter Try.func73, Try.ntmps73
    go_upto_region 1 with fail
    clear hW
    go_wp2_with (go_at_call 72; refine (HBad.out _ _).mono ?_; rintro e w9 ⟨rfl, rfl⟩; first | rw [e3] | rw [e4] | rw [e5])
    go_ret
    exact ⟨by rw [HE.out]; rfl, HB.out.2⟩
  have d6 : decide ((x.nm.size : Int) ≤ 96) = true := decide_eq_true (by omega)
  by_cases h7 : x.new.size ≤ 96
  case neg =>
    have d7 : decide ((x.new.size : Int) ≤ 96) = false := decide_eq_false (by omega)
    have d7n : ¬ (x.new.size : Int) ≤ 96 := by omega
    have HE : Hid (decide (opOk x) = false) := decide_eq_false (fun h => h7 h.2.2.2.2.2.1)
    go_enter Try.func73, Try.ntmps73
    go_upto_region 1 with fail
    clear hW
    go_wp2_with (go_at_call 72; refine (HBad.out _ _).mono ?_; rintro e w9 ⟨rfl, rfl⟩; first | rw [e3] | rw [e4] | rw [e5])
    go_ret
    exact ⟨by rw [HE.out]; rfl, HB.out.2⟩
  have d7 : decide ((x.new.size : Int) ≤ 96) = true := decide_eq_true (by omega)
  by_cases h8 : x.tg.size ≤ 96
  case neg =>
    have d8 : decide ((x.tg.size : Int) ≤ 96) = false := decide_eq_false (by omega)
    have d8n : ¬ (x.tg.size : Int) ≤ 96 := by omega
    have HE : Hid (decide (opOk x) = false) := decide_eq_false (fun h => h8 h.2.2.2.2.2.2)
    go_enter Try.func73, Try.ntmps73
    go_upto_region 1 with fail
    clear hW
    go_wp2_with (go_at_call 72; refine (HBad.out _ _).mono ?_; rintro e w9 ⟨rfl, rfl⟩; first | rw [e3] | rw [e4] | rw [e5])
    go_ret
    exact ⟨by rw [HE.out]; rfl, HB.out.2⟩
  have d8 : decide ((x.tg.size : Int) ≤ 96) = true := decide_eq_true (by omega)
  have HE : Hid (decide (opOk x) = true) := decide_eq_true ⟨⟨h1, h2⟩, h3, h4, h5, h6, h7, h8⟩
  go_enter Try.func73, Try.ntmps73
  go_upto_region 1 with fail
  clear hW
  go_wp2_with (go_at_call 72; refine (HBad.out _ _).mono ?_; rintro e w9 ⟨rfl, rfl⟩; first | rw [e3] | rw [e4] | rw [e5])
  go_ret
  exact ⟨by rw [HE.out]; rfl, HB.out.2⟩
end
section
open Go.RowKit Go.Lib
attribute [local go_sem high] eqN neqN guardN

set_option maxRecDepth 20000 in
set_option maxHeartbeats 8000000 in
theorem plainEntry_d (x : En) (w : World) : Calls Try.prog 74 #[.agg #[.int .i64 x.d, .string x.nm, .bool x.neg, .int .i64 x.id, .int .i64 x.kind, .int .i64 x.mode, .string x.tg]] w fun e w' => e = .returned (.bool (decide (entOk x))) ∧ Below w.heap.size w w' := by
  obtain ⟨W, hW⟩ : ∃ W, w.alloc (.cells #[.int .i64 x.d, .string x.nm, .bool x.neg, .int .i64 x.id, .int .i64 x.kind, .int .i64 x.mode, .string x.tg] 44) = W := ⟨_, rfl⟩
  have hb := boxB hW
  have HB : Hid (W.heap[w.heap.size]? = some (.cells #[.int .i64 x.d, .string x.nm, .bool x.neg, .int .i64 x.id, .int .i64 x.kind, .int .i64 x.mode, .string x.tg] 44 (0, 0)) ∧ Below w.heap.size w W) := hb
  have x0 := cell_of hb.1 0
  have x1 := cell_of hb.1 1
  simp at x0 x1
  have HK : Hid (∀ W2, Calls Try.prog 75 #[.agg #[.int .i64 x.d, .string x.nm]] W2 fun e w' => e = .returned (.bool (decide (keyOk ⟨x.d, x.nm⟩))) ∧ Below W2.heap.size W2 w') := fun W2 => plainKey_d ⟨x.d, x.nm⟩ W2
  have HBad : Hid (∀ v W, Calls Try.prog 72 #[.int .i64 v] W fun e w' => e = .returned (.bool (!decide (numOk v))) ∧ W = w') := bad_d
  cases hk : decide (keyOk ⟨x.d, x.nm⟩) with
  | false =>
    rw [hk] at HK
    have HE : Hid (decide (entOk x) = false) := decide_eq_false (fun h => of_decide_eq_false hk h.1)
    clear hk hb
    go_enter Try.func74, Try.ntmps74
    go_upto_region 1 with fail
    clear hW
    go_wp2_with (go_at_call 75; refine (HK.out _).mono ?_; rintro e w1 ⟨rfl, hb1⟩)
    go_ret
    exact ⟨by rw [HE.out]; rfl, chainB HB.out.2 hb1⟩
  | true =>
    rw [hk] at HK
    have hk' := of_decide_eq_true hk
    cases hn : x.neg with
    | true =>
      rw [hn] at HB hW
      have HE : Hid (decide (entOk x) = (decide (x.id = 0) && (decide (x.kind = 0) && (decide (x.mode = 0) && decide (x.tg = ⟨#[]⟩))))) := by
        show _ = _
        rw [← nodeZ_b]
        exact decide_eq_decide.2 ⟨fun h => by have := h.2; rw [hn] at this; simpa using this, fun h => ⟨hk', by rw [hn]; simpa using h⟩⟩
      clear hk hb hk'
      go_enter Try.func74, Try.ntmps74
      go_upto_region 1 with fail
      clear hW
      go_wp2_with (go_at_call 75; refine (HK.out _).mono ?_; rintro e w1 ⟨rfl, hb1⟩; have y2 := cell_of (hkeep HB.out.1 hb1) 2; have y3 := cell_of (hkeep HB.out.1 hb1) 3; have y4 := cell_of (hkeep HB.out.1 hb1) 4; have y5 := cell_of (hkeep HB.out.1 hb1) 5; have y6 := cell_of (hkeep HB.out.1 hb1) 6; simp at y2 y3 y4 y5 y6)
      go_ret
      exact ⟨by rw [HE.out]; rfl, chainB HB.out.2 hb1⟩
    | false =>
      rw [hn] at HB hW
      have HE0 : Hid (entOk x ↔ nodeOk x) := ⟨fun h => by have := h.2; rw [hn] at this; simpa using this, fun h => ⟨hk', by rw [hn]; simpa using h⟩⟩
      clear hk hb hk'
      by_cases h1 : numOk x.id
      case neg =>
        have e1 : decide (numOk x.id) = false := decide_eq_false h1
        have HE : Hid (decide (entOk x) = false) := decide_eq_false (fun h => by have h := HE0.out.1 h; exact h1 h.1)
        go_enter Try.func74, Try.ntmps74
        go_upto_region 1 with fail
        clear hW
        go_wp2_with (first
          | (go_at_call 75; refine (HK.out _).mono ?_; rintro e w1 ⟨rfl, hb1⟩; have y2 := cell_of (hkeep HB.out.1 hb1) 2; have y3 := cell_of (hkeep HB.out.1 hb1) 3; have y4 := cell_of (hkeep HB.out.1 hb1) 4; have y5 := cell_of (hkeep HB.out.1 hb1) 5; have y6 := cell_of (hkeep HB.out.1 hb1) 6; simp at y2 y3 y4 y5 y6)
          | (go_at_call 72; refine (HBad.out _ _).mono ?_; rintro e w9 ⟨rfl, rfl⟩; first | rw [e1]))
        go_ret
        exact ⟨by rw [HE.out]; rfl, chainB HB.out.2 (chainB hb1 (below_alloc _ _))⟩
      have e1 : decide (numOk x.id) = true := decide_eq_true h1
      by_cases h2 : numOk x.mode
      case neg =>
        have e2 : decide (numOk x.mode) = false := decide_eq_false h2
        have HE : Hid (decide (entOk x) = false) := decide_eq_false (fun h => by have h := HE0.out.1 h; exact h2 h.2.1)
        go_enter Try.func74, Try.ntmps74
        go_upto_region 1 with fail
        clear hW
        go_wp2_with (first
          | (go_at_call 75; refine (HK.out _).mono ?_; rintro e w1 ⟨rfl, hb1⟩; have y2 := cell_of (hkeep HB.out.1 hb1) 2; have y3 := cell_of (hkeep HB.out.1 hb1) 3; have y4 := cell_of (hkeep HB.out.1 hb1) 4; have y5 := cell_of (hkeep HB.out.1 hb1) 5; have y6 := cell_of (hkeep HB.out.1 hb1) 6; simp at y2 y3 y4 y5 y6)
          | (go_at_call 72; refine (HBad.out _ _).mono ?_; rintro e w9 ⟨rfl, rfl⟩; first | rw [e1] | rw [e2]))
        go_ret
        exact ⟨by rw [HE.out]; rfl, chainB HB.out.2 (chainB hb1 (below_alloc _ _))⟩
      have e2 : decide (numOk x.mode) = true := decide_eq_true h2
      by_cases h3 : 1 ≤ x.kind
      case neg =>
        have d3 : decide (1 ≤ x.kind) = false := decide_eq_false h3
        have HE : Hid (decide (entOk x) = false) := decide_eq_false (fun h => by have h := HE0.out.1 h; exact h3 h.2.2.1.1)
        go_enter Try.func74, Try.ntmps74
        go_upto_region 1 with fail
        clear hW
        go_wp2_with (first
          | (go_at_call 75; refine (HK.out _).mono ?_; rintro e w1 ⟨rfl, hb1⟩; have y2 := cell_of (hkeep HB.out.1 hb1) 2; have y3 := cell_of (hkeep HB.out.1 hb1) 3; have y4 := cell_of (hkeep HB.out.1 hb1) 4; have y5 := cell_of (hkeep HB.out.1 hb1) 5; have y6 := cell_of (hkeep HB.out.1 hb1) 6; simp at y2 y3 y4 y5 y6)
          | (go_at_call 72; refine (HBad.out _ _).mono ?_; rintro e w9 ⟨rfl, rfl⟩; first | rw [e1] | rw [e2]))
        go_ret
        exact ⟨by rw [HE.out]; rfl, chainB HB.out.2 (chainB hb1 (below_alloc _ _))⟩
      have d3 : decide (1 ≤ x.kind) = true := decide_eq_true h3
      by_cases h4 : x.kind ≤ 3
      case neg =>
        have d4 : decide (x.kind ≤ 3) = false := decide_eq_false h4
        have HE : Hid (decide (entOk x) = false) := decide_eq_false (fun h => by have h := HE0.out.1 h; exact h4 h.2.2.1.2)
        go_enter Try.func74, Try.ntmps74
        go_upto_region 1 with fail
        clear hW
        go_wp2_with (first
          | (go_at_call 75; refine (HK.out _).mono ?_; rintro e w1 ⟨rfl, hb1⟩; have y2 := cell_of (hkeep HB.out.1 hb1) 2; have y3 := cell_of (hkeep HB.out.1 hb1) 3; have y4 := cell_of (hkeep HB.out.1 hb1) 4; have y5 := cell_of (hkeep HB.out.1 hb1) 5; have y6 := cell_of (hkeep HB.out.1 hb1) 6; simp at y2 y3 y4 y5 y6)
          | (go_at_call 72; refine (HBad.out _ _).mono ?_; rintro e w9 ⟨rfl, rfl⟩; first | rw [e1] | rw [e2]))
        go_ret
        exact ⟨by rw [HE.out]; rfl, chainB HB.out.2 (chainB hb1 (below_alloc _ _))⟩
      have d4 : decide (x.kind ≤ 3) = true := decide_eq_true h4
      by_cases h5 : x.tg.size ≤ 96
      case neg =>
        have d5 : decide ((x.tg.size : Int) ≤ 96) = false := decide_eq_false (by omega)
        have HE : Hid (decide (entOk x) = false) := decide_eq_false (fun h => by have h := HE0.out.1 h; exact h5 h.2.2.2)
        go_enter Try.func74, Try.ntmps74
        go_upto_region 1 with fail
        clear hW
        go_wp2_with (first
          | (go_at_call 75; refine (HK.out _).mono ?_; rintro e w1 ⟨rfl, hb1⟩; have y2 := cell_of (hkeep HB.out.1 hb1) 2; have y3 := cell_of (hkeep HB.out.1 hb1) 3; have y4 := cell_of (hkeep HB.out.1 hb1) 4; have y5 := cell_of (hkeep HB.out.1 hb1) 5; have y6 := cell_of (hkeep HB.out.1 hb1) 6; simp at y2 y3 y4 y5 y6)
          | (go_at_call 72; refine (HBad.out _ _).mono ?_; rintro e w9 ⟨rfl, rfl⟩; first | rw [e1] | rw [e2]))
        go_ret
        exact ⟨by rw [HE.out]; rfl, chainB HB.out.2 (chainB hb1 (below_alloc _ _))⟩
      have d5 : decide ((x.tg.size : Int) ≤ 96) = true := decide_eq_true (by omega)
      have HE : Hid (decide (entOk x) = true) := decide_eq_true (HE0.out.2 ⟨h1, h2, ⟨h3, h4⟩, h5⟩)
      go_enter Try.func74, Try.ntmps74
      go_upto_region 1 with fail
      clear hW
      go_wp2_with (first
        | (go_at_call 75; refine (HK.out _).mono ?_; rintro e w1 ⟨rfl, hb1⟩; have y2 := cell_of (hkeep HB.out.1 hb1) 2; have y3 := cell_of (hkeep HB.out.1 hb1) 3; have y4 := cell_of (hkeep HB.out.1 hb1) 4; have y5 := cell_of (hkeep HB.out.1 hb1) 5; have y6 := cell_of (hkeep HB.out.1 hb1) 6; simp at y2 y3 y4 y5 y6)
        | (go_at_call 72; refine (HBad.out _ _).mono ?_; rintro e w9 ⟨rfl, rfl⟩; first | rw [e1] | rw [e2]))
      go_ret
      exact ⟨by rw [HE.out]; rfl, chainB HB.out.2 (chainB hb1 (below_alloc _ _))⟩
end
section
open Go.RowKit Go.Lib
attribute [local go_sem high] eqO neqO guardO

set_option maxRecDepth 20000 in
set_option maxHeartbeats 8000000 in
theorem plm_G (kind : Int) (client life seq : Int) (re im : Nat) (vers err : Int) (op : Opn) (ve vk : Value) (es : List En) (ks : List Ky) (w : World) (he : Row7 w 0 ve es) (hk : RowK w 0 vk ks) (hG : goodB re im = false) : Calls Try.prog 37 #[.agg (Ms.arr ⟨kind, client, life, seq, re, im, vers, err, op, ve, vk, es, ks⟩)] w fun e w' => e = .returned (.bool false) ∧ Below w.heap.size w w' := by
  obtain ⟨ae, ce, rfl⟩ := owns_len he
  obtain ⟨ak, ck, rfl⟩ := owns_len hk
  unfold Ms.arr
  simp only []
  obtain ⟨W, hW⟩ : ∃ W, w.alloc (.cells #[.int .i64 kind, .int .i64 client, .int .i64 life, .int .i64 seq, .complex .f64 re im, .int .i64 vers, .int .i64 err, .int .i64 op.kind, .int .i64 op.dir, .string op.nm, .int .i64 op.dst, .string op.new, .int .i64 op.mode, .string op.tg, .slice ae es.length ce, .slice ak ks.length ck] 30) = W := ⟨_, rfl⟩
  have hb := boxB hW
  have HB : Hid (W.heap[w.heap.size]? = some (.cells #[.int .i64 kind, .int .i64 client, .int .i64 life, .int .i64 seq, .complex .f64 re im, .int .i64 vers, .int .i64 err, .int .i64 op.kind, .int .i64 op.dir, .string op.nm, .int .i64 op.dst, .string op.new, .int .i64 op.mode, .string op.tg, .slice ae es.length ce, .slice ak ks.length ck] 30 (0, 0)) ∧ Below w.heap.size w W) := hb
  have x4 := cell_of hb.1 4
  simp at x4
  have HPt : Hid (∀ W, Calls Try.prog 38 #[.complex .f64 re im] W fun e w' => ∃ E N, e = .returned (.tuple #[.int .i64 E, .int .i64 N, .bool false]) ∧ W = w') := fun W => (parts_any re im W).mono fun e w' h => by rw [hG] at h; exact ⟨_, _, h.1, h.2.symm⟩
  clear hb he hk hG
  go_enter Try.func37, Try.ntmps37
  go_upto_region 1 with fail
  clear hW
  go_wp2_with (first
    | (go_at_call 38; refine (HPt.out _).mono ?_; rintro e w9 ⟨E9, N9, rfl, rfl⟩))
  go_ret
  exact ⟨rfl, HB.out.2⟩
set_option maxRecDepth 20000 in
set_option maxHeartbeats 8000000 in
theorem plm_lo (kind : Int) (client life seq : Int) (re im : Nat) (vers err : Int) (op : Opn) (ve vk : Value) (es : List En) (ks : List Ky) (w : World) (he : Row7 w 0 ve es) (hk : RowK w 0 vk ks) (hG : goodB re im = true) (hK : kind < 1) : Calls Try.prog 37 #[.agg (Ms.arr ⟨kind, client, life, seq, re, im, vers, err, op, ve, vk, es, ks⟩)] w fun e w' => e = .returned (.bool false) ∧ Below w.heap.size w w' := by
  obtain ⟨ae, ce, rfl⟩ := owns_len he
  obtain ⟨ak, ck, rfl⟩ := owns_len hk
  unfold Ms.arr
  simp only []
  obtain ⟨W, hW⟩ : ∃ W, w.alloc (.cells #[.int .i64 kind, .int .i64 client, .int .i64 life, .int .i64 seq, .complex .f64 re im, .int .i64 vers, .int .i64 err, .int .i64 op.kind, .int .i64 op.dir, .string op.nm, .int .i64 op.dst, .string op.new, .int .i64 op.mode, .string op.tg, .slice ae es.length ce, .slice ak ks.length ck] 30) = W := ⟨_, rfl⟩
  have hb := boxB hW
  have HB : Hid (W.heap[w.heap.size]? = some (.cells #[.int .i64 kind, .int .i64 client, .int .i64 life, .int .i64 seq, .complex .f64 re im, .int .i64 vers, .int .i64 err, .int .i64 op.kind, .int .i64 op.dir, .string op.nm, .int .i64 op.dst, .string op.new, .int .i64 op.mode, .string op.tg, .slice ae es.length ce, .slice ak ks.length ck] 30 (0, 0)) ∧ Below w.heap.size w W) := hb
  have x0 := cell_of hb.1 0
  have x4 := cell_of hb.1 4
  simp at x0 x4
  have HPt : Hid (∀ W, Calls Try.prog 38 #[.complex .f64 re im] W fun e w' => ∃ E N, e = .returned (.tuple #[.int .i64 E, .int .i64 N, .bool true]) ∧ W = w') := fun W => (parts_any re im W).mono fun e w' h => by rw [hG] at h; exact ⟨_, _, h.1, h.2.symm⟩
  have d1 : decide (kind < 1) = true := decide_eq_true hK
  clear hb he hk hG
  go_enter Try.func37, Try.ntmps37
  go_upto_region 1 with fail
  clear hW
  go_wp2_with (first
    | (go_at_call 38; refine (HPt.out _).mono ?_; rintro e w9 ⟨E9, N9, rfl, rfl⟩))
  go_ret
  exact ⟨rfl, HB.out.2⟩
set_option maxRecDepth 20000 in
set_option maxHeartbeats 8000000 in
theorem plm_hi (kind : Int) (client life seq : Int) (re im : Nat) (vers err : Int) (op : Opn) (ve vk : Value) (es : List En) (ks : List Ky) (w : World) (he : Row7 w 0 ve es) (hk : RowK w 0 vk ks) (hG : goodB re im = true) (hK : 4 < kind) : Calls Try.prog 37 #[.agg (Ms.arr ⟨kind, client, life, seq, re, im, vers, err, op, ve, vk, es, ks⟩)] w fun e w' => e = .returned (.bool false) ∧ Below w.heap.size w w' := by
  obtain ⟨ae, ce, rfl⟩ := owns_len he
  obtain ⟨ak, ck, rfl⟩ := owns_len hk
  unfold Ms.arr
  simp only []
  obtain ⟨W, hW⟩ : ∃ W, w.alloc (.cells #[.int .i64 kind, .int .i64 client, .int .i64 life, .int .i64 seq, .complex .f64 re im, .int .i64 vers, .int .i64 err, .int .i64 op.kind, .int .i64 op.dir, .string op.nm, .int .i64 op.dst, .string op.new, .int .i64 op.mode, .string op.tg, .slice ae es.length ce, .slice ak ks.length ck] 30) = W := ⟨_, rfl⟩
  have hb := boxB hW
  have HB : Hid (W.heap[w.heap.size]? = some (.cells #[.int .i64 kind, .int .i64 client, .int .i64 life, .int .i64 seq, .complex .f64 re im, .int .i64 vers, .int .i64 err, .int .i64 op.kind, .int .i64 op.dir, .string op.nm, .int .i64 op.dst, .string op.new, .int .i64 op.mode, .string op.tg, .slice ae es.length ce, .slice ak ks.length ck] 30 (0, 0)) ∧ Below w.heap.size w W) := hb
  have x0 := cell_of hb.1 0
  have x4 := cell_of hb.1 4
  simp at x0 x4
  have HPt : Hid (∀ W, Calls Try.prog 38 #[.complex .f64 re im] W fun e w' => ∃ E N, e = .returned (.tuple #[.int .i64 E, .int .i64 N, .bool true]) ∧ W = w') := fun W => (parts_any re im W).mono fun e w' h => by rw [hG] at h; exact ⟨_, _, h.1, h.2.symm⟩
  have d1 : decide (kind < 1) = false := decide_eq_false (by omega)
  have d2 : decide (4 < kind) = true := decide_eq_true hK
  clear hb he hk hG
  go_enter Try.func37, Try.ntmps37
  go_upto_region 1 with fail
  clear hW
  go_wp2_with (first
    | (go_at_call 38; refine (HPt.out _).mono ?_; rintro e w9 ⟨E9, N9, rfl, rfl⟩))
  go_ret
  exact ⟨rfl, HB.out.2⟩
set_option maxRecDepth 20000 in
set_option maxHeartbeats 8000000 in
theorem plm_n0 (kind : Int) (client life seq : Int) (re im : Nat) (vers err : Int) (op : Opn) (ve vk : Value) (es : List En) (ks : List Ky) (w : World) (he : Row7 w 0 ve es) (hk : RowK w 0 vk ks) (hG : goodB re im = true) (hK : 1 ≤ kind ∧ kind ≤ 4) (h0 : ¬ numOk client) : Calls Try.prog 37 #[.agg (Ms.arr ⟨kind, client, life, seq, re, im, vers, err, op, ve, vk, es, ks⟩)] w fun e w' => e = .returned (.bool false) ∧ Below w.heap.size w w' := by
  obtain ⟨ae, ce, rfl⟩ := owns_len he
  obtain ⟨ak, ck, rfl⟩ := owns_len hk
  unfold Ms.arr
  simp only []
  obtain ⟨W, hW⟩ : ∃ W, w.alloc (.cells #[.int .i64 kind, .int .i64 client, .int .i64 life, .int .i64 seq, .complex .f64 re im, .int .i64 vers, .int .i64 err, .int .i64 op.kind, .int .i64 op.dir, .string op.nm, .int .i64 op.dst, .string op.new, .int .i64 op.mode, .string op.tg, .slice ae es.length ce, .slice ak ks.length ck] 30) = W := ⟨_, rfl⟩
  have hb := boxB hW
  have HB : Hid (W.heap[w.heap.size]? = some (.cells #[.int .i64 kind, .int .i64 client, .int .i64 life, .int .i64 seq, .complex .f64 re im, .int .i64 vers, .int .i64 err, .int .i64 op.kind, .int .i64 op.dir, .string op.nm, .int .i64 op.dst, .string op.new, .int .i64 op.mode, .string op.tg, .slice ae es.length ce, .slice ak ks.length ck] 30 (0, 0)) ∧ Below w.heap.size w W) := hb
  have x0 := cell_of hb.1 0
  have x4 := cell_of hb.1 4
  have x1 := cell_of hb.1 1
  simp at x0 x4 x1
  have HPt : Hid (∀ W, Calls Try.prog 38 #[.complex .f64 re im] W fun e w' => ∃ E N, e = .returned (.tuple #[.int .i64 E, .int .i64 N, .bool true]) ∧ W = w') := fun W => (parts_any re im W).mono fun e w' h => by rw [hG] at h; exact ⟨_, _, h.1, h.2.symm⟩
  have HBad : Hid (∀ v W, Calls Try.prog 72 #[.int .i64 v] W fun e w' => e = .returned (.bool (!decide (numOk v))) ∧ W = w') := bad_d
  have d1 : decide (kind < 1) = false := decide_eq_false (by omega)
  have d2 : decide (4 < kind) = false := decide_eq_false (by omega)
  have e0 : decide (numOk client) = false := decide_eq_false h0
  clear hb he hk hG hK
  go_enter Try.func37, Try.ntmps37
  go_upto_region 1 with fail
  clear hW
  go_wp2_with (first
    | (go_at_call 38; refine (HPt.out _).mono ?_; rintro e w9 ⟨E9, N9, rfl, rfl⟩)
    | (go_at_call 72; refine (HBad.out _ _).mono ?_; rintro e w9 ⟨rfl, rfl⟩; first | rw [e0]))
  go_ret
  exact ⟨rfl, HB.out.2⟩
set_option maxRecDepth 20000 in
set_option maxHeartbeats 8000000 in
theorem plm_n1 (kind : Int) (client life seq : Int) (re im : Nat) (vers err : Int) (op : Opn) (ve vk : Value) (es : List En) (ks : List Ky) (w : World) (he : Row7 w 0 ve es) (hk : RowK w 0 vk ks) (hG : goodB re im = true) (hK : 1 ≤ kind ∧ kind ≤ 4) (h0 : numOk client) (h1 : ¬ numOk life) : Calls Try.prog 37 #[.agg (Ms.arr ⟨kind, client, life, seq, re, im, vers, err, op, ve, vk, es, ks⟩)] w fun e w' => e = .returned (.bool false) ∧ Below w.heap.size w w' := by
  obtain ⟨ae, ce, rfl⟩ := owns_len he
  obtain ⟨ak, ck, rfl⟩ := owns_len hk
  unfold Ms.arr
  simp only []
  obtain ⟨W, hW⟩ : ∃ W, w.alloc (.cells #[.int .i64 kind, .int .i64 client, .int .i64 life, .int .i64 seq, .complex .f64 re im, .int .i64 vers, .int .i64 err, .int .i64 op.kind, .int .i64 op.dir, .string op.nm, .int .i64 op.dst, .string op.new, .int .i64 op.mode, .string op.tg, .slice ae es.length ce, .slice ak ks.length ck] 30) = W := ⟨_, rfl⟩
  have hb := boxB hW
  have HB : Hid (W.heap[w.heap.size]? = some (.cells #[.int .i64 kind, .int .i64 client, .int .i64 life, .int .i64 seq, .complex .f64 re im, .int .i64 vers, .int .i64 err, .int .i64 op.kind, .int .i64 op.dir, .string op.nm, .int .i64 op.dst, .string op.new, .int .i64 op.mode, .string op.tg, .slice ae es.length ce, .slice ak ks.length ck] 30 (0, 0)) ∧ Below w.heap.size w W) := hb
  have x0 := cell_of hb.1 0
  have x4 := cell_of hb.1 4
  have x1 := cell_of hb.1 1
  have x2 := cell_of hb.1 2
  simp at x0 x4 x1 x2
  have HPt : Hid (∀ W, Calls Try.prog 38 #[.complex .f64 re im] W fun e w' => ∃ E N, e = .returned (.tuple #[.int .i64 E, .int .i64 N, .bool true]) ∧ W = w') := fun W => (parts_any re im W).mono fun e w' h => by rw [hG] at h; exact ⟨_, _, h.1, h.2.symm⟩
  have HBad : Hid (∀ v W, Calls Try.prog 72 #[.int .i64 v] W fun e w' => e = .returned (.bool (!decide (numOk v))) ∧ W = w') := bad_d
  have d1 : decide (kind < 1) = false := decide_eq_false (by omega)
  have d2 : decide (4 < kind) = false := decide_eq_false (by omega)
  have e0 : decide (numOk client) = true := decide_eq_true h0
  have e1 : decide (numOk life) = false := decide_eq_false h1
  clear hb he hk hG hK
  go_enter Try.func37, Try.ntmps37
  go_upto_region 1 with fail
  clear hW
  go_wp2_with (first
    | (go_at_call 38; refine (HPt.out _).mono ?_; rintro e w9 ⟨E9, N9, rfl, rfl⟩)
    | (go_at_call 72; refine (HBad.out _ _).mono ?_; rintro e w9 ⟨rfl, rfl⟩; first | rw [e0] | rw [e1]))
  go_ret
  exact ⟨rfl, HB.out.2⟩
set_option maxRecDepth 20000 in
set_option maxHeartbeats 8000000 in
theorem plm_n2 (kind : Int) (client life seq : Int) (re im : Nat) (vers err : Int) (op : Opn) (ve vk : Value) (es : List En) (ks : List Ky) (w : World) (he : Row7 w 0 ve es) (hk : RowK w 0 vk ks) (hG : goodB re im = true) (hK : 1 ≤ kind ∧ kind ≤ 4) (h0 : numOk client) (h1 : numOk life) (h2 : ¬ numOk seq) : Calls Try.prog 37 #[.agg (Ms.arr ⟨kind, client, life, seq, re, im, vers, err, op, ve, vk, es, ks⟩)] w fun e w' => e = .returned (.bool false) ∧ Below w.heap.size w w' := by
  obtain ⟨ae, ce, rfl⟩ := owns_len he
  obtain ⟨ak, ck, rfl⟩ := owns_len hk
  unfold Ms.arr
  simp only []
  obtain ⟨W, hW⟩ : ∃ W, w.alloc (.cells #[.int .i64 kind, .int .i64 client, .int .i64 life, .int .i64 seq, .complex .f64 re im, .int .i64 vers, .int .i64 err, .int .i64 op.kind, .int .i64 op.dir, .string op.nm, .int .i64 op.dst, .string op.new, .int .i64 op.mode, .string op.tg, .slice ae es.length ce, .slice ak ks.length ck] 30) = W := ⟨_, rfl⟩
  have hb := boxB hW
  have HB : Hid (W.heap[w.heap.size]? = some (.cells #[.int .i64 kind, .int .i64 client, .int .i64 life, .int .i64 seq, .complex .f64 re im, .int .i64 vers, .int .i64 err, .int .i64 op.kind, .int .i64 op.dir, .string op.nm, .int .i64 op.dst, .string op.new, .int .i64 op.mode, .string op.tg, .slice ae es.length ce, .slice ak ks.length ck] 30 (0, 0)) ∧ Below w.heap.size w W) := hb
  have x0 := cell_of hb.1 0
  have x4 := cell_of hb.1 4
  have x1 := cell_of hb.1 1
  have x2 := cell_of hb.1 2
  have x3 := cell_of hb.1 3
  simp at x0 x4 x1 x2 x3
  have HPt : Hid (∀ W, Calls Try.prog 38 #[.complex .f64 re im] W fun e w' => ∃ E N, e = .returned (.tuple #[.int .i64 E, .int .i64 N, .bool true]) ∧ W = w') := fun W => (parts_any re im W).mono fun e w' h => by rw [hG] at h; exact ⟨_, _, h.1, h.2.symm⟩
  have HBad : Hid (∀ v W, Calls Try.prog 72 #[.int .i64 v] W fun e w' => e = .returned (.bool (!decide (numOk v))) ∧ W = w') := bad_d
  have d1 : decide (kind < 1) = false := decide_eq_false (by omega)
  have d2 : decide (4 < kind) = false := decide_eq_false (by omega)
  have e0 : decide (numOk client) = true := decide_eq_true h0
  have e1 : decide (numOk life) = true := decide_eq_true h1
  have e2 : decide (numOk seq) = false := decide_eq_false h2
  clear hb he hk hG hK
  go_enter Try.func37, Try.ntmps37
  go_upto_region 1 with fail
  clear hW
  go_wp2_with (first
    | (go_at_call 38; refine (HPt.out _).mono ?_; rintro e w9 ⟨E9, N9, rfl, rfl⟩)
    | (go_at_call 72; refine (HBad.out _ _).mono ?_; rintro e w9 ⟨rfl, rfl⟩; first | rw [e0] | rw [e1] | rw [e2]))
  go_ret
  exact ⟨rfl, HB.out.2⟩
set_option maxRecDepth 20000 in
set_option maxHeartbeats 8000000 in
theorem plm_n3 (kind : Int) (client life seq : Int) (re im : Nat) (vers err : Int) (op : Opn) (ve vk : Value) (es : List En) (ks : List Ky) (w : World) (he : Row7 w 0 ve es) (hk : RowK w 0 vk ks) (hG : goodB re im = true) (hK : 1 ≤ kind ∧ kind ≤ 4) (h0 : numOk client) (h1 : numOk life) (h2 : numOk seq) (h3 : ¬ numOk vers) : Calls Try.prog 37 #[.agg (Ms.arr ⟨kind, client, life, seq, re, im, vers, err, op, ve, vk, es, ks⟩)] w fun e w' => e = .returned (.bool false) ∧ Below w.heap.size w w' := by
  obtain ⟨ae, ce, rfl⟩ := owns_len he
  obtain ⟨ak, ck, rfl⟩ := owns_len hk
  unfold Ms.arr
  simp only []
  obtain ⟨W, hW⟩ : ∃ W, w.alloc (.cells #[.int .i64 kind, .int .i64 client, .int .i64 life, .int .i64 seq, .complex .f64 re im, .int .i64 vers, .int .i64 err, .int .i64 op.kind, .int .i64 op.dir, .string op.nm, .int .i64 op.dst, .string op.new, .int .i64 op.mode, .string op.tg, .slice ae es.length ce, .slice ak ks.length ck] 30) = W := ⟨_, rfl⟩
  have hb := boxB hW
  have HB : Hid (W.heap[w.heap.size]? = some (.cells #[.int .i64 kind, .int .i64 client, .int .i64 life, .int .i64 seq, .complex .f64 re im, .int .i64 vers, .int .i64 err, .int .i64 op.kind, .int .i64 op.dir, .string op.nm, .int .i64 op.dst, .string op.new, .int .i64 op.mode, .string op.tg, .slice ae es.length ce, .slice ak ks.length ck] 30 (0, 0)) ∧ Below w.heap.size w W) := hb
  have x0 := cell_of hb.1 0
  have x4 := cell_of hb.1 4
  have x1 := cell_of hb.1 1
  have x2 := cell_of hb.1 2
  have x3 := cell_of hb.1 3
  have x5 := cell_of hb.1 5
  simp at x0 x4 x1 x2 x3 x5
  have HPt : Hid (∀ W, Calls Try.prog 38 #[.complex .f64 re im] W fun e w' => ∃ E N, e = .returned (.tuple #[.int .i64 E, .int .i64 N, .bool true]) ∧ W = w') := fun W => (parts_any re im W).mono fun e w' h => by rw [hG] at h; exact ⟨_, _, h.1, h.2.symm⟩
  have HBad : Hid (∀ v W, Calls Try.prog 72 #[.int .i64 v] W fun e w' => e = .returned (.bool (!decide (numOk v))) ∧ W = w') := bad_d
  have d1 : decide (kind < 1) = false := decide_eq_false (by omega)
  have d2 : decide (4 < kind) = false := decide_eq_false (by omega)
  have e0 : decide (numOk client) = true := decide_eq_true h0
  have e1 : decide (numOk life) = true := decide_eq_true h1
  have e2 : decide (numOk seq) = true := decide_eq_true h2
  have e3 : decide (numOk vers) = false := decide_eq_false h3
  clear hb he hk hG hK
  go_enter Try.func37, Try.ntmps37
  go_upto_region 1 with fail
  clear hW
  go_wp2_with (first
    | (go_at_call 38; refine (HPt.out _).mono ?_; rintro e w9 ⟨E9, N9, rfl, rfl⟩)
    | (go_at_call 72; refine (HBad.out _ _).mono ?_; rintro e w9 ⟨rfl, rfl⟩; first | rw [e0] | rw [e1] | rw [e2] | rw [e3]))
  go_ret
  exact ⟨rfl, HB.out.2⟩
set_option maxRecDepth 20000 in
set_option maxHeartbeats 8000000 in
theorem plm_n4 (kind : Int) (client life seq : Int) (re im : Nat) (vers err : Int) (op : Opn) (ve vk : Value) (es : List En) (ks : List Ky) (w : World) (he : Row7 w 0 ve es) (hk : RowK w 0 vk ks) (hG : goodB re im = true) (hK : 1 ≤ kind ∧ kind ≤ 4) (h0 : numOk client) (h1 : numOk life) (h2 : numOk seq) (h3 : numOk vers) (h4 : ¬ numOk err) : Calls Try.prog 37 #[.agg (Ms.arr ⟨kind, client, life, seq, re, im, vers, err, op, ve, vk, es, ks⟩)] w fun e w' => e = .returned (.bool false) ∧ Below w.heap.size w w' := by
  obtain ⟨ae, ce, rfl⟩ := owns_len he
  obtain ⟨ak, ck, rfl⟩ := owns_len hk
  unfold Ms.arr
  simp only []
  obtain ⟨W, hW⟩ : ∃ W, w.alloc (.cells #[.int .i64 kind, .int .i64 client, .int .i64 life, .int .i64 seq, .complex .f64 re im, .int .i64 vers, .int .i64 err, .int .i64 op.kind, .int .i64 op.dir, .string op.nm, .int .i64 op.dst, .string op.new, .int .i64 op.mode, .string op.tg, .slice ae es.length ce, .slice ak ks.length ck] 30) = W := ⟨_, rfl⟩
  have hb := boxB hW
  have HB : Hid (W.heap[w.heap.size]? = some (.cells #[.int .i64 kind, .int .i64 client, .int .i64 life, .int .i64 seq, .complex .f64 re im, .int .i64 vers, .int .i64 err, .int .i64 op.kind, .int .i64 op.dir, .string op.nm, .int .i64 op.dst, .string op.new, .int .i64 op.mode, .string op.tg, .slice ae es.length ce, .slice ak ks.length ck] 30 (0, 0)) ∧ Below w.heap.size w W) := hb
  have x0 := cell_of hb.1 0
  have x4 := cell_of hb.1 4
  have x1 := cell_of hb.1 1
  have x2 := cell_of hb.1 2
  have x3 := cell_of hb.1 3
  have x5 := cell_of hb.1 5
  have x6 := cell_of hb.1 6
  simp at x0 x4 x1 x2 x3 x5 x6
  have HPt : Hid (∀ W, Calls Try.prog 38 #[.complex .f64 re im] W fun e w' => ∃ E N, e = .returned (.tuple #[.int .i64 E, .int .i64 N, .bool true]) ∧ W = w') := fun W => (parts_any re im W).mono fun e w' h => by rw [hG] at h; exact ⟨_, _, h.1, h.2.symm⟩
  have HBad : Hid (∀ v W, Calls Try.prog 72 #[.int .i64 v] W fun e w' => e = .returned (.bool (!decide (numOk v))) ∧ W = w') := bad_d
  have d1 : decide (kind < 1) = false := decide_eq_false (by omega)
  have d2 : decide (4 < kind) = false := decide_eq_false (by omega)
  have e0 : decide (numOk client) = true := decide_eq_true h0
  have e1 : decide (numOk life) = true := decide_eq_true h1
  have e2 : decide (numOk seq) = true := decide_eq_true h2
  have e3 : decide (numOk vers) = true := decide_eq_true h3
  have e4 : decide (numOk err) = false := decide_eq_false h4
  clear hb he hk hG hK
  go_enter Try.func37, Try.ntmps37
  go_upto_region 1 with fail
  clear hW
  go_wp2_with (first
    | (go_at_call 38; refine (HPt.out _).mono ?_; rintro e w9 ⟨E9, N9, rfl, rfl⟩)
    | (go_at_call 72; refine (HBad.out _ _).mono ?_; rintro e w9 ⟨rfl, rfl⟩; first | rw [e0] | rw [e1] | rw [e2] | rw [e3] | rw [e4]))
  go_ret
  exact ⟨rfl, HB.out.2⟩
end
end Go.Proofs.Ytekonakanieeaaa
