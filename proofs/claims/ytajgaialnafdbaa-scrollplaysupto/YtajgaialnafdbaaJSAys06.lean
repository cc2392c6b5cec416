/- The contract of package scroll's pieceIn. -/
import Derived.Test.YtajgaialnafdbaaJSAys05
import Derived.Deep.RegionWith
namespace Go.Proofs.Ytajgaialnafdbaa
section
open Go.RowKit

set_option maxRecDepth 100000 in
set_option maxHeartbeats 2000000 in
theorem pieceIn_0 (g r k c : Nat) (v : Value) (b : List Int) (w : World) (hc : c = 0 ∨ 8 < c) (hv : RB w v b) (hb : Byt b) (hl : b.length = 64) :
    Calls Try.prog 71 #[.agg #[.int .i64 g, .int .i64 r, .int .i64 k, .int .i64 c], v] w fun e w' => e = .returned (.slice none 0 0) ∧ Below w.heap.size w w' := by
  obtain ⟨gb, off, cap, rfl, hg, hcl⟩ := hv.cells (by rintro rfl; simp at hl)
  have hx : b[10]? = some (b[10]'(by omega)) := List.getElem?_eq_getElem (by omega)
  have d1 := hcl 10 _ hx
  have hb' := hb _ (List.mem_of_getElem? hx)
  obtain ⟨x, hx'⟩ : ∃ x, b[10]'(by omega) = x := ⟨_, rfl⟩
  rw [hx'] at d1 hb'
  rw [hl]
  clear hx hcl hv hx' hl hb
  rcases hc with rfl | hc
  · go_enter Try.func71, Try.ntmps71
    go_wp2
    go_quiet (fail)
    go_wp2
    go_ret
    exact ⟨rfl, below_drewN (below_alloc _ _) _⟩
  · have e1 : decide ((c : Int) < 1) = false := decide_eq_false (by omega)
    have e2 : decide ((8 : Int) < (c : Int)) = true := decide_eq_true (by omega)
    go_enter Try.func71, Try.ntmps71
    go_wp2
    go_quiet (fail)
    go_wp2
    go_ret
    exact ⟨rfl, below_drewN (below_alloc _ _) _⟩
theorem take_no {P : Program} {md : Region.Mode} {ops : Array Oper} {Q : Exit → Act → World → Prop} {S : World → Prop} {i : Nat} {oi : Oper} {fuel : Nat} {listed : Array Bool} {a : Act} {w : World} (d : Option Nat) (hi : ops[i]? = some oi) (hd : oi.dst = d)
    (hs : Region.noSelect ops = true) (hf : Region.free md ops listed i = true) (hr : (Region.ready md ops listed).contains i = true)
    (hQ : ∀ c a w, Q (.panic c) (a.put d undef) w → Q (.panic c) a w) (hn : Region.wanted oi (yielded ops a.tmps) = false) (hS : S w)
    (h : wpAnyH P md ops Q S fuel (listed.setIfInBounds i true) (a.put d undef) w) : wpAnyH P md ops Q S (fuel + 1) listed a w := by
  subst hd
  exact wpAnyH_take hi hs hf hr hQ (Or.inr ⟨hn, rfl⟩) hS h
theorem take_yes {P : Program} {md : Region.Mode} {ops : Array Oper} {Q : Exit → Act → World → Prop} {S : World → Prop} {i : Nat} {oi : Oper} {fuel : Nat} {listed : Array Bool} {a : Act} {w : World} (d : Option Nat) (v : Value) (hi : ops[i]? = some oi) (hd : oi.dst = d)
    (hs : Region.noSelect ops = true) (hf : Region.free md ops listed i = true) (hr : (Region.ready md ops listed).contains i = true)
    (hQ : ∀ c a w, Q (.panic c) (a.put d v) w → Q (.panic c) a w) (hn : Region.wanted oi (yielded ops a.tmps) = true) (hy : ∀ w, S w → (execOp a.eval oi).run P w = .ok (.value v) w) (hS : S w)
    (h : wpAnyH P md ops Q S fuel (listed.setIfInBounds i true) (a.put d v) w) : wpAnyH P md ops Q S (fuel + 1) listed a w := by
  subst hd
  exact wpAnyH_take hi hs hf hr hQ (Or.inl ⟨hn, hy⟩) hS h
theorem cells4 {w w' : World} {x0 x1 x2 x3 : Int} {t : TypeId} (h : Below (w.alloc (.cells #[.int .i64 x0, .int .i64 x1, .int .i64 x2, .int .i64 x3] t)).heap.size (w.alloc (.cells #[.int .i64 x0, .int .i64 x1, .int .i64 x2, .int .i64 x3] t)) w') :
    w'.cell? ⟨w.heap.size, 0, none⟩ = some (.int .i64 x0) ∧ w'.cell? ⟨w.heap.size, 1, none⟩ = some (.int .i64 x1) ∧ w'.cell? ⟨w.heap.size, 2, none⟩ = some (.int .i64 x2) ∧ w'.cell? ⟨w.heap.size, 3, none⟩ = some (.int .i64 x3) :=
  box4 (by rw [World.size_alloc] at h; exact h)
set_option maxRecDepth 100000 in
set_option maxHeartbeats 4000000 in
theorem pieceIn_1 (g r k c : Nat) (v : Value) (b : List Int) (w : World) (hg : g < 4294967296) (hr : r < 4294967296) (hc1 : 1 ≤ c) (hc8 : c ≤ 8) (hne : ¬ b.take 10 = headL g r k c) (hv : RB w v b) (hf : Fit v) (hb : Byt b) (hl : b.length = 64) :
    Calls Try.prog 71 #[.agg #[.int .i64 g, .int .i64 r, .int .i64 k, .int .i64 c], v] w fun e w' => e = .returned (.slice none 0 0) ∧ Below w.heap.size w w' := by
  obtain ⟨gb, off, cap, rfl, hgb, hcl⟩ := hv.cells (by rintro rfl; simp at hl)
  obtain ⟨a', n', c', e, hcap⟩ := hf
  cases e
  have hx : b[10]? = some (b[10]'(by omega)) := List.getElem?_eq_getElem (by omega)
  have d1 := hcl 10 _ hx
  have hb' := hb _ (List.mem_of_getElem? hx)
  obtain ⟨x, hx'⟩ : ∃ x, b[10]'(by omega) = x := ⟨_, rfl⟩
  rw [hx'] at d1 hb'
  have HS : Hid (∀ w', Below w.heap.size w w' → RB w' (.slice (some ⟨gb, off, none⟩) 10 cap) (b.take 10)) := fun w' h' => (RB.sub hcl hgb 0 (v := .slice (some ⟨gb, off, none⟩) 10 cap) rfl (by omega)).below h'
  have HE : Hid (decide (b.take 10 = headL g r k c) = false) := decide_eq_false hne
  have HB : Hid (Byt b) := hb
  rw [hl] at hcap
  rw [hl]
  have hk1 : (10 : Int) ≤ (cap : Int) := by omega
  have e1 : decide ((c : Int) < 1) = false := decide_eq_false (by omega)
  have e2 : decide ((8 : Int) < (c : Int)) = false := decide_eq_false (by omega)
  obtain ⟨W, hW⟩ : ∃ W, w.alloc (.cells #[.int .i64 g, .int .i64 r, .int .i64 k, .int .i64 c] 99) = W := ⟨_, rfl⟩
  have HW : Hid (Below w.heap.size w W) := by rw [← hW]; exact below_alloc _ _
  have d2 : W.cell? ⟨gb, off + 10, none⟩ = some (.int .u8 x) := (HW.out.cell (p := ⟨gb, off + 10, none⟩) hgb).trans d1
  have HX : Hid (∀ w', Below W.heap.size W w' → w'.cell? ⟨w.heap.size, 0, none⟩ = some (.int .i64 g) ∧ w'.cell? ⟨w.heap.size, 1, none⟩ = some (.int .i64 r) ∧ w'.cell? ⟨w.heap.size, 2, none⟩ = some (.int .i64 k) ∧ w'.cell? ⟨w.heap.size, 3, none⟩ = some (.int .i64 c)) := by rw [← hW]; exact fun w' h' => cells4 h'
  clear hx hcl hv hx' hl hb hne
  go_enter Try.func71, Try.ntmps71
  go_upto_region 2 with fail
  clear hW
  have k0 := HX.out W.drew (Below.refl _ _).drew
  refine wp_region_held_drew (S := fun w' => w'.cell? ⟨w.heap.size, 0, none⟩ = some (.int .i64 g) ∧ w'.cell? ⟨w.heap.size, 1, none⟩ = some (.int .i64 r) ∧ w'.cell? ⟨w.heap.size, 2, none⟩ = some (.int .i64 k) ∧ w'.cell? ⟨w.heap.size, 3, none⟩ = some (.int .i64 c)) (by kernel_rfl) k0 (fun hHeld => ?_)
  refine take_yes (i := 0) (some 12) (.pointer (some ⟨w.heap.size, 3, none⟩)) rfl rfl (by kernel_rfl) (by kernel_rfl) (by kernel_rfl) (fun _ _ _ h => h) (by rfl) (fun w hSw => ?_) (by assumption) ?_
  · try dsimp only at hSw
    go_simp
  try simp only [Act.put, List.setIfInBounds_toArray, List.set_cons_zero, List.set_cons_succ]
  refine take_yes (i := 1) (some 13) (.int .i64 c) rfl rfl (by kernel_rfl) (by kernel_rfl) (by kernel_rfl) (fun _ _ _ h => h) (by rfl) (fun w hSw => ?_) (by assumption) ?_
  · try dsimp only at hSw
    go_simp
  try simp only [Act.put, List.setIfInBounds_toArray, List.set_cons_zero, List.set_cons_succ]
  refine take_yes (i := 2) (some 14) (.bool false) rfl rfl (by kernel_rfl) (by kernel_rfl) (by kernel_rfl) (fun _ _ _ h => h) (by rfl) (fun w hSw => ?_) (by assumption) ?_
  · try dsimp only at hSw
    go_simp
  try simp only [Act.put, List.setIfInBounds_toArray, List.set_cons_zero, List.set_cons_succ]
  refine take_yes (i := 3) (some 15) (.bool false) rfl rfl (by kernel_rfl) (by kernel_rfl) (by kernel_rfl) (fun _ _ _ h => h) (by rfl) (fun w hSw => ?_) (by assumption) ?_
  · try dsimp only at hSw
    go_simp
  try simp only [Act.put, List.setIfInBounds_toArray, List.set_cons_zero, List.set_cons_succ]
  refine take_yes (i := 4) (some 16) (.pointer (some ⟨w.heap.size, 3, none⟩)) rfl rfl (by kernel_rfl) (by kernel_rfl) (by kernel_rfl) (fun _ _ _ h => h) (by rfl) (fun w hSw => ?_) (by assumption) ?_
  · try dsimp only at hSw
    go_simp
  try simp only [Act.put, List.setIfInBounds_toArray, List.set_cons_zero, List.set_cons_succ]
  refine take_yes (i := 5) (some 17) (.int .i64 c) rfl rfl (by kernel_rfl) (by kernel_rfl) (by kernel_rfl) (fun _ _ _ h => h) (by rfl) (fun w hSw => ?_) (by assumption) ?_
  · try dsimp only at hSw
    go_simp
  try simp only [Act.put, List.setIfInBounds_toArray, List.set_cons_zero, List.set_cons_succ]
  refine take_yes (i := 6) (some 18) (.bool false) rfl rfl (by kernel_rfl) (by kernel_rfl) (by kernel_rfl) (fun _ _ _ h => h) (by rfl) (fun w hSw => ?_) (by assumption) ?_
  · try dsimp only at hSw
    go_simp
  try simp only [Act.put, List.setIfInBounds_toArray, List.set_cons_zero, List.set_cons_succ]
  refine take_yes (i := 7) (some 19) (.bool false) rfl rfl (by kernel_rfl) (by kernel_rfl) (by kernel_rfl) (fun _ _ _ h => h) (by rfl) (fun w hSw => ?_) (by assumption) ?_
  · try dsimp only at hSw
    go_simp
  try simp only [Act.put, List.setIfInBounds_toArray, List.set_cons_zero, List.set_cons_succ]
  refine take_yes (i := 8) (some 20) (.bool false) rfl rfl (by kernel_rfl) (by kernel_rfl) (by kernel_rfl) (fun _ _ _ h => h) (by rfl) (fun w hSw => ?_) (by assumption) ?_
  · try dsimp only at hSw
    go_simp
  try simp only [Act.put, List.setIfInBounds_toArray, List.set_cons_zero, List.set_cons_succ]
  refine take_yes (i := 9) (some 21) (.slice (some ⟨gb, off, none⟩) 64 cap) rfl rfl (by kernel_rfl) (by kernel_rfl) (by kernel_rfl) (fun _ _ _ h => h) (by rfl) (fun w hSw => ?_) (by assumption) ?_
  · try dsimp only at hSw
    go_simp
  try simp only [Act.put, List.setIfInBounds_toArray, List.set_cons_zero, List.set_cons_succ]
  refine take_yes (i := 10) (some 22) (.slice (some ⟨gb, off, none⟩) 10 cap) rfl rfl (by kernel_rfl) (by kernel_rfl) (by kernel_rfl) (fun _ _ _ h => h) (by rfl) (fun w hSw => ?_) (by assumption) ?_
  · try dsimp only at hSw
    go_simp
  try simp only [Act.put, List.setIfInBounds_toArray, List.set_cons_zero, List.set_cons_succ]
  refine take_yes (i := 11) (some 23) (.agg #[.int .i64 g, .int .i64 r, .int .i64 k, .int .i64 c]) rfl rfl (by kernel_rfl) (by kernel_rfl) (by kernel_rfl) (fun _ _ _ h => h) (by rfl) (fun w hSw => ?_) (by assumption) ?_
  · try dsimp only at hSw
    go_simp
  try simp only [Act.put, List.setIfInBounds_toArray, List.set_cons_zero, List.set_cons_succ]
  refine wpAnyH_ready (rs := [12]) (by kernel_rfl) (by simp) ?_
  refine AllReadyH.cons rfl (fun K hK => ?_) AllReadyH.nil
  go_simp
  go_at_call 72
  refine (head_any g r k c _ hg hr).mono ?_
  rintro e w1 ⟨v1, rfl, ho1, hb1⟩
  have hB1 : Below W.heap.size W w1 := chainB (Below.refl W.heap.size W).drew hb1
  have k1 := HX.out w1 hB1
  refine hK.out _ _ k1 (fun hHeld => ?_)
  clear hK K
  try simp only [Act.put, List.setIfInBounds_toArray, List.set_cons_zero, List.set_cons_succ]
  refine wpAnyH_ready (rs := [13]) (by kernel_rfl) (by simp) ?_
  refine AllReadyH.cons rfl (fun K hK => ?_) AllReadyH.nil
  go_simp
  go_at_call 69
  refine (equal_any _ v1 (b.take 10) (headL g r k c) _ (HS.out _ (chainB HW.out hB1)) ho1.rb (byt_take HB.out _) (byt_head _ _ _ _)).mono ?_
  rintro e w2 ⟨rfl, rfl⟩
  rw [HE.out]
  refine hK.out _ _ k1 (fun hHeld => ?_)
  clear hK K
  try simp only [Act.put, List.setIfInBounds_toArray, List.set_cons_zero, List.set_cons_succ]
  refine take_yes (i := 14) (some 26) (.bool true) rfl rfl (by kernel_rfl) (by kernel_rfl) (by kernel_rfl) (fun _ _ _ h => h) (by rfl) (fun w hSw => ?_) (by assumption) ?_
  · try dsimp only at hSw
    go_simp
  try simp only [Act.put, List.setIfInBounds_toArray, List.set_cons_zero, List.set_cons_succ]
  refine take_yes (i := 15) (some 27) (.bool true) rfl rfl (by kernel_rfl) (by kernel_rfl) (by kernel_rfl) (fun _ _ _ h => h) (by rfl) (fun w hSw => ?_) (by assumption) ?_
  · try dsimp only at hSw
    go_simp
  try simp only [Act.put, List.setIfInBounds_toArray, List.set_cons_zero, List.set_cons_succ]
  refine take_yes (i := 16) (some 28) (.bool true) rfl rfl (by kernel_rfl) (by kernel_rfl) (by kernel_rfl) (fun _ _ _ h => h) (by rfl) (fun w hSw => ?_) (by assumption) ?_
  · try dsimp only at hSw
    go_simp
  try simp only [Act.put, List.setIfInBounds_toArray, List.set_cons_zero, List.set_cons_succ]
  refine take_no (i := 17) (some 29) rfl rfl (by kernel_rfl) (by kernel_rfl) (by kernel_rfl) (fun _ _ _ h => h) (by rfl) (by assumption) ?_
  try simp only [Act.put, List.setIfInBounds_toArray, List.set_cons_zero, List.set_cons_succ]
  refine take_no (i := 18) (some 30) rfl rfl (by kernel_rfl) (by kernel_rfl) (by kernel_rfl) (fun _ _ _ h => h) (by rfl) (by assumption) ?_
  try simp only [Act.put, List.setIfInBounds_toArray, List.set_cons_zero, List.set_cons_succ]
  refine take_yes (i := 19) (some 31) (.bool true) rfl rfl (by kernel_rfl) (by kernel_rfl) (by kernel_rfl) (fun _ _ _ h => h) (by rfl) (fun w hSw => ?_) (by assumption) ?_
  · try dsimp only at hSw
    go_simp
  try simp only [Act.put, List.setIfInBounds_toArray, List.set_cons_zero, List.set_cons_succ]
  refine wpAnyH_done (by kernel_rfl) ?_ _
  go_wp2
  go_ret
  exact ⟨rfl, chainB HW.out hB1⟩
set_option maxRecDepth 100000 in
set_option maxHeartbeats 4000000 in
theorem pieceIn_2 (g r k c : Nat) (v : Value) (b : List Int) (w : World) (hg : g < 4294967296) (hr : r < 4294967296) (hc1 : 1 ≤ c) (hc8 : c ≤ 8) (heq : b.take 10 = headL g r k c) (h53 : 53 < gB b 10) (hv : RB w v b) (hf : Fit v) (hb : Byt b) (hl : b.length = 64) :
    Calls Try.prog 71 #[.agg #[.int .i64 g, .int .i64 r, .int .i64 k, .int .i64 c], v] w fun e w' => ∃ v', e = .returned v' ∧ RB w' v' ([]) ∧ Below w.heap.size w w' := by
  obtain ⟨gb, off, cap, rfl, hgb, hcl⟩ := hv.cells (by rintro rfl; simp at hl)
  obtain ⟨a', n', c', e, hcap⟩ := hf
  cases e
  have hx : b[10]? = some (b[10]'(by omega)) := List.getElem?_eq_getElem (by omega)
  have d1 := hcl 10 _ hx
  have hb' := hb _ (List.mem_of_getElem? hx)
  rw [← gB_get hx hb'.1] at d1 hb'
  obtain ⟨X, hX⟩ : ∃ X, gB b 10 = X := ⟨_, rfl⟩
  rw [hX] at d1 hb' h53
  have HR : Hid (X ≤ 53 → ∀ w', Below w.heap.size w w' → RB w' (.slice (some ⟨gb, off + 11, none⟩) X X) ((b.drop 11).take X)) := fun h53 w' h' => (RB.sub hcl hgb 11 (v := .slice (some ⟨gb, off + 11, none⟩) X X) rfl (by omega)).below h'
  have HQ : Hid (gB b 10 = X ∧ b.take 10 = headL g r k c) := ⟨hX, heq⟩
  have HS : Hid (∀ w', Below w.heap.size w w' → RB w' (.slice (some ⟨gb, off, none⟩) 10 cap) (b.take 10)) := fun w' h' => (RB.sub hcl hgb 0 (v := .slice (some ⟨gb, off, none⟩) 10 cap) rfl (by omega)).below h'
  have HE : Hid (decide (b.take 10 = headL g r k c) = true) := decide_eq_true heq
  have HB : Hid (Byt b) := hb
  rw [hl] at hcap
  rw [hl]
  have hk1 : (10 : Int) ≤ (cap : Int) := by omega
  have e1 : decide ((c : Int) < 1) = false := decide_eq_false (by omega)
  have e2 : decide ((8 : Int) < (c : Int)) = false := decide_eq_false (by omega)
  have e3 : decide ((53 : Int) < (X : Int)) = true := decide_eq_true (by omega)
  obtain ⟨W, hW⟩ : ∃ W, w.alloc (.cells #[.int .i64 g, .int .i64 r, .int .i64 k, .int .i64 c] 99) = W := ⟨_, rfl⟩
  have HW : Hid (Below w.heap.size w W) := by rw [← hW]; exact below_alloc _ _
  have d2 : W.cell? ⟨gb, off + 10, none⟩ = some (.int .u8 X) := (HW.out.cell (p := ⟨gb, off + 10, none⟩) hgb).trans d1
  have HX : Hid (∀ w', Below W.heap.size W w' → w'.cell? ⟨w.heap.size, 0, none⟩ = some (.int .i64 g) ∧ w'.cell? ⟨w.heap.size, 1, none⟩ = some (.int .i64 r) ∧ w'.cell? ⟨w.heap.size, 2, none⟩ = some (.int .i64 k) ∧ w'.cell? ⟨w.heap.size, 3, none⟩ = some (.int .i64 c)) := by rw [← hW]; exact fun w' h' => cells4 h'
  clear hx hcl hv hl hb heq hX
  go_enter Try.func71, Try.ntmps71
  go_upto_region 2 with fail
  clear hW
  have k0 := HX.out W.drew (Below.refl _ _).drew
  refine wp_region_held_drew (S := fun w' => w'.cell? ⟨w.heap.size, 0, none⟩ = some (.int .i64 g) ∧ w'.cell? ⟨w.heap.size, 1, none⟩ = some (.int .i64 r) ∧ w'.cell? ⟨w.heap.size, 2, none⟩ = some (.int .i64 k) ∧ w'.cell? ⟨w.heap.size, 3, none⟩ = some (.int .i64 c)) (by kernel_rfl) k0 (fun hHeld => ?_)
  refine take_yes (i := 0) (some 12) (.pointer (some ⟨w.heap.size, 3, none⟩)) rfl rfl (by kernel_rfl) (by kernel_rfl) (by kernel_rfl) (fun _ _ _ h => h) (by rfl) (fun w hSw => ?_) (by assumption) ?_
  · try dsimp only at hSw
    go_simp
  try simp only [Act.put, List.setIfInBounds_toArray, List.set_cons_zero, List.set_cons_succ]
  refine take_yes (i := 1) (some 13) (.int .i64 c) rfl rfl (by kernel_rfl) (by kernel_rfl) (by kernel_rfl) (fun _ _ _ h => h) (by rfl) (fun w hSw => ?_) (by assumption) ?_
  · try dsimp only at hSw
    go_simp
  try simp only [Act.put, List.setIfInBounds_toArray, List.set_cons_zero, List.set_cons_succ]
  refine take_yes (i := 2) (some 14) (.bool false) rfl rfl (by kernel_rfl) (by kernel_rfl) (by kernel_rfl) (fun _ _ _ h => h) (by rfl) (fun w hSw => ?_) (by assumption) ?_
  · try dsimp only at hSw
    go_simp
  try simp only [Act.put, List.setIfInBounds_toArray, List.set_cons_zero, List.set_cons_succ]
  refine take_yes (i := 3) (some 15) (.bool false) rfl rfl (by kernel_rfl) (by kernel_rfl) (by kernel_rfl) (fun _ _ _ h => h) (by rfl) (fun w hSw => ?_) (by assumption) ?_
  · try dsimp only at hSw
    go_simp
  try simp only [Act.put, List.setIfInBounds_toArray, List.set_cons_zero, List.set_cons_succ]
  refine take_yes (i := 4) (some 16) (.pointer (some ⟨w.heap.size, 3, none⟩)) rfl rfl (by kernel_rfl) (by kernel_rfl) (by kernel_rfl) (fun _ _ _ h => h) (by rfl) (fun w hSw => ?_) (by assumption) ?_
  · try dsimp only at hSw
    go_simp
  try simp only [Act.put, List.setIfInBounds_toArray, List.set_cons_zero, List.set_cons_succ]
  refine take_yes (i := 5) (some 17) (.int .i64 c) rfl rfl (by kernel_rfl) (by kernel_rfl) (by kernel_rfl) (fun _ _ _ h => h) (by rfl) (fun w hSw => ?_) (by assumption) ?_
  · try dsimp only at hSw
    go_simp
  try simp only [Act.put, List.setIfInBounds_toArray, List.set_cons_zero, List.set_cons_succ]
  refine take_yes (i := 6) (some 18) (.bool false) rfl rfl (by kernel_rfl) (by kernel_rfl) (by kernel_rfl) (fun _ _ _ h => h) (by rfl) (fun w hSw => ?_) (by assumption) ?_
  · try dsimp only at hSw
    go_simp
  try simp only [Act.put, List.setIfInBounds_toArray, List.set_cons_zero, List.set_cons_succ]
  refine take_yes (i := 7) (some 19) (.bool false) rfl rfl (by kernel_rfl) (by kernel_rfl) (by kernel_rfl) (fun _ _ _ h => h) (by rfl) (fun w hSw => ?_) (by assumption) ?_
  · try dsimp only at hSw
    go_simp
  try simp only [Act.put, List.setIfInBounds_toArray, List.set_cons_zero, List.set_cons_succ]
  refine take_yes (i := 8) (some 20) (.bool false) rfl rfl (by kernel_rfl) (by kernel_rfl) (by kernel_rfl) (fun _ _ _ h => h) (by rfl) (fun w hSw => ?_) (by assumption) ?_
  · try dsimp only at hSw
    go_simp
  try simp only [Act.put, List.setIfInBounds_toArray, List.set_cons_zero, List.set_cons_succ]
  refine take_yes (i := 9) (some 21) (.slice (some ⟨gb, off, none⟩) 64 cap) rfl rfl (by kernel_rfl) (by kernel_rfl) (by kernel_rfl) (fun _ _ _ h => h) (by rfl) (fun w hSw => ?_) (by assumption) ?_
  · try dsimp only at hSw
    go_simp
  try simp only [Act.put, List.setIfInBounds_toArray, List.set_cons_zero, List.set_cons_succ]
  refine take_yes (i := 10) (some 22) (.slice (some ⟨gb, off, none⟩) 10 cap) rfl rfl (by kernel_rfl) (by kernel_rfl) (by kernel_rfl) (fun _ _ _ h => h) (by rfl) (fun w hSw => ?_) (by assumption) ?_
  · try dsimp only at hSw
    go_simp
  try simp only [Act.put, List.setIfInBounds_toArray, List.set_cons_zero, List.set_cons_succ]
  refine take_yes (i := 11) (some 23) (.agg #[.int .i64 g, .int .i64 r, .int .i64 k, .int .i64 c]) rfl rfl (by kernel_rfl) (by kernel_rfl) (by kernel_rfl) (fun _ _ _ h => h) (by rfl) (fun w hSw => ?_) (by assumption) ?_
  · try dsimp only at hSw
    go_simp
  try simp only [Act.put, List.setIfInBounds_toArray, List.set_cons_zero, List.set_cons_succ]
  refine wpAnyH_ready (rs := [12]) (by kernel_rfl) (by simp) ?_
  refine AllReadyH.cons rfl (fun K hK => ?_) AllReadyH.nil
  go_simp
  go_at_call 72
  refine (head_any g r k c _ hg hr).mono ?_
  rintro e w1 ⟨v1, rfl, ho1, hb1⟩
  have hB1 : Below W.heap.size W w1 := chainB (Below.refl W.heap.size W).drew hb1
  have k1 := HX.out w1 hB1
  refine hK.out _ _ k1 (fun hHeld => ?_)
  clear hK K
  try simp only [Act.put, List.setIfInBounds_toArray, List.set_cons_zero, List.set_cons_succ]
  refine wpAnyH_ready (rs := [13]) (by kernel_rfl) (by simp) ?_
  refine AllReadyH.cons rfl (fun K hK => ?_) AllReadyH.nil
  go_simp
  go_at_call 69
  refine (equal_any _ v1 (b.take 10) (headL g r k c) _ (HS.out _ (chainB HW.out hB1)) ho1.rb (byt_take HB.out _) (byt_head _ _ _ _)).mono ?_
  rintro e w2 ⟨rfl, rfl⟩
  rw [HE.out]
  refine hK.out _ _ k1 (fun hHeld => ?_)
  clear hK K
  try simp only [Act.put, List.setIfInBounds_toArray, List.set_cons_zero, List.set_cons_succ]
  refine take_yes (i := 14) (some 26) (.bool false) rfl rfl (by kernel_rfl) (by kernel_rfl) (by kernel_rfl) (fun _ _ _ h => h) (by rfl) (fun w hSw => ?_) (by assumption) ?_
  · try dsimp only at hSw
    go_simp
  try simp only [Act.put, List.setIfInBounds_toArray, List.set_cons_zero, List.set_cons_succ]
  refine take_yes (i := 15) (some 27) (.bool false) rfl rfl (by kernel_rfl) (by kernel_rfl) (by kernel_rfl) (fun _ _ _ h => h) (by rfl) (fun w hSw => ?_) (by assumption) ?_
  · try dsimp only at hSw
    go_simp
  try simp only [Act.put, List.setIfInBounds_toArray, List.set_cons_zero, List.set_cons_succ]
  refine take_yes (i := 16) (some 28) (.bool false) rfl rfl (by kernel_rfl) (by kernel_rfl) (by kernel_rfl) (fun _ _ _ h => h) (by rfl) (fun w hSw => ?_) (by assumption) ?_
  · try dsimp only at hSw
    go_simp
  try simp only [Act.put, List.setIfInBounds_toArray, List.set_cons_zero, List.set_cons_succ]
  refine take_yes (i := 17) (some 29) (.int .i64 X) rfl rfl (by kernel_rfl) (by kernel_rfl) (by kernel_rfl) (fun _ _ _ h => h) (by rfl) (fun w hSw => ?_) (by assumption) ?_
  · try dsimp only at hSw
    go_simp
  try simp only [Act.put, List.setIfInBounds_toArray, List.set_cons_zero, List.set_cons_succ]
  refine take_yes (i := 18) (some 30) (.bool true) rfl rfl (by kernel_rfl) (by kernel_rfl) (by kernel_rfl) (fun _ _ _ h => h) (by rfl) (fun w hSw => ?_) (by assumption) ?_
  · try dsimp only at hSw
    go_simp
  try simp only [Act.put, List.setIfInBounds_toArray, List.set_cons_zero, List.set_cons_succ]
  refine take_yes (i := 19) (some 31) (.bool true) rfl rfl (by kernel_rfl) (by kernel_rfl) (by kernel_rfl) (fun _ _ _ h => h) (by rfl) (fun w hSw => ?_) (by assumption) ?_
  · try dsimp only at hSw
    go_simp
  try simp only [Act.put, List.setIfInBounds_toArray, List.set_cons_zero, List.set_cons_succ]
  refine wpAnyH_done (by kernel_rfl) ?_ _
  clear hHeld
  go_wp2
  go_ret
  exact ⟨_, rfl, RB.nil _, chainB HW.out hB1⟩
set_option maxRecDepth 100000 in
set_option maxHeartbeats 4000000 in
theorem pieceIn_3 (g r k c : Nat) (v : Value) (b : List Int) (w : World) (hg : g < 4294967296) (hr : r < 4294967296) (hc1 : 1 ≤ c) (hc8 : c ≤ 8) (heq : b.take 10 = headL g r k c) (h53 : gB b 10 ≤ 53) (hv : RB w v b) (hf : Fit v) (hb : Byt b) (hl : b.length = 64) :
    Calls Try.prog 71 #[.agg #[.int .i64 g, .int .i64 r, .int .i64 k, .int .i64 c], v] w fun e w' => ∃ v', e = .returned v' ∧ RB w' v' (pcIn g r k c b) ∧ Below w.heap.size w w' := by
  obtain ⟨gb, off, cap, rfl, hgb, hcl⟩ := hv.cells (by rintro rfl; simp at hl)
  obtain ⟨a', n', c', e, hcap⟩ := hf
  cases e
  have hx : b[10]? = some (b[10]'(by omega)) := List.getElem?_eq_getElem (by omega)
  have d1 := hcl 10 _ hx
  have hb' := hb _ (List.mem_of_getElem? hx)
  rw [← gB_get hx hb'.1] at d1 hb'
  obtain ⟨X, hX⟩ : ∃ X, gB b 10 = X := ⟨_, rfl⟩
  rw [hX] at d1 hb' h53
  have HR : Hid (X ≤ 53 → ∀ w', Below w.heap.size w w' → RB w' (.slice (some ⟨gb, off + 11, none⟩) X X) ((b.drop 11).take X)) := fun h53 w' h' => (RB.sub hcl hgb 11 (v := .slice (some ⟨gb, off + 11, none⟩) X X) rfl (by omega)).below h'
  have HQ : Hid (gB b 10 = X ∧ b.take 10 = headL g r k c) := ⟨hX, heq⟩
  have HS : Hid (∀ w', Below w.heap.size w w' → RB w' (.slice (some ⟨gb, off, none⟩) 10 cap) (b.take 10)) := fun w' h' => (RB.sub hcl hgb 0 (v := .slice (some ⟨gb, off, none⟩) 10 cap) rfl (by omega)).below h'
  have HE : Hid (decide (b.take 10 = headL g r k c) = true) := decide_eq_true heq
  have HB : Hid (Byt b) := hb
  rw [hl] at hcap
  rw [hl]
  have hk1 : (10 : Int) ≤ (cap : Int) := by omega
  have e1 : decide ((c : Int) < 1) = false := decide_eq_false (by omega)
  have e2 : decide ((8 : Int) < (c : Int)) = false := decide_eq_false (by omega)
  have e3 : decide ((53 : Int) < (X : Int)) = false := decide_eq_false (by omega)
  obtain ⟨W, hW⟩ : ∃ W, w.alloc (.cells #[.int .i64 g, .int .i64 r, .int .i64 k, .int .i64 c] 99) = W := ⟨_, rfl⟩
  have HW : Hid (Below w.heap.size w W) := by rw [← hW]; exact below_alloc _ _
  have d2 : W.cell? ⟨gb, off + 10, none⟩ = some (.int .u8 X) := (HW.out.cell (p := ⟨gb, off + 10, none⟩) hgb).trans d1
  have HX : Hid (∀ w', Below W.heap.size W w' → w'.cell? ⟨w.heap.size, 0, none⟩ = some (.int .i64 g) ∧ w'.cell? ⟨w.heap.size, 1, none⟩ = some (.int .i64 r) ∧ w'.cell? ⟨w.heap.size, 2, none⟩ = some (.int .i64 k) ∧ w'.cell? ⟨w.heap.size, 3, none⟩ = some (.int .i64 c)) := by rw [← hW]; exact fun w' h' => cells4 h'
  clear hx hcl hv hl hb heq hX
  go_enter Try.func71, Try.ntmps71
  go_upto_region 2 with fail
  clear hW
  have k0 := HX.out W.drew (Below.refl _ _).drew
  refine wp_region_held_drew (S := fun w' => w'.cell? ⟨w.heap.size, 0, none⟩ = some (.int .i64 g) ∧ w'.cell? ⟨w.heap.size, 1, none⟩ = some (.int .i64 r) ∧ w'.cell? ⟨w.heap.size, 2, none⟩ = some (.int .i64 k) ∧ w'.cell? ⟨w.heap.size, 3, none⟩ = some (.int .i64 c)) (by kernel_rfl) k0 (fun hHeld => ?_)
  refine take_yes (i := 0) (some 12) (.pointer (some ⟨w.heap.size, 3, none⟩)) rfl rfl (by kernel_rfl) (by kernel_rfl) (by kernel_rfl) (fun _ _ _ h => h) (by rfl) (fun w hSw => ?_) (by assumption) ?_
  · try dsimp only at hSw
    go_simp
  try simp only [Act.put, List.setIfInBounds_toArray, List.set_cons_zero, List.set_cons_succ]
  refine take_yes (i := 1) (some 13) (.int .i64 c) rfl rfl (by kernel_rfl) (by kernel_rfl) (by kernel_rfl) (fun _ _ _ h => h) (by rfl) (fun w hSw => ?_) (by assumption) ?_
  · try dsimp only at hSw
    go_simp
  try simp only [Act.put, List.setIfInBounds_toArray, List.set_cons_zero, List.set_cons_succ]
  refine take_yes (i := 2) (some 14) (.bool false) rfl rfl (by kernel_rfl) (by kernel_rfl) (by kernel_rfl) (fun _ _ _ h => h) (by rfl) (fun w hSw => ?_) (by assumption) ?_
  · try dsimp only at hSw
    go_simp
  try simp only [Act.put, List.setIfInBounds_toArray, List.set_cons_zero, List.set_cons_succ]
  refine take_yes (i := 3) (some 15) (.bool false) rfl rfl (by kernel_rfl) (by kernel_rfl) (by kernel_rfl) (fun _ _ _ h => h) (by rfl) (fun w hSw => ?_) (by assumption) ?_
  · try dsimp only at hSw
    go_simp
  try simp only [Act.put, List.setIfInBounds_toArray, List.set_cons_zero, List.set_cons_succ]
  refine take_yes (i := 4) (some 16) (.pointer (some ⟨w.heap.size, 3, none⟩)) rfl rfl (by kernel_rfl) (by kernel_rfl) (by kernel_rfl) (fun _ _ _ h => h) (by rfl) (fun w hSw => ?_) (by assumption) ?_
  · try dsimp only at hSw
    go_simp
  try simp only [Act.put, List.setIfInBounds_toArray, List.set_cons_zero, List.set_cons_succ]
  refine take_yes (i := 5) (some 17) (.int .i64 c) rfl rfl (by kernel_rfl) (by kernel_rfl) (by kernel_rfl) (fun _ _ _ h => h) (by rfl) (fun w hSw => ?_) (by assumption) ?_
  · try dsimp only at hSw
    go_simp
  try simp only [Act.put, List.setIfInBounds_toArray, List.set_cons_zero, List.set_cons_succ]
  refine take_yes (i := 6) (some 18) (.bool false) rfl rfl (by kernel_rfl) (by kernel_rfl) (by kernel_rfl) (fun _ _ _ h => h) (by rfl) (fun w hSw => ?_) (by assumption) ?_
  · try dsimp only at hSw
    go_simp
  try simp only [Act.put, List.setIfInBounds_toArray, List.set_cons_zero, List.set_cons_succ]
  refine take_yes (i := 7) (some 19) (.bool false) rfl rfl (by kernel_rfl) (by kernel_rfl) (by kernel_rfl) (fun _ _ _ h => h) (by rfl) (fun w hSw => ?_) (by assumption) ?_
  · try dsimp only at hSw
    go_simp
  try simp only [Act.put, List.setIfInBounds_toArray, List.set_cons_zero, List.set_cons_succ]
  refine take_yes (i := 8) (some 20) (.bool false) rfl rfl (by kernel_rfl) (by kernel_rfl) (by kernel_rfl) (fun _ _ _ h => h) (by rfl) (fun w hSw => ?_) (by assumption) ?_
  · try dsimp only at hSw
    go_simp
  try simp only [Act.put, List.setIfInBounds_toArray, List.set_cons_zero, List.set_cons_succ]
  refine take_yes (i := 9) (some 21) (.slice (some ⟨gb, off, none⟩) 64 cap) rfl rfl (by kernel_rfl) (by kernel_rfl) (by kernel_rfl) (fun _ _ _ h => h) (by rfl) (fun w hSw => ?_) (by assumption) ?_
  · try dsimp only at hSw
    go_simp
  try simp only [Act.put, List.setIfInBounds_toArray, List.set_cons_zero, List.set_cons_succ]
  refine take_yes (i := 10) (some 22) (.slice (some ⟨gb, off, none⟩) 10 cap) rfl rfl (by kernel_rfl) (by kernel_rfl) (by kernel_rfl) (fun _ _ _ h => h) (by rfl) (fun w hSw => ?_) (by assumption) ?_
  · try dsimp only at hSw
    go_simp
  try simp only [Act.put, List.setIfInBounds_toArray, List.set_cons_zero, List.set_cons_succ]
  refine take_yes (i := 11) (some 23) (.agg #[.int .i64 g, .int .i64 r, .int .i64 k, .int .i64 c]) rfl rfl (by kernel_rfl) (by kernel_rfl) (by kernel_rfl) (fun _ _ _ h => h) (by rfl) (fun w hSw => ?_) (by assumption) ?_
  · try dsimp only at hSw
    go_simp
  try simp only [Act.put, List.setIfInBounds_toArray, List.set_cons_zero, List.set_cons_succ]
  refine wpAnyH_ready (rs := [12]) (by kernel_rfl) (by simp) ?_
  refine AllReadyH.cons rfl (fun K hK => ?_) AllReadyH.nil
  go_simp
  go_at_call 72
  refine (head_any g r k c _ hg hr).mono ?_
  rintro e w1 ⟨v1, rfl, ho1, hb1⟩
  have hB1 : Below W.heap.size W w1 := chainB (Below.refl W.heap.size W).drew hb1
  have k1 := HX.out w1 hB1
  refine hK.out _ _ k1 (fun hHeld => ?_)
  clear hK K
  try simp only [Act.put, List.setIfInBounds_toArray, List.set_cons_zero, List.set_cons_succ]
  refine wpAnyH_ready (rs := [13]) (by kernel_rfl) (by simp) ?_
  refine AllReadyH.cons rfl (fun K hK => ?_) AllReadyH.nil
  go_simp
  go_at_call 69
  refine (equal_any _ v1 (b.take 10) (headL g r k c) _ (HS.out _ (chainB HW.out hB1)) ho1.rb (byt_take HB.out _) (byt_head _ _ _ _)).mono ?_
  rintro e w2 ⟨rfl, rfl⟩
  rw [HE.out]
  refine hK.out _ _ k1 (fun hHeld => ?_)
  clear hK K
  try simp only [Act.put, List.setIfInBounds_toArray, List.set_cons_zero, List.set_cons_succ]
  refine take_yes (i := 14) (some 26) (.bool false) rfl rfl (by kernel_rfl) (by kernel_rfl) (by kernel_rfl) (fun _ _ _ h => h) (by rfl) (fun w hSw => ?_) (by assumption) ?_
  · try dsimp only at hSw
    go_simp
  try simp only [Act.put, List.setIfInBounds_toArray, List.set_cons_zero, List.set_cons_succ]
  refine take_yes (i := 15) (some 27) (.bool false) rfl rfl (by kernel_rfl) (by kernel_rfl) (by kernel_rfl) (fun _ _ _ h => h) (by rfl) (fun w hSw => ?_) (by assumption) ?_
  · try dsimp only at hSw
    go_simp
  try simp only [Act.put, List.setIfInBounds_toArray, List.set_cons_zero, List.set_cons_succ]
  refine take_yes (i := 16) (some 28) (.bool false) rfl rfl (by kernel_rfl) (by kernel_rfl) (by kernel_rfl) (fun _ _ _ h => h) (by rfl) (fun w hSw => ?_) (by assumption) ?_
  · try dsimp only at hSw
    go_simp
  try simp only [Act.put, List.setIfInBounds_toArray, List.set_cons_zero, List.set_cons_succ]
  refine take_yes (i := 17) (some 29) (.int .i64 X) rfl rfl (by kernel_rfl) (by kernel_rfl) (by kernel_rfl) (fun _ _ _ h => h) (by rfl) (fun w hSw => ?_) (by assumption) ?_
  · try dsimp only at hSw
    go_simp
  try simp only [Act.put, List.setIfInBounds_toArray, List.set_cons_zero, List.set_cons_succ]
  refine take_yes (i := 18) (some 30) (.bool false) rfl rfl (by kernel_rfl) (by kernel_rfl) (by kernel_rfl) (fun _ _ _ h => h) (by rfl) (fun w hSw => ?_) (by assumption) ?_
  · try dsimp only at hSw
    go_simp
  try simp only [Act.put, List.setIfInBounds_toArray, List.set_cons_zero, List.set_cons_succ]
  refine take_yes (i := 19) (some 31) (.bool false) rfl rfl (by kernel_rfl) (by kernel_rfl) (by kernel_rfl) (fun _ _ _ h => h) (by rfl) (fun w hSw => ?_) (by assumption) ?_
  · try dsimp only at hSw
    go_simp
  try simp only [Act.put, List.setIfInBounds_toArray, List.set_cons_zero, List.set_cons_succ]
  refine wpAnyH_done (by kernel_rfl) ?_ _
  clear hHeld
  obtain ⟨c0, c1, c2, c3⟩ := k1
  have f1 : (0 : Int) ≤ 11 + (X : Int) ∧ 11 + (X : Int) ≤ (cap : Int) := by omega
  have f2 : ((11 : Int) + (X : Int)).toNat = 11 + X := by omega
  have f3 : (11 : Int) ≤ 11 + (X : Int) := by omega
  by_cases h1 : X = 53
  · have e4 : decide ((X : Int) < 53) = false := decide_eq_false (by omega)
    have h0 : ¬ X = 0 := by omega
    have H1 : Hid (X = 53) := h1
    clear h1
    go_wp2
    go_ret
    refine ⟨_, rfl, ?_, chainB HW.out hB1⟩
    have h1 := H1.out
    rw [pcIn_yes ⟨hc1, hc8, HQ.out.2, by rw [HQ.out.1]; exact h53, by rw [HQ.out.1]; omega⟩, HQ.out.1]
    exact HR.out h53 _ (chainB HW.out hB1)
  · have e4 : decide ((X : Int) < 53) = true := decide_eq_true (by omega)
    by_cases h2 : k + 1 = c
    · have e5 : ((k : Int) == (c : Int) - 1) = true := by rw [beq_iff_eq]; omega
      have H2 : Hid (k + 1 = c) := h2
      clear h2
      go_wp2
      · go_ret
        refine ⟨_, rfl, ?_, chainB HW.out hB1⟩
        rw [pcIn_yes ⟨hc1, hc8, HQ.out.2, by rw [HQ.out.1]; exact h53, fun _ => H2.out⟩, HQ.out.1, show X = 0 by omega]
        exact ⟨_, _, rfl, .inl rfl⟩
      · go_ret
        refine ⟨_, rfl, ?_, chainB HW.out hB1⟩
        rw [pcIn_yes ⟨hc1, hc8, HQ.out.2, by rw [HQ.out.1]; exact h53, fun _ => H2.out⟩, HQ.out.1]
        exact HR.out h53 _ (chainB HW.out hB1)
    · have e5 : ((k : Int) == (c : Int) - 1) = false := by rw [beq_eq_false_iff_ne]; omega
      go_wp2
      go_ret
      refine ⟨_, rfl, ?_, chainB HW.out hB1⟩
      rw [pcIn_no (by rw [HQ.out.1]; rintro ⟨_, _, _, _, h⟩; exact h2 (h (by omega)))]
      exact RB.nil _
theorem pieceIn_any (g r k c : Nat) (v : Value) (b : List Int) (w : World) (hg : g < 4294967296) (hr : r < 4294967296) (hv : RB w v b) (hf : Fit v) (hb : Byt b) (hl : b.length = 64) :
    Calls Try.prog 71 #[.agg #[.int .i64 g, .int .i64 r, .int .i64 k, .int .i64 c], v] w fun e w' => ∃ v', e = .returned v' ∧ RB w' v' (pcIn g r k c b) ∧ Below w.heap.size w w' := by
  by_cases hc : c = 0 ∨ 8 < c
  · refine (pieceIn_0 g r k c v b w hc hv hb hl).mono ?_
    rintro e w' ⟨rfl, h⟩
    rw [pcIn_no (by omega)]
    exact ⟨_, rfl, RB.nil _, h⟩
  · by_cases he : b.take 10 = headL g r k c
    · by_cases h5 : gB b 10 ≤ 53
      · exact pieceIn_3 g r k c v b w hg hr (by omega) (by omega) he h5 hv hf hb hl
      · rw [pcIn_no (by rintro ⟨_, _, _, h, _⟩; exact h5 h)]
        exact pieceIn_2 g r k c v b w hg hr (by omega) (by omega) he (by omega) hv hf hb hl
    · refine (pieceIn_1 g r k c v b w hg hr (by omega) (by omega) he hv hf hb hl).mono ?_
      rintro e w' ⟨rfl, h⟩
      rw [pcIn_no (by rintro ⟨_, _, h, _⟩; exact he h)]
      exact ⟨_, rfl, RB.nil _, h⟩
end
end Go.Proofs.Ytajgaialnafdbaa
