/- The walker goes home, up, on; what meets; known. -/
import Derived.Test.YtppbbddlbfgpfaaJWUps27
namespace Go.Proofs.Ytppbbddlbfgpfaa
section
open Go.RowKit
attribute [local go_sem ↓ high] loadEn storeEn loadNd storeNd storeOu buildNd

theorem setCell_heap {w : World} {g i : Nat} {cs : Array Value} {t : TypeId} {u : Value} (h : w.heap[g]? = some (.cells cs t (0, 0))) : (w.setCell ⟨g, i, none⟩ u).heap[g]? = some (.cells (cs.setIfInBounds i u) t (0, 0)) := by
  unfold World.setCell
  simp only
  rw [Array.getElem?_modify, if_pos rfl, h]
  rfl
theorem ws_ext {a b : Ws} (h1 : a.way = b.way) (h2 : a.used = b.used) (h3 : a.dir = b.dir) : a = b := by
  obtain ⟨x, y, z⟩ := a
  obtain ⟨x', y', z'⟩ := b
  simp only at h1 h2 h3
  rw [h1, h2, h3]
set_option maxRecDepth 20000 in
set_option maxHeartbeats 2000000 in
theorem home_p {w0 w : World} {P : Pw} {wv uv : Value} {s : Ws} {l : Nat} {F : Nat → Prop} (h : IsW w0 w P wv uv s l F) : Calls Try.prog 30 #[.pointer (some ⟨P.t, 0, none⟩)] w fun r w' => r = .returned (.tuple #[]) ∧ AfW w0 w w' P ⟨[rootN], s.used, s.dir⟩ l F := by
  obtain ⟨W1, hW1⟩ : ∃ W, w.alloc (.cells rootN.vals.toArray 31) = W := ⟨_, rfl⟩
  have b1 := boxO hW1
  obtain ⟨W2, hW2⟩ : ∃ W, W1.setCell ⟨P.t, 1, none⟩ (.slice (some ⟨w.heap.size, 0, none⟩) 1 1) = W := ⟨_, rfl⟩
  have h1 := h.on' b1.2.1
  have hO : Only (· = P.t) W1 W2 := by rw [← hW2]; exact only1 _ _ _ _
  have ht := h.tlt
  have HE : Hid (IsW w0 W2 P (.slice (some ⟨w.heap.size, 0, none⟩) 1 1) uv ⟨[rootN], s.used, s.dir⟩ l F ∧ (∀ b, F b → W2.heap[b]? = w.heap[b]?) ∧ w.heap.size ≤ W2.heap.size) := by
    have hO2 : Only (fun b => b = P.t ∨ wv.ownBlock = some b ∨ uv.ownBlock = some b) w W2 := (Only.of b1.2.1).trans (hO.mono fun b hb => .inl hb)
    obtain ⟨k1, k2⟩ := h.step (s' := ⟨[rootN], s.used, s.dir⟩) (l' := l) (wv' := .slice (some ⟨w.heap.size, 0, none⟩) 1 1) (uv' := uv) hO2 (by rw [← hW2]; exact setCell_heap h1.head) (by
      have hr : W2.heap[w.heap.size]? = some (.cells rootN.vals.toArray 31 (0, 0)) := (hO.block _ (by omega) (by omega)).trans b1.1
      exact ⟨rfl, .inr ⟨w.heap.size, 1, rootN.vals.toArray, rfl, by omega, hr, Nat.le_refl 1, by unfold maxLen; omega, rfl, by simp [nc, Nd.vals]⟩⟩) (owns_moved h1.used fun b hb => hO.block b (World.ownsRow.lt h1.used b hb).2 (by have := (World.ownsRow.lt h1.used b hb).1; omega)) (fun b hb e => by
      cases hb
      have : w.heap.size < w.heap.size := (World.ownsRow.lt h.used _ e).2
      omega) (by simp) (fun b hb => by cases hb; exact .inr (Nat.le_refl _)) (fun b hb => .inl hb)
    exact ⟨k1, k2, hO2.size⟩
  have on1 : (ndOne #[(0, .agg #[.int .i64 1, .int .i64 1, .int .i64 0, .string ⟨#[]⟩])]).run Try.prog w = .ok (.slice (some ⟨w.heap.size, 0, none⟩) 1 1) W1 := by rw [← hW1]; exact ndOne_of rootN w
  obtain ⟨-, c1, -, -, -, -, fz⟩ := h1.cells
  clear h h1 b1 hO ht hW1
  go_enter Try.func30, Try.ntmps30
  go_wp2
  go_end0
  exact ⟨rfl, _, _, HE.out⟩
/-- all but the last -/
theorem rowN_pop {w : World} {B N c : Nat} {a : Option Addr} {l : List Nd} (h : RowN w B (.slice a N c) l) : RowN w B (.slice a (l.length - 1) c) l.dropLast := by
  have h2 := h.2
  rcases h2 with ⟨h1, h0⟩ | ⟨g, cap, cur, hv, hB, hw, hc, hm, hs, ht⟩
  · have : l = [] := List.length_eq_zero_iff.1 h0
    subst this
    injection h1 with e1 e2 e3
    subst e1 e3
    exact ⟨rfl, .inl ⟨rfl, rfl⟩⟩
  · injection hv with h1 h2 h3
    subst h1 h3
    refine ⟨nc_len _, .inr ⟨g, c, cur, by rw [List.length_dropLast], hB, hw, by rw [List.length_dropLast]; omega, hm, hs, ?_⟩⟩
    rw [List.length_dropLast]
    have : cur.toList.take ((l.length - 1) * 4) = (cur.toList.take (l.length * 4)).take ((l.length - 1) * 4) := by
      rw [List.take_take]; congr 1; omega
    rw [this, ht]
    rcases List.eq_nil_or_concat l with rfl | ⟨A, x, rfl⟩
    · rfl
    · rw [List.concat_eq_append, List.dropLast_concat, List.length_append, nc_app]
      simp only [List.length_cons, List.length_nil, Nat.add_sub_cancel]
      rw [← nc_len A, List.take_left]
set_option maxRecDepth 20000 in
set_option maxHeartbeats 2000000 in
theorem up_p {w0 w : World} {P : Pw} {wv uv : Value} {s : Ws} {l : Nat} {F : Nat → Prop} (h : IsW w0 w P wv uv s l F) (hlen : s.way.length ≤ 1000000000000) : Calls Try.prog 47 #[.pointer (some ⟨P.t, 0, none⟩)] w fun r w' => r = .returned (.tuple #[]) ∧ AfW w0 w w' P s.up l F := by
  obtain ⟨gw, m, i, cap, rfl, hm, hi, hcap, -, -⟩ := h.last
  rw [hm] at hlen
  obtain ⟨-, c1, -, -, -, -, fz⟩ := h.cells
  by_cases h1 : 1 < m
  · have h1z : (1 : Int) < (m : Int) := by omega
    have hwi : IntKind.i64.wrap ((m : Int) - 1) = (i : Int) := by
      rw [show (m : Int) - 1 = (i : Int) by omega]; exact IntWalk.i64_in _ (by omega)
    have hi0 : (0 : Int) ≤ (i : Int) := by omega
    have hic : (i : Int) ≤ (cap : Int) := by omega
    have HE : Hid (IsW w0 (w.drew.setCell ⟨P.t, 1, none⟩ (.slice (some ⟨gw, 0, none⟩) i cap)) P (.slice (some ⟨gw, 0, none⟩) i cap) uv s.up l F ∧ (∀ b, F b → (w.drew.setCell ⟨P.t, 1, none⟩ (.slice (some ⟨gw, 0, none⟩) i cap)).heap[b]? = w.heap[b]?) ∧ w.heap.size ≤ (w.drew.setCell ⟨P.t, 1, none⟩ (.slice (some ⟨gw, 0, none⟩) i cap)).heap.size) := by
      have hO1 : Only (· = P.t) w (w.drew.setCell ⟨P.t, 1, none⟩ (.slice (some ⟨gw, 0, none⟩) i cap)) := (Only.refl _ w).drew.trans (only1 _ _ _ _)
      have hO : Only (fun b => b = P.t ∨ (Value.slice (some ⟨gw, 0, none⟩) m cap).ownBlock = some b ∨ uv.ownBlock = some b) w (w.drew.setCell ⟨P.t, 1, none⟩ (.slice (some ⟨gw, 0, none⟩) i cap)) := hO1.mono fun b hb => .inl hb
      have hup : s.up.way = s.way.dropLast := by unfold Ws.up; rw [hm, if_pos h1]
      obtain ⟨k1, k2⟩ := h.step (s' := s.up) (l' := l) (wv' := .slice (some ⟨gw, 0, none⟩) i cap) (uv' := uv) hO (setCell_heap (w := w.drew) h.head) (by
        have hr := rowN_pop h.way
        rw [hm, show m - 1 = i by omega] at hr
        rw [hup]
        exact owns_moved hr fun b hb => hO1.block b (World.ownsRow.lt hr b hb).2 (by have := (World.ownsRow.lt hr b hb).1; omega)) (owns_moved h.used fun b hb => hO1.block b (World.ownsRow.lt h.used b hb).2 (by have := (World.ownsRow.lt h.used b hb).1; omega)) h.ne (by
        rw [hup]
        intro e
        have := congrArg List.length e
        rw [List.length_dropLast, hm] at this
        simp at this
        omega) (fun b hb => .inl hb) (fun b hb => .inl hb)
      exact ⟨k1, k2, hO1.size⟩
    clear h hm hi h1
    go_enter Try.func47, Try.ntmps47
    go_upto_region 1 with fail
    go_region_law (fail)
    all_goals (go_wp2; go_end0; exact ⟨rfl, _, _, HE.out⟩)
  · have h1z : ¬ (1 : Int) < (m : Int) := by omega
    have HE : Hid (IsW w0 w P (.slice (some ⟨gw, 0, none⟩) m cap) uv s.up l F) := by
      have : s.up = s := by
        unfold Ws.up
        rw [hm, if_neg h1]
      rw [this]; exact h
    clear h hm hi h1
    go_enter Try.func47, Try.ntmps47
    go_wp2
    go_end0
    exact ⟨rfl, _, _, HE.out, fun _ _ => rfl, Nat.le_refl _⟩
end
section
open Go.RowKit
attribute [local go_sem ↓ high] loadEn storeEn loadNd storeNd storeOu buildNd

theorem methF (g : Nat) (w : World) : (method 272 79 (.map (some g)) "vista/walk.tell").run Try.prog w = .ok (112, .map (some g)) w := by kernel_rfl
theorem methC (p : Nat) (w : World) : (method 272 82 (.agg #[.pointer (some ⟨p, 0, none⟩)]) "vista/walk.tell").run Try.prog w = .ok (113, .agg #[.pointer (some ⟨p, 0, none⟩)]) w := by kernel_rfl
set_option maxRecDepth 20000 in
set_option maxHeartbeats 4000000 in
theorem known_p {w0 w : World} {P : Pw} {wv uv : Value} {s : Ws} {l : Nat} {F : Nat → Prop} (k : Ky) (h : IsW w0 w P wv uv s l F) : Calls Try.prog 49 #[.pointer (some ⟨P.t, 0, none⟩), .agg #[.int .i64 k.d, .string k.nm]] w fun r w' => r = .returned (.tuple #[((knF P.fl P.cs k).getD zeroEn).agg, .bool (knF P.fl P.cs k).isSome]) ∧ Below w.heap.size w w' := by
  obtain ⟨W1, hW1⟩ : ∃ W, w.alloc (.cells #[.int .i64 k.d, .string k.nm] 28) = W := ⟨_, rfl⟩
  have b1 := boxO hW1
  obtain ⟨W2, hW2⟩ : ∃ W, W1.alloc (.cells zeroes7 42) = W := ⟨_, rfl⟩
  have b2 := boxO hW2
  have hb2 := chainB b1.2.1 b2.2.1
  have h2 := h.on' hb2
  have HS : Hid (∀ W, Below W2.heap.size W2 W → W.cell? ⟨w.heap.size, 0, none⟩ = some (.int .i64 k.d) ∧ W.cell? ⟨w.heap.size, 1, none⟩ = some (.string k.nm) ∧ W.heap[W1.heap.size]? = some (.cells zeroes7 42 (0, 0)) ∧ W.cell? ⟨P.gs, 0, none⟩ = some (.iface 79 (.map (some P.g))) ∧ W.cell? ⟨P.gs, 1, none⟩ = some (.iface 82 (.agg #[.pointer (some ⟨P.p, 0, none⟩)]))) := fun W hW => by
    have q1 := hkeep (hkeep b1.1 b2.2.1) hW
    have q2 := (h2.on' hW).src
    exact ⟨by rw [cell_of q1]; rfl, by rw [cell_of q1]; rfl, hkeep b2.1 hW, by rw [cell_of q2]; rfl, by rw [cell_of q2]; rfl⟩
  have HF : Hid (∀ W, Below W2.heap.size W2 W → Calls Try.prog 112 #[.map (some P.g), .agg #[.int .i64 k.d, .string k.nm]] W fun r w' => r = .returned (.tuple #[((fget P.fl k).getD zeroEn).agg, .bool (fget P.fl k).isSome]) ∧ Below W.heap.size W w') := fun W hW => tellF_p P.g P.fl k W (h2.on' hW).fr
  have HC : Hid (∀ W, Below W2.heap.size W2 W → Calls Try.prog 113 #[.agg #[.pointer (some ⟨P.p, 0, none⟩)], .agg #[.int .i64 k.d, .string k.nm]] W fun r w' => r = .returned (.tuple #[((knC P.cs k).getD zeroEn).agg, .bool (knC P.cs k).isSome]) ∧ Below W.heap.size W w') := fun W hW => tellC_p P.p P.c P.cs k W (h2.on' hW).ca h2.say
  have HT : Hid (∀ W (x : En), Below W2.heap.size W2 W → ∃ Z, (enSt (.pointer (some ⟨W1.heap.size, 0, none⟩)) x.agg).run Try.prog W = .ok () Z ∧ Z.heap[W1.heap.size]? = some (.cells x.vals.toArray 42 (0, 0)) ∧ Below w.heap.size w Z) := fun W x hW => by
    have z := (HS.out W hW).2.2.1
    have e1 := chainB hb2 hW
    exact ⟨_, enSt_of z rfl rfl, setRow_heap _ _ _ _ _ _ z, (onlyR _ _ _).below e1 e1.size fun k e => by have := b1.2.2; omega⟩
  have c0 := h2.cells.1
  have bx := box7
  have hB0 : Below W2.heap.size W2 W2 := Below.refl _ _
  have e1 : w.heap.size + 1 = W1.heap.size := b1.2.2.symm
  have e2 : W1.heap.size + 1 = W2.heap.size := b2.2.2.symm
  clear h h2 b1 b2 hb2
  go_enter Try.func49, Try.ntmps49
  go_wp2
  go_loopw [15] (fun i wr => ∃ j : Nat, j ≤ 2 ∧ i = .int .i64 j ∧ Hid (Below W2.heap.size W2 wr ∧ (1 ≤ j → fget P.fl k = none) ∧ (2 ≤ j → knC P.cs k = none))) (fun i _ => 2 - (intOf i).toNat)
  case atStart => exact ⟨0, by omega, rfl, hB0, fun h => by omega, fun h => by omega⟩
  case round =>
    clear hB0
    obtain ⟨j, hj, rfl, HJ⟩ := hrel
    obtain ⟨q0, q1, -, q3, q4⟩ := HS.out wr HJ.out.1
    have hcase : j = 0 ∨ j = 1 ∨ j = 2 := by omega
    have m0 := methF P.g
    have m1 := methC P.p
    rcases hcase with rfl | rfl | rfl
    · have HFw : Hid (Calls Try.prog 112 #[.map (some P.g), .agg #[.int .i64 k.d, .string k.nm]] wr fun r w' => r = .returned (.tuple #[((fget P.fl k).getD zeroEn).agg, .bool (fget P.fl k).isSome]) ∧ Below wr.heap.size wr w') := HF.out wr HJ.out.1
      obtain ⟨og, hg⟩ : ∃ o, fget P.fl k = o := ⟨_, rfl⟩
      cases og with
      | some x =>
        rw [hg] at HFw
        have HKn : Hid (knF P.fl P.cs k = some x) := by unfold knF; rw [hg]; rfl
        simp only [Option.getD_some, Option.isSome_some] at HFw
        clear hg m1
        go_wp2_with (go_at_call 112; refine HFw.out.mono ?_; rintro r W3 ⟨rfl, hb⟩; obtain ⟨V, hV⟩ : ∃ V, W3.alloc (.cells x.vals.toArray 42) = V := ⟨_, rfl⟩; have bV := boxO hV; have lV := enLd_at (cells7_of bV.1); obtain ⟨Z, st, HZ⟩ := HT.out V x (chainB HJ.out.1 (chainB hb bV.2.1)); have HZ' : Hid (Z.heap[W1.heap.size]? = some (.cells x.vals.toArray 42 (0, 0)) ∧ Below w.heap.size w Z) := HZ; clear hb bV HZ)
        (try simp only [Exit.inBlock, Exit.then])
        refine bodyPost_ret (ret_entry2 rfl _ _ W1.heap.size rfl HZ'.out.1) rfl ?_
        exact ⟨by rw [HKn.out]; rfl, HZ'.out.2⟩
      | none =>
        rw [hg] at HFw
        simp only [Option.getD_none, Option.isSome_none] at HFw
        have HG : Hid (fget P.fl k = none) := hg
        clear hg m1
        go_wp2_with (go_at_call 112; refine HFw.out.mono ?_; rintro r W3 ⟨rfl, hb⟩; obtain ⟨V, hV⟩ : ∃ V, W3.alloc (.cells zeroEn.vals.toArray 42) = V := ⟨_, rfl⟩; have bV := boxO hV; have HV : Hid (Below W2.heap.size W2 V) := chainB HJ.out.1 (chainB hb bV.2.1); clear hb bV)
        go_roundw
        case rel => exact ⟨1, by omega, rfl, HV.out, fun _ => HG.out, fun h => by omega⟩
        case measure => simp [intOf]
    · have HCw : Hid (Calls Try.prog 113 #[.agg #[.pointer (some ⟨P.p, 0, none⟩)], .agg #[.int .i64 k.d, .string k.nm]] wr fun r w' => r = .returned (.tuple #[((knC P.cs k).getD zeroEn).agg, .bool (knC P.cs k).isSome]) ∧ Below wr.heap.size wr w') := HC.out wr HJ.out.1
      have hg0 := HJ.out.2.1 (Nat.le_refl _)
      have hkn : knF P.fl P.cs k = knC P.cs k := by unfold knF; rw [hg0]
      have HG0 : Hid (fget P.fl k = none) := hg0
      clear hg0
      obtain ⟨og, hg⟩ : ∃ o, knC P.cs k = o := ⟨_, rfl⟩
      cases og with
      | some x =>
        rw [hg] at HCw hkn
        have HKn : Hid (knF P.fl P.cs k = some x) := hkn
        simp only [Option.getD_some, Option.isSome_some] at HCw
        clear hg hkn m0
        go_wp2_with (go_at_call 113; refine HCw.out.mono ?_; rintro r W3 ⟨rfl, hb⟩; obtain ⟨V, hV⟩ : ∃ V, W3.alloc (.cells x.vals.toArray 42) = V := ⟨_, rfl⟩; have bV := boxO hV; have lV := enLd_at (cells7_of bV.1); obtain ⟨Z, st, HZ⟩ := HT.out V x (chainB HJ.out.1 (chainB hb bV.2.1)); have HZ' : Hid (Z.heap[W1.heap.size]? = some (.cells x.vals.toArray 42 (0, 0)) ∧ Below w.heap.size w Z) := HZ; clear hb bV HZ)
        (try simp only [Exit.inBlock, Exit.then])
        refine bodyPost_ret (ret_entry2 rfl _ _ W1.heap.size rfl HZ'.out.1) rfl ?_
        exact ⟨by rw [HKn.out]; rfl, HZ'.out.2⟩
      | none =>
        rw [hg] at HCw
        simp only [Option.getD_none, Option.isSome_none] at HCw
        have HG : Hid (knC P.cs k = none) := hg
        clear hg m0 hkn
        go_wp2_with (go_at_call 113; refine HCw.out.mono ?_; rintro r W3 ⟨rfl, hb⟩; obtain ⟨V, hV⟩ : ∃ V, W3.alloc (.cells zeroEn.vals.toArray 42) = V := ⟨_, rfl⟩; have bV := boxO hV; have HV : Hid (Below W2.heap.size W2 V) := chainB HJ.out.1 (chainB hb bV.2.1); clear hb bV)
        go_roundw
        case rel => exact ⟨2, by omega, rfl, HV.out, fun _ => HG0.out, fun _ => HG.out⟩
        case measure => simp [intOf]
    · have hkn : knF P.fl P.cs k = none := by unfold knF; rw [HJ.out.2.1 (by omega)]; exact HJ.out.2.2 (Nat.le_refl _)
      have HKn : Hid (knF P.fl P.cs k = none) := hkn
      obtain ⟨Z, st, HZ⟩ := HT.out wr zeroEn HJ.out.1
      have st2 : (enSt (.pointer (some ⟨W1.heap.size, 0, none⟩)) (.agg #[.int .i64 0, .string ⟨#[]⟩, .bool false, .int .i64 0, .int .i64 0, .int .i64 0, .string ⟨#[]⟩])).run Try.prog wr = .ok () Z := st
      have HZ' : Hid (Z.heap[W1.heap.size]? = some (.cells zeroEn.vals.toArray 42 (0, 0)) ∧ Below w.heap.size w Z) := HZ
      clear HZ st hkn m0 m1
      go_wp2
      (try simp only [Exit.inBlock, Exit.then])
      refine bodyPost_ret (ret_entry2 rfl _ _ W1.heap.size rfl HZ'.out.1) rfl ?_
      exact ⟨by rw [HKn.out]; rfl, HZ'.out.2⟩
end
section
open Go.RowKit
attribute [local go_sem ↓ high] loadEn storeEn loadNd storeNd storeOu buildNd

section
variable {w0 w : World} {P : Pw} {wv uv : Value} {s : Ws} {l : Nat} {F : Nat → Prop}
theorem IsW.setL (h : IsW w0 w P wv uv s l F) (l' : Nat) : IsW w0 (w.setCell ⟨P.t, 5, none⟩ (.int .i64 l')) P wv uv s l' F ∧ ∀ b, F b → (w.setCell ⟨P.t, 5, none⟩ (.int .i64 l')).heap[b]? = w.heap[b]? := by
  have hO : Only (· = P.t) w (w.setCell ⟨P.t, 5, none⟩ (.int .i64 l')) := only1 _ _ _ _
  exact h.step (hO.mono fun b hb => .inl hb) (setCell_heap h.head) (owns_moved h.way fun b hb => hO.block b (World.ownsRow.lt h.way b hb).2 (by have := (World.ownsRow.lt h.way b hb).1; omega)) (owns_moved h.used fun b hb => hO.block b (World.ownsRow.lt h.used b hb).2 (by have := (World.ownsRow.lt h.used b hb).1; omega)) h.ne h.some1 (fun b hb => .inl hb) (fun b hb => .inl hb)
theorem IsW.setD (h : IsW w0 w P wv uv s l F) (d : Bool) : IsW w0 (w.setCell ⟨P.t, 3, none⟩ (.bool d)) P wv uv ⟨s.way, s.used, d⟩ l F ∧ ∀ b, F b → (w.setCell ⟨P.t, 3, none⟩ (.bool d)).heap[b]? = w.heap[b]? := by
  have hO : Only (· = P.t) w (w.setCell ⟨P.t, 3, none⟩ (.bool d)) := only1 _ _ _ _
  exact h.step (s' := ⟨s.way, s.used, d⟩) (hO.mono fun b hb => .inl hb) (setCell_heap h.head) (owns_moved h.way fun b hb => hO.block b (World.ownsRow.lt h.way b hb).2 (by have := (World.ownsRow.lt h.way b hb).1; omega)) (owns_moved h.used fun b hb => hO.block b (World.ownsRow.lt h.used b hb).2 (by have := (World.ownsRow.lt h.used b hb).1; omega)) h.ne h.some1 (fun b hb => .inl hb) (fun b hb => .inl hb)
end
set_option maxRecDepth 20000 in
set_option maxHeartbeats 4000000 in
theorem meets_p {w0 w : World} {P : Pw} {wv uv : Value} {s : Ws} {l : Nat} {F : Nat → Prop} (n : Nd) (a : Option Addr) (k c : Nat) (h : IsW w0 w P wv uv s l F) : Calls Try.prog 50 #[.pointer (some ⟨P.t, 0, none⟩), .agg #[.int .i64 n.id, .int .i64 n.kind, .int .i64 n.mode, .string n.tg], .slice a k c] w fun r w' => r = .returned (.bool (decide (n.kind = 3) && (decide (0 < k) || s.dir || P.fol))) ∧ Below w.heap.size w w' := by
  obtain ⟨W1, hW1⟩ : ∃ W, w.alloc (.cells #[.int .i64 n.id, .int .i64 n.kind, .int .i64 n.mode, .string n.tg] 31) = W := ⟨_, rfl⟩
  have b1 := boxO hW1
  have q1 : W1.cell? ⟨w.heap.size, 1, none⟩ = some (.int .i64 n.kind) := by rw [cell_of b1.1]; rfl
  obtain ⟨-, -, -, c3, c4, -, -⟩ := (h.on' b1.2.1).cells
  have HB : Hid (Below w.heap.size w W1) := b1.2.1
  obtain ⟨d, hd⟩ : ∃ d, s.dir = d := ⟨_, rfl⟩
  obtain ⟨f, hf⟩ : ∃ d, P.fol = d := ⟨_, rfl⟩
  rw [hd] at c3
  rw [hf] at c4
  rw [hd, hf]
  clear h b1 hd hf
  by_cases h3 : n.kind = 3
  · have h3b : (n.kind == 3) = true := by rw [h3]; rfl
    have h3d : decide (n.kind = 3) = true := decide_eq_true h3
    rw [h3d, Bool.true_and]
    by_cases hk : 0 < k
    · have hkz : (0 : Int) < (k : Int) := by omega
      rw [decide_eq_true hk, Bool.true_or, Bool.true_or]
      clear h3 h3d
      go_enter Try.func50, Try.ntmps50
      go_wp2
      go_ret
      exact ⟨rfl, HB.out⟩
    · have hkz : ¬ (0 : Int) < (k : Int) := by omega
      rw [decide_eq_false hk, Bool.false_or]
      clear h3 h3d
      cases d with
      | true =>
        rw [Bool.true_or]
        go_enter Try.func50, Try.ntmps50
        go_wp2
        go_ret
        exact ⟨rfl, HB.out⟩
      | false =>
        rw [Bool.false_or]
        go_enter Try.func50, Try.ntmps50
        go_wp2
        go_ret
        exact ⟨rfl, HB.out⟩
  · have h3b : (n.kind == 3) = false := beq_eq_false_iff_ne.2 h3
    have h3d : decide (n.kind = 3) = false := decide_eq_false h3
    rw [h3d, Bool.false_and]
    clear h3 h3d
    go_enter Try.func50, Try.ntmps50
    go_wp2
    go_ret
    exact ⟨rfl, HB.out⟩
set_option maxRecDepth 20000 in
set_option maxHeartbeats 4000000 in
theorem meet_loop {w0 w : World} {P : Pw} {wv uv : Value} {s : Ws} {F : Nat → Prop} (n : Nd) (a : Option Addr) (k c : Nat) (h : IsW w0 w P wv uv s 0 F) : Calls Try.prog 51 #[.pointer (some ⟨P.t, 0, none⟩), .agg #[.int .i64 n.id, .int .i64 n.kind, .int .i64 n.mode, .string n.tg], .slice a k c] w fun r w' => r = .returned (.tuple #[.slice none 0 0, .int .i64 49]) ∧ Below w.heap.size w w' := by
  obtain ⟨W1, hW1⟩ : ∃ W, w.alloc (.cells #[.int .i64 n.id, .int .i64 n.kind, .int .i64 n.mode, .string n.tg] 31) = W := ⟨_, rfl⟩
  have b1 := boxO hW1
  obtain ⟨-, -, -, -, -, c5, -⟩ := (h.on' b1.2.1).cells
  have c5' : W1.cell? ⟨P.t, 5, none⟩ = some (.int .i64 0) := c5
  have HB : Hid (Below w.heap.size w W1) := b1.2.1
  clear h b1 c5
  go_enter Try.func51, Try.ntmps51
  go_wp2
  go_ret2
  exact ⟨rfl, HB.out⟩
/-- what meet leaves -/
def MetR (w0 w w' : World) (P : Pw) (s : Ws) (l : Nat) (F : Nat → Prop) (v : Value) (L : List ByteArray) : Prop := Own w' w.heap.size v L ∧ ∃ wv uv, IsW w0 w' P wv uv s l (fun b => F b ∨ v.ownBlock = some b) ∧ (∀ b, F b → w'.heap[b]? = w.heap[b]?) ∧ w.heap.size ≤ w'.heap.size
set_option maxRecDepth 20000 in
set_option maxHeartbeats 8000000 in
theorem meet_bad {w0 w : World} {P : Pw} {wv uv : Value} {s : Ws} {l : Nat} {F : Nat → Prop} (n : Nd) (a : Option Addr) (k c : Nat) (h : IsW w0 w P wv uv s (l + 1) F) (hl : l + 1 ≤ 8) (hE : cutE n.tg (fullB n.tg) ≠ 0) : Calls Try.prog 51 #[.pointer (some ⟨P.t, 0, none⟩), .agg #[.int .i64 n.id, .int .i64 n.kind, .int .i64 n.mode, .string n.tg], .slice a k c] w fun r w' => r = .returned (.tuple #[.slice none 0 0, .int .i64 (cutE n.tg (fullB n.tg))]) ∧ AfW w0 w w' P s l F := by
  obtain ⟨W1, hW1⟩ : ∃ W, w.alloc (.cells #[.int .i64 n.id, .int .i64 n.kind, .int .i64 n.mode, .string n.tg] 31) = W := ⟨_, rfl⟩
  have b1 := boxO hW1
  have h1 := h.on b1.2.1
  obtain ⟨-, -, -, -, -, c5, fz⟩ := h1.cells
  obtain ⟨L1, hL1⟩ : ∃ L, l + 1 = L := ⟨_, rfl⟩
  have c5' : W1.cell? ⟨P.t, 5, none⟩ = some (.int .i64 L1) := by rw [← hL1]; exact c5
  have hn0 : ((L1 : Int) == 0) = false := beq_eq_false_iff_ne.2 (by omega)
  have hsub : IntKind.i64.wrap ((L1 : Int) - 1) = (l : Int) := by
    rw [show (L1 : Int) - 1 = (l : Int) by omega]; exact IntWalk.i64_in _ (by omega)
  obtain ⟨W2, hW2⟩ : ∃ W, W1.setCell ⟨P.t, 5, none⟩ (.int .i64 l) = W := ⟨_, rfl⟩
  obtain ⟨h2, k2⟩ := h1.setL l
  rw [hW2] at h2 k2
  have q3 : W2.cell? ⟨w.heap.size, 3, none⟩ = some (.string n.tg) := by
    rw [cell_of ((k2 w.heap.size (.inr ⟨Nat.le_refl _, by omega⟩)).trans b1.1)]; rfl
  obtain ⟨E, hEE⟩ : ∃ E, cutE n.tg (fullB n.tg) = E := ⟨_, rfl⟩
  rw [hEE] at hE ⊢
  have HTg : Hid (∀ W, Calls Try.prog 20 #[.string n.tg] W fun e w' => ∃ v W' D, e = .returned (.tuple #[v, .bool W', .bool D, .int .i64 E]) ∧ Below W.heap.size W w') := fun W => by
    refine (target_any n.tg W).mono ?_
    rintro e w' ⟨v, rfl, -, hb⟩
    exact ⟨v, _, _, by rw [hEE], hb⟩
  have hEb : (E != 0) = true := by simpa using hE
  have HZ : Hid (∀ W, Below W2.heap.size W2 W → AfW w0 w W P s l F) := fun W hW => ⟨wv, uv, (h2.on' hW).mono fun b hb => .inl hb, fun b hb => (hW.block b (h2.fk b (.inl hb)).1).trans ((k2 b (.inl hb)).trans (b1.2.1.block b (h.fk b hb).1)), by have := hW.size; have : W1.heap.size ≤ W2.heap.size := (by rw [← hW2]; exact (only1 W1 P.t 5 (.int .i64 l)).size); omega⟩
  clear h h1 h2 b1 k2 c5 hL1 hEE hE hl
  go_enter Try.func51, Try.ntmps51
  go_wp2_with (go_at_call 20; refine (HTg.out _).mono ?_; rintro r W3 ⟨v3, T3, D3, rfl, hb⟩; have HY : Hid (AfW w0 w W3 P s l F) := HZ.out W3 hb; clear hb)
  go_ret2
  exact ⟨rfl, HY.out⟩
end
end Go.Proofs.Ytppbbddlbfgpfaa
