/- The contracts of package scroll's blocks: whole blocks, headers, labels. -/
import Derived.Test.YtihjhaafmdobmabSaE
namespace Go.Proofs.Ytihjhaafmdobmab
open Go.RowKit

theorem made_u8 (n : Nat) : (madeCells (Value.int .u8 0).cells (n * 1)).toList = ub (List.replicate n 0) := by
  apply List.ext_getElem
  · simp [madeCells, ub]
  · intro i h1 h2
    simp only [madeCells, Array.toList_map, List.getElem_map, Array.getElem_toList, Array.getElem_range, ub, List.getElem_replicate]
    have e2 : (Value.int .u8 0).cells = #[.int .u8 0] := rfl
    rw [e2]
    have : i % (#[Value.int .u8 0]).size = 0 := Nat.mod_one i
    rw [this]; rfl
theorem OwnB.made {w : World} {base n m : Nat} (h : w.ownsRow base 5 1 (.slice (some ⟨m, 0, none⟩) n n) n (madeCells (Value.int .u8 0).cells (n * 1)).toList) : OwnB w base (.slice (some ⟨m, 0, none⟩) n n) (List.replicate n 0) := by
  unfold OwnB
  rw [List.length_replicate, ← made_u8]; exact h
theorem OwnB.built (w : World) (l : List Int) (base : Nat) (hb : base ≤ w.heap.size) (hl : l.length ≤ 1000) : OwnB (w.alloc (.cells (ub l).toArray 5)) base (.slice (some ⟨w.heap.size, 0, none⟩) l.length l.length) l :=
  owns_whole hb (heap_new _ _) (by rw [ub_len, Nat.mul_one]) (by unfold maxLen; omega)
theorem OwnB.bel {w w' : World} {base base' : Nat} {v : Value} {l : List Int} (h : OwnB w base v l) (hb : Below base' w w') (hv : ∀ k, v.ownBlock = some k → k < base') : OwnB w' base v l :=
  h.moved fun k hk => hb.block k (hv k hk)
theorem fill_splice (l : List Int) : splice (ub (List.replicate 64 0)) 0 (ub l) = ub (fillB l) := by
  unfold splice fillB ub
  simp only [List.take_zero, List.nil_append, List.length_map, Nat.zero_add, List.map_append, List.map_replicate, List.drop_replicate]

set_option maxHeartbeats 1000000 in
theorem filled_any (v : Value) (l : List Int) (w : World) (h : RB w v l) (hl : l.length ≤ 64) :
    Calls Try.prog 161 #[v] w fun e w' => ∃ v', e = .returned v' ∧ OwnB w' w.heap.size v' (fillB l) ∧ Below w.heap.size w w' := by
  obtain ⟨i0, hi0, hz0, hz1, hz2⟩ := info_parts Try.infoU
  obtain ⟨a, cap, rfl, _⟩ := id h
  have H : Hid (RB w (.slice a l.length cap) l) := h
  clear h
  go_enter Try.func161, Try.ntmps161
  go_wp2_with (first
    | (at_make; refine wpList_make_full _ rfl (.const (.int .i64 64)) (.const (.int .i64 64)) 22 rfl _ 5 i0 (.int .u8 0) 1 Try.underlying22 hi0 hz0 hz1 .i64 .i64 64 64 64 rfl rfl rfl rfl (by rw [hz2]; decide) (by decide) (Nat.le_refl _) ?_; intro w1 hown hgrow; have hb1 := below_grown hgrow; have ho := owns_all hown; rw [made_u8] at ho; have HW : Hid (Below w.heap.size w w1 ∧ w1.heap[w.heap.size]? = some (.cells (ub (List.replicate 64 0)).toArray 5 (0, 0))) := ⟨hb1, ho⟩; clear hown hgrow hb1 ho)
    | ((refine wpList_copy_spliceK rfl (.tmp 5) (.tmp 6) 22 22 rfl 1 5 Try.underlying22 Try.sizeU (some ⟨w.heap.size, 0, none⟩) a 64 64 l.length cap rfl rfl l.length w.heap.size 0 (ub (List.replicate 64 0)) 5 HW.out.2 (ub l) (Nat.min_eq_left hl) (by rw [ub_len, Nat.mul_one]) (fun hp => ⟨rfl, (H.out.below HW.out.1).src.elim (fun e => absurd hp (by rw [e.2]; decide)) id⟩) (by rw [ub_len, ub_len, List.length_replicate]; omega) (ub_one l) ?_); intro w2 h2 hO2))
  go_ret
  have e2 := h2.out
  rw [fill_splice l] at e2
  have hfl := fillB_len hl
  refine ⟨_, rfl, ?_, hO2.below HW.out.1 HW.out.1.size (fun k hk => by omega)⟩
  have := owns_whole (base := w.heap.size) (n := 64) (size := 1) (Nat.le_refl _) e2 (by rw [ub_len, hfl]) (by unfold maxLen; omega)
  unfold OwnB
  rw [hfl]; exact this

theorem lit4 (w0 : World) (base n : Nat) (x y z u : Int) (t : TypeId) (f : Nat × Nat) (hn : n = w0.heap.size) : AB (w0.alloc (.cells #[.int .u8 x, .int .u8 y, .int .u8 z, .int .u8 u] t f)) base (.slice (some ⟨n, 0, none⟩) 4 4) [x, y, z, u] := by
  subst hn
  refine .inr ⟨w0.heap.size, rfl, by simp, by simp, fun i q hq => ?_⟩
  rw [World.cell?_alloc_mark]
  match i, hq with
  | 0, hq => simp at hq; subst hq; rfl
  | 1, hq => simp at hq; subst hq; rfl
  | 2, hq => simp at hq; subst hq; rfl
  | 3, hq => simp at hq; subst hq; rfl
set_option maxRecDepth 100000 in
set_option maxHeartbeats 1000000 in
theorem hdrBlock_any (g h : Nat) (w : World) (hg : g < 4294967296) :
    Calls Try.prog 142 #[.agg #[.int .i64 g, .int .i64 h]] w fun e w' => ∃ v', e = .returned v' ∧ OwnB w' w.heap.size v' (hdrB g h) ∧ Below w.heap.size w w' := by
  have kc := fun (w0 : World) (hw : w0.heap.size = w.heap.size + 1) => Go.Joins.run_convert_bytes_const_at (P := Try.prog) w0 22 5 #[.int .u8 83, .int .u8 67, .int .u8 82, .int .u8 49] 4 4 (w.heap.size + 1) hw.symm Try.underlying22 Try.underlying5
  go_enter Try.func142, Try.ntmps142
  replace kc := kc (w.alloc (.cells #[.int .i64 g, .int .i64 h] 141)) (by simp)
  go_wp2_with (first
    | (go_at_call 162; refine (appNum_any _ _ g (w.heap.size + 1) _ (lit4 _ _ _ 83 67 82 49 _ _ (by simp)) (by simp) hg (by decide)).mono ?_; rintro e w1 ⟨v1, rfl, ho1, hb1⟩; have hs1 := hb1.size; simp at hs1; have m1 : w1.cell? ⟨w.heap.size, 1, none⟩ = some (.int .i64 h) := by rw [hb1.cell (by simp)]; simp [go_sem])
    | (at_builtin; refine wpList_appB rfl _ _ rfl (w.heap.size + 1) _ _ rfl (ho1.alloc _) _ [_] rfl (RB.one _ _ _) (by simp [n4_len]) (by simp; omega) ?_; intro v2 w2 ho2 hb2 _; have hs2 := hb2.size; simp at hs2)
    | (go_at_call 161; refine (filled_any _ _ _ ho2.rb (by simp [n4_len])).mono ?_; rintro e w3 ⟨v3, rfl, ho3, hb3⟩))
  go_ret
  refine ⟨_, rfl, ?_, ?_⟩
  · have hcv : ((h : Int) % 256) = ((h % 256 : Nat) : Int) := by omega
    unfold hdrB
    rw [← hcv]
    rw [List.append_assoc] at ho3
    exact ho3.le (by omega)
  · have k1 : Below w.heap.size w w1 := below_al (below_al (hb1.mono (by omega)) (by simp)) (by omega)
    have k2 : Below w.heap.size w1 w2 := below_al (hb2.mono (by omega)) (by omega)
    exact (k1.trans k2).trans (hb3.mono (by omega))
end Go.Proofs.Ytihjhaafmdobmab
