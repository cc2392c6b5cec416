/- A link is met, and its target is taken. -/
import Derived.Test.YtppbbddlbfgpfaaJWUps28
import Derived.Lib.AppendZeros
namespace Go.Proofs.Ytppbbddlbfgpfaa
section
open Go.RowKit
attribute [local go_sem ↓ high] loadEn storeEn loadNd storeNd storeOu buildNd

set_option maxRecDepth 20000 in
set_option maxHeartbeats 16000000 in
theorem meet_ok {w0 w : World} {P : Pw} {wv uv : Value} {s : Ws} {l : Nat} {F : Nat → Prop} (n : Nd) (a : Option Addr) (k c : Nat) (h : IsW w0 w P wv uv s (l + 1) F) (hl : l + 1 ≤ 8) (hE : cutE n.tg (fullB n.tg) = 0) : Calls Try.prog 51 #[.pointer (some ⟨P.t, 0, none⟩), .agg #[.int .i64 n.id, .int .i64 n.kind, .int .i64 n.mode, .string n.tg], .slice a k c] w fun r w' => ∃ v, r = .returned (.tuple #[v, .int .i64 0]) ∧ MetR w0 w w' P (s.met n.tg (decide (k = 0))) l F v (cutL n.tg (fullB n.tg)) := by
  obtain ⟨W1, hW1⟩ : ∃ W, w.alloc (.cells #[.int .i64 n.id, .int .i64 n.kind, .int .i64 n.mode, .string n.tg] 31) = W := ⟨_, rfl⟩
  have b1 := boxO hW1
  have h1 := h.on b1.2.1
  obtain ⟨-, -, -, -, -, c5, fz⟩ := h1.cells
  obtain ⟨L1, hL1⟩ : ∃ L, l + 1 = L := ⟨_, rfl⟩
  have c5' : W1.cell? ⟨P.t, 5, none⟩ = some (.int .i64 L1) := by rw [← hL1]; exact c5
  have hn0 : ((L1 : Int) == 0) = false := beq_eq_false_iff_ne.2 (by omega)
  have hsub : IntKind.i64.wrap ((L1 : Int) - 1) = (l : Int) := by
    rw [show (L1 : Int) - 1 = (l : Int) by omega]; exact IntWalk.i64_in _ (by omega)
  obtain ⟨W2, hW2⟩ : ∃ W, W1.setCell ⟨P.t, 5, none⟩ (.int .i64 l) = W := ⟨_, rfl⟩
  obtain ⟨h2, k2⟩ := h1.setL l
  rw [hW2] at h2 k2
  have q3 : W2.cell? ⟨w.heap.size, 3, none⟩ = some (.string n.tg) := by
    rw [cell_of ((k2 w.heap.size (.inr ⟨Nat.le_refl _, by omega⟩)).trans b1.1)]; rfl
  have hsz : w.heap.size ≤ W2.heap.size := by
    have : W1.heap.size ≤ W2.heap.size := (by rw [← hW2]; exact (only1 W1 P.t 5 (.int .i64 l)).size)
    omega
  obtain ⟨T, hT⟩ : ∃ T, tgtW n.tg = T := ⟨_, rfl⟩
  obtain ⟨D, hD⟩ : ∃ D, cutD n.tg (fullB n.tg) = D := ⟨_, rfl⟩
  obtain ⟨L, hL⟩ : ∃ L, cutL n.tg (fullB n.tg) = L := ⟨_, rfl⟩
  obtain ⟨dr, hdr⟩ : ∃ d, s.dir = d := ⟨_, rfl⟩
  have hmet : s.met n.tg (decide (k = 0)) = ⟨if T then [rootN] else s.way, s.used, if decide (k = 0) then dr || D else dr⟩ := by
    unfold Ws.met
    rw [hT, hD, hdr]
  rw [hmet, hL]
  have HTg : Hid (∀ W, Calls Try.prog 20 #[.string n.tg] W fun e w' => ∃ v, e = .returned (.tuple #[v, .bool T, .bool D, .int .i64 0]) ∧ Own w' W.heap.size v L ∧ Below W.heap.size W w') := fun W => by
    refine (target_any n.tg W).mono ?_
    rintro e w' ⟨v, rfl, ho, hb⟩
    rw [hL] at ho
    exact ⟨v, by rw [hE, hT, hD], ho, hb⟩
  have HI3 : Hid (∀ W3, Below W2.heap.size W2 W3 → IsW w0 W3 P wv uv s l (fun b => (F b ∨ w.heap.size ≤ b ∧ b < W1.heap.size) ∨ W2.heap.size ≤ b ∧ b < W3.heap.size)) := fun W3 hW => h2.on hW
  have HFin : Hid (∀ W3 v3 W wv' uv' s', Below W2.heap.size W2 W3 → Own W3 W2.heap.size v3 L → IsW w0 W P wv' uv' s' l (fun b => (F b ∨ w.heap.size ≤ b ∧ b < W1.heap.size) ∨ W2.heap.size ≤ b ∧ b < W3.heap.size) → (∀ b, ((F b ∨ w.heap.size ≤ b ∧ b < W1.heap.size) ∨ W2.heap.size ≤ b ∧ b < W3.heap.size) → W.heap[b]? = W3.heap[b]?) → W3.heap.size ≤ W.heap.size → MetR w0 w W P s' l F v3 L) := fun W3 v3 W wv' uv' s' hb ho hI hk hs => by
    refine ⟨Own.le (owns_moved ho fun b hb' => hk b (.inr (World.ownsRow.lt ho b hb'))) hsz, wv', uv', hI.mono fun b hb' => ?_, fun b hb' => ?_, by have := hb.size; omega⟩
    · rcases hb' with hb' | hb'
      · exact .inl (.inl hb')
      · exact .inr (World.ownsRow.lt ho b hb')
    · exact (hk b (.inl (.inl hb'))).trans ((hb.block b (h2.fk b (.inl hb')).1).trans ((k2 b (.inl hb')).trans (b1.2.1.block b (h.fk b hb').1)))
  have HHm : Hid (∀ W3, Below W2.heap.size W2 W3 → Calls Try.prog 30 #[.pointer (some ⟨P.t, 0, none⟩)] W3 fun r w' => r = .returned (.tuple #[]) ∧ AfW w0 W3 w' P ⟨[rootN], s.used, s.dir⟩ l (fun b => (F b ∨ w.heap.size ≤ b ∧ b < W1.heap.size) ∨ W2.heap.size ≤ b ∧ b < W3.heap.size)) := fun W3 hW => home_p (h2.on hW)
  have HSz : Hid (∀ W i u, (W : World).heap.size ≤ (W.setCell ⟨P.t, i, none⟩ u).heap.size) := fun W i u => (only1 W P.t i u).size
  clear h h1 h2 b1 k2 c5 hL1 hE hl hmet hL hsz
  cases T with
  | false =>
    simp only [Bool.false_eq_true, if_false]
    by_cases hk : k = 0
    · subst hk
      simp only [decide_true, if_true]
      go_enter Try.func51, Try.ntmps51
      cases dr with
      | true =>
        go_wp2_with (go_at_call 20; refine (HTg.out _).mono ?_; rintro r W3 ⟨v3, rfl, ho, hb⟩; have H3 : Hid (Below W2.heap.size W2 W3 ∧ Own W3 W2.heap.size v3 L) := ⟨hb, ho⟩; obtain ⟨-, -, -, d3, -, -, f3⟩ := (HI3.out W3 hb).cells; rw [hdr] at d3; clear hb ho)
        go_ret2
        obtain ⟨g1, g2⟩ := (HI3.out W3 H3.out.1).setD true
        exact ⟨_, rfl, HFin.out W3 v3 _ wv uv _ H3.out.1 H3.out.2 g1 g2 (HSz.out _ _ _)⟩
      | false =>
        go_wp2_with (go_at_call 20; refine (HTg.out _).mono ?_; rintro r W3 ⟨v3, rfl, ho, hb⟩; have H3 : Hid (Below W2.heap.size W2 W3 ∧ Own W3 W2.heap.size v3 L) := ⟨hb, ho⟩; obtain ⟨-, -, -, d3, -, -, f3⟩ := (HI3.out W3 hb).cells; rw [hdr] at d3; clear hb ho)
        go_ret2
        obtain ⟨g1, g2⟩ := (HI3.out W3 H3.out.1).setD D
        exact ⟨_, rfl, HFin.out W3 v3 _ wv uv _ H3.out.1 H3.out.2 g1 g2 (HSz.out _ _ _)⟩
    · have hkz : ((k : Int) == 0) = false := beq_eq_false_iff_ne.2 (by omega)
      simp only [hk, decide_false, Bool.false_eq_true, if_false]
      clear hk
      go_enter Try.func51, Try.ntmps51
      go_wp2_with (go_at_call 20; refine (HTg.out _).mono ?_; rintro r W3 ⟨v3, rfl, ho, hb⟩; have H3 : Hid (Below W2.heap.size W2 W3 ∧ Own W3 W2.heap.size v3 L) := ⟨hb, ho⟩; clear hb ho)
      go_ret2
      have hI := HI3.out W3 H3.out.1
      exact ⟨_, rfl, by
        have := HFin.out W3 v3 W3 wv uv s H3.out.1 H3.out.2 hI (fun _ _ => rfl) (Nat.le_refl _)
        rw [show s = ⟨s.way, s.used, dr⟩ from ws_ext rfl rfl hdr] at this
        exact this⟩
  | true =>
    simp only [if_true]
    by_cases hk : k = 0
    · subst hk
      simp only [decide_true, if_true]
      go_enter Try.func51, Try.ntmps51
      cases dr with
      | true =>
        go_wp2_with (first
          | (go_at_call 30; refine (HHm.out _ H3.out.1).mono ?_; rintro r W4 ⟨rfl, wv4, uv4, hI4, hk4, hs4⟩; have H4 : Hid (IsW w0 W4 P wv4 uv4 ⟨[rootN], s.used, s.dir⟩ l (fun b => (F b ∨ w.heap.size ≤ b ∧ b < W1.heap.size) ∨ W2.heap.size ≤ b ∧ b < W3.heap.size) ∧ (∀ b, ((F b ∨ w.heap.size ≤ b ∧ b < W1.heap.size) ∨ W2.heap.size ≤ b ∧ b < W3.heap.size) → W4.heap[b]? = W3.heap[b]?) ∧ W3.heap.size ≤ W4.heap.size) := ⟨hI4, hk4, hs4⟩; obtain ⟨-, -, -, d3, -, -, f3⟩ := hI4.cells; simp only [hdr] at d3; clear hI4 hk4 hs4)
          | (go_at_call 20; refine (HTg.out _).mono ?_; rintro r W3 ⟨v3, rfl, ho, hb⟩; have H3 : Hid (Below W2.heap.size W2 W3 ∧ Own W3 W2.heap.size v3 L) := ⟨hb, ho⟩; clear hb ho))
        go_ret2
        obtain ⟨g1, g2⟩ := H4.out.1.setD true
        exact ⟨_, rfl, HFin.out W3 v3 _ wv4 uv4 _ H3.out.1 H3.out.2 g1 (fun b hb => (g2 b hb).trans (H4.out.2.1 b hb)) (Nat.le_trans H4.out.2.2 (HSz.out _ _ _))⟩
      | false =>
        go_wp2_with (first
          | (go_at_call 30; refine (HHm.out _ H3.out.1).mono ?_; rintro r W4 ⟨rfl, wv4, uv4, hI4, hk4, hs4⟩; have H4 : Hid (IsW w0 W4 P wv4 uv4 ⟨[rootN], s.used, s.dir⟩ l (fun b => (F b ∨ w.heap.size ≤ b ∧ b < W1.heap.size) ∨ W2.heap.size ≤ b ∧ b < W3.heap.size) ∧ (∀ b, ((F b ∨ w.heap.size ≤ b ∧ b < W1.heap.size) ∨ W2.heap.size ≤ b ∧ b < W3.heap.size) → W4.heap[b]? = W3.heap[b]?) ∧ W3.heap.size ≤ W4.heap.size) := ⟨hI4, hk4, hs4⟩; obtain ⟨-, -, -, d3, -, -, f3⟩ := hI4.cells; simp only [hdr] at d3; clear hI4 hk4 hs4)
          | (go_at_call 20; refine (HTg.out _).mono ?_; rintro r W3 ⟨v3, rfl, ho, hb⟩; have H3 : Hid (Below W2.heap.size W2 W3 ∧ Own W3 W2.heap.size v3 L) := ⟨hb, ho⟩; clear hb ho))
        go_ret2
        obtain ⟨g1, g2⟩ := H4.out.1.setD D
        exact ⟨_, rfl, HFin.out W3 v3 _ wv4 uv4 _ H3.out.1 H3.out.2 g1 (fun b hb => (g2 b hb).trans (H4.out.2.1 b hb)) (Nat.le_trans H4.out.2.2 (HSz.out _ _ _))⟩
    · have hkz : ((k : Int) == 0) = false := beq_eq_false_iff_ne.2 (by omega)
      simp only [hk, decide_false, Bool.false_eq_true, if_false]
      clear hk
      go_enter Try.func51, Try.ntmps51
      go_wp2_with (first
        | (go_at_call 30; refine (HHm.out _ H3.out.1).mono ?_; rintro r W4 ⟨rfl, wv4, uv4, hI4, hk4, hs4⟩; have H4 : Hid (IsW w0 W4 P wv4 uv4 ⟨[rootN], s.used, s.dir⟩ l (fun b => (F b ∨ w.heap.size ≤ b ∧ b < W1.heap.size) ∨ W2.heap.size ≤ b ∧ b < W3.heap.size) ∧ (∀ b, ((F b ∨ w.heap.size ≤ b ∧ b < W1.heap.size) ∨ W2.heap.size ≤ b ∧ b < W3.heap.size) → W4.heap[b]? = W3.heap[b]?) ∧ W3.heap.size ≤ W4.heap.size) := ⟨hI4, hk4, hs4⟩; clear hI4 hk4 hs4)
        | (go_at_call 20; refine (HTg.out _).mono ?_; rintro r W3 ⟨v3, rfl, ho, hb⟩; have H3 : Hid (Below W2.heap.size W2 W3 ∧ Own W3 W2.heap.size v3 L) := ⟨hb, ho⟩; clear hb ho))
      go_ret2
      exact ⟨_, rfl, by
        have := HFin.out W3 v3 W4 wv4 uv4 _ H3.out.1 H3.out.2 H4.out.1 H4.out.2.1 H4.out.2.2
        rw [hdr] at this
        exact this⟩
end
section
open Go.RowKit

theorem str_one (l : List ByteArray) : ∀ u ∈ l.map Value.string, u.oneCell' = true := by
  intro u hu
  obtain ⟨x, _, rfl⟩ := List.mem_map.1 hu
  rfl
theorem appS {w : World} {B : Nat} {v : Value} {l l2 : List ByteArray} {ad : Addr} {c : Nat} (h : Own w B v l) (h2 : ∀ j u, (l2.map Value.string)[j]? = some u → w.cell? (ad.add j) = some u) (hB : B ≤ w.heap.size) (hl : (l.length + l2.length) * 16 ≤ 140737488355328) :
    ∃ v3 W, (∀ ty, (Builtin.append_ #[36, 36] ty #[v, .slice (some ad) l2.length c]).run Try.prog w = .ok v3 W) ∧ Own W B v3 (l ++ l2) ∧ Only (fun k => v.ownBlock = some k) w W := by
  obtain ⟨i1, hi1, hw0, hw1, hw2⟩ := info_parts Try.infoS
  obtain ⟨v', W, a1, a2, a3, _, a5⟩ := run_append_own_at (P := Try.prog) w B 36 0 9 i1 _ 1 16 Try.underlying36 hi1 hw0 hw1 hw2 rfl (by decide) v l.length (l.map Value.string) h ad l2.length c (l2.map Value.string) (by simp) h2 (str_one l2) (by unfold maxLen; omega) hl hB
  refine ⟨v', W, fun ty => ?_, ?_, only_grown a3⟩
  · have : (Builtin.append_ #[36, 36] ty #[v, .slice (some ad) l2.length c]).run Try.prog w = (Builtin.append_ #[36, 36] 0 #[v, .slice (some ad) l2.length c]).run Try.prog w := rfl
    rw [this]; exact a1
  · show World.ownsRow _ _ _ _ _ _ _
    rw [List.length_append, List.map_append]; exact a2
theorem appS_none {w : World} {B : Nat} {v : Value} {l : List ByteArray} (h : Own w B v l) (c : Nat) (ty : TypeId) : (Builtin.append_ #[36, 36] ty #[v, .slice none 0 c]).run Try.prog w = .ok v w := by
  obtain ⟨i, hi, hz, -, hb⟩ := info_parts Try.infoS
  rcases h.2 with ⟨rfl, h0⟩ | ⟨g, cap, cur, rfl, hbg, hg, hnc, hcm, hcs, htake⟩
  · simp [Builtin.append_, run_underlying Try.underlying36, sizeOf, typeInfo, zeroValue, hi, hz, hb, Builtin.lenOf, run_firstCells_none]
  · simp [storeCells, Builtin.append_, run_underlying Try.underlying36, sizeOf, typeInfo, zeroValue, hi, hz, hb, hnc, Builtin.lenOf, run_firstCells_none]
/-- append of texts that can be read -/
theorem appS_any {w : World} {B : Nat} {v : Value} {l l2 : List ByteArray} {a : Option Addr} {c : Nat} (h : Own w B v l) (h2 : RowS w a l2) (hB : B ≤ w.heap.size) (hl : (l.length + l2.length) * 16 ≤ 140737488355328) :
    ∃ a6 N6 c6 W, (∀ ty, (Builtin.append_ #[36, 36] ty #[v, .slice a l2.length c]).run Try.prog w = .ok (.slice a6 N6 c6) W) ∧ Own W B (.slice a6 N6 c6) (l ++ l2) ∧ Only (fun k => v.ownBlock = some k) w W := by
  cases a with
  | none =>
    have he : l2 = [] := by
      rcases h2 with h2 | ⟨b, off, e, _⟩
      · exact h2
      · cases e
    subst he
    obtain ⟨a6, c6, rfl⟩ := owns_len h
    refine ⟨a6, _, c6, w, fun ty => appS_none h c ty, by rw [List.append_nil]; exact h, Only.refl _ _⟩
  | some ad =>
    obtain ⟨v3, W, r3, o3, k3⟩ := appS (ad := ad) (c := c) h (by
      intro j u hu
      rcases h2 with h2 | ⟨b, off, e, hs, hc⟩
      · rw [h2] at hu; simp at hu
      · cases e
        rw [add_plain']
        rw [List.getElem?_map] at hu
        cases hx : l2[j]? with
        | none => rw [hx] at hu; cases hu
        | some x =>
          rw [hx] at hu
          cases hu
          exact hc j x hx) hB hl
    obtain ⟨a6, c6, rfl⟩ := owns_len o3
    exact ⟨a6, _, c6, W, r3, o3, k3⟩
set_option maxHeartbeats 2000000 in
theorem grow_p (n : Nat) (w : World) (hn : n ≤ 2000000000000) : Calls Try.prog 67 #[.slice none 0 0, .int .i64 n] w fun r w' => ∃ v, r = .returned v ∧ Own w' w.heap.size v [] ∧ Below w.heap.size w w' := by
  have h0 : ¬ (n : Int) < 0 := by omega
  by_cases hz : n = 0
  · subst hz
    go_enter Try.func67, Try.ntmps67
    go_wp2
    go_ret
    exact ⟨_, rfl, Own.nil _ _, Below.refl _ _⟩
  · have hpz : (0 : Int) < (n : Int) := by omega
    obtain ⟨i, hi, hzz, hs, hb⟩ := info_parts Try.infoS
    have hr := fun ty => Lib.run_append_nil_zeros (P := Try.prog) w 36 3 ty 9 i (.string ⟨#[]⟩) .i64 .i64 Try.underlying36 Try.underlying3 hi hzz n (by omega) (by omega) (by omega) (by rw [hb]; omega)
    have hge := grownCap_ge w n 0 9
    obtain ⟨cp, hcp⟩ : ∃ c, grownCap w n 0 9 = c := ⟨_, rfl⟩
    have hcm2 : grownCap w n 0 9 ≤ maxLen := grownCap_le_maxLen w n 0 9 (by unfold maxLen; omega)
    obtain ⟨W, hW⟩ : ∃ W, w.drew.alloc (.cells (Builtin.zeroCells (Value.string ⟨#[]⟩).cells n ++ Builtin.zeroCells (Value.string ⟨#[]⟩).cells (grownCap w n 0 9 - n)) 9) = W := ⟨_, rfl⟩
    rw [hW, hcp] at hr
    have HO : Hid (Own W w.heap.size (.slice (some ⟨w.heap.size, 0, none⟩) 0 cp) [] ∧ Below w.heap.size w W) := by
      rw [← hW]
      refine ⟨⟨rfl, .inr ⟨w.heap.size, cp, _, rfl, Nat.le_refl _, heap_alloc_new w.drew _, Nat.zero_le _, by rw [← hcp]; exact hcm2, ?_, by simp⟩⟩, (Below.refl _ w).drew.alloc (Nat.le_refl _) _⟩
      rw [← hcp]
      simp only [Array.size_append, size_zeroCells]
      show n * 1 + _ * 1 = _
      omega
    have hcz : (0 : Int) ≤ (cp : Int) := by omega
    rw [hcp] at hge
    clear hcp hcm2 hW hi hzz hs hb hz
    go_enter Try.func67, Try.ntmps67
    go_wp2_with (at_builtin; refine Lib.wpList_append_run _ rfl _ _ 36 3 rfl _ _ rfl rfl _ _ (hr _) ?_)
    go_ret
    exact ⟨_, rfl, HO.out⟩
set_option maxRecDepth 20000 in
set_option maxHeartbeats 8000000 in
theorem concat_p (gb c1 c2 : Nat) (a1 a2 : Option Addr) (l1 l2 : List ByteArray) (w : World) (hg : w.heap[gb]? = some (.cells #[.slice a1 l1.length c1, .slice a2 l2.length c2] 36 (0, 0))) (h1 : RowS w a1 l1) (h2 : RowS w a2 l2) (hl : l1.length + l2.length ≤ 1000000000000) :
    Calls Try.prog 52 #[.slice (some ⟨gb, 0, none⟩) 2 2] w fun r w' => ∃ v, r = .returned v ∧ Own w' w.heap.size v (l1 ++ l2) ∧ Below w.heap.size w w' := by
  obtain ⟨n1, hn1⟩ : ∃ n, l1.length = n := ⟨_, rfl⟩
  obtain ⟨n2, hn2⟩ : ∃ n, l2.length = n := ⟨_, rfl⟩
  have HR : Hid (∀ W, Below w.heap.size w W → RowS W a1 l1 ∧ RowS W a2 l2 ∧ W.cell? ⟨gb, 0, none⟩ = some (.slice a1 n1 c1) ∧ W.cell? ⟨gb, 1, none⟩ = some (.slice a2 n2 c2)) := fun W hW => by
    have hh := hkeep hg hW
    rw [hn1, hn2] at hh
    exact ⟨h1.below hW, h2.below hW, by rw [cell_of hh]; rfl, by rw [cell_of hh]; rfl⟩
  have HN : Hid (l1.length = n1 ∧ l2.length = n2) := ⟨hn1, hn2⟩
  rw [hn1, hn2] at hl
  obtain ⟨n3, hn3⟩ : ∃ n, n1 + n2 = n := ⟨_, rfl⟩
  have hw1 : IntKind.i64.wrap (n1 : Int) = (n1 : Int) := IntWalk.i64_in _ (by omega)
  have hw0 : wrap64 (n1 : Int) = (n1 : Int) := IntWalk.wrap64_in _ (by omega)
  have hw2 : IntKind.i64.wrap ((n1 : Int) + (n2 : Int)) = (n3 : Int) := by rw [show (n1 : Int) + (n2 : Int) = (n3 : Int) by omega]; exact IntWalk.i64_in _ (by omega)
  have hz1 : ¬ (n1 : Int) < 0 := by omega
  have hz3 : ¬ (n3 : Int) < 0 := by omega
  have HG : Hid (∀ W, Below w.heap.size w W → Calls Try.prog 67 #[.slice none 0 0, .int .i64 n3] W fun r w' => ∃ a6 c6, r = .returned (.slice a6 0 c6) ∧ Own w' w.heap.size (.slice a6 0 c6) [] ∧ Below w.heap.size w w') := fun W hW => by
    refine (grow_p n3 W (by omega)).mono ?_
    rintro r w' ⟨v, rfl, ho, hb⟩
    obtain ⟨a6, c6, rfl⟩ := owns_len ho
    exact ⟨a6, c6, rfl, Own.le ho hW.size, chainB hW hb⟩
  have hB0 : Below w.heap.size w w := Below.refl _ _
  have HL : Hid (n1 + n2 ≤ 1000000000000) := hl
  clear hg h1 h2 hn1 hn2 hn3 hl
  go_enter Try.func52, Try.ntmps52
  go_wp2
  go_loopw [3, 11] (fun s3 s11 wr => ∃ j : Nat, j ≤ 2 ∧ s11 = .int .i64 j ∧ ∃ z : Int, s3 = .int .i64 z ∧ Hid (Below w.heap.size w wr ∧ (j = 0 → z = 0) ∧ (j = 1 → z = n1) ∧ (j = 2 → z = n3))) (fun _ s11 _ => 2 - (intOf s11).toNat)
  case atStart => exact ⟨0, by omega, rfl, 0, rfl, hB0, fun _ => rfl, fun h => by omega, fun h => by omega⟩
  case round =>
    clear hB0
    obtain ⟨j, hj, rfl, z, rfl, HJ⟩ := hrel
    obtain ⟨w7, hw7⟩ : ∃ w7, w7 = wr := ⟨_, rfl⟩
    subst hw7
    obtain ⟨-, -, p0, p1⟩ := HR.out w7 HJ.out.1
    have HB7 : Hid (Below w.heap.size w w7) := HJ.out.1
    have hcase : j = 0 ∨ j = 1 ∨ j = 2 := by omega
    rcases hcase with rfl | rfl | rfl
    · have hz0 : z = 0 := HJ.out.2.1 rfl
      subst hz0
      clear HJ
      go_wp2
      go_roundw
      case rel => exact ⟨1, by omega, rfl, n1, rfl, HB7.out, fun h => by omega, fun _ => rfl, fun h => by omega⟩
      case measure => simp [intOf]
    · have hz0 : z = n1 := HJ.out.2.2.1 rfl
      subst hz0
      clear HJ
      go_wp2
      go_roundw
      case rel => exact ⟨2, by omega, rfl, n3, rfl, HB7.out, fun h => by omega, fun h => by omega, fun _ => rfl⟩
      case measure => simp [intOf]
    · have hz0 : z = n3 := HJ.out.2.2.2 rfl
      subst hz0
      clear HJ
      go_wp2_with (go_at_call 67; refine (HG.out _ HB7.out).mono ?_; rintro r w1 ⟨a6, c6, rfl, ho, hb⟩; have H1 : Hid (Own w1 w.heap.size (.slice a6 0 c6) [] ∧ Below w.heap.size w w1) := ⟨ho, hb⟩; clear ho hb)
      go_loopw [6, 27] (fun s6 s27 wk => ∃ j : Nat, j ≤ 2 ∧ s27 = .int .i64 j ∧ ∃ a7 N7 c7, s6 = .slice a7 N7 c7 ∧ Hid (Below w.heap.size w wk ∧ ∃ l, Own wk w.heap.size (.slice a7 N7 c7) l ∧ (j = 0 → l = []) ∧ (j = 1 → l = l1) ∧ (j = 2 → l = l1 ++ l2))) (fun _ s27 _ => 2 - (intOf s27).toNat)
      case atStart => exact ⟨0, by omega, rfl, _, _, _, rfl, H1.out.2, [], H1.out.1, fun _ => rfl, fun h => by omega, fun h => by omega⟩
      case round =>
        clear H1
        obtain ⟨j, hj, rfl, a7, N7, c7, rfl, HJ⟩ := hrel
        have hcase : j = 0 ∨ j = 1 ∨ j = 2 := by omega
        obtain ⟨hb, l, ho, k0, k1, k2⟩ := HJ.out
        obtain ⟨r1, r2, q0, q1⟩ := HR.out _ hb
        rcases hcase with rfl | rfl | rfl
        · obtain rfl : l = [] := k0 rfl
          obtain ⟨a6', N6, c6', Z, hr, hoZ, hOZ⟩ := appS_any (c := c1) ho r1 hb.size (by have := HL.out; have := HN.out; simp only [List.length_nil]; omega)
          rw [HN.out.1] at hr
          have HZ : Hid (Below w.heap.size w Z ∧ ∃ l, Own Z w.heap.size (.slice a6' N6 c6') l ∧ (1 = 0 → l = []) ∧ (1 = 1 → l = l1) ∧ (1 = 2 → l = l1 ++ l2)) := ⟨hOZ.below hb hb.size fun b hb' => (World.ownsRow.lt ho b hb').1, _, hoZ, fun h => by omega, fun _ => List.nil_append _, fun h => by omega⟩
          clear HJ hb ho k0 k1 k2 r1 r2 hoZ hOZ
          go_wp2_with (at_builtin; refine wpList_apR rfl (.tmp 31) (.tmp 32) 36 rfl _ _ (.slice a6' N6 c6') Z (by simp [Act.eval]) (by simp [Act.eval]) hr ?_)
          go_roundw
          case rel => exact ⟨1, by omega, rfl, _, _, _, rfl, HZ⟩
          case measure => simp [intOf]
        · obtain rfl : l = l1 := k1 rfl
          obtain ⟨a6', N6, c6', Z, hr, hoZ, hOZ⟩ := appS_any (c := c2) ho r2 hb.size (by have := HL.out; have := HN.out; omega)
          rw [HN.out.2] at hr
          have HZ : Hid (Below w.heap.size w Z ∧ ∃ l', Own Z w.heap.size (.slice a6' N6 c6') l' ∧ (2 = 0 → l' = []) ∧ (2 = 1 → l' = l) ∧ (2 = 2 → l' = l ++ l2)) := ⟨hOZ.below hb hb.size fun b hb' => (World.ownsRow.lt ho b hb').1, _, hoZ, fun h => by omega, fun h => by omega, fun _ => rfl⟩
          clear HJ hb ho k0 k1 k2 r1 r2 hoZ hOZ
          go_wp2_with (at_builtin; refine wpList_apR rfl (.tmp 31) (.tmp 32) 36 rfl _ _ (.slice a6' N6 c6') Z (by simp [Act.eval]) (by simp [Act.eval]) hr ?_)
          go_roundw
          case rel => exact ⟨2, by omega, rfl, _, _, _, rfl, HZ⟩
          case measure => simp [intOf]
        · obtain rfl : l = l1 ++ l2 := k2 rfl
          have HZ : Hid (Own wr w.heap.size (.slice a7 N7 c7) (l1 ++ l2) ∧ Below w.heap.size w wr) := ⟨ho, hb⟩
          clear HJ hb ho k0 k1 k2 r1 r2
          go_wp2
          go_ret
          exact ⟨_, rfl, HZ.out⟩
end
end Go.Proofs.Ytppbbddlbfgpfaa
