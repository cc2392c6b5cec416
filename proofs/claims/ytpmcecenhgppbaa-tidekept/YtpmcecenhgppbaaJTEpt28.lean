/- The document's tide: apply. -/
import Derived.Test.YtpmcecenhgppbaaJTEpt27
namespace Go.Proofs.Ytpmcecenhgppbaa
section
open Go.RowKit Go.Shelf
attribute [local go_sem ↓ high] loadMsg storeMsg buildMsg storeAct loadAct buildAct
attribute [local go_sem high] run_store_complex eqC

theorem only_from {S : Nat → Prop} {w w1 w2 : World} (hb : Below w.heap.size w w1) (ho : Only S w1 w2) : Only S w w2 := ⟨ho.os.trans hb.os, ho.tape.trans hb.tape, ho.output.trans hb.output, Nat.le_trans hb.size ho.size, fun k hk hn => (ho.block k (Nat.lt_of_lt_of_le hk hb.size) hn).trans (hb.block k hk)⟩
/-- a block that was made behind what a call may write stays -/
theorem SD.kept {w w' : World} {B t : Nat} {s s' : Dt} (h : SD w w' B t s s') {g : Nat} {o : Obj} (hg : w.heap[g]? = some o) (hn : ∀ k, s.wr t k → k ≠ g) : w'.heap[g]? = some o := (h.only.block g (Array.getElem?_eq_some_iff.1 hg).1 fun e => hn g e rfl).trans hg
def ApR (w : World) (B t : Nat) (s : Dt) (m : Pm) (e : Ending) (w' : World) : Prop := ∃ v l, e = .returned v ∧ Acts w' w.heap.size v l ∧ l.map Am.c = [actOf m] ∧ ∃ s', SD w w' B t s s' ∧ s'.say = s.say.apply m ∧ s'.hs = s.hs ∧ s'.hv = s.hv
set_option maxHeartbeats 8000000 in
set_option maxRecDepth 100000 in
theorem apply_nn (t B : Nat) (s : Dt) (x : Hm) (w : World) (h : IsD w B t s) (hL : Lists w 0 x) (hm : Mk x.m.re x.m.im s.e x.m.num) (hseq : ¬ 0 < s.seq) (hkind : ¬ x.m.kind = 4) : Calls Try.prog 37 #[.pointer (some ⟨t, 0, none⟩), .agg x.arr, .int .i64 x.m.num] w fun e w' => ApR w B t s x.m e w' := by
  obtain ⟨W1, hW1⟩ : ∃ W1, w.alloc (.cells x.arr 45) = W1 := ⟨_, rfl⟩
  have b1 := boxB hW1
  have i1 := h.below b1.2
  obtain ⟨g1, hg1⟩ : ∃ g, w.heap.size = g := ⟨_, rfl⟩
  rw [hg1] at b1
  obtain ⟨-, -, -, -, c4, -, -, -, -, cf⟩ := i1.cells
  obtain ⟨W2, hW2⟩ : ∃ W2, W1.setCell ⟨t, 4, none⟩ (.int .i64 x.m.num) = W2 := ⟨_, rfl⟩
  obtain ⟨D1, hD1⟩ : ∃ D1, ({ s with n := x.m.num } : Dt) = D1 := ⟨_, rfl⟩
  obtain ⟨D2, hD2⟩ : ∃ D2, ({ s with n := x.m.num, ver := max s.ver x.m.vers } : Dt) = D2 := ⟨_, rfl⟩
  have s2 : SD W1 W2 B t s D1 := by rw [← hW2, ← hD1]; exact i1.put { s with n := x.m.num } 4 (.int .i64 x.m.num) rfl ⟨rfl, rfl, rfl, rfl, rfl, rfl⟩ ⟨hm.n0, hm.n1, h.ask0⟩
  have hge : ∀ k, s.wr t k → k ≠ g1 := fun k hk e => by have := (h.wlt hk).2; omega
  have bx2 := s2.kept b1.1 hge
  have l2 := hL.below (hg1 ▸ b1.2)
  have HN : Hid (Calls Try.prog 54 #[.pointer (some ⟨t, 0, none⟩), .int .i64 x.m.vers] W2 fun e w' => e = .returned (.tuple #[]) ∧ SD W2 w' B t D1 D2) := by
    have := newer_d t B D1 x.m.vers W2 s2.is
    rw [← hD1] at this ⊢
    rw [← hD2]; exact this
  have HX : Hid (Mk x.m.re x.m.im s.e x.m.num ∧ w.heap.size = g1 ∧ D2 = { s with n := x.m.num, ver := max s.ver x.m.vers }) := ⟨hm, hg1, hD2.symm⟩
  have c5 : W2.cell? ⟨g1, 5, none⟩ = some (.int .i64 x.m.vers) := cell_of bx2 5
  have HAf : Hid (∀ w3, SD W2 w3 B t D1 D2 → w3.cell? ⟨g1, 0, none⟩ = some (.int .i64 x.m.kind) ∧ w3.cell? ⟨t, 6, none⟩ = some (.int .i64 s.seq) ∧ w3.heap[g1]? = some (.cells x.arr 45 (0, 0)) ∧ Lists w3 0 x ∧ SD w w3 B t s D2 ∧ g1 < w3.heap.size) := fun w3 h3 => by
    have bx3 : w3.heap[g1]? = some (.cells x.arr 45 (0, 0)) := h3.kept bx2 (fun k hk => hge k (by rw [← hD1] at hk; exact hk))
    have o13 : Only (s.wr t) W1 w3 := s2.only.trans (h3.only.mono fun k hk => by rw [← hD1] at hk; exact hk)
    have hd6 := cell_of h3.is.head 6
    rw [← hD2] at hd6
    refine ⟨cell_of bx3 0, hd6, bx3, l2.only o13 fun q hq => ?_, (s2.from (hg1 ▸ b1.2)).trans h3, (Array.getElem?_eq_some_iff.1 bx3).1⟩
    exact ⟨i1.wno hq (by decide) (by decide) (by decide), i1.wno hq (by decide) (by decide) (by decide)⟩
  obtain ⟨kd, hkd⟩ : ∃ kd, x.m.kind = kd := ⟨_, rfl⟩
  have HKd : Hid (x.m.kind = kd) := hkd
  rw [hkd] at hkind HAf
  obtain ⟨sq, hsq⟩ : ∃ sq, s.seq = sq := ⟨_, rfl⟩
  have HSq : Hid (s.seq = sq) := hsq
  rw [hsq] at hseq HAf
  obtain ⟨nk, hnk⟩ : ∃ nk, x.m.ks.length = nk := ⟨_, rfl⟩
  have HNk : Hid (x.m.ks.length = nk) := hnk
  have hpast : Hid (∀ w3 : World, w3.heap[g1]? = some (.cells x.arr 45 (0, 0)) → w3.cell? ⟨g1, 15, none⟩ = some (.slice x.ak nk x.ck) ∧ w3.cell? ⟨g1, 4, none⟩ = some (.complex .f64 x.m.re x.m.im)) := fun w3 h3 => ⟨by rw [cell_of h3 15, ← hnk]; rfl, cell_of h3 4⟩
  obtain ⟨X, hX⟩ : ∃ X, x.arr = X := ⟨_, rfl⟩
  have HXX : Hid (x.arr = X) := hX
  rw [hX] at hW1
  rw [hX]
  clear h hL hm b1 i1 s2 bx2 l2 hge hkd hsq hX hnk hD1 hD2
  have hkz : (kd == 4) = false := by rw [beq_eq_false_iff_ne]; exact hkind
  go_enter Try.func37, Try.ntmps37
  go_wp2_with (first
    | (go_at_call 54; refine HN.out.mono ?_; rintro q w3 ⟨rfl, h3⟩; obtain ⟨d0, d6, bx3, hL3, hS3, hg3⟩ := HAf.out w3 h3; obtain ⟨d15, -⟩ := hpast.out w3 bx3; obtain ⟨a6, q6, W6, happ6, hr6, hb6⟩ := keys_copy hL3.ks hL3.lk; rw [HNk.out] at happ6; have R3 : Hid (SD w w3 B t s D2 ∧ RowK W6 w3.heap.size (.slice a6 x.m.ks.length q6) x.m.ks ∧ Below w3.heap.size w3 W6 ∧ x.m.ks.length * 24 ≤ LB ∧ w.heap.size ≤ w3.heap.size) := ⟨hS3, hr6, hb6, hL3.lk, hS3.only.size⟩; have ao := actOne_of #[.bool false, .bool false, .bool false, .bool false, .slice a6 nk q6, .int .i64 0, .slice none 0 0] rfl W6; have happ7 : ∀ ty, (Builtin.append_ #[34, 34] ty #[.slice none 0 0, .slice x.ak nk x.ck]).run Try.prog w3 = .ok (.slice a6 nk q6) W6 := (fun ty => by have := happ6 ty; unfold Hm.vk at this; rw [HNk.out] at this; exact this); clear happ6; clear h3 bx3 hL3 hS3 hg3 hr6 hb6 c4 cf c5 hW1 hW2)
    | (at_builtin; refine wpList_append_run rfl (.const (.slice none 0 0)) (.tmp 44) 34 rfl _ _ (.slice a6 nk q6) W6 rfl rfl happ7 ?_))
  go_ret
  have hact : ActL W6 w.heap.size ⟨keysA x.m.ks, a6, q6, none, 0⟩ := ⟨owns_le R3.out.2.1 R3.out.2.2.2.2, World.ownsRow_nil _ _ _ _, Nat.zero_le _, R3.out.2.2.2.1⟩
  have hac := acts_one hact (Nat.le_trans R3.out.2.2.2.2 R3.out.2.2.1.size)
  refine ⟨_, [⟨keysA x.m.ks, a6, q6, none, 0⟩], rfl, ?_, ?_, D2, ?_, ?_, ?_, ?_⟩
  · have e : (Am.arr ⟨keysA x.m.ks, a6, q6, none, 0⟩) = #[.bool false, .bool false, .bool false, .bool false, .slice a6 nk q6, .int .i64 0, .slice none 0 0] := by
      rw [← HNk.out]; rfl
    rw [e] at hac
    exact hac
  · unfold actOf
    rw [HKd.out, if_neg hkind]; rfl
  · exact R3.out.1.on (chainB R3.out.2.2.1 (below_alloc _ _))
  · rw [HX.out.2.2]
    unfold Dt.say Ts.apply
    rw [if_neg (show ¬ 0 < s.seq by rw [HSq.out]; omega)]
  · rw [HX.out.2.2]
  · rw [HX.out.2.2]
set_option maxHeartbeats 8000000 in
set_option maxRecDepth 100000 in
theorem apply_nk (t B : Nat) (s : Dt) (x : Hm) (w : World) (h : IsD w B t s) (hL : Lists w 0 x) (hm : Mk x.m.re x.m.im s.e x.m.num) (hseq : ¬ 0 < s.seq) (hkind : x.m.kind = 4) : Calls Try.prog 37 #[.pointer (some ⟨t, 0, none⟩), .agg x.arr, .int .i64 x.m.num] w fun e w' => ApR w B t s x.m e w' := by
  obtain ⟨W1, hW1⟩ : ∃ W1, w.alloc (.cells x.arr 45) = W1 := ⟨_, rfl⟩
  have b1 := boxB hW1
  have i1 := h.below b1.2
  obtain ⟨g1, hg1⟩ : ∃ g, w.heap.size = g := ⟨_, rfl⟩
  rw [hg1] at b1
  obtain ⟨-, -, -, -, c4, -, -, -, -, cf⟩ := i1.cells
  obtain ⟨W2, hW2⟩ : ∃ W2, W1.setCell ⟨t, 4, none⟩ (.int .i64 x.m.num) = W2 := ⟨_, rfl⟩
  obtain ⟨D1, hD1⟩ : ∃ D1, ({ s with n := x.m.num } : Dt) = D1 := ⟨_, rfl⟩
  obtain ⟨D2, hD2⟩ : ∃ D2, ({ s with n := x.m.num, ver := max s.ver x.m.vers } : Dt) = D2 := ⟨_, rfl⟩
  have s2 : SD W1 W2 B t s D1 := by rw [← hW2, ← hD1]; exact i1.put { s with n := x.m.num } 4 (.int .i64 x.m.num) rfl ⟨rfl, rfl, rfl, rfl, rfl, rfl⟩ ⟨hm.n0, hm.n1, h.ask0⟩
  have hge : ∀ k, s.wr t k → k ≠ g1 := fun k hk e => by have := (h.wlt hk).2; omega
  have bx2 := s2.kept b1.1 hge
  have l2 := hL.below (hg1 ▸ b1.2)
  have HN : Hid (Calls Try.prog 54 #[.pointer (some ⟨t, 0, none⟩), .int .i64 x.m.vers] W2 fun e w' => e = .returned (.tuple #[]) ∧ SD W2 w' B t D1 D2) := by
    have := newer_d t B D1 x.m.vers W2 s2.is
    rw [← hD1] at this ⊢
    rw [← hD2]; exact this
  have HX : Hid (Mk x.m.re x.m.im s.e x.m.num ∧ w.heap.size = g1 ∧ D2 = { s with n := x.m.num, ver := max s.ver x.m.vers }) := ⟨hm, hg1, hD2.symm⟩
  have c5 : W2.cell? ⟨g1, 5, none⟩ = some (.int .i64 x.m.vers) := cell_of bx2 5
  have HAf : Hid (∀ w3, SD W2 w3 B t D1 D2 → w3.cell? ⟨g1, 0, none⟩ = some (.int .i64 x.m.kind) ∧ w3.cell? ⟨t, 6, none⟩ = some (.int .i64 s.seq) ∧ w3.heap[g1]? = some (.cells x.arr 45 (0, 0)) ∧ Lists w3 0 x ∧ SD w w3 B t s D2 ∧ g1 < w3.heap.size) := fun w3 h3 => by
    have bx3 : w3.heap[g1]? = some (.cells x.arr 45 (0, 0)) := h3.kept bx2 (fun k hk => hge k (by rw [← hD1] at hk; exact hk))
    have o13 : Only (s.wr t) W1 w3 := s2.only.trans (h3.only.mono fun k hk => by rw [← hD1] at hk; exact hk)
    have hd6 := cell_of h3.is.head 6
    rw [← hD2] at hd6
    refine ⟨cell_of bx3 0, hd6, bx3, l2.only o13 fun q hq => ?_, (s2.from (hg1 ▸ b1.2)).trans h3, (Array.getElem?_eq_some_iff.1 bx3).1⟩
    exact ⟨i1.wno hq (by decide) (by decide) (by decide), i1.wno hq (by decide) (by decide) (by decide)⟩
  obtain ⟨kd, hkd⟩ : ∃ kd, x.m.kind = kd := ⟨_, rfl⟩
  have HKd : Hid (x.m.kind = kd) := hkd
  rw [hkd] at hkind HAf
  obtain ⟨sq, hsq⟩ : ∃ sq, s.seq = sq := ⟨_, rfl⟩
  have HSq : Hid (s.seq = sq) := hsq
  rw [hsq] at hseq HAf
  obtain ⟨nk, hnk⟩ : ∃ nk, x.m.ks.length = nk := ⟨_, rfl⟩
  have HNk : Hid (x.m.ks.length = nk) := hnk
  have hpast : Hid (∀ w3 : World, w3.heap[g1]? = some (.cells x.arr 45 (0, 0)) → w3.cell? ⟨g1, 15, none⟩ = some (.slice x.ak nk x.ck) ∧ w3.cell? ⟨g1, 4, none⟩ = some (.complex .f64 x.m.re x.m.im)) := fun w3 h3 => ⟨by rw [cell_of h3 15, ← hnk]; rfl, cell_of h3 4⟩
  obtain ⟨X, hX⟩ : ∃ X, x.arr = X := ⟨_, rfl⟩
  have HXX : Hid (x.arr = X) := hX
  rw [hX] at hW1
  rw [hX]
  clear h hL hm b1 i1 s2 bx2 l2 hge hkd hsq hX hnk hD1 hD2
  obtain rfl : kd = 4 := hkind
  go_enter Try.func37, Try.ntmps37
  go_wp2_with (first
    | (go_at_call 54; refine HN.out.mono ?_; rintro q w3 ⟨rfl, h3⟩; obtain ⟨d0, d6, bx3, hL3, hS3, hg3⟩ := HAf.out w3 h3; have R3 : Hid (SD w w3 B t s D2 ∧ w.heap.size ≤ w3.heap.size) := ⟨hS3, hS3.only.size⟩; have ao := actOne_of #[.bool true, .bool false, .bool false, .bool false, .slice none 0 0, .int .i64 0, .slice none 0 0] rfl w3; clear h3 bx3 hL3 hS3 hg3 c4 cf c5 hW1 hW2))
  go_ret
  have hac := acts_one (plain_l w3 w.heap.size allA rfl rfl) R3.out.2
  refine ⟨_, [plainAm allA rfl rfl], rfl, hac, ?_, D2, ?_, ?_, ?_, ?_⟩
  · unfold actOf
    rw [HKd.out, if_pos rfl]; rfl
  · exact R3.out.1.on (below_alloc _ _)
  · rw [HX.out.2.2]
    unfold Dt.say Ts.apply
    rw [if_neg (show ¬ 0 < s.seq by rw [HSq.out]; omega)]
  · rw [HX.out.2.2]
  · rw [HX.out.2.2]
end
end Go.Proofs.Ytpmcecenhgppbaa
