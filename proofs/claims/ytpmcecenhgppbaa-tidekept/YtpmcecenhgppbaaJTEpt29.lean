/- The document's tide: apply, while something is asked. -/
import Derived.Test.YtpmcecenhgppbaaJTEpt28
namespace Go.Proofs.Ytpmcecenhgppbaa
section
open Go.RowKit Go.Shelf
attribute [local go_sem ↓ high] loadMsg storeMsg buildMsg storeAct loadAct buildAct
attribute [local go_sem high] run_store_complex eqC

set_option maxHeartbeats 8000000 in
set_option maxRecDepth 100000 in
theorem apply_sn (t B : Nat) (s : Dt) (x : Hm) (w : World) (h : IsD w B t s) (hL : Lists w 0 x) (hm : Mk x.m.re x.m.im s.e x.m.num) (hf : (s.fs.length + 1) * 56 ≤ 140737488351232) (hseq : 0 < s.seq) (hkind : ¬ x.m.kind = 4) : Calls Try.prog 37 #[.pointer (some ⟨t, 0, none⟩), .agg x.arr, .int .i64 x.m.num] w fun e w' => ApR w B t s x.m e w' := by
  obtain ⟨W1, hW1⟩ : ∃ W1, w.alloc (.cells x.arr 45) = W1 := ⟨_, rfl⟩
  have b1 := boxB hW1
  have i1 := h.below b1.2
  obtain ⟨g1, hg1⟩ : ∃ g, w.heap.size = g := ⟨_, rfl⟩
  rw [hg1] at b1
  obtain ⟨-, -, -, -, c4, -, -, -, -, cf⟩ := i1.cells
  obtain ⟨W2, hW2⟩ : ∃ W2, W1.setCell ⟨t, 4, none⟩ (.int .i64 x.m.num) = W2 := ⟨_, rfl⟩
  obtain ⟨D1, hD1⟩ : ∃ D1, ({ s with n := x.m.num } : Dt) = D1 := ⟨_, rfl⟩
  obtain ⟨D2, hD2⟩ : ∃ D2, ({ s with n := x.m.num, ver := max s.ver x.m.vers } : Dt) = D2 := ⟨_, rfl⟩
  have s2 : SD W1 W2 B t s D1 := by rw [← hW2, ← hD1]; exact i1.put { s with n := x.m.num } 4 (.int .i64 x.m.num) rfl ⟨rfl, rfl, rfl, rfl, rfl, rfl⟩ ⟨hm.n0, hm.n1, h.ask0⟩
  have hge : ∀ k, s.wr t k → k ≠ g1 := fun k hk e => by have := (h.wlt hk).2; omega
  have bx2 := s2.kept b1.1 hge
  have l2 := hL.below (hg1 ▸ b1.2)
  have HGe : Hid (∀ k, s.wr t k → k ≠ g1) := hge
  have HN : Hid (Calls Try.prog 54 #[.pointer (some ⟨t, 0, none⟩), .int .i64 x.m.vers] W2 fun e w' => e = .returned (.tuple #[]) ∧ SD W2 w' B t D1 D2) := by
    have := newer_d t B D1 x.m.vers W2 s2.is
    rw [← hD1] at this ⊢
    rw [← hD2]; exact this
  have HX : Hid (Mk x.m.re x.m.im s.e x.m.num ∧ w.heap.size = g1 ∧ D2 = { s with n := x.m.num, ver := max s.ver x.m.vers }) := ⟨hm, hg1, hD2.symm⟩
  have c5 : W2.cell? ⟨g1, 5, none⟩ = some (.int .i64 x.m.vers) := cell_of bx2 5
  have HAf : Hid (∀ w3, SD W2 w3 B t D1 D2 → w3.cell? ⟨g1, 0, none⟩ = some (.int .i64 x.m.kind) ∧ w3.cell? ⟨t, 6, none⟩ = some (.int .i64 s.seq) ∧ w3.heap[g1]? = some (.cells x.arr 45 (0, 0)) ∧ Lists w3 0 x ∧ SD w w3 B t s D2 ∧ g1 < w3.heap.size) := fun w3 h3 => by
    have bx3 : w3.heap[g1]? = some (.cells x.arr 45 (0, 0)) := h3.kept bx2 (fun k hk => hge k (by rw [← hD1] at hk; exact hk))
    have o13 : Only (s.wr t) W1 w3 := s2.only.trans (h3.only.mono fun k hk => by rw [← hD1] at hk; exact hk)
    have hd6 := cell_of h3.is.head 6
    rw [← hD2] at hd6
    refine ⟨cell_of bx3 0, hd6, bx3, l2.only o13 fun q hq => ?_, (s2.from (hg1 ▸ b1.2)).trans h3, (Array.getElem?_eq_some_iff.1 bx3).1⟩
    exact ⟨i1.wno hq (by decide) (by decide) (by decide), i1.wno hq (by decide) (by decide) (by decide)⟩
  obtain ⟨kd, hkd⟩ : ∃ kd, x.m.kind = kd := ⟨_, rfl⟩
  have HKd : Hid (x.m.kind = kd) := hkd
  rw [hkd] at hkind HAf
  obtain ⟨sq, hsq⟩ : ∃ sq, s.seq = sq := ⟨_, rfl⟩
  have HSq : Hid (s.seq = sq) := hsq
  rw [hsq] at hseq HAf
  obtain ⟨nk, hnk⟩ : ∃ nk, x.m.ks.length = nk := ⟨_, rfl⟩
  have HNk : Hid (x.m.ks.length = nk) := hnk
  have hpast : Hid (∀ w3 : World, w3.heap[g1]? = some (.cells x.arr 45 (0, 0)) → w3.cell? ⟨g1, 15, none⟩ = some (.slice x.ak nk x.ck) ∧ w3.cell? ⟨g1, 4, none⟩ = some (.complex .f64 x.m.re x.m.im)) := fun w3 h3 => ⟨by rw [cell_of h3 15, ← hnk]; rfl, cell_of h3 4⟩
  obtain ⟨X, hX⟩ : ∃ X, x.arr = X := ⟨_, rfl⟩
  have HXX : Hid (x.arr = X) := hX
  rw [hX] at hW1
  rw [hX]
  clear h hL hm b1 i1 s2 bx2 l2 hge hkd hsq hX hnk hD1 hD2
  have hkz : (kd == 4) = false := by rw [beq_eq_false_iff_ne]; exact hkind
  go_enter Try.func37, Try.ntmps37
  go_upto_region 5 with (first
    | (go_at_call 54; refine HN.out.mono ?_; rintro q w3 ⟨rfl, h3⟩; obtain ⟨d0, d6, -, -, -, -⟩ := HAf.out w3 h3; have R3 : Hid (SD W2 w3 B t D1 D2) := h3; clear h3 c4 cf c5 hW1 hW2))
  obtain ⟨-, -, bx3, hL3, hS3, hg3⟩ := HAf.out w3 R3.out
  have hdr : Below w3.heap.size w3 w3.drew := (Below.refl _ _).drew
  obtain ⟨a6, q6, W6, happ6, hr6, hb6⟩ := keys_copy (hL3.below hdr).ks hL3.lk
  have b6 : Below w3.heap.size w3 W6 := chainB hdr hb6
  obtain ⟨f, hf0⟩ : ∃ f : Fm, f = ⟨x.m.re, x.m.im, false, x.m.ks, a6, q6⟩ := ⟨_, rfl⟩
  obtain ⟨W7, hW7⟩ : ∃ W7, W6.alloc (.cells f.arr 100) = W7 := ⟨_, rfl⟩
  have hb7 := boxB hW7
  have b7 : Below w3.heap.size w3 W7 := chainB b6 hb7.2
  have fr7 := hS3.is.fresh.below b7
  have hlen : D2.fs.length = s.fs.length := by rw [HX.out.2.2]
  have hB3 : B ≤ W7.heap.size := Nat.le_trans (Nat.le_trans hS3.is.bt (Nat.le_of_lt hS3.is.tt.lt)) b7.size
  obtain ⟨a8, q8, W8, happ8, hr8, ho8, hat8⟩ := fresh_push (B2 := 0) fr7 hb7.1 (Nat.zero_le _) hB3 (by rw [hlen]; exact hf)
  have O8 := only_from b7 ho8
  obtain ⟨W9, hW9⟩ : ∃ W9, W8.setCell ⟨t, 8, none⟩ (.slice a8 (D2.fs.length + 1) q8) = W9 := ⟨_, rfl⟩
  have hk8 : RowK W8 B f.vk f.ks := by
    have r7 : RowK W7 W6.heap.size.pred.succ.pred f.vk f.ks ∨ True := .inr trivial
    have r6 : RowK W6 w3.drew.heap.size (.slice a6 x.m.ks.length q6) x.m.ks := hr6
    have r6' : RowK W7 B f.vk f.ks := by
      rw [hf0]
      exact owns_le (r6.below hb7.2) (Nat.le_trans hS3.is.bt (Nat.le_of_lt hS3.is.tt.lt))
    exact owns_moved r6' fun k hk => ho8.block k (World.ownsRow.lt r6' k hk).2 fun e => (Tag.own fr7 e).two (by decide) (Tag.own r6' hk)
  have S9 : SD w3 W9 B t D2 { D2 with fv := .slice a8 (D2.fs.length + 1) q8, fs := D2.fs ++ [f] } := by
    rw [← hW9]
    refine hS3.is.putF O8 _ f hr8 hk8 (by rw [hf0]; exact hL3.lk) (by rw [hf0, HX.out.2.2]; exact HX.out.1) ?_ (fun k hk => ?_)
    · rcases hat8 with e | e
      · exact .inl e
      · exact .inr ⟨_, e, b7.size⟩
    · rw [hf0] at hk
      exact (World.ownsRow.lt hr6 k hk).1
  have c8 : ∀ V, Below w3.heap.size w3 V → V.cell? ⟨t, 8, none⟩ = some D2.fv := fun V hV => cell_of (hS3.is.below hV).head 8
  have hx8 : W8.heap[t]? = some (.cells D2.arr 71 (0, 0)) := (O8.block t hS3.is.tt.lt fun e => (Tag.own hS3.is.fresh e).ne hS3.is.tt (by decide) rfl).trans hS3.is.head
  have e8 := cell_of hx8 8
  have ef := free_of hx8
  obtain ⟨af, qf, hfv⟩ := owns_len hS3.is.fresh
  have t0 := c8 w3.drew hdr
  have t6 := c8 W6 b6
  have t7 := c8 W7 b7
  rw [hfv] at t0 t6 t7 happ8
  have bx0 := hkeep bx3 hdr
  have bx6 := hkeep bx3 b6
  have bx7 := hkeep bx3 b7
  obtain ⟨u15, u4⟩ := hpast.out w3.drew bx0
  obtain ⟨v15, v4⟩ := hpast.out W6 bx6
  obtain ⟨x15, x4⟩ := hpast.out W7 bx7
  have e8' : W8.cell? ⟨t, 8, none⟩ = some D2.fv := e8
  obtain ⟨nf, hnf⟩ : ∃ nf, D2.fs.length = nf := ⟨_, rfl⟩
  rw [hnf] at t0 t6 t7 happ8 hW9
  have happ7 : ∀ ty, (Builtin.append_ #[34, 34] ty #[.slice none 0 0, .slice x.ak nk x.ck]).run Try.prog w3.drew = .ok (.slice a6 nk q6) W6 := fun ty => by have := happ6 ty; unfold Hm.vk at this; rw [HNk.out] at this; exact this
  have hW7' : W6.alloc (.cells #[.complex .f64 x.m.re x.m.im, .int .i64 0, .bool false, .slice a6 nk q6] 100) = W7 := by
    rw [← hW7, hf0, ← HNk.out]; rfl
  have R9 : Hid (SD w W9 B t s { D2 with fv := .slice a8 (D2.fs.length + 1) q8, fs := D2.fs ++ [f] } ∧ Lists W9 0 x ∧ W9.heap[g1]? = some (.cells x.arr 45 (0, 0)) ∧ w.heap.size ≤ W9.heap.size ∧ f.b = ⟨x.m.num, false, x.m.ks⟩) := by
    have hg9 : W9.heap[g1]? = some (.cells x.arr 45 (0, 0)) := S9.kept bx3 (fun k hk e => by
      have hk' : s.wr t k := by rw [HX.out.2.2] at hk; exact hk
      exact HGe.out k hk' e)
    exact ⟨hS3.trans S9, hL3.only S9.only fun q hq => ⟨hS3.is.wno hq (by decide) (by decide) (by decide), hS3.is.wno hq (by decide) (by decide) (by decide)⟩, hg9, Nat.le_trans hS3.only.size S9.only.size, by rw [hf0]; rfl⟩
  clear bx3 hL3 hS3 hg3 hdr happ6 hr6 hb6 b6 hf0 hW7 hb7 b7 fr7 hlen hB3 hr8 ho8 hat8 O8 hk8 S9 c8 hx8 hfv bx0 bx6 bx7 hnf e8 d0 d6 hf
  go_region_law (first
    | (refine step_append_run rfl (.const (.slice none 0 0)) (.tmp 33) 34 rfl (.slice none 0 0) (.slice x.ak nk x.ck) (.slice a6 nk q6) W6 (by simp [Act.eval]) (by simp [Act.eval]) happ7 ?_)
    | (refine step_append_run rfl (.tmp 28) (.tmp 36) 69 rfl (.slice af nf qf) (.slice (some ⟨W6.heap.size, 0, none⟩) 1 1) (.slice a8 (nf + 1) q8) W8 (by simp [Act.eval]) (by simp [Act.eval]) happ8 ?_))
  all_goals
    obtain ⟨d15, -⟩ := hpast.out W9 R9.out.2.2.1
    obtain ⟨a10, q10, W10, happ10, hr10, hb10⟩ := keys_copy R9.out.2.1.ks R9.out.2.1.lk
    have happ11 : ∀ ty, (Builtin.append_ #[34, 34] ty #[.slice none 0 0, .slice x.ak nk x.ck]).run Try.prog W9 = .ok (.slice a10 nk q10) W10 := fun ty => by have := happ10 ty; unfold Hm.vk at this; rw [HNk.out] at this; exact this
    have ao := actOne_of #[.bool false, .bool false, .bool false, .bool false, .slice a10 nk q10, .int .i64 0, .slice none 0 0] rfl W10
    have R10 : Hid (RowK W10 W9.heap.size (.slice a10 x.m.ks.length q10) x.m.ks ∧ Below W9.heap.size W9 W10) := ⟨hr10, hb10⟩
    clear happ10 hr10 hb10 t0 t6 t7 u15 u4 v15 v4 x15 x4 e8' ef happ7 happ8 hW7' hW9
    go_wp2_with (at_builtin; refine wpList_append_run rfl (.const (.slice none 0 0)) (.tmp 44) 34 rfl _ _ (.slice a10 nk q10) W10 rfl rfl happ11 ?_)
    go_ret
    have hact : ActL W10 w.heap.size ⟨keysA x.m.ks, a10, q10, none, 0⟩ := ⟨owns_le R10.out.1 R9.out.2.2.2.1, World.ownsRow_nil _ _ _ _, Nat.zero_le _, R9.out.2.1.lk⟩
    have hac := acts_one hact (Nat.le_trans R9.out.2.2.2.1 R10.out.2.size)
    refine ⟨_, [⟨keysA x.m.ks, a10, q10, none, 0⟩], rfl, ?_, ?_, _, R9.out.1.on (chainB R10.out.2 (below_alloc _ _)), ?_, ?_, ?_⟩
    · have e : (Am.arr ⟨keysA x.m.ks, a10, q10, none, 0⟩) = #[.bool false, .bool false, .bool false, .bool false, .slice a10 nk q10, .int .i64 0, .slice none 0 0] := by
        rw [← HNk.out]; rfl
      rw [e] at hac
      exact hac
    · unfold actOf
      rw [HKd.out, if_neg hkind]; rfl
    · have e1 := R9.out.2.2.2.2
      unfold Dt.say Ts.apply
      simp only [List.map_append, List.map_cons, List.map_nil, e1]
      rw [if_pos (show 0 < s.seq by rw [HSq.out]; omega), HX.out.2.2, HKd.out, decide_eq_false hkind]
    · rw [HX.out.2.2]
    · rw [HX.out.2.2]
set_option maxHeartbeats 8000000 in
set_option maxRecDepth 100000 in
theorem apply_sk (t B : Nat) (s : Dt) (x : Hm) (w : World) (h : IsD w B t s) (hL : Lists w 0 x) (hm : Mk x.m.re x.m.im s.e x.m.num) (hf : (s.fs.length + 1) * 56 ≤ 140737488351232) (hseq : 0 < s.seq) (hkind : x.m.kind = 4) : Calls Try.prog 37 #[.pointer (some ⟨t, 0, none⟩), .agg x.arr, .int .i64 x.m.num] w fun e w' => ApR w B t s x.m e w' := by
  obtain ⟨W1, hW1⟩ : ∃ W1, w.alloc (.cells x.arr 45) = W1 := ⟨_, rfl⟩
  have b1 := boxB hW1
  have i1 := h.below b1.2
  obtain ⟨g1, hg1⟩ : ∃ g, w.heap.size = g := ⟨_, rfl⟩
  rw [hg1] at b1
  obtain ⟨-, -, -, -, c4, -, -, -, -, cf⟩ := i1.cells
  obtain ⟨W2, hW2⟩ : ∃ W2, W1.setCell ⟨t, 4, none⟩ (.int .i64 x.m.num) = W2 := ⟨_, rfl⟩
  obtain ⟨D1, hD1⟩ : ∃ D1, ({ s with n := x.m.num } : Dt) = D1 := ⟨_, rfl⟩
  obtain ⟨D2, hD2⟩ : ∃ D2, ({ s with n := x.m.num, ver := max s.ver x.m.vers } : Dt) = D2 := ⟨_, rfl⟩
  have s2 : SD W1 W2 B t s D1 := by rw [← hW2, ← hD1]; exact i1.put { s with n := x.m.num } 4 (.int .i64 x.m.num) rfl ⟨rfl, rfl, rfl, rfl, rfl, rfl⟩ ⟨hm.n0, hm.n1, h.ask0⟩
  have hge : ∀ k, s.wr t k → k ≠ g1 := fun k hk e => by have := (h.wlt hk).2; omega
  have bx2 := s2.kept b1.1 hge
  have l2 := hL.below (hg1 ▸ b1.2)
  have HGe : Hid (∀ k, s.wr t k → k ≠ g1) := hge
  have HN : Hid (Calls Try.prog 54 #[.pointer (some ⟨t, 0, none⟩), .int .i64 x.m.vers] W2 fun e w' => e = .returned (.tuple #[]) ∧ SD W2 w' B t D1 D2) := by
    have := newer_d t B D1 x.m.vers W2 s2.is
    rw [← hD1] at this ⊢
    rw [← hD2]; exact this
  have HX : Hid (Mk x.m.re x.m.im s.e x.m.num ∧ w.heap.size = g1 ∧ D2 = { s with n := x.m.num, ver := max s.ver x.m.vers }) := ⟨hm, hg1, hD2.symm⟩
  have c5 : W2.cell? ⟨g1, 5, none⟩ = some (.int .i64 x.m.vers) := cell_of bx2 5
  have HAf : Hid (∀ w3, SD W2 w3 B t D1 D2 → w3.cell? ⟨g1, 0, none⟩ = some (.int .i64 x.m.kind) ∧ w3.cell? ⟨t, 6, none⟩ = some (.int .i64 s.seq) ∧ w3.heap[g1]? = some (.cells x.arr 45 (0, 0)) ∧ Lists w3 0 x ∧ SD w w3 B t s D2 ∧ g1 < w3.heap.size) := fun w3 h3 => by
    have bx3 : w3.heap[g1]? = some (.cells x.arr 45 (0, 0)) := h3.kept bx2 (fun k hk => hge k (by rw [← hD1] at hk; exact hk))
    have o13 : Only (s.wr t) W1 w3 := s2.only.trans (h3.only.mono fun k hk => by rw [← hD1] at hk; exact hk)
    have hd6 := cell_of h3.is.head 6
    rw [← hD2] at hd6
    refine ⟨cell_of bx3 0, hd6, bx3, l2.only o13 fun q hq => ?_, (s2.from (hg1 ▸ b1.2)).trans h3, (Array.getElem?_eq_some_iff.1 bx3).1⟩
    exact ⟨i1.wno hq (by decide) (by decide) (by decide), i1.wno hq (by decide) (by decide) (by decide)⟩
  obtain ⟨kd, hkd⟩ : ∃ kd, x.m.kind = kd := ⟨_, rfl⟩
  have HKd : Hid (x.m.kind = kd) := hkd
  rw [hkd] at hkind HAf
  obtain ⟨sq, hsq⟩ : ∃ sq, s.seq = sq := ⟨_, rfl⟩
  have HSq : Hid (s.seq = sq) := hsq
  rw [hsq] at hseq HAf
  obtain ⟨nk, hnk⟩ : ∃ nk, x.m.ks.length = nk := ⟨_, rfl⟩
  have HNk : Hid (x.m.ks.length = nk) := hnk
  have hpast : Hid (∀ w3 : World, w3.heap[g1]? = some (.cells x.arr 45 (0, 0)) → w3.cell? ⟨g1, 15, none⟩ = some (.slice x.ak nk x.ck) ∧ w3.cell? ⟨g1, 4, none⟩ = some (.complex .f64 x.m.re x.m.im)) := fun w3 h3 => ⟨by rw [cell_of h3 15, ← hnk]; rfl, cell_of h3 4⟩
  obtain ⟨X, hX⟩ : ∃ X, x.arr = X := ⟨_, rfl⟩
  have HXX : Hid (x.arr = X) := hX
  rw [hX] at hW1
  rw [hX]
  clear h hL hm b1 i1 s2 bx2 l2 hge hkd hsq hX hnk hD1 hD2
  obtain rfl : kd = 4 := hkind
  go_enter Try.func37, Try.ntmps37
  go_upto_region 5 with (first
    | (go_at_call 54; refine HN.out.mono ?_; rintro q w3 ⟨rfl, h3⟩; obtain ⟨d0, d6, -, -, -, -⟩ := HAf.out w3 h3; have R3 : Hid (SD W2 w3 B t D1 D2) := h3; clear h3 c4 cf c5 hW1 hW2))
  obtain ⟨-, -, bx3, hL3, hS3, hg3⟩ := HAf.out w3 R3.out
  have hdr : Below w3.heap.size w3 w3.drew := (Below.refl _ _).drew
  obtain ⟨a6, q6, W6, happ6, hr6, hb6⟩ := keys_copy (hL3.below hdr).ks hL3.lk
  have b6 : Below w3.heap.size w3 W6 := chainB hdr hb6
  obtain ⟨f, hf0⟩ : ∃ f : Fm, f = ⟨x.m.re, x.m.im, true, x.m.ks, a6, q6⟩ := ⟨_, rfl⟩
  obtain ⟨W7, hW7⟩ : ∃ W7, W6.alloc (.cells f.arr 100) = W7 := ⟨_, rfl⟩
  have hb7 := boxB hW7
  have b7 : Below w3.heap.size w3 W7 := chainB b6 hb7.2
  have fr7 := hS3.is.fresh.below b7
  have hlen : D2.fs.length = s.fs.length := by rw [HX.out.2.2]
  have hB3 : B ≤ W7.heap.size := Nat.le_trans (Nat.le_trans hS3.is.bt (Nat.le_of_lt hS3.is.tt.lt)) b7.size
  obtain ⟨a8, q8, W8, happ8, hr8, ho8, hat8⟩ := fresh_push (B2 := 0) fr7 hb7.1 (Nat.zero_le _) hB3 (by rw [hlen]; exact hf)
  have O8 := only_from b7 ho8
  obtain ⟨W9, hW9⟩ : ∃ W9, W8.setCell ⟨t, 8, none⟩ (.slice a8 (D2.fs.length + 1) q8) = W9 := ⟨_, rfl⟩
  have hk8 : RowK W8 B f.vk f.ks := by
    have r7 : RowK W7 W6.heap.size.pred.succ.pred f.vk f.ks ∨ True := .inr trivial
    have r6 : RowK W6 w3.drew.heap.size (.slice a6 x.m.ks.length q6) x.m.ks := hr6
    have r6' : RowK W7 B f.vk f.ks := by
      rw [hf0]
      exact owns_le (r6.below hb7.2) (Nat.le_trans hS3.is.bt (Nat.le_of_lt hS3.is.tt.lt))
    exact owns_moved r6' fun k hk => ho8.block k (World.ownsRow.lt r6' k hk).2 fun e => (Tag.own fr7 e).two (by decide) (Tag.own r6' hk)
  have S9 : SD w3 W9 B t D2 { D2 with fv := .slice a8 (D2.fs.length + 1) q8, fs := D2.fs ++ [f] } := by
    rw [← hW9]
    refine hS3.is.putF O8 _ f hr8 hk8 (by rw [hf0]; exact hL3.lk) (by rw [hf0, HX.out.2.2]; exact HX.out.1) ?_ (fun k hk => ?_)
    · rcases hat8 with e | e
      · exact .inl e
      · exact .inr ⟨_, e, b7.size⟩
    · rw [hf0] at hk
      exact (World.ownsRow.lt hr6 k hk).1
  have c8 : ∀ V, Below w3.heap.size w3 V → V.cell? ⟨t, 8, none⟩ = some D2.fv := fun V hV => cell_of (hS3.is.below hV).head 8
  have hx8 : W8.heap[t]? = some (.cells D2.arr 71 (0, 0)) := (O8.block t hS3.is.tt.lt fun e => (Tag.own hS3.is.fresh e).ne hS3.is.tt (by decide) rfl).trans hS3.is.head
  have e8 := cell_of hx8 8
  have ef := free_of hx8
  obtain ⟨af, qf, hfv⟩ := owns_len hS3.is.fresh
  have t0 := c8 w3.drew hdr
  have t6 := c8 W6 b6
  have t7 := c8 W7 b7
  rw [hfv] at t0 t6 t7 happ8
  have bx0 := hkeep bx3 hdr
  have bx6 := hkeep bx3 b6
  have bx7 := hkeep bx3 b7
  obtain ⟨u15, u4⟩ := hpast.out w3.drew bx0
  obtain ⟨v15, v4⟩ := hpast.out W6 bx6
  obtain ⟨x15, x4⟩ := hpast.out W7 bx7
  have e8' : W8.cell? ⟨t, 8, none⟩ = some D2.fv := e8
  obtain ⟨nf, hnf⟩ : ∃ nf, D2.fs.length = nf := ⟨_, rfl⟩
  rw [hnf] at t0 t6 t7 happ8 hW9
  have happ7 : ∀ ty, (Builtin.append_ #[34, 34] ty #[.slice none 0 0, .slice x.ak nk x.ck]).run Try.prog w3.drew = .ok (.slice a6 nk q6) W6 := fun ty => by have := happ6 ty; unfold Hm.vk at this; rw [HNk.out] at this; exact this
  have hW7' : W6.alloc (.cells #[.complex .f64 x.m.re x.m.im, .int .i64 0, .bool true, .slice a6 nk q6] 100) = W7 := by
    rw [← hW7, hf0, ← HNk.out]; rfl
  have R9 : Hid (SD w W9 B t s { D2 with fv := .slice a8 (D2.fs.length + 1) q8, fs := D2.fs ++ [f] } ∧ Lists W9 0 x ∧ W9.heap[g1]? = some (.cells x.arr 45 (0, 0)) ∧ w.heap.size ≤ W9.heap.size ∧ f.b = ⟨x.m.num, true, x.m.ks⟩) := by
    have hg9 : W9.heap[g1]? = some (.cells x.arr 45 (0, 0)) := S9.kept bx3 (fun k hk e => by
      have hk' : s.wr t k := by rw [HX.out.2.2] at hk; exact hk
      exact HGe.out k hk' e)
    exact ⟨hS3.trans S9, hL3.only S9.only fun q hq => ⟨hS3.is.wno hq (by decide) (by decide) (by decide), hS3.is.wno hq (by decide) (by decide) (by decide)⟩, hg9, Nat.le_trans hS3.only.size S9.only.size, by rw [hf0]; rfl⟩
  clear bx3 hL3 hS3 hg3 hdr happ6 hr6 hb6 b6 hf0 hW7 hb7 b7 fr7 hlen hB3 hr8 ho8 hat8 O8 hk8 S9 c8 hx8 hfv bx0 bx6 bx7 hnf e8 d0 d6 hf
  go_region_law (first
    | (refine step_append_run rfl (.const (.slice none 0 0)) (.tmp 33) 34 rfl (.slice none 0 0) (.slice x.ak nk x.ck) (.slice a6 nk q6) W6 (by simp [Act.eval]) (by simp [Act.eval]) happ7 ?_)
    | (refine step_append_run rfl (.tmp 28) (.tmp 36) 69 rfl (.slice af nf qf) (.slice (some ⟨W6.heap.size, 0, none⟩) 1 1) (.slice a8 (nf + 1) q8) W8 (by simp [Act.eval]) (by simp [Act.eval]) happ8 ?_))
  all_goals
    have ao := actOne_of #[.bool true, .bool false, .bool false, .bool false, .slice none 0 0, .int .i64 0, .slice none 0 0] rfl W9
    clear t0 t6 t7 u15 u4 v15 v4 x15 x4 e8' ef happ7 happ8 hW7' hW9
    go_wp2
    go_ret
    have hac := acts_one (plain_l W9 w.heap.size allA rfl rfl) R9.out.2.2.2.1
    refine ⟨_, [plainAm allA rfl rfl], rfl, hac, ?_, _, R9.out.1.on (below_alloc _ _), ?_, ?_, ?_⟩
    · unfold actOf
      rw [HKd.out, if_pos rfl]; rfl
    · have e1 := R9.out.2.2.2.2
      unfold Dt.say Ts.apply
      simp only [List.map_append, List.map_cons, List.map_nil, e1]
      rw [if_pos (show 0 < s.seq by rw [HSq.out]; omega), HX.out.2.2, HKd.out, decide_eq_true rfl]
    · rw [HX.out.2.2]
    · rw [HX.out.2.2]
theorem apply_d (t B : Nat) (s : Dt) (x : Hm) (w : World) (h : IsD w B t s) (hL : Lists w 0 x) (hm : Mk x.m.re x.m.im s.e x.m.num) (hf : (s.fs.length + 1) * 56 ≤ 140737488351232) : Calls Try.prog 37 #[.pointer (some ⟨t, 0, none⟩), .agg x.arr, .int .i64 x.m.num] w fun e w' => ApR w B t s x.m e w' := by
  by_cases h1 : 0 < s.seq <;> by_cases h2 : x.m.kind = 4
  · exact apply_sk t B s x w h hL hm hf h1 h2
  · exact apply_sn t B s x w h hL hm hf h1 h2
  · exact apply_nk t B s x w h hL hm h1 h2
  · exact apply_nn t B s x w h hL hm h1 h2
end
section
open Go.RowKit Go.Shelf
attribute [local go_sem ↓ high] loadMsg storeMsg buildMsg storeAct loadAct buildAct
attribute [local go_sem high] run_store_complex eqC

/-- the held list turned -/
theorem IsD.putH {w w1 : World} {B t : Nat} {s : Dt} (h : IsD w B t s) (hO : Only (fun x => s.hv.ownBlock = some x) w w1) (v' : Value) (hs' : List Hm) (hr : RowM w1 B v' hs') (he : ∀ m ∈ hs', m ∈ s.hs ∨ (Lists w1 B m ∧ Good s.e m.m ∧ ∀ k, m.ve.ownBlock = some k ∨ m.vk.ownBlock = some k → w.heap.size ≤ k)) (hl : hs'.length ≤ s.hold) (hn : v'.ownBlock = s.hv.ownBlock ∨ ∀ k, v'.ownBlock = some k → w.heap.size ≤ k) :
    SD w (w1.setCell ⟨t, 7, none⟩ v') B t s { s with hv := v', hs := hs' } := by
  have htl := h.tt.lt
  have e1 : w1.heap[t]? = w.heap[t]? := hO.block t htl fun e => (h.held.tag e).ne h.tt (by decide) rfl
  have hh := e1.trans h.head
  have ht1 : Tag w1 t 71 := ⟨_, _, hh⟩
  have o2 := only1 w1 t 7 v'
  have mv : ∀ {k ty}, Tag w k ty → 71 ≠ ty → 45 ≠ ty → (w1.setCell ⟨t, 7, none⟩ v').heap[k]? = w.heap[k]? := fun {k ty} hk h1 h2 => by
    have e := hO.block k hk.lt fun e => (h.held.tag e).two h2 hk
    exact (o2.block k (Nat.lt_of_lt_of_le hk.lt hO.size) (fun e' => by rw [e'] at hk; exact h.tt.two h1 hk)).trans e
  have mL : ∀ m ∈ s.hs, Lists (w1.setCell ⟨t, 7, none⟩ v') B m := fun m hm' => (h.each m hm').1.moved fun k hk => by
    rcases hk with hk | hk
    · exact mv (Tag.own (h.each m hm').1.es hk) (by decide) (by decide)
    · exact mv (Tag.own (h.each m hm').1.ks hk) (by decide) (by decide)
  refine ⟨⟨(heap_set hh 7 _).trans rfl, h.bt, owns_moved hr fun k hk => o2.block k (World.ownsRow.lt hr k hk).2 fun e => (Tag.own hr hk).ne ht1 (by decide) e, fun m hm' => ?_, owns_moved h.fresh fun k hk => mv (Tag.own h.fresh hk) (by decide) (by decide), fun g hg => ⟨owns_moved (h.eachF g hg).1 fun k hk => mv (Tag.own (h.eachF g hg).1 hk) (by decide) (by decide), (h.eachF g hg).2⟩, h.e0, h.e1, h.n0, h.n1, h.ask0, hl, h.l8⟩, ?_, ?_, ?_⟩
  · rcases he m hm' with q | ⟨q1, q2, -⟩
    · exact ⟨mL m q, (h.each m q).2⟩
    · exact ⟨q1.only o2 fun q hq => ⟨by rw [hq]; exact ht1.two (by decide), by rw [hq]; exact ht1.two (by decide)⟩, q2⟩
  · exact (hO.mono fun k hk => .inr (.inl hk)).trans (o2.mono fun k hk => .inl hk)
  · rintro k (e | e | e)
    · exact .inl (.inl e)
    · rcases hn with q | q
      · exact .inl (.inr (.inl (q ▸ e)))
      · exact .inr (q k e)
    · exact .inl (.inr (.inr e))
  · rintro k ((e | e | e) | ⟨m, hm', e⟩ | e)
    · exact .inl (.inl (.inl e))
    · rcases hn with q | q
      · exact .inl (.inl (.inr (.inl (q ▸ e))))
      · exact .inr (q k e)
    · exact .inl (.inl (.inr (.inr e)))
    · rcases he m hm' with q | ⟨-, -, q⟩
      · exact .inl (.inr (.inl ⟨m, q, e⟩))
      · exact .inr (q k e)
    · exact .inl (.inr (.inr e))
/-- messages behind messages, out of whatever place -/
theorem msgs_append {w : World} {B : Nat} {v : Value} {l l2 : List Hm} (h : RowM w B v l) (ad : Addr) (c : Nat) (hc : ∀ j u, (mc l2)[j]? = some u → w.cell? (ad.add j) = some u) (hB : B ≤ w.heap.size) (hl : l.length + l2.length ≤ 1000000) :
    ∃ a3 q3 W, (∀ ty, (Builtin.append_ #[60, 60] ty #[v, .slice (some ad) l2.length c]).run Try.prog w = .ok (.slice a3 (l.length + l2.length) q3) W) ∧ RowM W B (.slice a3 (l.length + l2.length) q3) (l ++ l2) ∧ Only (fun k => v.ownBlock = some k) w W ∧ ((Value.slice a3 (l.length + l2.length) q3).ownBlock = v.ownBlock ∨ (Value.slice a3 (l.length + l2.length) q3).ownBlock = some w.heap.size) := by
  obtain ⟨i1, hi1, hw0, hw1, hw2⟩ := info_parts Try.infoMg
  have key : ∀ ty, ∃ v' w', (Builtin.append_ #[60, 60] ty #[v, .slice (some ad) l2.length c]).run Try.prog w = .ok v' w' ∧ w'.ownsRow B 45 16 v' (l.length + l2.length) (mc l ++ mc l2) ∧ w.grownBy w' v.ownBlock ∧ (v'.ownBlock = v.ownBlock ∨ v'.ownBlock = some w.heap.size) := fun ty => by
    obtain ⟨v', w', a1, a2, a3, _, a5⟩ := run_append_own_at (P := Try.prog) w B 60 ty 45 i1 _ 16 192 Try.underlying60 hi1 hw0 hw1 hw2 rfl (by decide) v l.length (mc l) h ad l2.length c (mc l2) (mc_len l2) hc (mc_one l2) (by unfold maxLen; omega) (by omega) hB
    exact ⟨v', w', a1, a2, a3, a5⟩
  obtain ⟨v', W, a1, a2, a3, a5⟩ := key 0
  obtain ⟨a', q', rfl⟩ := owns_len a2
  refine ⟨a', q', W, fun ty => ?_, ?_, only_grown a3, a5⟩
  · have : (Builtin.append_ #[60, 60] ty #[v, .slice (some ad) l2.length c]).run Try.prog w = (Builtin.append_ #[60, 60] 0 #[v, .slice (some ad) l2.length c]).run Try.prog w := rfl
    rw [this]; exact a1
  · show World.ownsRow _ _ _ _ _ _ _
    rw [List.length_append, mc_app]; exact a2
end
end Go.Proofs.Ytpmcecenhgppbaa
