/- Evict, Leaf. -/
import Derived.Test.YtmndnjgbbpkidaaGreatJWLks07
namespace Go.Proofs.YtmndnjgbbpkidaaGreat
section
open Go.RowKit
attribute [local go_sem ↓ high] loadEn storeEn loadCa storeCa buildCa
attribute [local go_sem high] eqMN

theorem Cutt.says {c c' : Pc} {f : En → Bool} {s : Cs} (q : Cutt c c' f) (hs : Says c s) : Says c' ⟨s.L.filter f, s.W⟩ := by
  refine ⟨?_, fun d => by rw [q.wl]; exact hs.wh d⟩
  rw [q.uses]
  exact hs.rep.filter f (List.Perm.of_eq q.cont)
/-- a directory is not whole any more -/
theorem delW_mid {w : World} {p : Nat} {c : Pc} (h : IsC w p c) (d : Int) : ∃ W c', (∀ ty, (Builtin.delete_ #[94, 3] ty #[.map (some c.g1), .int .i64 d]).run Tryz.prog w = .ok (.tuple #[]) W) ∧ Aft w W p c c' ∧ (∀ s, Says c s → Says c' ⟨s.L, partW s.W d⟩) ∧ c'.uses = c.uses ∧ c'.g0 = c.g0 ∧ c'.g1 = c.g1 := by
  obtain ⟨W, hr, hm, hO, -⟩ := delM kI undW 0 w (some c.g1) c.wl h.whole d
  have a := h.setW hm (hO.mono fun q e => by cases e; rfl) (mdel_keys h.wn d)
  refine ⟨W, _, fun ty => hr, a, fun s hs => ⟨hs.rep, fun x => ?_⟩, rfl, rfl, rfl⟩
  show x ∈ partW s.W d ↔ x ∈ (mdel c.wl d).map (·.1)
  rw [mem_partW, mem_delW h.wn, hs.wh]
set_option maxHeartbeats 2000000 in
theorem evict_p (p : Nat) (c : Pc) (s : Cs) (k : Ky) (w : World) (h : IsC w p c) (hs : Says c s) : Calls Tryz.prog 29 #[.pointer (some ⟨p, 0, none⟩), .agg #[.int .i64 k.d, .string k.nm]] w fun x w' => x = .returned (.bool (getL s.L k).isSome) ∧ ∃ c', Aft w w' p c c' ∧ Says c' (s.evict k) ∧ c'.uses = c.uses := by
  obtain ⟨W1, hW1⟩ : ∃ W, w.alloc (.cells #[.int .i64 k.d, .string k.nm] 29) = W := ⟨_, rfl⟩
  have b1 := boxO hW1
  have box : ∀ W : World, W.heap[w.heap.size]? = W1.heap[w.heap.size]? → W.cell? ⟨w.heap.size, 0, none⟩ = some (.int .i64 k.d) ∧ W.cell? ⟨w.heap.size, 1, none⟩ = some (.string k.nm) := fun W hW => ⟨by rw [cell_of (hW.trans b1.1)]; rfl, by rw [cell_of (hW.trans b1.1)]; rfl⟩
  have k0 := (box W1 rfl).1
  have k1 := (box W1 rfl).2
  have h1 := h.below b1.2.1
  have HG : Hid (Calls Tryz.prog 40 #[.pointer (some ⟨p, 0, none⟩), .agg #[.int .i64 k.d, .string k.nm]] W1 fun x w' => x = .returned (.tuple #[((getL s.L k).getD zeroEn).agg, .bool (getL s.L k).isSome]) ∧ Below W1.heap.size W1 w') := get_s p c s k W1 h1 hs
  have bx := box7
  have nb : ¬ c.blk p w.heap.size := fun e => by have := h.lt e; omega
  have hlt : w.heap.size < W1.heap.size := by omega
  cases hg : getL s.L k with
  | none =>
    rw [hg] at HG
    have HE : Hid (∀ W, Below W1.heap.size W1 W → ∃ c', Aft w W p c c' ∧ Says c' (s.evict k) ∧ c'.uses = c.uses) := fun W hW => ⟨c, (Aft.refl h b1.2.1).post hW, by unfold Cs.evict; rw [hg]; exact hs, rfl⟩
    clear h hs h1 b1 hg box nb hlt
    go_enter Tryz.func29, Tryz.ntmps29
    go_wp2_with (go_at_call 40; refine HG.out.mono ?_; rintro x W2 ⟨rfl, hb⟩; have HB2 : Hid (Below W1.heap.size W1 W2) := hb; clear hb)
    go_ret
    exact ⟨rfl, HE.out _ (chainB HB2.out (below_alloc _ _))⟩
  | some e =>
    rw [hg] at HG
    have HD : Hid (∀ W, Below W1.heap.size W1 W → (W.cell? ⟨w.heap.size, 0, none⟩ = some (.int .i64 k.d) ∧ W.cell? ⟨w.heap.size, 1, none⟩ = some (.string k.nm)) ∧ Calls Tryz.prog 56 #[.pointer (some ⟨p, 0, none⟩), .agg #[.int .i64 k.d, .string k.nm]] W fun x w' => x = .returned (.tuple #[]) ∧ ∃ c', Aft w w' p c c' ∧ Cutt c c' (fun e => !hasK k e) ∧ (∀ g, W1.heap.size ≤ g → g < W.heap.size → w'.heap[g]? = W.heap[g]?) ∧ ¬ c'.blk p w.heap.size ∧ w'.cell? ⟨w.heap.size, 0, none⟩ = some (.int .i64 k.d)) := fun W hW => by
      refine ⟨box W (hW.block _ hlt), (drop_p p c k W (h1.below hW)).mono ?_⟩
      rintro x w' ⟨rfl, c', ha, hq⟩
      have hsz := hW.size
      refine ⟨rfl, c', ((Aft.refl h b1.2.1).post hW).trans ha, hq, fun g h1' h2' => ha.only.block g h2' (fun e => by have := h1.lt e; omega), fun e => ?_, ?_⟩
      · rcases ha.nblk _ e with e | e
        · exact nb e
        · omega
      · exact (World.cell?_of_block (ha.only.block _ (by show w.heap.size < _; omega) nb)).trans (box W (hW.block _ hlt)).1
    have HE : Hid (∀ W c', Aft w W p c c' → Cutt c c' (fun e => !hasK k e) → Says c' ⟨outL s.L k, s.W⟩ ∧ W.heap[w.heap.size]? = W.heap[w.heap.size]?) := fun W c' ha hq => ⟨hq.says hs, rfl⟩
    have HV : Hid (s.evict k = ⟨outL s.L k, if e.neg then s.W else partW s.W k.d⟩) := by
      show s.evict k = _
      unfold Cs.evict
      rw [hg]
    cases hneg : e.neg with
    | true =>
      rw [hneg] at HV
      clear h hs h1 b1 hg box nb hlt
      go_enter Tryz.func29, Tryz.ntmps29
      go_wp2_with (first
        | (go_at_call 56; refine (HD.out _ (chainB HB2.out (below_alloc _ _))).2.mono ?_; rintro x W3 ⟨rfl, c', ha, hq, hk, hnb, hk0⟩; have e2 : W3.cell? ⟨W2.heap.size, 2, none⟩ = some (.bool true) := (World.cell?_of_block (hk W2.heap.size HB2.out.size (by simp))).trans (by rw [← hneg]; exact (cells7_of (heap_new _ _)).c2); have H3 : Hid (∃ c', Aft w W3 p c c' ∧ Says c' (s.evict k) ∧ c'.uses = c.uses) := ⟨c', ha, by rw [HV.out]; exact (HE.out _ _ ha hq).1, hq.uses⟩; clear ha hq hk hnb hk0)
        | (go_at_call 40; refine HG.out.mono ?_; rintro x W2 ⟨rfl, hb⟩; have HB2 : Hid (Below W1.heap.size W1 W2) := hb; have q0 := (HD.out _ (chainB hb (below_alloc W2 (.cells e.vals.toArray 52)))).1; clear hb))
      go_ret
      exact ⟨rfl, H3.out⟩
    | false =>
      rw [hneg] at HV
      have HK : Hid (∀ W c', Aft w W p c c' → Cutt c c' (fun e => !hasK k e) → ¬ c'.blk p w.heap.size → W.cell? ⟨w.heap.size, 0, none⟩ = some (.int .i64 k.d) → ∃ V, (∀ ty, (Builtin.delete_ #[94, 3] ty #[.map (some c.g1), .int .i64 k.d]).run Tryz.prog W.drew = .ok (.tuple #[]) V) ∧ (W.drew.cell? ⟨p, 1, none⟩ = some (.map (some c.g1)) ∧ W.drew.cell? ⟨w.heap.size, 0, none⟩ = some (.int .i64 k.d)) ∧ (V.cell? ⟨p, 1, none⟩ = some (.map (some c.g1)) ∧ V.cell? ⟨w.heap.size, 0, none⟩ = some (.int .i64 k.d)) ∧ Hid (∃ c', Aft w V p c c' ∧ Says c' (s.evict k) ∧ c'.uses = c.uses)) := fun W c' ha hq hnb hw => by
        obtain ⟨V, c2, hr, a2, s2, u2, e0, e1⟩ := delW_mid (ha.is.drewN 1) k.d
        rw [hq.g1] at hr
        have hc1 := (ha.is.drewN 1).cells.2.1
        have hc2 := a2.is.cells.2.1
        rw [e1, hq.g1] at hc2
        rw [hq.g1] at hc1
        refine ⟨V, hr, ⟨hc1, hw⟩, ⟨hc2, ?_⟩, ⟨c2, (ha.post (below_drewN (Below.refl _ _) 1)).trans a2, ?_, u2.trans hq.uses⟩⟩
        · exact (World.cell?_of_block (a2.only.block _ (cellLt hw) hnb)).trans hw
        · rw [HV.out]
          exact s2 _ (HE.out _ _ ha hq).1
      clear h hs h1 b1 hg box nb
      go_enter Tryz.func29, Tryz.ntmps29
      go_upto_region 6 with (first
        | (go_at_call 56; refine (HD.out _ (chainB HB2.out (below_alloc _ _))).2.mono ?_; rintro x W3 ⟨rfl, c', ha, hq, hk, hnb, hk0⟩; have e2 : W3.cell? ⟨W2.heap.size, 2, none⟩ = some (.bool false) := (World.cell?_of_block (hk W2.heap.size HB2.out.size (by simp))).trans (by rw [← hneg]; exact (cells7_of (heap_new _ _)).c2); obtain ⟨V, hr, kp, kq, H3⟩ := HK.out W3 c' ha hq hnb hk0; clear ha hq hk hnb)
        | (go_at_call 40; refine HG.out.mono ?_; rintro x W2 ⟨rfl, hb⟩; have HB2 : Hid (Below W1.heap.size W1 W2) := hb; have q0 := (HD.out _ (chainB hb (below_alloc W2 (.cells e.vals.toArray 52)))).1; clear hb))
      go_region_held3 (fun W => W.cell? ⟨p, 1, none⟩ = some (.map (some c.g1)) ∧ W.cell? ⟨w.heap.size, 0, none⟩ = some (.int .i64 k.d))
        (with_reducible first | exact kp | exact kq)
        (first | (refine step_delM rfl (.tmp 24) (.tmp 26) 94 3 rfl _ _ (by simp [Act.eval]) (by simp [Act.eval]) V hr ?_))
      go_wp2
      go_ret
      exact ⟨rfl, H3.out⟩
set_option maxHeartbeats 2000000 in
theorem leaf_p (p : Nat) (c : Pc) (s : Cs) (k : Ky) (w : World) (h : IsC w p c) (hs : Says c s) : Calls Tryz.prog 42 #[.pointer (some ⟨p, 0, none⟩), .agg #[.int .i64 k.d, .string k.nm]] w fun x w' => x = .returned (.bool (leafB s.L k)) ∧ Below w.heap.size w w' := by
  obtain ⟨W1, hW1⟩ : ∃ W, w.alloc (.cells #[.int .i64 k.d, .string k.nm] 29) = W := ⟨_, rfl⟩
  have b1 := boxO hW1
  have k0 : W1.cell? ⟨w.heap.size, 0, none⟩ = some (.int .i64 k.d) := by rw [cell_of b1.1]; rfl
  have k1 : W1.cell? ⟨w.heap.size, 1, none⟩ = some (.string k.nm) := by rw [cell_of b1.1]; rfl
  have h1 := h.below b1.2.1
  have HG : Hid (Calls Tryz.prog 40 #[.pointer (some ⟨p, 0, none⟩), .agg #[.int .i64 k.d, .string k.nm]] W1 fun x w' => x = .returned (.tuple #[((getL s.L k).getD zeroEn).agg, .bool (getL s.L k).isSome]) ∧ Below W1.heap.size W1 w') := get_s p c s k W1 h1 hs
  have bx := box7
  obtain ⟨e, he⟩ : ∃ e, (getL s.L k).getD zeroEn = e := ⟨_, rfl⟩
  obtain ⟨b, hb⟩ : ∃ b, (getL s.L k).isSome = b := ⟨_, rfl⟩
  rw [he, hb] at HG
  obtain ⟨N, hN⟩ : ∃ N, (inn c.om (idOf e)).length = N := ⟨_, rfl⟩
  have hle : leafB s.L k = (b && ((N : Int) == 0)) := by
    have hl := hs.leaf h.ok (idOf e)
    unfold leafB
    cases hg : getL s.L k with
    | none => rw [hg] at hb; rw [← hb]; rfl
    | some e' =>
      rw [hg] at he hb
      have : e' = e := he
      rw [← hb, this]
      show (s.L.all fun x => decide (x.d ≠ idOf e)) = (true && _)
      rw [← hl, hN, Bool.true_and, Bool.eq_iff_iff, decide_eq_true_iff, beq_iff_eq]
      omega
  have HL : Hid (∀ W, Below W1.heap.size W1 W → W.cell? ⟨p, 0, none⟩ = some (.map (some c.g0)) ∧ (Instr.lookup 93 (.map (some c.g0)) (.int .i64 (idOf e)) false).run Tryz.prog W = .ok (.map (c.dir (idOf e))) W ∧ ∀ ty, (Builtin.len_ #[97] ty #[.map (c.dir (idOf e))]).run Tryz.prog W = .ok (.int .i64 N) W) := fun W hW => ⟨(h1.below hW).cells.1, (h1.below hW).look _, fun ty => by rw [← hN]; exact (h1.below hW).lenI _ ty⟩
  have HC : Hid (∀ W, Below W1.heap.size W1 W → Below w.heap.size w W) := fun W hW => chainB b1.2.1 hW
  rw [hle]
  clear h hs h1 b1 he hb hle hN
  unfold idOf at HL
  cases hneg : e.neg with
  | true =>
    rw [hneg, if_pos rfl] at HL
    cases b with
    | true =>
      go_enter Tryz.func42, Tryz.ntmps42
      go_wp2_with (go_at_call 40; refine HG.out.mono ?_; rintro x W2 ⟨rfl, hb⟩; have q0 := cells7_of (heap_new W2 (.cells e.vals.toArray 52)); have q2 := q0.c2; have q3 := q0.c3; rw [hneg] at q2; obtain ⟨l0, l1, l2⟩ := HL.out _ (chainB hb (below_alloc W2 (.cells e.vals.toArray 52))); have HB2 : Hid (Below W1.heap.size W1 W2) := hb; clear hb q0)
      go_ret
      exact ⟨rfl, HC.out _ (chainB HB2.out (below_alloc _ _))⟩
    | false =>
      go_enter Tryz.func42, Tryz.ntmps42
      go_wp2_with (go_at_call 40; refine HG.out.mono ?_; rintro x W2 ⟨rfl, hb⟩; have q0 := cells7_of (heap_new W2 (.cells e.vals.toArray 52)); have q2 := q0.c2; have q3 := q0.c3; rw [hneg] at q2; have HB2 : Hid (Below W1.heap.size W1 W2) := hb; clear hb q0)
      go_ret
      exact ⟨rfl, HC.out _ (chainB HB2.out (below_alloc _ _))⟩
  | false =>
    rw [hneg, if_neg (by decide)] at HL
    cases b with
    | true =>
      go_enter Tryz.func42, Tryz.ntmps42
      go_wp2_with (go_at_call 40; refine HG.out.mono ?_; rintro x W2 ⟨rfl, hb⟩; have q0 := cells7_of (heap_new W2 (.cells e.vals.toArray 52)); have q2 := q0.c2; have q3 := q0.c3; rw [hneg] at q2; obtain ⟨l0, l1, l2⟩ := HL.out _ (chainB hb (below_alloc W2 (.cells e.vals.toArray 52))); have HB2 : Hid (Below W1.heap.size W1 W2) := hb; clear hb q0)
      go_ret
      exact ⟨rfl, HC.out _ (chainB HB2.out (below_alloc _ _))⟩
    | false =>
      go_enter Tryz.func42, Tryz.ntmps42
      go_wp2_with (go_at_call 40; refine HG.out.mono ?_; rintro x W2 ⟨rfl, hb⟩; have q0 := cells7_of (heap_new W2 (.cells e.vals.toArray 52)); have q2 := q0.c2; have q3 := q0.c3; rw [hneg] at q2; have HB2 : Hid (Below W1.heap.size W1 W2) := hb; clear hb q0)
      go_ret
      exact ⟨rfl, HC.out _ (chainB HB2.out (below_alloc _ _))⟩
end
section
open Go.RowKit
attribute [local go_sem ↓ high] loadEn storeEn loadCa storeCa buildCa
attribute [local go_sem high] eqMN

/-- a list that reads as these keys; G: where it does not lie -/
def RdK (w : World) (v : Value) (ks : List Ky) (G : Nat → Prop) : Prop := ∃ a cap, v = .slice a ks.length cap ∧ ∀ (j : Nat) (k : Ky), ks[j]? = some k → ∃ g o, a = some ⟨g, o, none⟩ ∧ w.cell? ⟨g, o + j * 2, none⟩ = some (.int .i64 k.d) ∧ w.cell? ⟨g, o + j * 2 + 1, none⟩ = some (.string k.nm) ∧ ¬ G g
theorem RowK.rd {w : World} {base : Nat} {v : Value} {ks : List Ky} (h : RowK w base v ks) {G : Nat → Prop} (hG : ∀ g, v.ownBlock = some g → ¬ G g) : RdK w v ks G := by
  obtain ⟨a, cap, rfl⟩ := owns_len h
  refine ⟨a, cap, rfl, fun j k hk => ?_⟩
  obtain ⟨g, rfl, _, _, k0, k1, _⟩ := h.key hk
  exact ⟨g, 0, rfl, by rw [Nat.zero_add]; exact k0, by rw [Nat.zero_add]; exact k1, hG g rfl⟩
theorem delO_mid {w : World} {p : Nat} {c : Pc} (h : IsC w p c) (d : Int) : ∃ W c', (∀ ty, (Builtin.delete_ #[93, 3] ty #[.map (some c.g0), .int .i64 d]).run Tryz.prog w = .ok (.tuple #[]) W) ∧ Aft w W p c c' ∧ Cutt c c' (fun e => decide (e.d ≠ d)) := by
  obtain ⟨V, hr, hm, hO, -⟩ := delM kI undO 0 w (some c.g0) (om2 c.om) h.outer d
  exact ⟨V, _, fun ty => hr, h.delO hm (hO.mono fun q e => by cases e; rfl), cutt_dir h d⟩
theorem hit_all {k : Ky} (h : k.nm = nob) : (fun e => !hitK k e) = fun e : En => decide (e.d ≠ k.d) := by
  funext e
  unfold hitK
  rw [decide_eq_true h, Bool.true_or, Bool.and_true]
  by_cases h1 : e.d = k.d <;> simp [h1]
theorem hit_one {k : Ky} (h : k.nm ≠ nob) : (fun e => !hitK k e) = fun e : En => !hasK k e := by
  funext e
  unfold hitK hasK
  rw [decide_eq_false h, Bool.false_or]
theorem cut_snoc (s : Cs) (ks : List Ky) (j : Nat) (k : Ky) (h : ks[j]? = some k) : s.cut (ks.take (j + 1)) = (s.cut (ks.take j)).cut1 k := by
  unfold Cs.cut
  rw [List.take_add_one, h, List.foldl_append]; rfl
theorem nm_test {nm : ByteArray} (h : nm ≠ nob) : (nm.toList == []) = false := by
  cases hh : (nm.toList == []) with
  | false => rfl
  | true =>
    have h0 : nm.toList = [] := eq_of_beq hh
    exact absurd (bytes_eq.1 (h0.trans nob_list.symm)) h
/-- the end of a round: the directory is not whole any more -/
theorem cut_end {w W W1 : World} {p b : Nat} {c c1 : Pc} {s1 : Cs} {d : Int} (a : Aft w W p c c1) (hb : W.cell? ⟨b, 0, none⟩ = some (.int .i64 d)) (hnb : ¬ c1.blk p b) (hs : Says c1 s1) (hW : W = W1) : ∃ V, (∀ ty, (Builtin.delete_ #[94, 3] ty #[.map (some c1.g1), .int .i64 d]).run Tryz.prog W1.drew = .ok (.tuple #[]) V) ∧ (W1.drew.cell? ⟨p, 1, none⟩ = some (.map (some c1.g1)) ∧ W1.drew.cell? ⟨b, 0, none⟩ = some (.int .i64 d)) ∧ (V.cell? ⟨p, 1, none⟩ = some (.map (some c1.g1)) ∧ V.cell? ⟨b, 0, none⟩ = some (.int .i64 d)) ∧ Hid (∃ c', Aft w V p c c' ∧ Says c' ⟨s1.L, partW s1.W d⟩ ∧ c'.uses = c1.uses) := by
  subst hW
  obtain ⟨V, c2, hr, a2, s2, u2, e0, e1⟩ := delW_mid (a.is.drewN 1) d
  have hc2 := a2.is.cells.2.1
  rw [e1] at hc2
  exact ⟨V, hr, ⟨(a.is.drewN 1).cells.2.1, hb⟩, ⟨hc2, (World.cell?_of_block (a2.only.block _ (cellLt hb) hnb)).trans hb⟩, ⟨c2, (a.post (below_drewN (Below.refl _ _) 1)).trans a2, s2 _ hs, u2⟩⟩
set_option maxHeartbeats 4000000 in
theorem cut_p (p : Nat) (c : Pc) (s : Cs) (v : Value) (ks : List Ky) (w : World) (h : IsC w p c) (hs : Says c s) (hk : RdK w v ks (c.blk p)) (hl : ks.length ≤ 1000000000000000) : Calls Tryz.prog 24 #[.pointer (some ⟨p, 0, none⟩), v] w fun x w' => x = .returned (.tuple #[]) ∧ ∃ c', Aft w w' p c c' ∧ Says c' (s.cut ks) ∧ c'.uses = c.uses := by
  obtain ⟨a, cap, rfl, hk⟩ := hk
  obtain ⟨n, hn⟩ : ∃ n, ks.length = n := ⟨_, rfl⟩
  rw [hn] at hl ⊢
  have HK : Hid (∀ (j : Nat), j < n → ∃ k, ks[j]? = some k ∧ ∃ g o, a = some ⟨g, o, none⟩ ∧ ∀ wr cj, Aft w wr p c cj → wr.cell? ⟨g, o + j * 2, none⟩ = some (.int .i64 k.d) ∧ wr.cell? ⟨g, o + j * 2 + 1, none⟩ = some (.string k.nm)) := fun j hj => by
    obtain ⟨k, he⟩ : ∃ k, ks[j]? = some k := ⟨_, List.getElem?_eq_getElem (by omega)⟩
    obtain ⟨g, o, ha, h0, h1, hg⟩ := hk j k he
    exact ⟨k, he, g, o, ha, fun wr cj hA => ⟨(World.cell?_of_block (hA.only.block _ (cellLt h0) hg)).trans h0, (World.cell?_of_block (hA.only.block _ (cellLt h1) hg)).trans h1⟩⟩
  have HS : Hid (Aft w w p c c ∧ Says c (s.cut (ks.take 0)) ∧ ks.take n = ks ∧ (∀ k, c.blk p k → k < w.heap.size)) := ⟨Aft.refl h (Below.refl _ _), hs, by rw [← hn]; exact List.take_length, fun k hk => h.lt hk⟩
  clear h hs hk hn
  go_enter Tryz.func24, Tryz.ntmps24
  go_wp2
  go_loopw [8, 5] (fun s8 _ wr => ∃ j : Nat, j ≤ n ∧ s8 = .int .i64 j ∧ Hid (∃ cj, Aft w wr p c cj ∧ Says cj (s.cut (ks.take j)) ∧ cj.uses = c.uses)) (fun s8 _ _ => n - (intOf s8).toNat)
  case atStart => exact ⟨0, Nat.zero_le _, rfl, c, HS.out.1, HS.out.2.1, rfl⟩
  case round =>
    obtain ⟨j, hj, rfl, HR⟩ := hrel
    by_cases hlt : j < n
    · obtain ⟨k, he, g, o, rfl, hcell⟩ := HK.out j hlt
      obtain ⟨cj, ha, hsj, huj⟩ := HR.out
      obtain ⟨q0, q1⟩ := hcell wr cj ha
      have hltz : (j : Int) < (n : Int) := by omega
      obtain ⟨W1, hW1⟩ : ∃ W1, wr.alloc (.cells #[.int .i64 k.d, .string k.nm] 29) = W1 := ⟨_, rfl⟩
      have b1 := boxO hW1
      have e0 : W1.cell? ⟨wr.heap.size, 0, none⟩ = some (.int .i64 k.d) := by rw [cell_of b1.1]; rfl
      have e1 : W1.cell? ⟨wr.heap.size, 1, none⟩ = some (.string k.nm) := by rw [cell_of b1.1]; rfl
      have a1 := ha.post b1.2.1
      have nb : ¬ cj.blk p wr.heap.size := fun e => by have := ha.is.lt e; omega
      by_cases hnm : k.nm = nob
      · have hnt : (k.nm.toList == []) = true := by rw [hnm, nob_list]; rfl
        obtain ⟨V, c2, hr, a2, q2⟩ := delO_mid (a1.is.drewN 1) k.d
        have aV := (a1.post (below_drewN (Below.refl _ W1) 1)).trans a2
        have nb2 : ¬ c2.blk p wr.heap.size := fun e => by
          rcases a2.nblk _ e with e | e
          · exact nb e
          · have : W1.heap.size ≤ wr.heap.size := e
            omega
        have f0 : V.cell? ⟨wr.heap.size, 0, none⟩ = some (.int .i64 k.d) := (World.cell?_of_block (a2.only.block _ (cellLt e0) nb)).trans e0
        have kp : W1.drew.cell? ⟨p, 0, none⟩ = some (.map (some cj.g0)) ∧ W1.drew.cell? ⟨wr.heap.size, 0, none⟩ = some (.int .i64 k.d) := ⟨(a1.is.drewN 1).cells.1, e0⟩
        have kq : V.cell? ⟨p, 0, none⟩ = some (.map (some cj.g0)) ∧ V.cell? ⟨wr.heap.size, 0, none⟩ = some (.int .i64 k.d) := ⟨by rw [← q2.g0]; exact a2.is.cells.1, f0⟩
        obtain ⟨V2, hr2, kp2, kq2, HE⟩ := cut_end aV f0 nb2 (q2.says hsj) rfl
        rw [q2.g1] at hr2 kp2 kq2
        have H2 : Hid (∃ cj, Aft w V2 p c cj ∧ Says cj (s.cut (ks.take (j + 1))) ∧ cj.uses = c.uses) := by
          obtain ⟨c', x1, x2, x3⟩ := HE.out
          refine ⟨c', x1, ?_, x3.trans (q2.uses.trans huj)⟩
          rw [cut_snoc s ks j k he]
          unfold Cs.cut1 cutEs
          rw [hit_all hnm]; exact x2
        clear ha hsj huj hcell he b1 a1 nb hnm a2 q2 aV nb2 f0 HE HR
        go_upto_region 4 with fail
        clear hW1
        go_region_held3 (fun W => W.cell? ⟨p, 0, none⟩ = some (.map (some cj.g0)) ∧ W.cell? ⟨wr.heap.size, 0, none⟩ = some (.int .i64 k.d))
          (with_reducible first | exact kp | exact kq)
          (first | (refine step_delM rfl (.tmp 18) (.tmp 20) 93 3 rfl _ _ (by simp [Act.eval]) (by simp [Act.eval]) V hr ?_))
        clear kp kq hr
        go_upto_region 6 with fail
        go_region_held3 (fun W => W.cell? ⟨p, 1, none⟩ = some (.map (some cj.g1)) ∧ W.cell? ⟨wr.heap.size, 0, none⟩ = some (.int .i64 k.d))
          (with_reducible first | exact kp2 | exact kq2)
          (first | (refine step_delM rfl (.tmp 27) (.tmp 29) 94 3 rfl _ _ (by simp [Act.eval]) (by simp [Act.eval]) V2 hr2 ?_))
        go_wp2
        exact ⟨⟨j + 1, by omega, by simp, H2⟩, by simp [intOf]; omega⟩
      · have hnt := nm_test hnm
        have HD : Hid (Calls Tryz.prog 56 #[.pointer (some ⟨p, 0, none⟩), .agg #[.int .i64 k.d, .string k.nm]] W1 fun x w' => x = .returned (.tuple #[]) ∧ ∃ V2, (∀ ty, (Builtin.delete_ #[94, 3] ty #[.map (some cj.g1), .int .i64 k.d]).run Tryz.prog w'.drew = .ok (.tuple #[]) V2) ∧ (w'.drew.cell? ⟨p, 1, none⟩ = some (.map (some cj.g1)) ∧ w'.drew.cell? ⟨wr.heap.size, 0, none⟩ = some (.int .i64 k.d)) ∧ (V2.cell? ⟨p, 1, none⟩ = some (.map (some cj.g1)) ∧ V2.cell? ⟨wr.heap.size, 0, none⟩ = some (.int .i64 k.d)) ∧ Hid (∃ cj, Aft w V2 p c cj ∧ Says cj (s.cut (ks.take (j + 1))) ∧ cj.uses = c.uses)) := by
          refine (drop_p p cj k W1 a1.is).mono ?_
          rintro x V ⟨rfl, c2, a2, q2⟩
          have nb2 : ¬ c2.blk p wr.heap.size := fun e => by
            rcases a2.nblk _ e with e | e
            · exact nb e
            · omega
          have f0 : V.cell? ⟨wr.heap.size, 0, none⟩ = some (.int .i64 k.d) := (World.cell?_of_block (a2.only.block _ (cellLt e0) nb)).trans e0
          obtain ⟨V2, hr2, kp2, kq2, HE⟩ := cut_end (a1.trans a2) f0 nb2 (q2.says hsj) rfl
          rw [q2.g1] at hr2 kp2 kq2
          refine ⟨rfl, V2, hr2, kp2, kq2, ?_⟩
          obtain ⟨c', x1, x2, x3⟩ := HE.out
          refine ⟨c', x1, ?_, x3.trans (q2.uses.trans huj)⟩
          rw [cut_snoc s ks j k he]
          unfold Cs.cut1 cutEs
          rw [hit_one hnm]; exact x2
        clear ha hsj huj hcell he b1 a1 nb hnm HR
        go_upto_region 6 with (go_at_call 56; refine HD.out.mono ?_; rintro x W3 ⟨rfl, V2, hr2, kp2, kq2, H2⟩)
        go_region_held3 (fun W => W.cell? ⟨p, 1, none⟩ = some (.map (some cj.g1)) ∧ W.cell? ⟨wr.heap.size, 0, none⟩ = some (.int .i64 k.d))
          (with_reducible first | exact kp2 | exact kq2)
          (first | (refine step_delM rfl (.tmp 27) (.tmp 29) 94 3 rfl _ _ (by simp [Act.eval]) (by simp [Act.eval]) V2 hr2 ?_))
        go_wp2
        exact ⟨⟨j + 1, by omega, by simp, H2⟩, by simp [intOf]; omega⟩
    · obtain rfl : j = n := by omega
      have hltz : ¬ (j : Int) < (j : Int) := by omega
      have HE : Hid (∃ c', Aft w wr p c c' ∧ Says c' (s.cut ks) ∧ c'.uses = c.uses) := by
        have := HR.out
        rw [HS.out.2.2.1] at this; exact this
      clear HR
      go_wp2
      go_end0
      exact ⟨rfl, HE.out⟩
end
end Go.Proofs.YtmndnjgbbpkidaaGreat
