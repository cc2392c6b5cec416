/- The document's tree: Apply. -/
import Derived.Test.YtjelggpkeogebaaTsG
import Derived.Test.YtjelggpkeogebaaPuP
namespace Go.Proofs.Ytjelggpkeogebaa
open Go.RowKit
attribute [local go_sem high] eqK neqK eqE neqE eqN neqN guardK guardE guardN

theorem kval_at (w : World) (a b : Value) (t : TypeId) : ∀ j u, [a, b][j]? = some u → (w.alloc (.cells #[a, b] t)).cell? ((⟨w.heap.size, 0, none⟩ : Addr).add j) = some u := by
  intro j u hu
  rw [add_plain', Nat.zero_add, cell_of (heap_new _ _)]; simpa using hu
theorem kval_one (d : Int) (nm : ByteArray) : ∀ u ∈ [Value.int .i64 d, .string nm], u.oneCell' = true := by
  intro u hu
  simp at hu
  rcases hu with rfl | rfl <;> rfl
/-- what the document's Apply answers -/
def AppD (t : Nat) (s : Tr) (o : Opn) (w w' : World) (x : Ending) : Prop :=
  (doesE Mn s o ≠ 0 ∧ x = .returned (.tuple #[.pointer (some ⟨t, 0, none⟩), .slice none 0 0, .slice none 0 0, .int .i64 (doesE Mn s o)]) ∧ Below w.heap.size w w') ∨
  (doesE Mn s o = 0 ∧ ∃ t' v' ev kv, x = .returned (.tuple #[.pointer (some ⟨t', 0, none⟩), ev, kv, .int .i64 0]) ∧ IsT w' t' ⟨v', doesL s o, s.vers + 1, doesN s o⟩ ∧ w.heap.size ≤ t' ∧ (∀ q, v'.ownBlock = some q → w.heap.size ≤ q) ∧ Row7 w' w.heap.size ev ((keysL o).map fun k => nowE (doesL s o) k.d k.nm) ∧ RowK w' w.heap.size kv (keysL o) ∧ Below w.heap.size w w')
set_option maxRecDepth 20000 in
set_option maxHeartbeats 16000000 in
theorem applyD_any (t : Nat) (s : Tr) (o : Opn) (w : World) (h : IsT w t s) (hnx : -9223372036854775808 ≤ s.next ∧ s.next < 9223372036854775807) (hv0 : 0 ≤ s.vers) (hv1 : s.vers < 9223372036854775807) :
    Calls Try.prog 11 #[.pointer (some ⟨t, 0, none⟩), .agg o.arr] w fun x w' => AppD t s o w w' x := by
  obtain ⟨i1, hi1, hw0, hw1, hw2⟩ := info_parts Try.infoE
  obtain ⟨j1, hj1, hx0, hx1, hx2⟩ := info_parts Try.infoKy
  obtain ⟨ok, od, onm, odst, onew, omode, otg⟩ := o
  obtain ⟨o, hoq⟩ : ∃ o : Opn, (⟨ok, od, onm, odst, onew, omode, otg⟩ : Opn) = o := ⟨_, rfl⟩
  obtain ⟨E, hE⟩ : ∃ x, doesE Mn s o = x := ⟨_, rfl⟩
  have H : Hid (IsT w t s ∧ (-9223372036854775808 ≤ s.next ∧ s.next < 9223372036854775807) ∧ doesE Mn s o = E ∧ (⟨ok, od, onm, odst, onew, omode, otg⟩ : Opn) = o) := ⟨h, hnx, hE, hoq⟩
  rw [hoq]
  rw [← hoq]
  simp only [Opn.arr]
  rw [hoq]
  clear h hnx hE hoq
  go_enter Try.func11, Try.ntmps11
  go_upto_region 1 with fail
  obtain ⟨W, hW⟩ : ∃ W, w.alloc (.cells #[.int .i64 ok, .int .i64 od, .string onm, .int .i64 odst, .string onew, .int .i64 omode, .string otg] 38) = W := ⟨_, rfl⟩
  have hbW : Below w.heap.size w W := by rw [← hW]; exact below_alloc _ _
  have m0 : W.heap[w.heap.size]? = some (.cells #[.int .i64 ok, .int .i64 od, .string onm, .int .i64 odst, .string onew, .int .i64 omode, .string otg] 38 (0, 0)) := by rw [← hW]; exact heap_new _ _
  have HW : Hid (Below w.heap.size w W ∧ W.heap[w.heap.size]? = some (.cells #[.int .i64 ok, .int .i64 od, .string onm, .int .i64 odst, .string onew, .int .i64 omode, .string otg] 38 (0, 0)) ∧ W.heap.size = w.heap.size + 1) := ⟨hbW, m0, by rw [← hW]; simp⟩
  rw [hW]
  clear hW hbW m0
  go_upto_region 2 with (go_at_call 35; refine (tcopy_any t s _ (H.out.1.below HW.out.1)).mono ?_; rintro x w1 ⟨t1, v1, rfl, ht1, hi1x, hv1', hb1⟩)
  have H1 : Hid (IsT w1 t1 { s with v := v1 } ∧ W.heap.size ≤ t1 ∧ (∀ q, v1.ownBlock = some q → W.heap.size ≤ q) ∧ Below W.heap.size W w1) := ⟨hi1x, ht1, hv1', hb1⟩
  have hop1 := (hb1.block w.heap.size (by have := HW.out.2.2; omega)).trans HW.out.2.1
  have q0 := cell_of hop1 0
  have q1 := cell_of hop1 1
  have q2 := cell_of hop1 2
  have q3 := cell_of hop1 3
  have q4 := cell_of hop1 4
  have q5 := cell_of hop1 5
  have q6 := cell_of hop1 6
  simp at q0 q1 q2 q3 q4 q5 q6
  have HDo : Hid (Calls Try.prog 36 #[.pointer (some ⟨t1, 0, none⟩), .agg #[.int .i64 ok, .int .i64 od, .string onm, .int .i64 odst, .string onew, .int .i64 omode, .string otg]] w1 fun e w' => e = .returned (.int .i64 E) ∧ Hid (Left w1 w' t1 { s with v := v1 } E (doesL s o) (doesN s o))) := by
    have := does_any Mn nmsD t1 { s with v := v1 } o w1 hi1x H.out.2.1 (ren_room _ hi1x.lim _ _ _ _)
    rw [← H.out.2.2.1, ← H.out.2.2.2]
    rw [← H.out.2.2.2] at this
    exact this
  clear hop1 ht1 hi1x hv1' hb1
  go_upto_region 3 with (go_at_call 36; refine HDo.out.mono ?_; rintro x w2 ⟨rfl, h2⟩)
  clear q0 q1 q2 q3 q4 q5 q6 HDo
  by_cases hz : E = 0
  · subst hz
    obtain ⟨v2, h2'⟩ := h2.out.2 rfl
    have hbW2 : Below W.heap.size W w2 := h2'.only.below H1.out.2.2.2 H1.out.2.2.2.size (fun q hq => hq.elim (fun e => e ▸ H1.out.2.1) (H1.out.2.2.1 q))
    have hv2 : ∀ q, v2.ownBlock = some q → W.heap.size ≤ q := fun q hq => by
      rcases h2'.v with e | e
      · exact H1.out.2.2.1 q (by rw [← e]; exact hq)
      · have := e q hq; have := H1.out.2.2.2.size; omega
    have c1 := h2'.is.cells.2.1
    have cf := h2'.is.cells.2.2.2
    simp only at c1
    have hwr : IntKind.i64.wrap (s.vers + 1) = s.vers + 1 := IntWalk.i64_in _ (by omega)
    have hb3 : Below W.heap.size W (w2.setCell ⟨t1, 1, none⟩ (.int .i64 (s.vers + 1))) := (only1 w2 t1 1 _).below hbW2 hbW2.size (fun q hq => by subst hq; exact H1.out.2.1)
    have hi3 : IsT (w2.setCell ⟨t1, 1, none⟩ (.int .i64 (s.vers + 1))) t1 ⟨v2, doesL s o, s.vers + 1, doesN s o⟩ := ⟨(heap_set h2'.is.head 1 _).trans rfl, owns_moved h2'.is.row fun k hk => heap_set_ne ((h2'.is.tv hk).ne h2'.is.tt (by decide)), h2'.is.lim⟩
    obtain ⟨w3, hw3⟩ : ∃ x, w2.setCell ⟨t1, 1, none⟩ (.int .i64 (s.vers + 1)) = x := ⟨_, rfl⟩
    rw [hw3] at hb3 hi3
    have HW3 : Hid (w2.setCell ⟨t1, 1, none⟩ (.int .i64 (s.vers + 1)) = w3) := hw3
    have H3 : Hid (IsT w3 t1 ⟨v2, doesL s o, s.vers + 1, doesN s o⟩ ∧ Below W.heap.size W w3 ∧ (∀ q, v2.ownBlock = some q → W.heap.size ≤ q) ∧ W.heap.size ≤ t1) := ⟨hi3, hb3, hv2, H1.out.2.1⟩
    have hop3 := (hb3.block w.heap.size (by have := HW.out.2.2; omega)).trans HW.out.2.1
    clear hw3 hi3 hb3 hv2 hbW2 h2' h2 H1
    go_upto_region 6 with fail
    rw [HW3.out]
    clear c1 cf HW3 hwr
    have q0 := cell_of hop3 0
    have q1 := cell_of hop3 1
    have q2 := cell_of hop3 2
    have q3 := cell_of hop3 3
    have q4 := cell_of hop3 4
    simp at q0 q1 q2 q3 q4
    have hlt3 : w.heap.size < w3.heap.size := cellLt q0
    clear hop3
    go_upto_region 8 with fail
    obtain ⟨w5, hw5⟩ : ∃ x, (w3.alloc (.cells #[.int .i64 od, .string onm] 52)).alloc (.cells #[.int .i64 odst, .string onew] 52) = x := ⟨_, rfl⟩
    obtain ⟨m0, m1, hb5, hz5⟩ := boxes2 hw5
    rw [hw5]
    have hop5 := (hb5.cell (p := ⟨w.heap.size, 0, none⟩) hlt3).trans q0
    have r0 := cell_of m0 0
    have r1 := cell_of m0 1
    have s0 := cell_of m1 0
    have s1 := cell_of m1 1
    simp at r0 r1 s0 s1
    have hrow5 : RowK w5 w.heap.size (.slice (some ⟨w3.heap.size, 0, none⟩) 1 1) [⟨od, onm⟩] := ⟨rfl, .inr ⟨w3.heap.size, 1, _, rfl, by omega, m0, Nat.le_refl _, by unfold maxLen; omega, rfl, rfl⟩⟩
    have H5 : Hid (RowK w5 w.heap.size (.slice (some ⟨w3.heap.size, 0, none⟩) 1 1) [⟨od, onm⟩] ∧ IsT w5 t1 ⟨v2, doesL s o, s.vers + 1, doesN s o⟩ ∧ Below w.heap.size w w5 ∧ w5.heap.size = w3.heap.size + 1 + 1) := ⟨hrow5, H3.out.1.below hb5, chainB HW.out.1 (chainB H3.out.2.1 hb5), hz5⟩
    have HKs : Hid (keysL o = if ok = 10 ∧ ¬ (odst = od ∧ onew = onm) then (if lessK odst onew od onm then [⟨odst, onew⟩, ⟨od, onm⟩] else [⟨od, onm⟩, ⟨odst, onew⟩]) else [⟨od, onm⟩]) := by rw [← H.out.2.2.2]; rfl
    clear hw5 m0 m1 hb5 hz5 q0 q1 q2 q3 q4 hrow5
    by_cases hk10 : ok = 10
    · by_cases hsame : odst = od ∧ onew = onm
      · have hdec : decide (odst = od ∧ onew = onm) = true := decide_eq_true hsame
        have HK1 : Hid (keysL o = [⟨od, onm⟩]) := by rw [HKs.out, if_neg (by simp [hsame])]; exact rfl
        clear hsame
        subst hk10
        go_quiet (fail)
        obtain ⟨w6, hw6⟩ : ∃ x, w5.drewN nq = x := ⟨_, rfl⟩
        have hb6 : Below w5.heap.size w5 w6 := by rw [← hw6]; exact below_drewN (Below.refl _ _) _
        rw [hw6]
        clear hw6 r0 r1 s0 s1 hop5
        have HKy : Hid (RowK w6 w.heap.size (.slice (some ⟨w3.heap.size, 0, none⟩) 1 1) (keysL o) ∧ IsT w6 t1 ⟨v2, doesL s o, s.vers + 1, doesN s o⟩ ∧ Below w.heap.size w w6 ∧ (keysL o).length = 1 ∧ w3.heap.size < w6.heap.size) := ⟨by rw [HK1.out]; exact H5.out.1.below hb6, H5.out.2.1.below hb6, chainB H5.out.2.2.1 hb6, by rw [HK1.out]; rfl, by have := H5.out.2.2.2; have := hb6.size; omega⟩
        go_upto_region 13 with fail
        go_wp2
        go_loopw [12, 13] (fun u i wr => ∃ k : Nat, k ≤ 1 ∧ i = .int .i64 k ∧ Hid (Row7 wr w6.heap.size u (((keysL o).take k).map fun k => nowE (doesL s o) k.d k.nm) ∧ Below w6.heap.size w6 wr)) (fun _ i _ => 1 - (intOf i).toNat)
        case atStart => exact ⟨0, Nat.zero_le _, rfl, World.ownsRow_nil _ _ _ _, Below.refl _ _⟩
        case round =>
          obtain ⟨k, hk, rfl, hI⟩ := hrel
          by_cases hkm : k < 1
          · obtain ⟨p, hp⟩ : ∃ x, (keysL o)[k]? = some x := ⟨_, List.getElem?_eq_getElem (by rw [HKy.out.2.2.2.1]; exact hkm)⟩
            obtain ⟨g, hg, -, -, z0, z1, -⟩ := (HKy.out.1.below hI.out.2).key hp
            cases hg
            have hki : (k : Int) < (1 : Int) := by omega
            obtain ⟨e, he⟩ : ∃ e, nowE (doesL s o) p.d p.nm = e := ⟨_, rfl⟩
            have HNo : Hid (Calls Try.prog 37 #[.pointer (some ⟨t1, 0, none⟩), .agg #[.int .i64 p.d, .string p.nm]] wr fun x w' => x = .returned (.agg #[.int .i64 e.d, .string e.nm, .bool e.neg, .int .i64 e.id, .int .i64 e.kind, .int .i64 e.mode, .string e.tg]) ∧ Below wr.heap.size wr w') := by
              have := now_any t1 _ p.d p.nm wr (HKy.out.2.1.below hI.out.2)
              rw [he] at this
              exact this
            obtain ⟨G, hG⟩ : ∃ G, (((keysL o).take k).map fun k => nowE (doesL s o) k.d k.nm) = G := ⟨_, rfl⟩
            have hGl : G.length ≤ 2 := by rw [← hG, List.length_map, List.length_take]; omega
            have HT : Hid ((((keysL o).take (k + 1)).map fun k => nowE (doesL s o) k.d k.nm) = G ++ [e] ∧ Row7 wr w6.heap.size u12 G) := ⟨by rw [List.take_add_one, hp, List.map_append, hG]; simp [he], by have := hI.out.1; rw [hG] at this; exact this⟩
            clear hp he hG
            go_wp2_with (first
              | (go_at_call 37; refine HNo.out.mono ?_; rintro x w9 ⟨rfl, hb9⟩; have ho9 := owns_below HT.out.2 hb9; have hbb := chainB hI.out.2 hb9)
              | (at_builtin; refine wpList_append_own_at _ rfl (.tmp 78) (.tmp 85) 22 rfl w6.heap.size 56 i1 _ 7 72 Try.underlying22 hi1 hw0 hw1 hw2 rfl (by decide) _ G.length (ec G) rfl (World.ownsRow.alloc ho9 _) ⟨w9.heap.size, 0, none⟩ 1 1 e.vals rfl rfl (vals_at _ e _) (vals_one e) (by unfold maxLen; omega) (by omega) (by have := hbb.size; simp; omega) ?_; intro v10 w10 hown10 hgrow10 _ _; have H10 : Hid (w10.ownsRow w6.heap.size 56 7 v10 (G.length + 1) (ec G ++ e.vals) ∧ Below w6.heap.size w6 w10) := ⟨hown10, Below.grown (hbb.alloc hbb.size _) hgrow10 (by have := hbb.size; simp; omega) (fun q hq => (World.ownsRow.lt ho9 q hq).1)⟩; clear hown10 hgrow10))
            refine ⟨⟨k + 1, by omega, by simp, ?_, H10.out.2⟩, by simp [intOf]; omega⟩
            rw [HT.out.1]
            unfold Row7
            rw [List.length_append, ec_app]
            have : ec [e] = e.vals := by unfold ec; simp
            rw [this]; exact H10.out.1
          · have hkm' : ¬ (k : Int) < (1 : Int) := by omega
            have hke : (keysL o).take k = keysL o := List.take_of_length_le (by rw [HKy.out.2.2.2.1]; omega)
            have HR : Hid (Row7 wr w6.heap.size u12 ((keysL o).map fun k => nowE (doesL s o) k.d k.nm)) := by have := hI.out.1; rw [hke] at this; exact this
            clear hke
            go_wp2
            (try simp only [Exit.inBlock, Exit.then]); refine bodyPost_ret (results_tmp4 rfl _ _ _) rfl ?_
            exact .inr ⟨H.out.2.2.1, t1, v2, u12, _, rfl, HKy.out.2.1.below hI.out.2, by have := H3.out.2.2.2; have := HW.out.1.size; omega, fun q hq => by have := H3.out.2.2.1 q hq; have := HW.out.1.size; omega, owns_le HR.out HKy.out.2.2.1.size, HKy.out.1.below hI.out.2, chainB HKy.out.2.2.1 hI.out.2⟩
      · have hdec : decide (odst = od ∧ onew = onm) = false := decide_eq_false hsame
        have HK1 : Hid (keysL o = if lessK odst onew od onm then [⟨odst, onew⟩, ⟨od, onm⟩] else [⟨od, onm⟩, ⟨odst, onew⟩]) := by rw [HKs.out, if_pos ⟨hk10, hsame⟩]; exact rfl
        clear hsame
        subst hk10
        go_quiet (fail)
        obtain ⟨w6, hw6⟩ : ∃ x, w5.drewN nq = x := ⟨_, rfl⟩
        have hb6 : Below w5.heap.size w5 w6 := by rw [← hw6]; exact below_drewN (Below.refl _ _) _
        rw [hw6]
        have s0' := (hb6.cell (cellLt s0)).trans s0
        have s1' := (hb6.cell (cellLt s1)).trans s1
        have hrow6 : w6.ownsRow w.heap.size 52 2 (.slice (some ⟨w3.heap.size, 0, none⟩) 1 1) 1 (kc [⟨od, onm⟩]) := H5.out.1.below hb6
        have H6 : Hid (IsT w6 t1 ⟨v2, doesL s o, s.vers + 1, doesN s o⟩ ∧ Below w.heap.size w w6 ∧ w3.heap.size < w6.heap.size) := ⟨H5.out.2.1.below hb6, chainB H5.out.2.2.1 hb6, by have := H5.out.2.2.2; have := hb6.size; omega⟩
        clear hw6 r0 r1 s0 s1 hop5
        go_upto_region 10 with (at_builtin; refine wpList_append_own_at _ rfl (.tmp 51) (.tmp 53) 34 rfl w.heap.size 52 j1 _ 2 24 Try.underlying34 hj1 hx0 hx1 hx2 rfl (by decide) _ 1 (kc [⟨od, onm⟩]) rfl (World.ownsRow.alloc hrow6 _) ⟨w6.heap.size, 0, none⟩ 1 1 [.int .i64 odst, .string onew] rfl rfl (kval_at _ _ _ _) (kval_one _ _) (by unfold maxLen; omega) (by omega) (by have := H6.out.2.1.size; simp; omega) ?_; intro v10 w10 hown10 hgrow10 _ _; have HG : Hid (w10.ownsRow w.heap.size 52 2 v10 (1 + 1) (kc [⟨od, onm⟩] ++ [.int .i64 odst, .string onew]) ∧ (w6.alloc (.cells #[.int .i64 odst, .string onew] 52)).grownBy w10 (Value.slice (some ⟨w3.heap.size, 0, none⟩) 1 1).ownBlock) := ⟨hown10, hgrow10⟩; clear hown10 hgrow10)
        have hgb := HG.out.2
        have hi10 : IsT w10 t1 ⟨v2, doesL s o, s.vers + 1, doesN s o⟩ := (H6.out.1.below (below_alloc w6 _)).moved (hgb.block t1 (by have := H6.out.1.tt.lt; have := (below_alloc w6 (.cells #[.int .i64 odst, .string onew] 52)).size; omega) (fun e => by have := H3.out.1.tt.lt; have e' : t1 = w3.heap.size := Option.some.inj e; omega)) (fun q hq => hgb.block q (by have := (H6.out.1.tv hq).lt; have := (below_alloc w6 (.cells #[.int .i64 odst, .string onew] 52)).size; omega) (fun e => by have := (H3.out.1.tv hq).lt; have e' : q = w3.heap.size := Option.some.inj e; omega))
        have hb10 : Below w.heap.size w w10 := Below.grown (H6.out.2.1.alloc H6.out.2.1.size _) hgb (by have := H6.out.2.1.size; simp; omega) (fun q hq => (World.ownsRow.lt hrow6 q hq).1)
        obtain ⟨g, c, hv10⟩ := owns_form HG.out.1
        subst hv10
        have hr10 : RowK w10 w.heap.size (.slice (some ⟨g, 0, none⟩) (1 + 1) c) [⟨od, onm⟩, ⟨odst, onew⟩] := HG.out.1
        obtain ⟨hcs, hfz, -, -, -, hglt⟩ := owns_cells HG.out.1
        have z0 := hcs 0 (.int .i64 od) rfl
        have z1 := hcs 1 (.string onm) rfl
        have z2 := hcs 2 (.int .i64 odst) rfl
        have z3 := hcs 3 (.string onew) rfl
        have H10 : Hid (RowK w10 w.heap.size (.slice (some ⟨g, 0, none⟩) (1 + 1) c) [⟨od, onm⟩, ⟨odst, onew⟩] ∧ IsT w10 t1 ⟨v2, doesL s o, s.vers + 1, doesN s o⟩ ∧ Below w.heap.size w w10 ∧ g < w10.heap.size) := ⟨hr10, hi10, hb10, hglt⟩
        clear hgb hi10 hb10 hr10 hcs HG hrow6 s0' s1'
        have k0 : w10.drew.cell? ⟨g, 2, none⟩ = some (.int .i64 odst) ∧ w10.drew.cell? ⟨g, 3, none⟩ = some (.string onew) ∧ w10.drew.cell? ⟨g, 0, none⟩ = some (.int .i64 od) ∧ w10.drew.cell? ⟨g, 1, none⟩ = some (.string onm) := ⟨z2, z3, z0, z1⟩
        by_cases hle : lessK odst onew od onm = true
        · have HLs : Hid (∀ W, Calls Try.prog 27 #[.agg #[.int .i64 odst, .string onew], .agg #[.int .i64 od, .string onm]] W fun e w' => e = .returned (.bool true) ∧ Below W.heap.size W w') := by
            intro W; rw [← hle]; exact less_any _ _ _ _ W
          have HK2 : Hid (keysL o = [⟨odst, onew⟩, ⟨od, onm⟩]) := by rw [HK1.out, if_pos hle]; exact rfl
          clear hle
          go_region_held3 (fun w' => w'.cell? ⟨g, 2, none⟩ = some (.int .i64 odst) ∧ w'.cell? ⟨g, 3, none⟩ = some (.string onew) ∧ w'.cell? ⟨g, 0, none⟩ = some (.int .i64 od) ∧ w'.cell? ⟨g, 1, none⟩ = some (.string onm))
            (with_reducible first | exact k0 | exact hK11)
            (first | (go_at_call 27; refine (HLs.out _).mono ?_; rintro x w11 ⟨rfl, hb11⟩; have hK11 : w11.cell? ⟨g, 2, none⟩ = some (.int .i64 odst) ∧ w11.cell? ⟨g, 3, none⟩ = some (.string onew) ∧ w11.cell? ⟨g, 0, none⟩ = some (.int .i64 od) ∧ w11.cell? ⟨g, 1, none⟩ = some (.string onm) := ⟨(hb11.cell (cellLt k0.1)).trans k0.1, (hb11.cell (cellLt k0.2.1)).trans k0.2.1, (hb11.cell (cellLt k0.2.2.1)).trans k0.2.2.1, (hb11.cell (cellLt k0.2.2.2)).trans k0.2.2.2⟩))
          have b11 : Below w10.heap.size w10 w11 := ⟨hb11.os, hb11.tape, hb11.output, hb11.size, hb11.block⟩
          obtain ⟨y2, y3, y0, y1⟩ := hK11
          have fz11 : ∀ j, w11.frozen? ⟨g, j, none⟩ = false := fun j => (b11.frozen (p := ⟨g, j, none⟩) H10.out.2.2.2).trans (hfz j)
          have hr11 := H10.out.1.below b11
          have HP : Hid (RowK ((((w11.setCell ⟨g, 0, none⟩ (.int .i64 odst)).setCell ⟨g, 1, none⟩ (.string onew)).setCell ⟨g, 2, none⟩ (.int .i64 od)).setCell ⟨g, 3, none⟩ (.string onm)) w.heap.size (.slice (some ⟨g, 0, none⟩) (1 + 1) c) [⟨odst, onew⟩, ⟨od, onm⟩] ∧ Only (· = g) w11 ((((w11.setCell ⟨g, 0, none⟩ (.int .i64 odst)).setCell ⟨g, 1, none⟩ (.string onew)).setCell ⟨g, 2, none⟩ (.int .i64 od)).setCell ⟨g, 3, none⟩ (.string onm))) := ⟨((((hr11.stored 0 (.int .i64 odst)).1.stored 1 (.string onew)).1.stored 2 (.int .i64 od)).1.stored 3 (.string onm)).1, (((only1 _ g _ _).trans (only1 _ g _ _)).trans (only1 _ g _ _)).trans (only1 _ g _ _)⟩
          clear hb11 k0 z0 z1 z2 z3 hfz HLs hr11
          obtain ⟨X, hX⟩ : ∃ x, (((w11.setCell ⟨g, 0, none⟩ (.int .i64 odst)).setCell ⟨g, 1, none⟩ (.string onew)).setCell ⟨g, 2, none⟩ (.int .i64 od)).setCell ⟨g, 3, none⟩ (.string onm) = x := ⟨_, rfl⟩
          rw [hX] at HP
          have HX : Hid ((((w11.setCell ⟨g, 0, none⟩ (.int .i64 odst)).setCell ⟨g, 1, none⟩ (.string onew)).setCell ⟨g, 2, none⟩ (.int .i64 od)).setCell ⟨g, 3, none⟩ (.string onm) = X) := hX
          have hg11 : g < w11.heap.size := cellLt y0
          have hiX : IsT X t1 ⟨v2, doesL s o, s.vers + 1, doesN s o⟩ := (H10.out.2.1.below b11).moved (HP.out.2.block t1 (H10.out.2.1.below b11).tt.lt (fun e => (Tag.own (H10.out.1.below b11) (k := g) rfl).ne (H10.out.2.1.below b11).tt (by decide) e.symm)) (fun q hq => HP.out.2.block q ((H10.out.2.1.below b11).tv hq).lt (fun e => (Tag.own (H10.out.1.below b11) (k := g) rfl).ne ((H10.out.2.1.below b11).tv hq) (by decide) e.symm))
          have hbX : Below w.heap.size w X := HP.out.2.below (chainB H10.out.2.2.1 b11) (chainB H10.out.2.2.1 b11).size (fun q hq => by have hq' : q = g := hq; rw [hq']; exact (World.ownsRow.lt H10.out.1 g rfl).1)
          have HQ : Hid (IsT X t1 ⟨v2, doesL s o, s.vers + 1, doesN s o⟩ ∧ Below w.heap.size w X ∧ g < X.heap.size) := ⟨hiX, hbX, by have := HP.out.2.size; omega⟩
          clear hX hiX hbX
          simp only [Nat.reduceAdd] at H10 HP ⊢
          go_upto_region 11 with fail
          go_region_law (fail)
          all_goals
            rw [HX.out]
            obtain ⟨w12, hw12⟩ : ∃ x, X.drew = x := ⟨_, rfl⟩
            have b12 : Below X.heap.size X w12 := by rw [← hw12]; exact (Below.refl _ _).drew
            rw [hw12]
            clear hw12 y0 y1 y2 y3 fz11
            have HKy : Hid (RowK w12 w.heap.size (.slice (some ⟨g, 0, none⟩) 2 c) (keysL o) ∧ IsT w12 t1 ⟨v2, doesL s o, s.vers + 1, doesN s o⟩ ∧ Below w.heap.size w w12 ∧ (keysL o).length = 2 ∧ g < w12.heap.size) := ⟨by rw [HK2.out]; exact HP.out.1.below b12, HQ.out.1.below b12, chainB HQ.out.2.1 b12, by rw [HK2.out]; rfl, by have := HQ.out.2.2; have := b12.size; omega⟩
            go_upto_region 13 with fail
            go_wp2
            go_loopw [12, 13] (fun u i wr => ∃ k : Nat, k ≤ 2 ∧ i = .int .i64 k ∧ Hid (Row7 wr w12.heap.size u (((keysL o).take k).map fun k => nowE (doesL s o) k.d k.nm) ∧ Below w12.heap.size w12 wr)) (fun _ i _ => 2 - (intOf i).toNat)
            case atStart => exact ⟨0, Nat.zero_le _, rfl, World.ownsRow_nil _ _ _ _, Below.refl _ _⟩
            case round =>
              obtain ⟨k, hk, rfl, hI⟩ := hrel
              by_cases hkm : k < 2
              · obtain ⟨p, hp⟩ : ∃ x, (keysL o)[k]? = some x := ⟨_, List.getElem?_eq_getElem (by rw [HKy.out.2.2.2.1]; exact hkm)⟩
                obtain ⟨g, hg, -, -, z0, z1, -⟩ := (HKy.out.1.below hI.out.2).key hp
                cases hg
                have hki : (k : Int) < (2 : Int) := by omega
                obtain ⟨e, he⟩ : ∃ e, nowE (doesL s o) p.d p.nm = e := ⟨_, rfl⟩
                have HNo : Hid (Calls Try.prog 37 #[.pointer (some ⟨t1, 0, none⟩), .agg #[.int .i64 p.d, .string p.nm]] wr fun x w' => x = .returned (.agg #[.int .i64 e.d, .string e.nm, .bool e.neg, .int .i64 e.id, .int .i64 e.kind, .int .i64 e.mode, .string e.tg]) ∧ Below wr.heap.size wr w') := by
                  have := now_any t1 _ p.d p.nm wr (HKy.out.2.1.below hI.out.2)
                  rw [he] at this
                  exact this
                obtain ⟨G, hG⟩ : ∃ G, (((keysL o).take k).map fun k => nowE (doesL s o) k.d k.nm) = G := ⟨_, rfl⟩
                have hGl : G.length ≤ 2 := by rw [← hG, List.length_map, List.length_take]; omega
                have HT : Hid ((((keysL o).take (k + 1)).map fun k => nowE (doesL s o) k.d k.nm) = G ++ [e] ∧ Row7 wr w12.heap.size u12 G) := ⟨by rw [List.take_add_one, hp, List.map_append, hG]; simp [he], by have := hI.out.1; rw [hG] at this; exact this⟩
                clear hp he hG
                go_wp2_with (first
                  | (go_at_call 37; refine HNo.out.mono ?_; rintro x w9 ⟨rfl, hb9⟩; have ho9 := owns_below HT.out.2 hb9; have hbb := chainB hI.out.2 hb9)
                  | (at_builtin; refine wpList_append_own_at _ rfl (.tmp 78) (.tmp 85) 22 rfl w12.heap.size 56 i1 _ 7 72 Try.underlying22 hi1 hw0 hw1 hw2 rfl (by decide) _ G.length (ec G) rfl (World.ownsRow.alloc ho9 _) ⟨w9.heap.size, 0, none⟩ 1 1 e.vals rfl rfl (vals_at _ e _) (vals_one e) (by unfold maxLen; omega) (by omega) (by have := hbb.size; simp; omega) ?_; intro v10 w10 hown10 hgrow10 _ _; have H10 : Hid (w10.ownsRow w12.heap.size 56 7 v10 (G.length + 1) (ec G ++ e.vals) ∧ Below w12.heap.size w12 w10) := ⟨hown10, Below.grown (hbb.alloc hbb.size _) hgrow10 (by have := hbb.size; simp; omega) (fun q hq => (World.ownsRow.lt ho9 q hq).1)⟩; clear hown10 hgrow10))
                refine ⟨⟨k + 1, by omega, by simp, ?_, H10.out.2⟩, by simp [intOf]; omega⟩
                rw [HT.out.1]
                unfold Row7
                rw [List.length_append, ec_app]
                have : ec [e] = e.vals := by unfold ec; simp
                rw [this]; exact H10.out.1
              · have hkm' : ¬ (k : Int) < (2 : Int) := by omega
                have hke : (keysL o).take k = keysL o := List.take_of_length_le (by rw [HKy.out.2.2.2.1]; omega)
                have HR : Hid (Row7 wr w12.heap.size u12 ((keysL o).map fun k => nowE (doesL s o) k.d k.nm)) := by have := hI.out.1; rw [hke] at this; exact this
                clear hke
                go_wp2
                (try simp only [Exit.inBlock, Exit.then]); refine bodyPost_ret (results_tmp4 rfl _ _ _) rfl ?_
                exact .inr ⟨H.out.2.2.1, t1, v2, u12, _, rfl, HKy.out.2.1.below hI.out.2, by have := H3.out.2.2.2; have := HW.out.1.size; omega, fun q hq => by have := H3.out.2.2.1 q hq; have := HW.out.1.size; omega, owns_le HR.out HKy.out.2.2.1.size, HKy.out.1.below hI.out.2, chainB HKy.out.2.2.1 hI.out.2⟩
        · have hle' : lessK odst onew od onm = false := by simpa using hle
          have HLs : Hid (∀ W, Calls Try.prog 27 #[.agg #[.int .i64 odst, .string onew], .agg #[.int .i64 od, .string onm]] W fun e w' => e = .returned (.bool false) ∧ Below W.heap.size W w') := by
            intro W; rw [← hle']; exact less_any _ _ _ _ W
          have HK2 : Hid (keysL o = [⟨od, onm⟩, ⟨odst, onew⟩]) := by rw [HK1.out, if_neg hle]; exact rfl
          clear hle hle'
          go_region_held3 (fun w' => w'.cell? ⟨g, 2, none⟩ = some (.int .i64 odst) ∧ w'.cell? ⟨g, 3, none⟩ = some (.string onew) ∧ w'.cell? ⟨g, 0, none⟩ = some (.int .i64 od) ∧ w'.cell? ⟨g, 1, none⟩ = some (.string onm))
            (with_reducible first | exact k0 | exact hK11)
            (first | (go_at_call 27; refine (HLs.out _).mono ?_; rintro x w11 ⟨rfl, hb11⟩; have hK11 : w11.cell? ⟨g, 2, none⟩ = some (.int .i64 odst) ∧ w11.cell? ⟨g, 3, none⟩ = some (.string onew) ∧ w11.cell? ⟨g, 0, none⟩ = some (.int .i64 od) ∧ w11.cell? ⟨g, 1, none⟩ = some (.string onm) := ⟨(hb11.cell (cellLt k0.1)).trans k0.1, (hb11.cell (cellLt k0.2.1)).trans k0.2.1, (hb11.cell (cellLt k0.2.2.1)).trans k0.2.2.1, (hb11.cell (cellLt k0.2.2.2)).trans k0.2.2.2⟩))
          have b11 : Below w10.heap.size w10 w11 := ⟨hb11.os, hb11.tape, hb11.output, hb11.size, hb11.block⟩
          clear hK11 hb11 k0 z0 z1 z2 z3 hfz HLs
          simp only [Nat.reduceAdd] at H10 ⊢
          have HKy : Hid (RowK w11 w.heap.size (.slice (some ⟨g, 0, none⟩) 2 c) (keysL o) ∧ IsT w11 t1 ⟨v2, doesL s o, s.vers + 1, doesN s o⟩ ∧ Below w.heap.size w w11 ∧ (keysL o).length = 2 ∧ g < w11.heap.size) := ⟨by rw [HK2.out]; exact H10.out.1.below b11, H10.out.2.1.below b11, chainB H10.out.2.2.1 b11, by rw [HK2.out]; rfl, by have := H10.out.2.2.2; have := b11.size; omega⟩
          go_upto_region 13 with fail
          go_wp2
          go_loopw [12, 13] (fun u i wr => ∃ k : Nat, k ≤ 2 ∧ i = .int .i64 k ∧ Hid (Row7 wr w11.heap.size u (((keysL o).take k).map fun k => nowE (doesL s o) k.d k.nm) ∧ Below w11.heap.size w11 wr)) (fun _ i _ => 2 - (intOf i).toNat)
          case atStart => exact ⟨0, Nat.zero_le _, rfl, World.ownsRow_nil _ _ _ _, Below.refl _ _⟩
          case round =>
            obtain ⟨k, hk, rfl, hI⟩ := hrel
            by_cases hkm : k < 2
            · obtain ⟨p, hp⟩ : ∃ x, (keysL o)[k]? = some x := ⟨_, List.getElem?_eq_getElem (by rw [HKy.out.2.2.2.1]; exact hkm)⟩
              obtain ⟨g, hg, -, -, z0, z1, -⟩ := (HKy.out.1.below hI.out.2).key hp
              cases hg
              have hki : (k : Int) < (2 : Int) := by omega
              obtain ⟨e, he⟩ : ∃ e, nowE (doesL s o) p.d p.nm = e := ⟨_, rfl⟩
              have HNo : Hid (Calls Try.prog 37 #[.pointer (some ⟨t1, 0, none⟩), .agg #[.int .i64 p.d, .string p.nm]] wr fun x w' => x = .returned (.agg #[.int .i64 e.d, .string e.nm, .bool e.neg, .int .i64 e.id, .int .i64 e.kind, .int .i64 e.mode, .string e.tg]) ∧ Below wr.heap.size wr w') := by
                have := now_any t1 _ p.d p.nm wr (HKy.out.2.1.below hI.out.2)
                rw [he] at this
                exact this
              obtain ⟨G, hG⟩ : ∃ G, (((keysL o).take k).map fun k => nowE (doesL s o) k.d k.nm) = G := ⟨_, rfl⟩
              have hGl : G.length ≤ 2 := by rw [← hG, List.length_map, List.length_take]; omega
              have HT : Hid ((((keysL o).take (k + 1)).map fun k => nowE (doesL s o) k.d k.nm) = G ++ [e] ∧ Row7 wr w11.heap.size u12 G) := ⟨by rw [List.take_add_one, hp, List.map_append, hG]; simp [he], by have := hI.out.1; rw [hG] at this; exact this⟩
              clear hp he hG
              go_wp2_with (first
                | (go_at_call 37; refine HNo.out.mono ?_; rintro x w9 ⟨rfl, hb9⟩; have ho9 := owns_below HT.out.2 hb9; have hbb := chainB hI.out.2 hb9)
                | (at_builtin; refine wpList_append_own_at _ rfl (.tmp 78) (.tmp 85) 22 rfl w11.heap.size 56 i1 _ 7 72 Try.underlying22 hi1 hw0 hw1 hw2 rfl (by decide) _ G.length (ec G) rfl (World.ownsRow.alloc ho9 _) ⟨w9.heap.size, 0, none⟩ 1 1 e.vals rfl rfl (vals_at _ e _) (vals_one e) (by unfold maxLen; omega) (by omega) (by have := hbb.size; simp; omega) ?_; intro v10 w10 hown10 hgrow10 _ _; have H10 : Hid (w10.ownsRow w11.heap.size 56 7 v10 (G.length + 1) (ec G ++ e.vals) ∧ Below w11.heap.size w11 w10) := ⟨hown10, Below.grown (hbb.alloc hbb.size _) hgrow10 (by have := hbb.size; simp; omega) (fun q hq => (World.ownsRow.lt ho9 q hq).1)⟩; clear hown10 hgrow10))
              refine ⟨⟨k + 1, by omega, by simp, ?_, H10.out.2⟩, by simp [intOf]; omega⟩
              rw [HT.out.1]
              unfold Row7
              rw [List.length_append, ec_app]
              have : ec [e] = e.vals := by unfold ec; simp
              rw [this]; exact H10.out.1
            · have hkm' : ¬ (k : Int) < (2 : Int) := by omega
              have hke : (keysL o).take k = keysL o := List.take_of_length_le (by rw [HKy.out.2.2.2.1]; omega)
              have HR : Hid (Row7 wr w11.heap.size u12 ((keysL o).map fun k => nowE (doesL s o) k.d k.nm)) := by have := hI.out.1; rw [hke] at this; exact this
              clear hke
              go_wp2
              (try simp only [Exit.inBlock, Exit.then]); refine bodyPost_ret (results_tmp4 rfl _ _ _) rfl ?_
              exact .inr ⟨H.out.2.2.1, t1, v2, u12, _, rfl, HKy.out.2.1.below hI.out.2, by have := H3.out.2.2.2; have := HW.out.1.size; omega, fun q hq => by have := H3.out.2.2.1 q hq; have := HW.out.1.size; omega, owns_le HR.out HKy.out.2.2.1.size, HKy.out.1.below hI.out.2, chainB HKy.out.2.2.1 hI.out.2⟩
    · have hkb : (ok == 10) = false := by simpa using hk10
      have HK1 : Hid (keysL o = [⟨od, onm⟩]) := by rw [HKs.out, if_neg (by simp [hk10])]; exact rfl
      clear hk10
      go_quiet (fail)
      obtain ⟨w6, hw6⟩ : ∃ x, w5.drewN nq = x := ⟨_, rfl⟩
      have hb6 : Below w5.heap.size w5 w6 := by rw [← hw6]; exact below_drewN (Below.refl _ _) _
      rw [hw6]
      clear hw6 r0 r1 s0 s1 hop5
      have HKy : Hid (RowK w6 w.heap.size (.slice (some ⟨w3.heap.size, 0, none⟩) 1 1) (keysL o) ∧ IsT w6 t1 ⟨v2, doesL s o, s.vers + 1, doesN s o⟩ ∧ Below w.heap.size w w6 ∧ (keysL o).length = 1 ∧ w3.heap.size < w6.heap.size) := ⟨by rw [HK1.out]; exact H5.out.1.below hb6, H5.out.2.1.below hb6, chainB H5.out.2.2.1 hb6, by rw [HK1.out]; rfl, by have := H5.out.2.2.2; have := hb6.size; omega⟩
      go_upto_region 13 with fail
      go_wp2
      go_loopw [12, 13] (fun u i wr => ∃ k : Nat, k ≤ 1 ∧ i = .int .i64 k ∧ Hid (Row7 wr w6.heap.size u (((keysL o).take k).map fun k => nowE (doesL s o) k.d k.nm) ∧ Below w6.heap.size w6 wr)) (fun _ i _ => 1 - (intOf i).toNat)
      case atStart => exact ⟨0, Nat.zero_le _, rfl, World.ownsRow_nil _ _ _ _, Below.refl _ _⟩
      case round =>
        obtain ⟨k, hk, rfl, hI⟩ := hrel
        by_cases hkm : k < 1
        · obtain ⟨p, hp⟩ : ∃ x, (keysL o)[k]? = some x := ⟨_, List.getElem?_eq_getElem (by rw [HKy.out.2.2.2.1]; exact hkm)⟩
          obtain ⟨g, hg, -, -, z0, z1, -⟩ := (HKy.out.1.below hI.out.2).key hp
          cases hg
          have hki : (k : Int) < (1 : Int) := by omega
          obtain ⟨e, he⟩ : ∃ e, nowE (doesL s o) p.d p.nm = e := ⟨_, rfl⟩
          have HNo : Hid (Calls Try.prog 37 #[.pointer (some ⟨t1, 0, none⟩), .agg #[.int .i64 p.d, .string p.nm]] wr fun x w' => x = .returned (.agg #[.int .i64 e.d, .string e.nm, .bool e.neg, .int .i64 e.id, .int .i64 e.kind, .int .i64 e.mode, .string e.tg]) ∧ Below wr.heap.size wr w') := by
            have := now_any t1 _ p.d p.nm wr (HKy.out.2.1.below hI.out.2)
            rw [he] at this
            exact this
          obtain ⟨G, hG⟩ : ∃ G, (((keysL o).take k).map fun k => nowE (doesL s o) k.d k.nm) = G := ⟨_, rfl⟩
          have hGl : G.length ≤ 2 := by rw [← hG, List.length_map, List.length_take]; omega
          have HT : Hid ((((keysL o).take (k + 1)).map fun k => nowE (doesL s o) k.d k.nm) = G ++ [e] ∧ Row7 wr w6.heap.size u12 G) := ⟨by rw [List.take_add_one, hp, List.map_append, hG]; simp [he], by have := hI.out.1; rw [hG] at this; exact this⟩
          clear hp he hG
          go_wp2_with (first
            | (go_at_call 37; refine HNo.out.mono ?_; rintro x w9 ⟨rfl, hb9⟩; have ho9 := owns_below HT.out.2 hb9; have hbb := chainB hI.out.2 hb9)
            | (at_builtin; refine wpList_append_own_at _ rfl (.tmp 78) (.tmp 85) 22 rfl w6.heap.size 56 i1 _ 7 72 Try.underlying22 hi1 hw0 hw1 hw2 rfl (by decide) _ G.length (ec G) rfl (World.ownsRow.alloc ho9 _) ⟨w9.heap.size, 0, none⟩ 1 1 e.vals rfl rfl (vals_at _ e _) (vals_one e) (by unfold maxLen; omega) (by omega) (by have := hbb.size; simp; omega) ?_; intro v10 w10 hown10 hgrow10 _ _; have H10 : Hid (w10.ownsRow w6.heap.size 56 7 v10 (G.length + 1) (ec G ++ e.vals) ∧ Below w6.heap.size w6 w10) := ⟨hown10, Below.grown (hbb.alloc hbb.size _) hgrow10 (by have := hbb.size; simp; omega) (fun q hq => (World.ownsRow.lt ho9 q hq).1)⟩; clear hown10 hgrow10))
          refine ⟨⟨k + 1, by omega, by simp, ?_, H10.out.2⟩, by simp [intOf]; omega⟩
          rw [HT.out.1]
          unfold Row7
          rw [List.length_append, ec_app]
          have : ec [e] = e.vals := by unfold ec; simp
          rw [this]; exact H10.out.1
        · have hkm' : ¬ (k : Int) < (1 : Int) := by omega
          have hke : (keysL o).take k = keysL o := List.take_of_length_le (by rw [HKy.out.2.2.2.1]; omega)
          have HR : Hid (Row7 wr w6.heap.size u12 ((keysL o).map fun k => nowE (doesL s o) k.d k.nm)) := by have := hI.out.1; rw [hke] at this; exact this
          clear hke
          go_wp2
          (try simp only [Exit.inBlock, Exit.then]); refine bodyPost_ret (results_tmp4 rfl _ _ _) rfl ?_
          exact .inr ⟨H.out.2.2.1, t1, v2, u12, _, rfl, HKy.out.2.1.below hI.out.2, by have := H3.out.2.2.2; have := HW.out.1.size; omega, fun q hq => by have := H3.out.2.2.1 q hq; have := HW.out.1.size; omega, owns_le HR.out HKy.out.2.2.1.size, HKy.out.1.below hI.out.2, chainB HKy.out.2.2.1 hI.out.2⟩
  · have hzb : (E != 0) = true := by simpa using hz
    have HZ : Hid (E ≠ 0 ∧ Below w.heap.size w w2) := ⟨hz, chainB (chainB HW.out.1 H1.out.2.2.2) (h2.out.1 hz)⟩
    clear hz h2
    go_wp2
    (try simp only [Exit.inBlock, Exit.then]); refine bodyPost_ret (results_tmp4 rfl _ _ _) rfl ?_
    exact .inl ⟨by rw [H.out.2.2.1]; exact HZ.out.1, by rw [H.out.2.2.1]; rfl, HZ.out.2⟩
end Go.Proofs.Ytjelggpkeogebaa
