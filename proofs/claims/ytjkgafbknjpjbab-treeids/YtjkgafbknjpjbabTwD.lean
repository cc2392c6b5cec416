/- The walk of the law TreeIds: it returns true. -/
import Derived.Test.YtjkgafbknjpjbabTqI
import Derived.Test.YtjkgafbknjpjbabTpX
import Derived.Test.YtjkgafbknjpjbabPuI
namespace Go.Proofs.Ytjkgafbknjpjbab
open Go.RowKit
attribute [local go_sem high] eqK' neqK' eqE neqE eqN neqN guardK guardE guardN

/-- what the loop of the law keeps -/
structure IdsL (w wr : World) (t : Nat) (s : Tr) (k : Int) (v : Value) (ks : List Int) : Prop where
  law : Law w wr t s k
  row : RowI wr w.heap.size v ks
  ids : IdsP ks s
theorem IdsL.below {w wr w' : World} {t : Nat} {s : Tr} {k : Int} {v : Value} {ks : List Int} (h : IdsL w wr t s k v ks) (hb : Below wr.heap.size wr w') : IdsL w w' t s k v ks := ⟨h.law.below hb, h.row.below hb, h.ids⟩
set_option maxRecDepth 20000 in
set_option maxHeartbeats 16000000 in
theorem walk_TreeIds (a : Option Addr) (cap : Nat) (ops : List Opn) (w : World) (row : RowOps w a ops) (hlen : ops.length ≤ 3000000000000) :
    Calls Try.prog 3 #[.slice a ops.length cap] w fun e w' => e = .returned (.bool true) ∧ Below w.heap.size w w' := by
  obtain ⟨i1, hi1, hw0, hw1, hw2⟩ := info_parts Try.infoI
  have HAw : Hid (∀ w, Calls Try.prog 13 #[] w fun e w' => e = .returned (.bool true) ∧ Below w.heap.size w w') := awake_p
  obtain ⟨n, hn⟩ : ∃ n, ops.length = n := ⟨_, rfl⟩
  rw [hn] at hlen ⊢
  have H : Hid (RowOps w a ops ∧ ops.length = n) := ⟨row, hn⟩
  clear row hn
  go_enter Try.func3, Try.ntmps3
  go_wp2_with (go_at_call 9; refine (new_p _).mono ?_; rintro x w1 ⟨rfl, hi1', hb1⟩)
  have H1 : Hid (IdsL w w1 w.heap.size emptyT 0 (.slice none 0 0) []) := ⟨⟨⟨hi1', Nat.le_refl _, fun q hq => by cases hq⟩, hb1, Good.new Mn⟩, World.ownsRow_nil _ _ _ _, IdsP.new⟩
  clear hi1' hb1
  go_loopw [4, 5] (fun u i wr => ∃ (k : Nat) (s : Tr) (ks : List Int), k ≤ n ∧ i = .int .i64 k ∧ ks.length ≤ k ∧ Hid (IdsL w wr w.heap.size s k u ks)) (fun _ i _ => n - (intOf i).toNat)
  case atStart => exact ⟨0, emptyT, [], Nat.zero_le _, rfl, Nat.le_refl _, H1.out⟩
  case round =>
    obtain ⟨k, s, ks, hk, rfl, hksk, hI⟩ := hrel
    by_cases hkn : k < n
    · obtain ⟨o, ho⟩ : ∃ o, ops[k]? = some o := ⟨_, List.getElem?_eq_getElem (by rw [H.out.2]; exact hkn)⟩
      rcases H.out.1 with h0 | ⟨b, off, rfl, hbl, hcs⟩
      · rw [h0] at ho; simp at ho
      · have hc := (hcs k o ho).below hbl hI.out.law.bel
        have x0 := hc.c0
        have x1 := hc.c1
        have x2 := hc.c2
        have x3 := hc.c3
        have x4 := hc.c4
        have x5 := hc.c5
        have x6 := hc.c6
        have hki : (k : Int) < (n : Int) := by omega
        obtain ⟨m, hm⟩ : ∃ m, ks.length = m := ⟨_, rfl⟩
        rw [hm] at hksk
        have hnx : s.next = (m : Int) + 2 := by rw [hI.out.ids.next, hm]
        have HNx : Hid (∀ w, IsP w w.heap.size s → True) := fun _ _ => trivial
        have HN : Hid (∀ W, IsP W w.heap.size s → Calls Try.prog 10 #[.pointer (some ⟨w.heap.size, 0, none⟩)] W fun e w' => e = .returned (.int .i64 ((m : Int) + 2)) ∧ w' = W) := fun W h => by rw [← hnx]; exact next_p _ s W h
        obtain ⟨E, hE⟩ : ∃ x, doesE Mn s o = x := ⟨_, rfl⟩
        have HAp : Hid (Calls Try.prog 11 #[.pointer (some ⟨w.heap.size, 0, none⟩), .agg #[.int .i64 o.kind, .int .i64 o.dir, .string o.nm, .int .i64 o.dst, .string o.new, .int .i64 o.mode, .string o.tg]] wr fun e w' => ∃ v kv s', e = .returned (.tuple #[v, kv, .int .i64 E]) ∧ Hid (Did w w' w.heap.size s s' k o v kv ∧ PS wr w' w.heap.size s s' ∧ RowI w' w.heap.size u4 ks)) := (hI.out.law.apply o (by omega)).mono fun e w' hh => by
          obtain ⟨v, kv, s', he, hd, hps⟩ := hI.out.law.did hh
          exact ⟨v, kv, s', by rw [← hE]; exact he, hd, hps, rowI_step hI.out.row hI.out.law.own.is hps⟩
        have HO : Hid (doesE Mn s o = E ∧ ks.length = m ∧ s.next = (m : Int) + 2 ∧ CellsO w b (off + k * 7) o ∧ b < w.heap.size) := ⟨hE, hm, hnx, hcs k o ho, hbl⟩
        clear hc hcs ho hm hnx hE HNx
        by_cases hz : E = 0
        · subst hz
          go_upto_region 11 with (first
            | (go_at_call 10; refine (HN.out _ hI.out.law.own.is).mono ?_; rintro x w1' ⟨rfl, rfl⟩)
            | (go_at_call 11; refine HAp.out.mono ?_; rintro x w2 ⟨v2, k2, s2, rfl, h2⟩))
          clear x0 x1 x2 x3 x4 x5 x6 HN HAp
          have y0 := (HO.out.2.2.2.1.below HO.out.2.2.2.2 h2.out.1.law.bel).c0
          have hst := h2.out.1.step.yes HO.out.1
          have hwf := hI.out.law.good.wf
          by_cases hmade : o.kind = 5 ∨ o.kind = 6 ∨ o.kind = 7
          · obtain ⟨x, hT, hxi, hsn, hids⟩ := IdsP.made hwf HO.out.1 hI.out.ids hmade hst.1 hst.2.2
            rw [HO.out.2.2.1] at hxi hsn
            have hrow := h2.out.1.told.row
            unfold toldE at hrow
            rw [HO.out.1, if_pos rfl, hT] at hrow
            obtain ⟨a2, c2, hv2⟩ := owns_len hrow
            subst hv2
            obtain ⟨g2, rfl, -, -, hg2, hc2, -⟩ := owns_entry (i := 0) hrow rfl
            have z3 := hc2.c3
            have z4 := hc2.c4
            simp only [Nat.zero_mul, Nat.zero_add, hxi] at z3 z4
            have hlen1 : ([x] : List En).length = 1 := rfl
            simp only [List.length_singleton]
            have HN2 : Hid (∀ W, IsP W w.heap.size s2 → Calls Try.prog 10 #[.pointer (some ⟨w.heap.size, 0, none⟩)] W fun e w' => e = .returned (.int .i64 ((m : Int) + 2 + 1)) ∧ w' = W) := fun W h => by rw [← hsn]; exact next_p _ s2 W h
            obtain ⟨a4, c4, hu4⟩ := owns_len h2.out.2.2
            rw [HO.out.2.1] at hu4
            subst hu4
            have HD : Hid (Law w w2 w.heap.size s2 ((k : Int) + 1) ∧ IdsP (ks ++ [x.kind]) s2 ∧ RowI w2 w.heap.size (.slice a4 m c4) ks) := ⟨h2.out.1.law, hids, h2.out.2.2⟩
            clear hrow hc2 hT hxi hsn hids hst hwf hlen1
            rcases hmade with h5 | h5 | h5
            · have h5b : (o.kind == 5) = true := by simpa using h5
              go_upto_region 16 with (first
                | (go_at_call 10; refine (HN2.out _ HD.out.1.own.is).mono ?_; rintro x' w3 ⟨rfl, rfl⟩)
                | (at_builtin; refine wpList_append_own_at _ rfl (.tmp 86) (.tmp 92) 25 rfl w.heap.size 3 i1 _ 1 8 Try.underlying25 hi1 hw0 hw1 hw2 rfl (by decide) _ m (ic ks) rfl (World.ownsRow.alloc (by have := HD.out.2.2; unfold RowI at this; rw [HO.out.2.1] at this; exact this) _) ⟨w3.heap.size, 0, none⟩ 1 1 [.int .i64 x.kind] rfl rfl (ival_at _ _ _) (ival_one _) (by unfold maxLen; omega) (by omega) (by have := HD.out.1.bel.size; simp; omega) ?_; intro v5 w5 hown5 hgrow5 _ _; have H5 : Hid (w5.ownsRow w.heap.size 3 1 v5 (m + 1) (ic ks ++ [.int .i64 x.kind]) ∧ Law w w5 w.heap.size s2 ((k : Int) + 1)) := ⟨hown5, HD.out.1.grown HD.out.2.2 _ hgrow5⟩; clear hown5 hgrow5))
              have HE : Hid (IdsL w w5 w.heap.size s2 ((k : Int) + 1) v5 (ks ++ [x.kind])) := ⟨H5.out.2, by unfold RowI; rw [List.length_append, HO.out.2.1, ic_snoc]; exact H5.out.1, HD.out.2.1⟩
              clear H5 z3 z4 y0 HN2
              obtain ⟨M, hM⟩ : ∃ M, (ks ++ [x.kind]).length = M := ⟨_, rfl⟩
              obtain ⟨a6, c6, hu6⟩ := owns_len HE.out.row
              rw [hM] at hu6
              subst hu6
              have HK : Hid ((ks ++ [x.kind]).length = M) := hM
              have hM3 : M ≤ k + 1 := by rw [← hM]; rw [List.length_append, HO.out.2.1]; simp; omega
              clear hM
              go_upto_region 17 with (go_at_call 12; refine (dump_p _ s2 _ HE.out.law.own.is).mono ?_; rintro x' w6 ⟨v6, rfl, hr6, hb6⟩)
              obtain ⟨n6, hn6⟩ : ∃ n6, s2.es.length = n6 := ⟨_, rfl⟩
              obtain ⟨a7, c7, hv6⟩ := owns_len hr6
              rw [hn6] at hv6
              subst hv6
              have hn47 : n6 ≤ 47 := by rw [← hn6]; exact HE.out.law.good.wf.len
              have H6 : Hid (IdsL w w6 w.heap.size s2 ((k : Int) + 1) (.slice a6 M c6) (ks ++ [x.kind]) ∧ Row7 w6 w5.heap.size (.slice a7 n6 c7) s2.es ∧ s2.es.length = n6) := ⟨HE.out.below hb6, hr6, hn6⟩
              clear hr6 hb6 hn6
              go_wp2
              go_loopw [12, 13] (fun i _ wr => ∃ q : Nat, q ≤ n6 ∧ i = .int .i64 q ∧ Below w6.heap.size w6 wr) (fun i _ _ => n6 - (intOf i).toNat)
              case atStart => exact ⟨0, Nat.zero_le _, rfl, Below.refl _ _⟩
              case round =>
                obtain ⟨q, hq, rfl, hb⟩ := hrel
                have HB : Hid (Below w6.heap.size w6 wr) := hb
                clear hb
                by_cases hlt : q < n6
                · obtain ⟨e, he⟩ : ∃ x, s2.es[q]? = some x := ⟨_, List.getElem?_eq_getElem (by rw [H6.out.2.2]; exact hlt)⟩
                  obtain ⟨g7, rfl, -, -, -, hc7, -⟩ := owns_entry H6.out.2.1 he
                  have hem := List.mem_of_getElem? he
                  have hid := H6.out.1.law.good.wf.ids e hem
                  obtain ⟨j, hj⟩ : ∃ j : Nat, e.id = (j : Int) + 2 := ⟨(e.id - 2).toNat, by omega⟩
                  have hkd := H6.out.1.ids.kinds e hem j hj
                  have hjM : j < M := by have := (List.getElem?_eq_some_iff.1 hkd).1; rw [HK.out] at this; exact this
                  obtain ⟨g6, rfl, -, r6⟩ := H6.out.1.row.num hkd
                  have y0' := (HB.out.cell (cellLt r6)).trans r6
                  have hc8 := hc7.below HB.out
                  have y3 := hc8.c3
                  have y4 := hc8.c4
                  rw [hj] at y3
                  have hqi : (q : Int) < (n6 : Int) := by omega
                  have h2f : ((j : Int) + 2 < 2) = False := by simp; omega
                  have hjM1 : ¬ (M : Int) ≤ (j : Int) + 2 - 2 := by omega
                  have hjM2 : ¬ (M : Int) ≤ (j : Int) := by omega
                  have hjM3 : ¬ M ≤ j := by omega
                  clear hc7 hc8 hem hid hkd he hj r6
                  go_upto_region 21 with fail
                  go_quiet (fail)
                  go_wp2
                  exact ⟨⟨q + 1, by omega, by simp, below_drewN HB.out _⟩, by simp [intOf]; omega⟩
                · have hqn : q = n6 := by omega
                  subst hqn
                  go_wp2
                  exact ⟨⟨k + 1, s2, ks ++ [x.kind], by omega, by simp, by rw [HK.out]; exact hM3, by rw [show ((k + 1 : Nat) : Int) = (k : Int) + 1 by omega]; exact H6.out.1.below HB.out⟩, by simp [intOf]; omega⟩
            · have h5b : (o.kind == 6) = true := by simpa using h5
              have h15b : (o.kind == 5) = false := by simp; omega
              go_upto_region 16 with (first
                | (go_at_call 10; refine (HN2.out _ HD.out.1.own.is).mono ?_; rintro x' w3 ⟨rfl, rfl⟩)
                | (at_builtin; refine wpList_append_own_at _ rfl (.tmp 86) (.tmp 92) 25 rfl w.heap.size 3 i1 _ 1 8 Try.underlying25 hi1 hw0 hw1 hw2 rfl (by decide) _ m (ic ks) rfl (World.ownsRow.alloc (by have := HD.out.2.2; unfold RowI at this; rw [HO.out.2.1] at this; exact this) _) ⟨w3.heap.size, 0, none⟩ 1 1 [.int .i64 x.kind] rfl rfl (ival_at _ _ _) (ival_one _) (by unfold maxLen; omega) (by omega) (by have := HD.out.1.bel.size; simp; omega) ?_; intro v5 w5 hown5 hgrow5 _ _; have H5 : Hid (w5.ownsRow w.heap.size 3 1 v5 (m + 1) (ic ks ++ [.int .i64 x.kind]) ∧ Law w w5 w.heap.size s2 ((k : Int) + 1)) := ⟨hown5, HD.out.1.grown HD.out.2.2 _ hgrow5⟩; clear hown5 hgrow5))
              have HE : Hid (IdsL w w5 w.heap.size s2 ((k : Int) + 1) v5 (ks ++ [x.kind])) := ⟨H5.out.2, by unfold RowI; rw [List.length_append, HO.out.2.1, ic_snoc]; exact H5.out.1, HD.out.2.1⟩
              clear H5 z3 z4 y0 HN2
              obtain ⟨M, hM⟩ : ∃ M, (ks ++ [x.kind]).length = M := ⟨_, rfl⟩
              obtain ⟨a6, c6, hu6⟩ := owns_len HE.out.row
              rw [hM] at hu6
              subst hu6
              have HK : Hid ((ks ++ [x.kind]).length = M) := hM
              have hM3 : M ≤ k + 1 := by rw [← hM]; rw [List.length_append, HO.out.2.1]; simp; omega
              clear hM
              go_upto_region 17 with (go_at_call 12; refine (dump_p _ s2 _ HE.out.law.own.is).mono ?_; rintro x' w6 ⟨v6, rfl, hr6, hb6⟩)
              obtain ⟨n6, hn6⟩ : ∃ n6, s2.es.length = n6 := ⟨_, rfl⟩
              obtain ⟨a7, c7, hv6⟩ := owns_len hr6
              rw [hn6] at hv6
              subst hv6
              have hn47 : n6 ≤ 47 := by rw [← hn6]; exact HE.out.law.good.wf.len
              have H6 : Hid (IdsL w w6 w.heap.size s2 ((k : Int) + 1) (.slice a6 M c6) (ks ++ [x.kind]) ∧ Row7 w6 w5.heap.size (.slice a7 n6 c7) s2.es ∧ s2.es.length = n6) := ⟨HE.out.below hb6, hr6, hn6⟩
              clear hr6 hb6 hn6
              go_wp2
              go_loopw [12, 13] (fun i _ wr => ∃ q : Nat, q ≤ n6 ∧ i = .int .i64 q ∧ Below w6.heap.size w6 wr) (fun i _ _ => n6 - (intOf i).toNat)
              case atStart => exact ⟨0, Nat.zero_le _, rfl, Below.refl _ _⟩
              case round =>
                obtain ⟨q, hq, rfl, hb⟩ := hrel
                have HB : Hid (Below w6.heap.size w6 wr) := hb
                clear hb
                by_cases hlt : q < n6
                · obtain ⟨e, he⟩ : ∃ x, s2.es[q]? = some x := ⟨_, List.getElem?_eq_getElem (by rw [H6.out.2.2]; exact hlt)⟩
                  obtain ⟨g7, rfl, -, -, -, hc7, -⟩ := owns_entry H6.out.2.1 he
                  have hem := List.mem_of_getElem? he
                  have hid := H6.out.1.law.good.wf.ids e hem
                  obtain ⟨j, hj⟩ : ∃ j : Nat, e.id = (j : Int) + 2 := ⟨(e.id - 2).toNat, by omega⟩
                  have hkd := H6.out.1.ids.kinds e hem j hj
                  have hjM : j < M := by have := (List.getElem?_eq_some_iff.1 hkd).1; rw [HK.out] at this; exact this
                  obtain ⟨g6, rfl, -, r6⟩ := H6.out.1.row.num hkd
                  have y0' := (HB.out.cell (cellLt r6)).trans r6
                  have hc8 := hc7.below HB.out
                  have y3 := hc8.c3
                  have y4 := hc8.c4
                  rw [hj] at y3
                  have hqi : (q : Int) < (n6 : Int) := by omega
                  have h2f : ((j : Int) + 2 < 2) = False := by simp; omega
                  have hjM1 : ¬ (M : Int) ≤ (j : Int) + 2 - 2 := by omega
                  have hjM2 : ¬ (M : Int) ≤ (j : Int) := by omega
                  have hjM3 : ¬ M ≤ j := by omega
                  clear hc7 hc8 hem hid hkd he hj r6
                  go_upto_region 21 with fail
                  go_quiet (fail)
                  go_wp2
                  exact ⟨⟨q + 1, by omega, by simp, below_drewN HB.out _⟩, by simp [intOf]; omega⟩
                · have hqn : q = n6 := by omega
                  subst hqn
                  go_wp2
                  exact ⟨⟨k + 1, s2, ks ++ [x.kind], by omega, by simp, by rw [HK.out]; exact hM3, by rw [show ((k + 1 : Nat) : Int) = (k : Int) + 1 by omega]; exact H6.out.1.below HB.out⟩, by simp [intOf]; omega⟩
            · have h5b : (o.kind == 7) = true := by simpa using h5
              have h15b : (o.kind == 5) = false := by simp; omega
              have h16b : (o.kind == 6) = false := by simp; omega
              go_upto_region 16 with (first
                | (go_at_call 10; refine (HN2.out _ HD.out.1.own.is).mono ?_; rintro x' w3 ⟨rfl, rfl⟩)
                | (at_builtin; refine wpList_append_own_at _ rfl (.tmp 86) (.tmp 92) 25 rfl w.heap.size 3 i1 _ 1 8 Try.underlying25 hi1 hw0 hw1 hw2 rfl (by decide) _ m (ic ks) rfl (World.ownsRow.alloc (by have := HD.out.2.2; unfold RowI at this; rw [HO.out.2.1] at this; exact this) _) ⟨w3.heap.size, 0, none⟩ 1 1 [.int .i64 x.kind] rfl rfl (ival_at _ _ _) (ival_one _) (by unfold maxLen; omega) (by omega) (by have := HD.out.1.bel.size; simp; omega) ?_; intro v5 w5 hown5 hgrow5 _ _; have H5 : Hid (w5.ownsRow w.heap.size 3 1 v5 (m + 1) (ic ks ++ [.int .i64 x.kind]) ∧ Law w w5 w.heap.size s2 ((k : Int) + 1)) := ⟨hown5, HD.out.1.grown HD.out.2.2 _ hgrow5⟩; clear hown5 hgrow5))
              have HE : Hid (IdsL w w5 w.heap.size s2 ((k : Int) + 1) v5 (ks ++ [x.kind])) := ⟨H5.out.2, by unfold RowI; rw [List.length_append, HO.out.2.1, ic_snoc]; exact H5.out.1, HD.out.2.1⟩
              clear H5 z3 z4 y0 HN2
              obtain ⟨M, hM⟩ : ∃ M, (ks ++ [x.kind]).length = M := ⟨_, rfl⟩
              obtain ⟨a6, c6, hu6⟩ := owns_len HE.out.row
              rw [hM] at hu6
              subst hu6
              have HK : Hid ((ks ++ [x.kind]).length = M) := hM
              have hM3 : M ≤ k + 1 := by rw [← hM]; rw [List.length_append, HO.out.2.1]; simp; omega
              clear hM
              go_upto_region 17 with (go_at_call 12; refine (dump_p _ s2 _ HE.out.law.own.is).mono ?_; rintro x' w6 ⟨v6, rfl, hr6, hb6⟩)
              obtain ⟨n6, hn6⟩ : ∃ n6, s2.es.length = n6 := ⟨_, rfl⟩
              obtain ⟨a7, c7, hv6⟩ := owns_len hr6
              rw [hn6] at hv6
              subst hv6
              have hn47 : n6 ≤ 47 := by rw [← hn6]; exact HE.out.law.good.wf.len
              have H6 : Hid (IdsL w w6 w.heap.size s2 ((k : Int) + 1) (.slice a6 M c6) (ks ++ [x.kind]) ∧ Row7 w6 w5.heap.size (.slice a7 n6 c7) s2.es ∧ s2.es.length = n6) := ⟨HE.out.below hb6, hr6, hn6⟩
              clear hr6 hb6 hn6
              go_wp2
              go_loopw [12, 13] (fun i _ wr => ∃ q : Nat, q ≤ n6 ∧ i = .int .i64 q ∧ Below w6.heap.size w6 wr) (fun i _ _ => n6 - (intOf i).toNat)
              case atStart => exact ⟨0, Nat.zero_le _, rfl, Below.refl _ _⟩
              case round =>
                obtain ⟨q, hq, rfl, hb⟩ := hrel
                have HB : Hid (Below w6.heap.size w6 wr) := hb
                clear hb
                by_cases hlt : q < n6
                · obtain ⟨e, he⟩ : ∃ x, s2.es[q]? = some x := ⟨_, List.getElem?_eq_getElem (by rw [H6.out.2.2]; exact hlt)⟩
                  obtain ⟨g7, rfl, -, -, -, hc7, -⟩ := owns_entry H6.out.2.1 he
                  have hem := List.mem_of_getElem? he
                  have hid := H6.out.1.law.good.wf.ids e hem
                  obtain ⟨j, hj⟩ : ∃ j : Nat, e.id = (j : Int) + 2 := ⟨(e.id - 2).toNat, by omega⟩
                  have hkd := H6.out.1.ids.kinds e hem j hj
                  have hjM : j < M := by have := (List.getElem?_eq_some_iff.1 hkd).1; rw [HK.out] at this; exact this
                  obtain ⟨g6, rfl, -, r6⟩ := H6.out.1.row.num hkd
                  have y0' := (HB.out.cell (cellLt r6)).trans r6
                  have hc8 := hc7.below HB.out
                  have y3 := hc8.c3
                  have y4 := hc8.c4
                  rw [hj] at y3
                  have hqi : (q : Int) < (n6 : Int) := by omega
                  have h2f : ((j : Int) + 2 < 2) = False := by simp; omega
                  have hjM1 : ¬ (M : Int) ≤ (j : Int) + 2 - 2 := by omega
                  have hjM2 : ¬ (M : Int) ≤ (j : Int) := by omega
                  have hjM3 : ¬ M ≤ j := by omega
                  clear hc7 hc8 hem hid hkd he hj r6
                  go_upto_region 21 with fail
                  go_quiet (fail)
                  go_wp2
                  exact ⟨⟨q + 1, by omega, by simp, below_drewN HB.out _⟩, by simp [intOf]; omega⟩
                · have hqn : q = n6 := by omega
                  subst hqn
                  go_wp2
                  exact ⟨⟨k + 1, s2, ks ++ [x.kind], by omega, by simp, by rw [HK.out]; exact hM3, by rw [show ((k + 1 : Nat) : Int) = (k : Int) + 1 by omega]; exact H6.out.1.below HB.out⟩, by simp [intOf]; omega⟩
          · have h5 : (o.kind == 5) = false := by simp; omega
            have h6 : (o.kind == 6) = false := by simp; omega
            have h7 : (o.kind == 7) = false := by simp; omega
            have hids := IdsP.other hwf HO.out.1 hI.out.ids hmade hst.1 hst.2.2
            have HE : Hid (IdsL w w2 w.heap.size s2 ((k : Int) + 1) u4 ks) := ⟨h2.out.1.law, h2.out.2.2, hids⟩
            clear hst hwf hids hmade
            go_upto_region 16 with fail
            clear y0
            obtain ⟨M, hM⟩ : ∃ M, ks.length = M := ⟨_, rfl⟩
            obtain ⟨a6, c6, hu6⟩ := owns_len HE.out.row
            rw [hM] at hu6
            subst hu6
            have HK : Hid (ks.length = M) := hM
            have hM3 : M ≤ k + 1 := by rw [← hM]; rw [HO.out.2.1]; omega
            clear hM
            go_upto_region 17 with (go_at_call 12; refine (dump_p _ s2 _ HE.out.law.own.is).mono ?_; rintro x' w6 ⟨v6, rfl, hr6, hb6⟩)
            obtain ⟨n6, hn6⟩ : ∃ n6, s2.es.length = n6 := ⟨_, rfl⟩
            obtain ⟨a7, c7, hv6⟩ := owns_len hr6
            rw [hn6] at hv6
            subst hv6
            have hn47 : n6 ≤ 47 := by rw [← hn6]; exact HE.out.law.good.wf.len
            have H6 : Hid (IdsL w w6 w.heap.size s2 ((k : Int) + 1) (.slice a6 M c6) ks ∧ Row7 w6 w2.heap.size (.slice a7 n6 c7) s2.es ∧ s2.es.length = n6) := ⟨HE.out.below hb6, hr6, hn6⟩
            clear hr6 hb6 hn6
            go_wp2
            go_loopw [12, 13] (fun i _ wr => ∃ q : Nat, q ≤ n6 ∧ i = .int .i64 q ∧ Below w6.heap.size w6 wr) (fun i _ _ => n6 - (intOf i).toNat)
            case atStart => exact ⟨0, Nat.zero_le _, rfl, Below.refl _ _⟩
            case round =>
              obtain ⟨q, hq, rfl, hb⟩ := hrel
              have HB : Hid (Below w6.heap.size w6 wr) := hb
              clear hb
              by_cases hlt : q < n6
              · obtain ⟨e, he⟩ : ∃ x, s2.es[q]? = some x := ⟨_, List.getElem?_eq_getElem (by rw [H6.out.2.2]; exact hlt)⟩
                obtain ⟨g7, rfl, -, -, -, hc7, -⟩ := owns_entry H6.out.2.1 he
                have hem := List.mem_of_getElem? he
                have hid := H6.out.1.law.good.wf.ids e hem
                obtain ⟨j, hj⟩ : ∃ j : Nat, e.id = (j : Int) + 2 := ⟨(e.id - 2).toNat, by omega⟩
                have hkd := H6.out.1.ids.kinds e hem j hj
                have hjM : j < M := by have := (List.getElem?_eq_some_iff.1 hkd).1; rw [HK.out] at this; exact this
                obtain ⟨g6, rfl, -, r6⟩ := H6.out.1.row.num hkd
                have y0' := (HB.out.cell (cellLt r6)).trans r6
                have hc8 := hc7.below HB.out
                have y3 := hc8.c3
                have y4 := hc8.c4
                rw [hj] at y3
                have hqi : (q : Int) < (n6 : Int) := by omega
                have h2f : ((j : Int) + 2 < 2) = False := by simp; omega
                have hjM1 : ¬ (M : Int) ≤ (j : Int) + 2 - 2 := by omega
                have hjM2 : ¬ (M : Int) ≤ (j : Int) := by omega
                have hjM3 : ¬ M ≤ j := by omega
                clear hc7 hc8 hem hid hkd he hj r6
                go_upto_region 21 with fail
                go_quiet (fail)
                go_wp2
                exact ⟨⟨q + 1, by omega, by simp, below_drewN HB.out _⟩, by simp [intOf]; omega⟩
              · have hqn : q = n6 := by omega
                subst hqn
                go_wp2
                exact ⟨⟨k + 1, s2, ks, by omega, by simp, by rw [HK.out]; exact hM3, by rw [show ((k + 1 : Nat) : Int) = (k : Int) + 1 by omega]; exact H6.out.1.below HB.out⟩, by simp [intOf]; omega⟩
        · have hzb : (E != 0) = true := by simpa using hz
          have HZ : Hid (E ≠ 0) := hz
          clear hz
          go_wp2_with (first
            | (go_at_call 10; refine (HN.out _ hI.out.law.own.is).mono ?_; rintro x w1' ⟨rfl, rfl⟩)
            | (go_at_call 11; refine HAp.out.mono ?_; rintro x w2 ⟨v2, k2, s2, rfl, h2⟩))
          have hno := h2.out.1.step.no (by rw [HO.out.1]; exact HZ.out)
          exact ⟨⟨k + 1, s2, ks, by omega, by simp, by rw [HO.out.2.1]; omega, by rw [show ((k + 1 : Nat) : Int) = (k : Int) + 1 by omega]; exact ⟨h2.out.1.law, h2.out.2.2, hI.out.ids.alike hno.1 hno.2.2⟩⟩, by simp [intOf]; omega⟩
    · have hkn' : ¬ (k : Int) < (n : Int) := by omega
      go_wp2_with (go_at_call 13; refine (HAw.out _).mono ?_; rintro x w12 ⟨rfl, hb12⟩)
      go_ret
      exact ⟨rfl, chainB hI.out.law.bel hb12⟩
end Go.Proofs.Ytjkgafbknjpjbab
