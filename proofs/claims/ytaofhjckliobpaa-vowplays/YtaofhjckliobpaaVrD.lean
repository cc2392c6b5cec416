/- The chapter's own table: Less, sorted. -/
import Derived.Test.YtaofhjckliobpaaVrC
namespace Go.Proofs.Ytaofhjckliobpaa
open Go.RowKit Go.Shelf
attribute [local go_sem high] eqK neqK guardK run_store_complex

theorem rboxes2 {w : World} {c1 c2 : Array Value} {t1 t2 : TypeId} : ((w.alloc (.cells c1 t1)).alloc (.cells c2 t2)).heap[w.heap.size]? = some (.cells c1 t1 (0, 0)) ∧ ((w.alloc (.cells c1 t1)).alloc (.cells c2 t2)).heap[w.heap.size + 1]? = some (.cells c2 t2 (0, 0)) ∧ Below w.heap.size w ((w.alloc (.cells c1 t1)).alloc (.cells c2 t2)) := by
  have hz : (w.alloc (.cells c1 t1)).heap.size = w.heap.size + 1 := by simp
  refine ⟨?_, ?_, chainB (below_alloc _ _) (below_alloc _ _)⟩
  · exact ((below_alloc (w.alloc (.cells c1 t1)) (.cells c2 t2)).block _ (by rw [hz]; omega)).trans (heap_new _ _)
  · have := heap_new (w.alloc (.cells c1 t1)) (.cells c2 t2)
    rw [hz] at this; exact this
set_option maxRecDepth 20000 in
set_option maxHeartbeats 1000000 in
theorem rless_any (x y : Ky) (w : World) :
    Calls Try.prog 65 #[.agg #[.int .i64 x.d, .string x.nm], .agg #[.int .i64 y.d, .string y.nm]] w fun e w' => e = .returned (.bool (ltK x y)) ∧ Below w.heap.size w w' := by
  obtain ⟨d, nm⟩ := x
  obtain ⟨d2, nm2⟩ := y
  show Calls Try.prog 65 #[.agg #[.int .i64 d, .string nm], .agg #[.int .i64 d2, .string nm2]] w _
  have hbx := rboxes2 (w := w) (c1 := #[.int .i64 d, .string nm]) (c2 := #[.int .i64 d2, .string nm2]) (t1 := 36) (t2 := 36)
  obtain ⟨B, hB⟩ : ∃ x, ltK ⟨d, nm⟩ ⟨d2, nm2⟩ = x := ⟨_, rfl⟩
  have HB : Hid (ltK ⟨d, nm⟩ ⟨d2, nm2⟩ = B) := hB
  rw [hB]
  clear hB
  go_enter Try.func65, Try.ntmps65
  go_upto_region 1 with fail
  obtain ⟨W, hW⟩ : ∃ W, (w.alloc (.cells #[.int .i64 d, .string nm] 36)).alloc (.cells #[.int .i64 d2, .string nm2] 36) = W := ⟨_, rfl⟩
  rw [hW] at hbx ⊢
  have k0 := cell_of hbx.1 0
  have k1 := cell_of hbx.1 1
  have k2 := cell_of hbx.2.1 0
  have k3 := cell_of hbx.2.1 1
  simp at k0 k1 k2 k3
  have HW : Hid (Below w.heap.size w W) := hbx.2.2
  clear hW hbx
  by_cases h1 : d < d2
  · have hd : decide (d < d2) = true := decide_eq_true h1
    have HQ : Hid (B = true) := by show _ = _; rw [← HB.out]; unfold ltK; rw [hd]; rfl
    go_wp2
    go_ret
    exact ⟨by rw [HQ.out]; rfl, HW.out⟩
  · have hd : decide (d < d2) = false := decide_eq_false h1
    by_cases h2 : d = d2
    · subst h2
      have HQ : Hid (B = Op.bytesLess nm.toList nm2.toList) := by show _ = _; rw [← HB.out]; unfold ltK; rw [hd]; simp
      go_wp2
      go_ret
      exact ⟨by rw [HQ.out]; rfl, HW.out⟩
    · have hd2 : (d == d2) = false := by simpa using h2
      have HQ : Hid (B = false) := by show _ = _; rw [← HB.out]; unfold ltK; rw [hd, decide_eq_false h2]; rfl
      go_wp2
      go_ret
      exact ⟨by rw [HQ.out]; rfl, HW.out⟩
theorem last_cases {α : Type} (l : List α) : l = [] ∨ ∃ l' a, l = l' ++ [a] := by
  rcases List.eq_nil_or_concat l with h | ⟨l', a, h⟩
  · exact .inl h
  · exact .inr ⟨l', a, by rw [h]; simp⟩
theorem sort_step {l m A B : List Ky} {x : Ky} (hm : m = srtK l) (hx : x ∉ m) (hAB : A ++ B = m) (hB : ∀ b ∈ B, ltK x b = true) (hA : ∀ A' a, A = A' ++ [a] → ¬ ltK x a = true) : A ++ x :: B = srtK (l ++ [x]) := by
  have hr : Rises (A ++ B) := by rw [hAB, hm]; exact srtK_rises l
  obtain ⟨r1, r2, r3⟩ := List.pairwise_append.1 hr
  have hax : ∀ a ∈ A, ltK a x = true := by
    rcases last_cases A with rfl | ⟨A', a0, rfl⟩
    · intro a ha; cases ha
    · have ha0 : ltK a0 x = true := by
        rcases ltK_total x a0 with q | q | q
        · exact absurd q (hA A' a0 rfl)
        · exact absurd (by rw [← hAB, q]; simp) hx
        · exact q
      intro a ha
      rcases List.mem_append.1 ha with q | q
      · exact ltK_trans ((List.pairwise_append.1 r1).2.2 a q a0 (by simp)) ha0
      · rw [List.mem_singleton.1 q]; exact ha0
  refine srtK_of ?_ fun y => ?_
  · refine List.pairwise_append.2 ⟨r1, List.pairwise_cons.2 ⟨hB, r2⟩, fun a ha y hy => ?_⟩
    rcases List.mem_cons.1 hy with rfl | hy
    · exact hax a ha
    · exact r3 a ha y hy
  · have : y ∈ A ++ B ↔ y ∈ l := by rw [hAB, hm]; exact srtK_mem l y
    rw [List.mem_append] at this
    rw [List.mem_append, List.mem_cons, List.mem_append, ← this]
    constructor
    · rintro (h | h | h)
      · exact .inl (.inl h)
      · exact .inr (by simp [h])
      · exact .inl (.inr h)
    · rintro ((h | h) | h)
      · exact .inl h
      · exact .inr (.inr h)
      · exact .inr (.inl (List.mem_singleton.1 h))
theorem sort_again {l : List Ky} {x : Ky} (hx : x ∈ srtK l) : srtK l = srtK (l ++ [x]) := by
  refine srtK_of (srtK_rises l) fun y => ?_
  rw [srtK_mem, List.mem_append, List.mem_singleton]
  constructor
  · exact .inl
  · rintro (h | rfl)
    · exact h
    · exact (srtK_mem l y).1 hx
theorem get_mid {α : Type} (A B : List α) (x : α) : (A ++ x :: B)[A.length]? = some x := by simp
theorem get_prev {α : Type} (A B : List α) (a x : α) : ((A ++ [a]) ++ x :: B)[A.length]? = some a := by simp
theorem swap_mid {α : Type} (A B : List α) (a x : α) : (((A ++ [a]) ++ x :: B).set (A.length + 1) a).set A.length x = A ++ x :: a :: B := by
  induction A with
  | nil => rfl
  | cons b A _ => simp
set_option maxRecDepth 20000 in
set_option maxHeartbeats 8000000 in
theorem rsorted_any (v : Value) (l : List Ky) (w : World) (h : RdK w v l) (hl : l.length * 24 ≤ LK) :
    Calls Try.prog 56 #[v] w fun e w' => ∃ v', e = .returned v' ∧ RowK w' w.heap.size v' (srtK l) ∧ Below w.heap.size w w' := by
  obtain ⟨i1, hi1, hw0, hw1, hw2⟩ := info_parts Try.infoKy
  obtain ⟨a, cap, rfl⟩ := h.form
  obtain ⟨n, hn⟩ : ∃ n, l.length = n := ⟨_, rfl⟩
  have hl13 : n ≤ 5864062014634 := by rw [← hn]; unfold LK at hl; omega
  rw [hn] at h ⊢
  have H : Hid (RdK w (.slice a n cap) l ∧ l.length = n) := ⟨h, hn⟩
  clear h hn hl
  go_enter Try.func56, Try.ntmps56
  go_wp2
  go_loopw [3, 4, 5, 6, 7] (fun u i _ _ _ wr => ∃ k : Nat, k ≤ n ∧ i = .int .i64 k ∧ Hid (RowK wr w.heap.size u (srtK (l.take k)) ∧ Below w.heap.size w wr)) (fun _ i _ _ _ _ => n - (intOf i).toNat)
  case atStart => exact ⟨0, Nat.zero_le _, rfl, World.ownsRow_nil _ _ _ _, Below.refl _ _⟩
  case round =>
    rename World => W0
    obtain ⟨k, hk, rfl, HI⟩ := hrel
    by_cases hkn : k < n
    · obtain ⟨x, hx⟩ : ∃ x, l[k]? = some x := ⟨_, List.getElem?_eq_getElem (by rw [H.out.2]; exact hkn)⟩
      obtain ⟨g0, off0, ha0, -, x0, x1⟩ := (H.out.1.below HI.out.2).key hx
      subst ha0
      have hki : (k : Int) < (n : Int) := by omega
      obtain ⟨M, hM⟩ : ∃ M, srtK (l.take k) = M := ⟨_, rfl⟩
      rw [hM] at HI
      obtain ⟨m, hm⟩ : ∃ m, M.length = m := ⟨_, rfl⟩
      have hmk : m ≤ k := by rw [← hm, ← hM]; refine Nat.le_trans (srtK_len _) ?_; rw [List.length_take]; omega
      obtain ⟨a3, c3, h3⟩ := owns_len HI.out.1
      rw [hm] at h3
      subst h3
      have HS : Hid (srtK (l.take k) = M ∧ l[k]? = some x ∧ M.length = m ∧ l.take (k + 1) = l.take k ++ [x]) := ⟨hM, hx, hm, by rw [List.take_add_one, hx]; rfl⟩
      have HX : Hid (∀ W, Below W0.heap.size W0 W → W.cell? ⟨g0, off0 + k * 2, none⟩ = some (.int .i64 x.d) ∧ W.cell? ⟨g0, off0 + k * 2 + 1, none⟩ = some (.string x.nm)) := fun W hb => ⟨(hb.cell (cellLt x0)).trans x0, (hb.cell (cellLt x1)).trans x1⟩
      clear hx hM hm x0 x1
      go_wp2
      go_loopw [5, 6] (fun s5 s6 wr => ∃ (j : Nat) (c : Bool), s5 = .bool c ∧ s6 = .int .i64 j ∧ j ≤ m ∧ Hid (c = inK (M.take j) x ∧ Below W0.heap.size W0 wr)) (fun _ s6 _ => m - (intOf s6).toNat)
      case atStart => exact ⟨0, false, rfl, rfl, Nat.zero_le _, rfl, Below.refl _ _⟩
      case round =>
        rename World => W1
        obtain ⟨j, c, rfl, rfl, hjm, HC⟩ := hrel
        obtain ⟨x0, x1⟩ := HX.out W1 HC.out.2
        by_cases hlj : j < m
        · have hljz : (j : Int) < (m : Int) := by omega
          obtain ⟨y, hy⟩ : ∃ y, M[j]? = some y := ⟨_, List.getElem?_eq_getElem (by rw [HS.out.2.2.1]; exact hlj)⟩
          obtain ⟨g3, hg3, -, -, y0, y1, -⟩ := (HI.out.1.below HC.out.2).key hy
          subst hg3
          have hst : inK (M.take (j + 1)) x = (inK (M.take j) x || eqKy y x) := by
            rw [List.take_add_one, hy]
            unfold inK; simp
          have HT : Hid (inK (M.take (j + 1)) x = (c || eqKy y x)) := by show _ = _; rw [hst, ← HC.out.1]
          have HB1 : Hid (Below W0.heap.size W0 W1) := HC.out.2
          clear hy hst HC
          cases c with
          | true =>
            go_upto_region 9 with fail
            go_quiet (fail)
            go_wp2
            exact ⟨⟨j + 1, true, rfl, by simp, by omega, by rw [HT.out]; rfl, below_drewN HB1.out _⟩, by simp [intOf]; omega⟩
          | false =>
            obtain ⟨q, hq⟩ : ∃ q, eqKy y x = q := ⟨_, rfl⟩
            have HQ : Hid (eqKy y x = q) := hq
            go_upto_region 9 with fail
            go_quiet (fail)
            go_wp2
            exact ⟨⟨j + 1, q, rfl, by simp, by omega, by rw [HT.out, HQ.out]; rfl, below_drewN HB1.out _⟩, by simp [intOf]; omega⟩
        · obtain rfl : j = m := by omega
          have hljz : ¬ (j : Int) < (j : Int) := by omega
          have hc : c = inK M x := by rw [HC.out.1, List.take_of_length_le (by rw [HS.out.2.2.1]; omega)]
          have HB1 : Hid (Below W0.heap.size W0 W1) := HC.out.2
          clear HC
          cases c with
          | true =>
            have HG : Hid (srtK (l.take (k + 1)) = M) := by
              show _ = _
              rw [HS.out.2.2.2, ← HS.out.1]
              exact (sort_again (by rw [HS.out.1]; exact (inK_iff _ _).1 hc.symm)).symm
            clear hc
            go_wp2
            exact ⟨⟨k + 1, by omega, by simp, by rw [HG.out]; exact HI.out.1.below HB1.out, chainB HI.out.2 HB1.out⟩, by simp [intOf]; omega⟩
          | false =>
            have HNo : Hid (x ∉ M) := fun e => by rw [(inK_iff _ _).2 e] at hc; cases hc
            have HO : Hid (W1.ownsRow w.heap.size 36 2 (.slice a3 j c3) j (kc M)) := by
              have := HI.out.1.below HB1.out
              unfold RowK at this
              rw [HS.out.2.2.1] at this; exact this
            clear hc
            go_wp2_with (at_builtin; refine wpList_append_own_at _ rfl (.tmp 33) (.tmp 38) 31 rfl w.heap.size 36 i1 (.agg #[.int .i64 0, .string ⟨#[]⟩]) 2 24 Try.underlying31 hi1 hw0 hw1 hw2 rfl (by decide) _ j (kc M) rfl (World.ownsRow.alloc HO.out _) ⟨W1.heap.size, 0, none⟩ 1 1 x.vals rfl rfl (one_key _ x) (ky_one _) (by unfold maxLen; omega) (by omega) (by have := (chainB HI.out.2 HB1.out).size; simp; omega) ?_; intro v5 w5 hown5 hgrow5 _ _; obtain ⟨g5, c5, rfl⟩ := owns_form hown5; have H5 : Hid (w5.ownsRow w.heap.size 36 2 (.slice (some ⟨g5, 0, none⟩) (j + 1) c5) (j + 1) (kc (M ++ [x])) ∧ Below w.heap.size w w5) := ⟨by rw [kc_app]; exact hown5, ((chainB HI.out.2 HB1.out).alloc (by have := (chainB HI.out.2 HB1.out).size; omega) _).grown hgrow5 (by have := (chainB HI.out.2 HB1.out).size; simp; omega) (fun q hq => (HO.out.lt q hq).1)⟩; clear hown5 hgrow5)
            go_loopw [7] (fun i wr => ∃ (A B : List Ky), i = .int .i64 (A.length : Nat) ∧ A ++ B = M ∧ (∀ b ∈ B, ltK x b = true) ∧ wr.ownsRow w.heap.size 36 2 (.slice (some ⟨g5, 0, none⟩) (j + 1) c5) (j + 1) (kc (A ++ x :: B)) ∧ Below w.heap.size w wr) (fun i _ => (intOf i).toNat)
            case atStart => exact ⟨M, [], by rw [HS.out.2.2.1], List.append_nil M, fun b hb => (by cases hb), H5.out.1, H5.out.2⟩
            case round =>
              rename World => W6
              clear H5
              obtain ⟨A, B, rfl, hAB, hB, hown, hb⟩ := hrel
              have HI2 : Hid (A ++ B = M ∧ (∀ b ∈ B, ltK x b = true) ∧ W6.ownsRow w.heap.size 36 2 (.slice (some ⟨g5, 0, none⟩) (j + 1) c5) (j + 1) (kc (A ++ x :: B)) ∧ Below w.heap.size w W6) := ⟨hAB, hB, hown, hb⟩
              have hlenA : A.length ≤ j := by rw [← HS.out.2.2.1, ← hAB, List.length_append]; omega
              have HStop : Hid ((∀ A' a, A = A' ++ [a] → ¬ ltK x a = true) → ∀ W, Below W6.heap.size W6 W → RowK W w.heap.size (.slice (some ⟨g5, 0, none⟩) (j + 1) c5) (srtK (l.take (k + 1))) ∧ Below w.heap.size w W) := fun hA W hbW => by
                have hlen : (A ++ x :: B).length = j + 1 := by rw [List.length_append, List.length_cons, ← HS.out.2.2.1, ← hAB, List.length_append]; omega
                refine ⟨?_, chainB hb hbW⟩
                have e := sort_step HS.out.1.symm HNo.out hAB hB hA
                rw [HS.out.2.2.2, ← e]
                unfold RowK; rw [hlen]; exact owns_below hown hbW
              clear hAB hB hown hb
              rcases last_cases A with rfl | ⟨A', a0, rfl⟩
              · go_upto_region 13 with fail
                go_quiet (fail)
                go_wp2
                have hZ := HStop.out (fun A' a e => by simp at e) (W6.drewN nq) (below_drewN (Below.refl _ _) _)
                exact ⟨⟨k + 1, by omega, by simp, hZ⟩, by simp [intOf]; omega⟩
              · rw [List.length_append, List.length_singleton] at hlenA ⊢
                have hgp := get_prev A' B a0 x
                have hgm : ((A' ++ [a0]) ++ x :: B)[A'.length + 1]? = some x := by have := get_mid (A' ++ [a0]) B x; rw [List.length_append] at this; exact this
                have hlen : ((A' ++ [a0]) ++ x :: B).length = j + 1 := by have e := congrArg List.length HI2.out.1; have e2 := HS.out.2.2.1; simp [List.length_append] at e ⊢; omega
                have hrw : RowK W6 w.heap.size (.slice (some ⟨g5, 0, none⟩) (j + 1) c5) ((A' ++ [a0]) ++ x :: B) := by unfold RowK; rw [hlen]; exact HI2.out.2.2.1
                obtain ⟨_, eg, -, hg5, p0, p1, hfz⟩ := hrw.key hgm
                cases eg
                obtain ⟨_, eg, -, -, q0, q1, -⟩ := hrw.key hgp
                cases eg
                obtain ⟨KA, hKA⟩ : ∃ y, A'.length = y := ⟨_, rfl⟩
                rw [hKA] at hlenA p0 p1 q0 q1 hgp hgm ⊢
                have HKA : Hid (A'.length = KA ∧ ((A' ++ [a0]) ++ x :: B)[KA]? = some a0 ∧ ((A' ++ [a0]) ++ x :: B)[KA + 1]? = some x) := ⟨hKA, hgp, hgm⟩
                have hKi : (KA : Int) + 1 < (j : Int) + 1 := by omega
                have hKi2 : (KA : Int) < (j : Int) + 1 := by omega
                have hKn : KA < j + 1 := by omega
                have hKt : ((KA : Int) + 1).toNat = KA + 1 := by omega
                have hK1 : (0 : Int) ≤ (KA : Int) + 1 := by omega
                have hKw : IntKind.i64.wrap ((KA : Int) + 1 - 1) = (KA : Int) := by rw [IntWalk.i64_in _ (by omega)]; omega
                have hKw2 : IntKind.i64.wrap (KA : Int) = (KA : Int) := IntWalk.i64_in _ (by omega)
                have hKk : KA < j := by omega
                have hKp : (0 : Int) < (KA : Int) + 1 := by omega
                have hK0 : (0 : Int) ≤ (KA : Int) := by omega
                clear hrw hgp hgm hKA hlen x0 x1
                by_cases hles : ltK x a0 = true
                · have HL : Hid (∀ W, Calls Try.prog 65 #[.agg #[.int .i64 x.d, .string x.nm], .agg #[.int .i64 a0.d, .string a0.nm]] W fun e w' => e = .returned (.bool true) ∧ Below W.heap.size W w') := by
                    intro W; rw [← hles]; exact rless_any _ _ W
                  have HLe : Hid (ltK x a0 = true) := hles
                  clear hles
                  go_upto_region 13 with fail
                  go_region_held3 (fun w' => w'.cell? ⟨g5, (KA + 1) * 2, none⟩ = some (.int .i64 x.d) ∧ w'.cell? ⟨g5, (KA + 1) * 2 + 1, none⟩ = some (.string x.nm) ∧ w'.cell? ⟨g5, KA * 2, none⟩ = some (.int .i64 a0.d) ∧ w'.cell? ⟨g5, KA * 2 + 1, none⟩ = some (.string a0.nm))
                    (first | exact ⟨p0, p1, q0, q1⟩ | exact ⟨(hb6.cell (cellLt p0)).trans p0, (hb6.cell (cellLt p1)).trans p1, (hb6.cell (cellLt q0)).trans q0, (hb6.cell (cellLt q1)).trans q1⟩ | assumption)
                    (first | (go_at_call 65; refine (HL.out _).mono ?_; rintro e w6 ⟨rfl, hb6⟩))
                  have b6 : Below W6.heap.size W6 w6 := ⟨hb6.os, hb6.tape, hb6.output, hb6.size, hb6.block⟩
                  have row6 := owns_below HI2.out.2.2.1 b6
                  have hp1 := put2_row (k := a0) row6 HKA.out.2.2
                  have hk2 : (((A' ++ [a0]) ++ x :: B).set (KA + 1) a0)[KA]? = some a0 := by rw [List.getElem?_set_ne (by omega)]; exact HKA.out.2.1
                  have hp2 := put2_row (k := x) hp1 hk2
                  have hsw : (((A' ++ [a0]) ++ x :: B).set (KA + 1) a0).set KA x = A' ++ x :: a0 :: B := by rw [← HKA.out.1]; exact swap_mid A' B a0 x
                  rw [hsw] at hp2
                  have hg5w : w.heap.size ≤ g5 := (owns_cells HI2.out.2.2.1).2.2.2.2.1
                  have hbel : Below w.heap.size w (put2 (put2 w6 g5 ((KA + 1) * 2) a0) g5 (KA * 2) x) := ((put2_only w6 g5 ((KA + 1) * 2) a0).trans (put2_only _ g5 (KA * 2) x)).below (chainB HI2.out.2.2.2 b6) (chainB HI2.out.2.2.2 b6).size (fun q hq => by rw [hq]; exact hg5w)
                  have HP : Hid ((put2 (put2 w6 g5 ((KA + 1) * 2) a0) g5 (KA * 2) x).ownsRow w.heap.size 36 2 (.slice (some ⟨g5, 0, none⟩) (j + 1) c5) (j + 1) (kc (A' ++ x :: a0 :: B)) ∧ Below w.heap.size w (put2 (put2 w6 g5 ((KA + 1) * 2) a0) g5 (KA * 2) x)) := ⟨hp2, hbel⟩
                  have hg5l : g5 < W6.heap.size := cellLt p0
                  have fz : ∀ i, w6.frozen? ⟨g5, i, none⟩ = false := fun i => (b6.frozen (p := ⟨g5, i, none⟩) hg5l).trans (hfz i)
                  have P0 := (b6.cell (cellLt p0)).trans p0
                  have P1 := (b6.cell (cellLt p1)).trans p1
                  have Q0 := (b6.cell (cellLt q0)).trans q0
                  have Q1 := (b6.cell (cellLt q1)).trans q1
                  clear hb6 b6 row6 hp1 hk2 hp2 hsw hbel p0 p1 q0 q1 hfz hg5w
                  go_upto_region 15 with fail
                  go_region_law (fail)
                  all_goals
                    go_wp2
                    refine ⟨⟨A', a0 :: B, by rw [HKA.out.1], by have := HI2.out.1; rw [List.append_assoc] at this; exact this, ?_, ?_, ?_⟩, by simp [intOf]⟩
                    · intro b hb
                      rcases List.mem_cons.1 hb with rfl | hb
                      · exact HLe.out
                      · exact HI2.out.2.1 b hb
                    · exact owns_below HP.out.1 (below_drewN (Below.refl _ _) 1)
                    · exact below_drewN HP.out.2 1
                · have hles' : ltK x a0 = false := by simpa using hles
                  have HL : Hid (∀ W, Calls Try.prog 65 #[.agg #[.int .i64 x.d, .string x.nm], .agg #[.int .i64 a0.d, .string a0.nm]] W fun e w' => e = .returned (.bool false) ∧ Below W.heap.size W w') := by
                    intro W; rw [← hles']; exact rless_any _ _ W
                  have HN : Hid (∀ A'' a, A' ++ [a0] = A'' ++ [a] → ¬ ltK x a = true) := fun A'' a e => by
                    have e2 := (List.append_inj' e rfl).2
                    simp only [List.cons.injEq, and_true] at e2
                    rw [← e2]; exact hles
                  clear hles hles'
                  go_upto_region 13 with fail
                  go_region_held3 (fun w' => w'.cell? ⟨g5, (KA + 1) * 2, none⟩ = some (.int .i64 x.d) ∧ w'.cell? ⟨g5, (KA + 1) * 2 + 1, none⟩ = some (.string x.nm) ∧ w'.cell? ⟨g5, KA * 2, none⟩ = some (.int .i64 a0.d) ∧ w'.cell? ⟨g5, KA * 2 + 1, none⟩ = some (.string a0.nm))
                    (first | exact ⟨p0, p1, q0, q1⟩ | exact ⟨(hb6.cell (cellLt p0)).trans p0, (hb6.cell (cellLt p1)).trans p1, (hb6.cell (cellLt q0)).trans q0, (hb6.cell (cellLt q1)).trans q1⟩ | assumption)
                    (first | (go_at_call 65; refine (HL.out _).mono ?_; rintro e w6 ⟨rfl, hb6⟩))
                  have b6 : Below W6.heap.size W6 w6 := ⟨hb6.os, hb6.tape, hb6.output, hb6.size, hb6.block⟩
                  clear hb6 p0 p1 q0 q1 hfz
                  go_wp2
                  exact ⟨⟨k + 1, by omega, by simp, HStop.out HN.out w6 b6⟩, by simp [intOf]; omega⟩
    · have hkn' : ¬ (k : Int) < (n : Int) := by omega
      have hke : l.take k = l := List.take_of_length_le (by rw [H.out.2]; omega)
      rw [hke] at HI
      obtain ⟨a3, c3, h3⟩ := owns_len HI.out.1
      subst h3
      go_wp2
      go_ret
      exact ⟨_, rfl, HI.out.1, HI.out.2⟩
end Go.Proofs.Ytaofhjckliobpaa
