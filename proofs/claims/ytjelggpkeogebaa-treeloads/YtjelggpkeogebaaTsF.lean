/- The document's tree: Sorted, the walk. -/
import Derived.Test.YtjelggpkeogebaaTsB
namespace Go.Proofs.Ytjelggpkeogebaa
open Go.RowKit
attribute [local go_sem high] eqK neqK eqE neqE eqN neqN guardK guardE guardN

set_option maxRecDepth 20000 in
set_option maxHeartbeats 8000000 in
theorem sorted_any (v : Value) (l : List En) (base : Nat) (w : World) (h : Row7 w base v l) (hl : l.length ≤ 1000000) :
    Calls Try.prog 48 #[v] w fun e w' => ∃ v' m, e = .returned v' ∧ Row7 w' w.heap.size v' m ∧ Sorts l m ∧ Below w.heap.size w w' := by
  obtain ⟨i1, hi1, hw0, hw1, hw2⟩ := info_parts Try.infoE
  obtain ⟨a, cap, rfl⟩ := owns_len h
  obtain ⟨n, hn⟩ : ∃ n, l.length = n := ⟨_, rfl⟩
  rw [hn] at hl
  have H : Hid (Row7 w base (.slice a n cap) l ∧ l.length = n) := ⟨by rw [← hn]; exact h, hn⟩
  rw [hn]
  clear h hn
  go_enter Try.func48, Try.ntmps48
  go_wp2
  go_loopw [3, 4] (fun u i wr => ∃ (k : Nat) (m : List En), k ≤ n ∧ i = .int .i64 k ∧ m.length = k ∧ Row7 wr w.heap.size u m ∧ Sorts (l.take k) m ∧ Below w.heap.size w wr) (fun _ i _ => n - (intOf i).toNat)
  case atStart => exact ⟨0, [], Nat.zero_le _, rfl, rfl, World.ownsRow_nil _ _ _ _, ⟨List.Perm.refl _, fun _ => List.Pairwise.nil⟩, Below.refl _ _⟩
  case round =>
    obtain ⟨k, m, hk, rfl, hmk, hrow, hso, hb⟩ := hrel
    by_cases hkn : k < n
    · obtain ⟨x, hx⟩ : ∃ x, l[k]? = some x := ⟨_, List.getElem?_eq_getElem (by rw [H.out.2]; exact hkn)⟩
      obtain ⟨g, rfl, -, -, -, hc, -⟩ := owns_entry (H.out.1.below hb) hx
      have x0 := hc.c0
      have x1 := hc.c1
      have x2 := hc.c2
      have x3 := hc.c3
      have x4 := hc.c4
      have x5 := hc.c5
      have x6 := hc.c6
      have hki : (k : Int) < (n : Int) := by omega
      have hrow' : wr.ownsRow w.heap.size 56 7 u3 k (ec m) := by have := hrow; unfold Row7 at this; rw [hmk] at this; exact this
      have HS : Hid (Sorts (l.take k) m ∧ l[k]? = some x ∧ m.length = k) := ⟨hso, hx, hmk⟩
      clear hrow hso hc hx hmk
      go_wp2_with (at_builtin; refine wpList_append_own_at _ rfl (.tmp 12) (.tmp 17) 22 rfl w.heap.size 56 i1 _ 7 72 Try.underlying22 hi1 hw0 hw1 hw2 rfl (by decide) _ k (ec m) rfl (World.ownsRow.alloc hrow' _) ⟨wr.heap.size, 0, none⟩ 1 1 x.vals rfl rfl (vals_at _ x _) (vals_one x) (by unfold maxLen; omega) (by omega) (by have := hb.size; simp; omega) ?_; intro v5 w5 hown5 hgrow5 _ _; obtain ⟨g5, c5, rfl⟩ := owns_form hown5; have H5 : Hid (w5.ownsRow w.heap.size 56 7 (.slice (some ⟨g5, 0, none⟩) (k + 1) c5) (k + 1) (ec (m ++ x :: [])) ∧ Below w.heap.size w w5) := ⟨by rw [ec_app]; have : ec [x] = x.vals := (by unfold ec; simp); rw [this]; exact hown5, Below.grown (hb.alloc hb.size _) hgrow5 (by have := hb.size; simp; omega) (fun q hq => (World.ownsRow.lt hrow' q hq).1)⟩; clear hown5 hgrow5)
      clear hrow' x0 x1 x2 x3 x4 x5 x6
      go_loopw [5] (fun i wr => ∃ (A B : List En), i = .int .i64 (A.length : Nat) ∧ A ++ B = m ∧ (Apart (l.take k ++ [x]) → ∀ b ∈ B, lessE x b) ∧ wr.ownsRow w.heap.size 56 7 (.slice (some ⟨g5, 0, none⟩) (k + 1) c5) (k + 1) (ec (A ++ x :: B)) ∧ Below w.heap.size w wr) (fun i _ => (intOf i).toNat)
      case atStart => exact ⟨m, [], by rw [HS.out.2.2], List.append_nil m, fun _ b hb => (by cases hb), H5.out.1, H5.out.2⟩
      case round =>
        clear H5 hb
        obtain ⟨A, B, rfl, hAB, hB, hown, hb⟩ := hrel
        have HI : Hid (A ++ B = m ∧ (Apart (l.take k ++ [x]) → ∀ b ∈ B, lessE x b) ∧ wr.ownsRow w.heap.size 56 7 (.slice (some ⟨g5, 0, none⟩) (k + 1) c5) (k + 1) (ec (A ++ x :: B)) ∧ Below w.heap.size w wr) := ⟨hAB, hB, hown, hb⟩
        have hlenA : A.length ≤ k := by rw [← HS.out.2.2, ← hAB, List.length_append]; omega
        have hstop : (∀ A' a, A = A' ++ [a] → ¬ lessE x a) → ∀ W, Below wr.heap.size wr W → Row7 W w.heap.size (.slice (some ⟨g5, 0, none⟩) (k + 1) c5) (A ++ x :: B) ∧ Sorts (l.take (k + 1)) (A ++ x :: B) ∧ (A ++ x :: B).length = k + 1 ∧ Below w.heap.size w W := fun hA W hbW => by
          have hlen : (A ++ x :: B).length = k + 1 := by rw [List.length_append, List.length_cons, ← HS.out.2.2, ← hAB, List.length_append]; omega
          refine ⟨?_, ?_, hlen, chainB hb hbW⟩
          · unfold Row7; rw [hlen]; exact owns_below hown hbW
          · rw [List.take_add_one, HS.out.2.1]; exact sorts_step HS.out.1 hAB hB hA
        have HStop : Hid ((∀ A' a, A = A' ++ [a] → ¬ lessE x a) → ∀ W, Below wr.heap.size wr W → Row7 W w.heap.size (.slice (some ⟨g5, 0, none⟩) (k + 1) c5) (A ++ x :: B) ∧ Sorts (l.take (k + 1)) (A ++ x :: B) ∧ (A ++ x :: B).length = k + 1 ∧ Below w.heap.size w W) := hstop
        clear hAB hB hown hb hstop
        rcases last_cases A with rfl | ⟨A', a0, rfl⟩
        · go_upto_region 7 with fail
          go_quiet (fail)
          go_wp2
          have hZ := HStop.out (fun A' a e => by simp at e) (wr.drewN nq) (below_drewN (Below.refl _ _) _)
          exact ⟨⟨k + 1, _, by omega, by simp, hZ.2.2.1, hZ.1, hZ.2.1, hZ.2.2.2⟩, by simp [intOf]; omega⟩
        · rw [List.length_append, List.length_singleton] at hlenA ⊢
          have hgp := get_prev A' B a0 x
          have hgm : ((A' ++ [a0]) ++ x :: B)[A'.length + 1]? = some x := by have := get_mid (A' ++ [a0]) B x; rw [List.length_append] at this; exact this
          have hlen : ((A' ++ [a0]) ++ x :: B).length = k + 1 := by have e := congrArg List.length HI.out.1; have e2 := HS.out.2.2; simp [List.length_append] at e ⊢; omega
          have hrw : wr.ownsRow w.heap.size 56 7 (.slice (some ⟨g5, 0, none⟩) (k + 1) c5) ((A' ++ [a0]) ++ x :: B).length (ec ((A' ++ [a0]) ++ x :: B)) := by rw [hlen]; exact HI.out.2.2.1
          obtain ⟨_, eg, -, hg5, -, hcx, hfz⟩ := owns_entry hrw hgm
          cases eg
          obtain ⟨_, eg, -, -, -, hca, -⟩ := owns_entry hrw hgp
          cases eg
          have p0 := hcx.c0
          have p1 := hcx.c1
          have p2 := hcx.c2
          have p3 := hcx.c3
          have p4 := hcx.c4
          have p5 := hcx.c5
          have p6 := hcx.c6
          have q0 := hca.c0
          have q1 := hca.c1
          have q2 := hca.c2
          have q3 := hca.c3
          have q4 := hca.c4
          have q5 := hca.c5
          have q6 := hca.c6
          obtain ⟨KA, hKA⟩ : ∃ y, A'.length = y := ⟨_, rfl⟩
          rw [hKA] at hlenA p0 p1 p2 p3 p4 p5 p6 q0 q1 q2 q3 q4 q5 q6 hgp hgm ⊢
          have HKA : Hid (A'.length = KA ∧ ((A' ++ [a0]) ++ x :: B)[KA]? = some a0 ∧ ((A' ++ [a0]) ++ x :: B)[KA + 1]? = some x) := ⟨hKA, hgp, hgm⟩
          have hKi : (KA : Int) + 1 < (k : Int) + 1 := by omega
          have hKi2 : (KA : Int) < (k : Int) + 1 := by omega
          have hKn : KA < k + 1 := by omega
          have hKt : ((KA : Int) + 1).toNat = KA + 1 := by omega
          have hK1 : (0 : Int) ≤ (KA : Int) + 1 := by omega
          have hKw : IntKind.i64.wrap ((KA : Int) + 1 - 1) = (KA : Int) := by rw [IntWalk.i64_in _ (by omega)]; omega
          have hKw2 : IntKind.i64.wrap (KA : Int) = (KA : Int) := IntWalk.i64_in _ (by omega)
          have hKk : KA < k := by omega
          have hKp : (0 : Int) < (KA : Int) + 1 := by omega
          have hK0 : (0 : Int) ≤ (KA : Int) := by omega
          clear hrw hcx hca hgp hgm hKA hlen
          by_cases hles : lessK x.d x.nm a0.d a0.nm = true
          · have HL : Hid (∀ W, Calls Try.prog 27 #[.agg #[.int .i64 x.d, .string x.nm], .agg #[.int .i64 a0.d, .string a0.nm]] W fun e w' => e = .returned (.bool true) ∧ Below W.heap.size W w') := by
              intro W; rw [← hles]; exact less_any _ _ _ _ W
            have HLe : Hid (lessE x a0) := hles
            clear hles
            go_upto_region 7 with fail
            go_region_held3 (fun w' => w'.cell? ⟨g5, (KA + 1) * 7, none⟩ = some (.int .i64 x.d) ∧ w'.cell? ⟨g5, (KA + 1) * 7 + 1, none⟩ = some (.string x.nm) ∧ w'.cell? ⟨g5, KA * 7, none⟩ = some (.int .i64 a0.d) ∧ w'.cell? ⟨g5, KA * 7 + 1, none⟩ = some (.string a0.nm))
              (first | exact ⟨p0, p1, q0, q1⟩ | exact ⟨(hb6.cell (cellLt p0)).trans p0, (hb6.cell (cellLt p1)).trans p1, (hb6.cell (cellLt q0)).trans q0, (hb6.cell (cellLt q1)).trans q1⟩ | assumption)
              (first | (go_at_call 27; refine (HL.out _).mono ?_; rintro e w6 ⟨rfl, hb6⟩))
            have b6 : Below wr.heap.size wr w6 := ⟨hb6.os, hb6.tape, hb6.output, hb6.size, hb6.block⟩
            have row6 := owns_below HI.out.2.2.1 b6
            have hp1 := put7o_row (e := a0) row6 HKA.out.2.2
            have hk2 : (((A' ++ [a0]) ++ x :: B).set (KA + 1) a0)[KA]? = some a0 := by rw [List.getElem?_set_ne (by omega)]; exact HKA.out.2.1
            have hp2 := put7o_row (e := x) hp1 hk2
            have hsw : (((A' ++ [a0]) ++ x :: B).set (KA + 1) a0).set KA x = A' ++ x :: a0 :: B := by rw [← HKA.out.1]; exact swap_mid A' B a0 x
            rw [hsw] at hp2
            have hbel : Below w.heap.size w (put7o (put7o w6 g5 ((KA + 1) * 7) a0) g5 (KA * 7) x) := ((put7o_only w6 g5 ((KA + 1) * 7) a0).trans (put7o_only _ g5 (KA * 7) x)).below (chainB HI.out.2.2.2 b6) (chainB HI.out.2.2.2 b6).size (fun q hq => by omega)
            have HP : Hid ((put7o (put7o w6 g5 ((KA + 1) * 7) a0) g5 (KA * 7) x).ownsRow w.heap.size 56 7 (.slice (some ⟨g5, 0, none⟩) (k + 1) c5) (k + 1) (ec (A' ++ x :: a0 :: B)) ∧ Below w.heap.size w (put7o (put7o w6 g5 ((KA + 1) * 7) a0) g5 (KA * 7) x)) := ⟨hp2, hbel⟩
            have hg5l : g5 < wr.heap.size := cellLt p0
            have fz : ∀ j, w6.frozen? ⟨g5, j, none⟩ = false := fun j => (b6.frozen (p := ⟨g5, j, none⟩) hg5l).trans (hfz j)
            have P0 := (b6.cell (cellLt p0)).trans p0
            have P1 := (b6.cell (cellLt p1)).trans p1
            have P2 := (b6.cell (cellLt p2)).trans p2
            have P3 := (b6.cell (cellLt p3)).trans p3
            have P4 := (b6.cell (cellLt p4)).trans p4
            have P5 := (b6.cell (cellLt p5)).trans p5
            have P6 := (b6.cell (cellLt p6)).trans p6
            have Q0 := (b6.cell (cellLt q0)).trans q0
            have Q1 := (b6.cell (cellLt q1)).trans q1
            have Q2 := (b6.cell (cellLt q2)).trans q2
            have Q3 := (b6.cell (cellLt q3)).trans q3
            have Q4 := (b6.cell (cellLt q4)).trans q4
            have Q5 := (b6.cell (cellLt q5)).trans q5
            have Q6 := (b6.cell (cellLt q6)).trans q6
            clear hb6 b6 row6 hp1 hk2 hp2 hsw hbel p0 p1 p2 p3 p4 p5 p6 q0 q1 q2 q3 q4 q5 q6 hfz
            go_upto_region 9 with fail
            go_region_law (fail)
            all_goals
              go_wp2
              refine ⟨⟨A', a0 :: B, by rw [HKA.out.1], by have := HI.out.1; rw [List.append_assoc] at this; exact this, ?_, ?_, ?_⟩, by simp [intOf]⟩
              · intro hd b hb
                rcases List.mem_cons.1 hb with rfl | hb
                · exact HLe.out
                · exact HI.out.2.1 hd b hb
              · exact owns_below HP.out.1 (below_drewN (Below.refl _ _) 1)
              · exact below_drewN HP.out.2 1
          · have hles' : lessK x.d x.nm a0.d a0.nm = false := by simpa using hles
            have HL : Hid (∀ W, Calls Try.prog 27 #[.agg #[.int .i64 x.d, .string x.nm], .agg #[.int .i64 a0.d, .string a0.nm]] W fun e w' => e = .returned (.bool false) ∧ Below W.heap.size W w') := by
              intro W; rw [← hles']; exact less_any _ _ _ _ W
            have HN : Hid (∀ A'' a, A' ++ [a0] = A'' ++ [a] → ¬ lessE x a) := fun A'' a e => by
              have e2 := (List.append_inj' e rfl).2
              simp only [List.cons.injEq, and_true] at e2
              rw [← e2]; exact hles
            clear hles hles'
            go_upto_region 7 with fail
            go_region_held3 (fun w' => w'.cell? ⟨g5, (KA + 1) * 7, none⟩ = some (.int .i64 x.d) ∧ w'.cell? ⟨g5, (KA + 1) * 7 + 1, none⟩ = some (.string x.nm) ∧ w'.cell? ⟨g5, KA * 7, none⟩ = some (.int .i64 a0.d) ∧ w'.cell? ⟨g5, KA * 7 + 1, none⟩ = some (.string a0.nm))
              (first | exact ⟨p0, p1, q0, q1⟩ | exact ⟨(hb6.cell (cellLt p0)).trans p0, (hb6.cell (cellLt p1)).trans p1, (hb6.cell (cellLt q0)).trans q0, (hb6.cell (cellLt q1)).trans q1⟩ | assumption)
              (first | (go_at_call 27; refine (HL.out _).mono ?_; rintro e w6 ⟨rfl, hb6⟩))
            have b6 : Below wr.heap.size wr w6 := ⟨hb6.os, hb6.tape, hb6.output, hb6.size, hb6.block⟩
            clear hb6 p0 p1 p2 p3 p4 p5 p6 q0 q1 q2 q3 q4 q5 q6 hfz
            go_wp2
            have hZ := HStop.out HN.out w6 b6
            exact ⟨⟨k + 1, _, by omega, by simp, hZ.2.2.1, hZ.1, hZ.2.1, hZ.2.2.2⟩, by simp [intOf]; omega⟩
    · have hkn' : ¬ (k : Int) < (n : Int) := by omega
      have hke : l.take k = l := List.take_of_length_le (by rw [H.out.2]; omega)
      rw [hke] at hso
      go_wp2
      go_ret
      exact ⟨_, rfl, m, hrow, hso, hb⟩
end Go.Proofs.Ytjelggpkeogebaa
