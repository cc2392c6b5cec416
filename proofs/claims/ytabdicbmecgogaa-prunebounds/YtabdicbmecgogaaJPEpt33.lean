/- Sorted of the document's tree, for lists of any length that memory holds (as TsF). -/
import Derived.Test.YtabdicbmecgogaaJPEpt32
namespace Go.Proofs.Ytabdicbmecgogaa
section
open Go.RowKit
attribute [local go_sem high] eqK neqK eqE neqE eqN neqN guardK guardE guardN

set_option maxRecDepth 20000 in
set_option maxHeartbeats 1000000 in
theorem less_any (d : Int) (nm : ByteArray) (d2 : Int) (nm2 : ByteArray) (w : World) :
    Calls Try.prog 69 #[.agg #[.int .i64 d, .string nm], .agg #[.int .i64 d2, .string nm2]] w fun e w' => e = .returned (.bool (lessK d nm d2 nm2)) ∧ Below w.heap.size w w' := by
  have hbx := boxes2 (w := w) (c1 := #[.int .i64 d, .string nm]) (c2 := #[.int .i64 d2, .string nm2]) (t1 := 28) (t2 := 28) rfl
  obtain ⟨B, hB⟩ : ∃ x, lessK d nm d2 nm2 = x := ⟨_, rfl⟩
  have HB : Hid (lessK d nm d2 nm2 = B) := hB
  rw [hB]
  clear hB
  go_enter Try.func69, Try.ntmps69
  go_upto_region 1 with fail
  obtain ⟨W, hW⟩ : ∃ W, (w.alloc (.cells #[.int .i64 d, .string nm] 28)).alloc (.cells #[.int .i64 d2, .string nm2] 28) = W := ⟨_, rfl⟩
  rw [hW] at hbx ⊢
  have k0 := cell_of hbx.1 0
  have k1 := cell_of hbx.1 1
  have k2 := cell_of hbx.2.1 0
  have k3 := cell_of hbx.2.1 1
  simp at k0 k1 k2 k3
  have HW : Hid (Below w.heap.size w W) := hbx.2.2.1
  clear hW hbx
  by_cases h1 : d < d2
  · have hd : decide (d < d2) = true := decide_eq_true h1
    have HQ : Hid (B = true) := by show _ = _; rw [← HB.out]; unfold lessK; rw [hd]; rfl
    go_wp2
    go_ret
    exact ⟨by rw [HQ.out]; rfl, HW.out⟩
  · have hd : decide (d < d2) = false := decide_eq_false h1
    by_cases h2 : d = d2
    · subst h2
      have HQ : Hid (B = Op.bytesLess nm.toList nm2.toList) := by show _ = _; rw [← HB.out]; unfold lessK; rw [hd]; simp
      go_wp2
      go_ret
      exact ⟨by rw [HQ.out]; rfl, HW.out⟩
    · have hd2 : (d == d2) = false := by simpa using h2
      have HQ : Hid (B = false) := by show _ = _; rw [← HB.out]; unfold lessK; rw [hd, decide_eq_false h2]; rfl
      go_wp2
      go_ret
      exact ⟨by rw [HQ.out]; rfl, HW.out⟩

set_option maxRecDepth 20000 in
set_option maxHeartbeats 8000000 in
theorem sorted_big (v : Value) (l : List En) (base : Nat) (w : World) (h : Row7 w base v l) (hl : l.length ≤ 1400000000000) :
    Calls Try.prog 60 #[v] w fun e w' => ∃ v' m, e = .returned v' ∧ Row7 w' w.heap.size v' m ∧ Sorts l m ∧ Below w.heap.size w w' := by
  obtain ⟨i1, hi1, hw0, hw1, hw2⟩ := info_parts Try.infoE
  obtain ⟨a, cap, rfl⟩ := owns_len h
  obtain ⟨n, hn⟩ : ∃ n, l.length = n := ⟨_, rfl⟩
  rw [hn] at hl
  have H : Hid (Row7 w base (.slice a n cap) l ∧ l.length = n) := ⟨by rw [← hn]; exact h, hn⟩
  rw [hn]
  clear h hn
  go_enter Try.func60, Try.ntmps60
  go_wp2
  go_loopw [3, 4] (fun u i wr => ∃ (k : Nat) (m : List En), k ≤ n ∧ i = .int .i64 k ∧ m.length = k ∧ Row7 wr w.heap.size u m ∧ Sorts (l.take k) m ∧ Below w.heap.size w wr) (fun _ i _ => n - (intOf i).toNat)
  case atStart => exact ⟨0, [], Nat.zero_le _, rfl, rfl, World.ownsRow_nil _ _ _ _, ⟨List.Perm.refl _, fun _ => List.Pairwise.nil⟩, Below.refl _ _⟩
  case round =>
    obtain ⟨k, m, hk, rfl, hmk, hrow, hso, hb⟩ := hrel
    by_cases hkn : k < n
    · obtain ⟨x, hx⟩ : ∃ x, l[k]? = some x := ⟨_, List.getElem?_eq_getElem (by rw [H.out.2]; exact hkn)⟩
      obtain ⟨g, rfl, -, -, -, hc, -⟩ := owns_entry (H.out.1.below hb) hx
      have x0 := hc.c0
      have x1 := hc.c1
      have x2 := hc.c2
      have x3 := hc.c3
      have x4 := hc.c4
      have x5 := hc.c5
      have x6 := hc.c6
      have hki : (k : Int) < (n : Int) := by omega
      have hrow' : wr.ownsRow w.heap.size 47 7 u3 k (ec m) := by have := hrow; unfold Row7 at this; rw [hmk] at this; exact this
      have HS : Hid (Sorts (l.take k) m ∧ l[k]? = some x ∧ m.length = k) := ⟨hso, hx, hmk⟩
      clear hrow hso hc hx hmk
      go_wp2_with (at_builtin; refine wpList_append_own_at _ rfl (.tmp 12) (.tmp 17) 41 rfl w.heap.size 47 i1 _ 7 72 Try.underlying41 hi1 hw0 hw1 hw2 rfl (by decide) _ k (ec m) rfl (World.ownsRow.alloc hrow' _) ⟨wr.heap.size, 0, none⟩ 1 1 x.vals rfl rfl (vals_at _ x _) (vals_one x) (by unfold maxLen; omega) (by omega) (by have := hb.size; simp; omega) ?_; intro v5 w5 hown5 hgrow5 _ _; obtain ⟨g5, c5, rfl⟩ := owns_form hown5; have H5 : Hid (w5.ownsRow w.heap.size 47 7 (.slice (some ⟨g5, 0, none⟩) (k + 1) c5) (k + 1) (ec (m ++ x :: [])) ∧ Below w.heap.size w w5) := ⟨by rw [ec_app]; have : ec [x] = x.vals := (by unfold ec; simp); rw [this]; exact hown5, Below.grown (hb.alloc hb.size _) hgrow5 (by have := hb.size; simp; omega) (fun q hq => (World.ownsRow.lt hrow' q hq).1)⟩; clear hown5 hgrow5)
      clear hrow' x0 x1 x2 x3 x4 x5 x6
      go_loopw [5] (fun i wr => ∃ (A B : List En), i = .int .i64 (A.length : Nat) ∧ A ++ B = m ∧ (Apart (l.take k ++ [x]) → ∀ b ∈ B, lessE x b) ∧ wr.ownsRow w.heap.size 47 7 (.slice (some ⟨g5, 0, none⟩) (k + 1) c5) (k + 1) (ec (A ++ x :: B)) ∧ Below w.heap.size w wr) (fun i _ => (intOf i).toNat)
      case atStart => exact ⟨m, [], by rw [HS.out.2.2], List.append_nil m, fun _ b hb => (by cases hb), H5.out.1, H5.out.2⟩
      case round =>
        clear H5 hb
        obtain ⟨A, B, rfl, hAB, hB, hown, hb⟩ := hrel
        have HI : Hid (A ++ B = m ∧ (Apart (l.take k ++ [x]) → ∀ b ∈ B, lessE x b) ∧ wr.ownsRow w.heap.size 47 7 (.slice (some ⟨g5, 0, none⟩) (k + 1) c5) (k + 1) (ec (A ++ x :: B)) ∧ Below w.heap.size w wr) := ⟨hAB, hB, hown, hb⟩
        have hlenA : A.length ≤ k := by rw [← HS.out.2.2, ← hAB, List.length_append]; omega
        have hstop : (∀ A' a, A = A' ++ [a] → ¬ lessE x a) → ∀ W, Below wr.heap.size wr W → Row7 W w.heap.size (.slice (some ⟨g5, 0, none⟩) (k + 1) c5) (A ++ x :: B) ∧ Sorts (l.take (k + 1)) (A ++ x :: B) ∧ (A ++ x :: B).length = k + 1 ∧ Below w.heap.size w W := fun hA W hbW => by
          have hlen : (A ++ x :: B).length = k + 1 := by rw [List.length_append, List.length_cons, ← HS.out.2.2, ← hAB, List.length_append]; omega
          refine ⟨?_, ?_, hlen, chainB hb hbW⟩
          · unfold Row7; rw [hlen]; exact owns_below hown hbW
          · rw [List.take_add_one, HS.out.2.1]; exact sorts_step HS.out.1 hAB hB hA
        have HStop : Hid ((∀ A' a, A = A' ++ [a] → ¬ lessE x a) → ∀ W, Below wr.heap.size wr W → Row7 W w.heap.size (.slice (some ⟨g5, 0, none⟩) (k + 1) c5) (A ++ x :: B) ∧ Sorts (l.take (k + 1)) (A ++ x :: B) ∧ (A ++ x :: B).length = k + 1 ∧ Below w.heap.size w W) := hstop
        clear hAB hB hown hb hstop
        rcases last_cases A with rfl | ⟨A', a0, rfl⟩
        · go_upto_region 7 with fail
          go_quiet (fail)
          go_wp2
          have hZ := HStop.out (fun A' a e => by simp at e) (wr.drewN nq) (below_drewN (Below.refl _ _) _)
          exact ⟨⟨k + 1, _, by omega, by simp, hZ.2.2.1, hZ.1, hZ.2.1, hZ.2.2.2⟩, by simp [intOf]; omega⟩
        · rw [List.length_append, List.length_singleton] at hlenA ⊢
          have hgp := get_prev A' B a0 x
          have hgm : ((A' ++ [a0]) ++ x :: B)[A'.length + 1]? = some x := by have := get_mid (A' ++ [a0]) B x; rw [List.length_append] at this; exact this
          have hlen : ((A' ++ [a0]) ++ x :: B).length = k + 1 := by have e := congrArg List.length HI.out.1; have e2 := HS.out.2.2; simp [List.length_append] at e ⊢; omega
          have hrw : wr.ownsRow w.heap.size 47 7 (.slice (some ⟨g5, 0, none⟩) (k + 1) c5) ((A' ++ [a0]) ++ x :: B).length (ec ((A' ++ [a0]) ++ x :: B)) := by rw [hlen]; exact HI.out.2.2.1
          obtain ⟨_, eg, -, hg5, -, hcx, hfz⟩ := owns_entry hrw hgm
          cases eg
          obtain ⟨_, eg, -, -, -, hca, -⟩ := owns_entry hrw hgp
          cases eg
          have p0 := hcx.c0
          have p1 := hcx.c1
          have p2 := hcx.c2
          have p3 := hcx.c3
          have p4 := hcx.c4
          have p5 := hcx.c5
          have p6 := hcx.c6
          have q0 := hca.c0
          have q1 := hca.c1
          have q2 := hca.c2
          have q3 := hca.c3
          have q4 := hca.c4
          have q5 := hca.c5
          have q6 := hca.c6
          obtain ⟨KA, hKA⟩ : ∃ y, A'.length = y := ⟨_, rfl⟩
          rw [hKA] at hlenA p0 p1 p2 p3 p4 p5 p6 q0 q1 q2 q3 q4 q5 q6 hgp hgm ⊢
          have HKA : Hid (A'.length = KA ∧ ((A' ++ [a0]) ++ x :: B)[KA]? = some a0 ∧ ((A' ++ [a0]) ++ x :: B)[KA + 1]? = some x) := ⟨hKA, hgp, hgm⟩
          have hKi : (KA : Int) + 1 < (k : Int) + 1 := by omega
          have hKi2 : (KA : Int) < (k : Int) + 1 := by omega
          have hKn : KA < k + 1 := by omega
          have hKt : ((KA : Int) + 1).toNat = KA + 1 := by omega
          have hK1 : (0 : Int) ≤ (KA : Int) + 1 := by omega
          have hKw : IntKind.i64.wrap ((KA : Int) + 1 - 1) = (KA : Int) := by rw [IntWalk.i64_in _ (by omega)]; omega
          have hKw2 : IntKind.i64.wrap (KA : Int) = (KA : Int) := IntWalk.i64_in _ (by omega)
          have hKk : KA < k := by omega
          have hKp : (0 : Int) < (KA : Int) + 1 := by omega
          have hK0 : (0 : Int) ≤ (KA : Int) := by omega
          clear hrw hcx hca hgp hgm hKA hlen
          by_cases hles : lessK x.d x.nm a0.d a0.nm = true
          · have HL : Hid (∀ W, Calls Try.prog 69 #[.agg #[.int .i64 x.d, .string x.nm], .agg #[.int .i64 a0.d, .string a0.nm]] W fun e w' => e = .returned (.bool true) ∧ Below W.heap.size W w') := by
              intro W; rw [← hles]; exact less_any _ _ _ _ W
            have HLe : Hid (lessE x a0) := hles
            clear hles
            go_upto_region 7 with fail
            go_region_held3 (fun w' => w'.cell? ⟨g5, (KA + 1) * 7, none⟩ = some (.int .i64 x.d) ∧ w'.cell? ⟨g5, (KA + 1) * 7 + 1, none⟩ = some (.string x.nm) ∧ w'.cell? ⟨g5, KA * 7, none⟩ = some (.int .i64 a0.d) ∧ w'.cell? ⟨g5, KA * 7 + 1, none⟩ = some (.string a0.nm))
              (first | exact ⟨p0, p1, q0, q1⟩ | exact ⟨(hb6.cell (cellLt p0)).trans p0, (hb6.cell (cellLt p1)).trans p1, (hb6.cell (cellLt q0)).trans q0, (hb6.cell (cellLt q1)).trans q1⟩ | assumption)
              (first | (go_at_call 69; refine (HL.out _).mono ?_; rintro e w6 ⟨rfl, hb6⟩))
            have b6 : Below wr.heap.size wr w6 := ⟨hb6.os, hb6.tape, hb6.output, hb6.size, hb6.block⟩
            have row6 := owns_below HI.out.2.2.1 b6
            have hp1 := put7o_row (e := a0) row6 HKA.out.2.2
            have hk2 : (((A' ++ [a0]) ++ x :: B).set (KA + 1) a0)[KA]? = some a0 := by rw [List.getElem?_set_ne (by omega)]; exact HKA.out.2.1
            have hp2 := put7o_row (e := x) hp1 hk2
            have hsw : (((A' ++ [a0]) ++ x :: B).set (KA + 1) a0).set KA x = A' ++ x :: a0 :: B := by rw [← HKA.out.1]; exact swap_mid A' B a0 x
            rw [hsw] at hp2
            have hbel : Below w.heap.size w (put7o (put7o w6 g5 ((KA + 1) * 7) a0) g5 (KA * 7) x) := ((put7o_only w6 g5 ((KA + 1) * 7) a0).trans (put7o_only _ g5 (KA * 7) x)).below (chainB HI.out.2.2.2 b6) (chainB HI.out.2.2.2 b6).size (fun q hq => by omega)
            have HP : Hid ((put7o (put7o w6 g5 ((KA + 1) * 7) a0) g5 (KA * 7) x).ownsRow w.heap.size 47 7 (.slice (some ⟨g5, 0, none⟩) (k + 1) c5) (k + 1) (ec (A' ++ x :: a0 :: B)) ∧ Below w.heap.size w (put7o (put7o w6 g5 ((KA + 1) * 7) a0) g5 (KA * 7) x)) := ⟨hp2, hbel⟩
            have hg5l : g5 < wr.heap.size := cellLt p0
            have fz : ∀ j, w6.frozen? ⟨g5, j, none⟩ = false := fun j => (b6.frozen (p := ⟨g5, j, none⟩) hg5l).trans (hfz j)
            have P0 := (b6.cell (cellLt p0)).trans p0
            have P1 := (b6.cell (cellLt p1)).trans p1
            have P2 := (b6.cell (cellLt p2)).trans p2
            have P3 := (b6.cell (cellLt p3)).trans p3
            have P4 := (b6.cell (cellLt p4)).trans p4
            have P5 := (b6.cell (cellLt p5)).trans p5
            have P6 := (b6.cell (cellLt p6)).trans p6
            have Q0 := (b6.cell (cellLt q0)).trans q0
            have Q1 := (b6.cell (cellLt q1)).trans q1
            have Q2 := (b6.cell (cellLt q2)).trans q2
            have Q3 := (b6.cell (cellLt q3)).trans q3
            have Q4 := (b6.cell (cellLt q4)).trans q4
            have Q5 := (b6.cell (cellLt q5)).trans q5
            have Q6 := (b6.cell (cellLt q6)).trans q6
            clear hb6 b6 row6 hp1 hk2 hp2 hsw hbel p0 p1 p2 p3 p4 p5 p6 q0 q1 q2 q3 q4 q5 q6 hfz
            go_upto_region 9 with fail
            go_region_law (fail)
            all_goals
              go_wp2
              refine ⟨⟨A', a0 :: B, by rw [HKA.out.1], by have := HI.out.1; rw [List.append_assoc] at this; exact this, ?_, ?_, ?_⟩, by simp [intOf]⟩
              · intro hd b hb
                rcases List.mem_cons.1 hb with rfl | hb
                · exact HLe.out
                · exact HI.out.2.1 hd b hb
              · exact owns_below HP.out.1 (below_drewN (Below.refl _ _) 1)
              · exact below_drewN HP.out.2 1
          · have hles' : lessK x.d x.nm a0.d a0.nm = false := by simpa using hles
            have HL : Hid (∀ W, Calls Try.prog 69 #[.agg #[.int .i64 x.d, .string x.nm], .agg #[.int .i64 a0.d, .string a0.nm]] W fun e w' => e = .returned (.bool false) ∧ Below W.heap.size W w') := by
              intro W; rw [← hles']; exact less_any _ _ _ _ W
            have HN : Hid (∀ A'' a, A' ++ [a0] = A'' ++ [a] → ¬ lessE x a) := fun A'' a e => by
              have e2 := (List.append_inj' e rfl).2
              simp only [List.cons.injEq, and_true] at e2
              rw [← e2]; exact hles
            clear hles hles'
            go_upto_region 7 with fail
            go_region_held3 (fun w' => w'.cell? ⟨g5, (KA + 1) * 7, none⟩ = some (.int .i64 x.d) ∧ w'.cell? ⟨g5, (KA + 1) * 7 + 1, none⟩ = some (.string x.nm) ∧ w'.cell? ⟨g5, KA * 7, none⟩ = some (.int .i64 a0.d) ∧ w'.cell? ⟨g5, KA * 7 + 1, none⟩ = some (.string a0.nm))
              (first | exact ⟨p0, p1, q0, q1⟩ | exact ⟨(hb6.cell (cellLt p0)).trans p0, (hb6.cell (cellLt p1)).trans p1, (hb6.cell (cellLt q0)).trans q0, (hb6.cell (cellLt q1)).trans q1⟩ | assumption)
              (first | (go_at_call 69; refine (HL.out _).mono ?_; rintro e w6 ⟨rfl, hb6⟩))
            have b6 : Below wr.heap.size wr w6 := ⟨hb6.os, hb6.tape, hb6.output, hb6.size, hb6.block⟩
            clear hb6 p0 p1 p2 p3 p4 p5 p6 q0 q1 q2 q3 q4 q5 q6 hfz
            go_wp2
            have hZ := HStop.out HN.out w6 b6
            exact ⟨⟨k + 1, _, by omega, by simp, hZ.2.2.1, hZ.1, hZ.2.1, hZ.2.2.2⟩, by simp [intOf]; omega⟩
    · have hkn' : ¬ (k : Int) < (n : Int) := by omega
      have hke : l.take k = l := List.take_of_length_le (by rw [H.out.2]; omega)
      rw [hke] at hso
      go_wp2
      go_ret
      exact ⟨_, rfl, m, hrow, hso, hb⟩
end
section
open Go.RowKit
attribute [local go_sem ↓ high] loadEn storeEn builden
attribute [local go_sem high] eqK neqK guardK

theorem nameL_takeL {L : List En} {j : Nat} {e : En} (d : Int) (h : L[j]? = some e) : nameL (L.take (j + 1)) d = nameL (L.take j) d ++ if decide (e.d = d) && !e.neg then [e] else [] := by
  unfold nameL
  rw [List.take_add_one, h, List.filter_append]
  congr 1
  cases hf : (decide (e.d = d) && !e.neg) <;> simp [hf]
set_option maxRecDepth 100000 in
set_option maxHeartbeats 4000000 in
theorem rnames_d (B q : Nat) (kc : Kc) (s : Cs) (d : Int) (w : World) (h : IsK w B q kc s) (hk : KeysOk s.L) (hl : s.L.length ≤ 1400000000000) : Calls Try.prog 45 #[.pointer (some ⟨q, 0, none⟩), .int .i64 d] w fun x w' => ∃ v m, x = .returned v ∧ Row7 w' w.heap.size v m ∧ NamesR s.L d m ∧ Below w.heap.size w w' := by
  obtain ⟨vl, vw⟩ := kc
  obtain ⟨a, cap, hv⟩ := owns_len h.rowL
  simp only at hv
  subst hv
  obtain ⟨n, hn⟩ : ∃ n, s.L.length = n := ⟨_, rfl⟩
  rw [hn] at hl
  have HI : Hid (IsK w B q ⟨.slice a n cap, vw⟩ s ∧ s.L.length = n ∧ KeysOk s.L) := ⟨by rw [← hn]; exact h, hn, hk⟩
  clear h hn hk
  have onee := enOne_of
  go_enter Try.func45, Try.ntmps45
  go_wp2
  go_loopw [5, 6] (fun s5 s6 wr => ∃ i : Nat, i ≤ n ∧ s6 = .int .i64 i ∧ ∃ a2 n2 c2, s5 = .slice a2 n2 c2 ∧ Hid (Row7 wr w.heap.size (.slice a2 n2 c2) (nameL (s.L.take i) d) ∧ Below w.heap.size w wr)) (fun _ s6 _ => n - (intOf s6).toNat)
  case atStart => exact ⟨0, Nat.zero_le _, rfl, _, _, _, rfl, World.ownsRow_nil _ _ _ _, Below.refl _ _⟩
  case round =>
    obtain ⟨i, hi, rfl, a2, n2, c2, rfl, HJ⟩ := hrel
    obtain ⟨hrow, hb⟩ := HJ.out
    obtain ⟨c0, -, -⟩ := (HI.out.1.below hb).cells
    simp only at c0
    by_cases hlt : i < n
    · obtain ⟨e, he⟩ : ∃ x, s.L[i]? = some x := ⟨_, List.getElem?_eq_getElem (by rw [HI.out.2.1]; exact hlt)⟩
      obtain ⟨g, rfl, -, -, -, hc, -⟩ := owns_entry (HI.out.1.below hb).rowL he
      have x0 := hc.c0
      have x2 := hc.c2
      have ld := enLd_at hc
      have hltz : (i : Int) < (n : Int) := by omega
      have hw1 : IntKind.i64.wrap ((i : Int) + 1) = ((i + 1 : Nat) : Int) := by
        rw [show ((i + 1 : Nat) : Int) = (i : Int) + 1 by omega]; exact IntWalk.i64_in _ (by omega)
      have hct := nameL_takeL d he
      have hcl : (nameL (s.L.take i) d).length ≤ i := Nat.le_trans (List.length_filter_le _ _) (by rw [List.length_take]; omega)
      by_cases hd : e.d = d
      · have hdz : (e.d == d) = true := by simp [hd]
        cases hneg : e.neg with
        | true =>
          rw [hneg] at x2 hct
          have HN : Hid (Row7 wr w.heap.size (.slice a2 n2 c2) (nameL (s.L.take (i + 1)) d) ∧ Below w.heap.size w wr) := ⟨by rw [hct]; simpa using hrow, hb⟩
          clear HJ hrow hb hct hcl he hc hd
          go_wp2
          go_roundw
          case rel => exact ⟨i + 1, by omega, rfl, _, _, _, rfl, HN⟩
          case measure => simp [intOf]; omega
        | false =>
          rw [hneg, decide_eq_true hd] at hct
          rw [hneg] at x2
          obtain ⟨a6, N6, c6, Z, r6, row6, o6⟩ := keep_more (X := wr) e hrow hb.size (by omega)
          have HN : Hid (Row7 Z w.heap.size (.slice a6 N6 c6) (nameL (s.L.take (i + 1)) d) ∧ Below w.heap.size w Z) := ⟨by rw [hct]; exact row6, o6.below hb hb.size fun b hb' => (World.ownsRow.lt hrow b hb').1⟩
          clear HJ hrow hb hct hcl he hc hd row6 o6
          go_wp2_with (at_builtin; refine wpList_apR rfl (.tmp 38) (.tmp 46) 41 rfl _ _ (.slice a6 N6 c6) Z (by simp [Act.eval]) (by simp [Act.eval]) r6 ?_)
          go_roundw
          case rel => exact ⟨i + 1, by omega, rfl, _, _, _, rfl, HN⟩
          case measure => simp [intOf]; omega
      · have hdz : (e.d == d) = false := by simp [hd]
        rw [decide_eq_false hd] at hct
        have HN : Hid (Row7 wr w.heap.size (.slice a2 n2 c2) (nameL (s.L.take (i + 1)) d) ∧ Below w.heap.size w wr) := ⟨by rw [hct]; simpa using hrow, hb⟩
        clear HJ hrow hb hct hcl he hc hd
        go_wp2
        go_roundw
        case rel => exact ⟨i + 1, by omega, rfl, _, _, _, rfl, HN⟩
        case measure => simp [intOf]; omega
    · obtain rfl : i = n := by omega
      have hltz : ¬ (i : Int) < (i : Int) := by omega
      rw [List.take_of_length_le (by rw [HI.out.2.1]; exact Nat.le_refl _)] at hrow
      have hnl : (nameL s.L d).length ≤ i := Nat.le_trans (List.length_filter_le _ _) (by rw [HI.out.2.1]; exact Nat.le_refl _)
      have HS : Hid (Calls Try.prog 60 #[.slice a2 n2 c2] wr fun e w' => ∃ v' m, e = .returned v' ∧ Row7 w' w.heap.size v' m ∧ NamesR s.L d m ∧ Below w.heap.size w w') := by
        refine (sorted_big _ _ _ wr hrow (by omega)).mono ?_
        rintro x w' ⟨v', m, rfl, hr, hs, hb'⟩
        exact ⟨v', m, rfl, owns_le hr hb.size, ⟨hs.1, hs.2 (HI.out.2.2.filter _)⟩, chainB hb hb'⟩
      clear HJ hrow hb hnl
      go_wp2_with (go_at_call 60; refine HS.out.mono ?_; rintro x W ⟨v', m, rfl, hq⟩; have HQ : Hid (Row7 W w.heap.size v' m ∧ NamesR s.L d m ∧ Below w.heap.size w W) := hq; clear hq)
      go_ret
      exact ⟨_, m, rfl, HQ.out⟩
end
end Go.Proofs.Ytabdicbmecgogaa
