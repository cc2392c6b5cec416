/- Sorted of the document's tree, for lists of any length that memory holds (as TsF). -/
import Derived.Test.YtmndnjgbbpkidaaGreatJWLks22
import Derived.Laws.RangeAny
import Derived.Laws.Strings
import Derived.Laws.Strings2
import Derived.Laws.Concat
namespace Go.Proofs.YtmndnjgbbpkidaaGreat
section
open Go.RowKit
attribute [local go_sem high] eqK neqK eqE neqE eqN neqN guardK guardE guardN

set_option maxRecDepth 20000 in
set_option maxHeartbeats 1000000 in
theorem less_any (d : Int) (nm : ByteArray) (d2 : Int) (nm2 : ByteArray) (w : World) :
    Calls Tryz.prog 88 #[.agg #[.int .i64 d, .string nm], .agg #[.int .i64 d2, .string nm2]] w fun e w' => e = .returned (.bool (lessK d nm d2 nm2)) ∧ Below w.heap.size w w' := by
  have hbx := boxes2 (w := w) (c1 := #[.int .i64 d, .string nm]) (c2 := #[.int .i64 d2, .string nm2]) (t1 := 29) (t2 := 29) rfl
  obtain ⟨B, hB⟩ : ∃ x, lessK d nm d2 nm2 = x := ⟨_, rfl⟩
  have HB : Hid (lessK d nm d2 nm2 = B) := hB
  rw [hB]
  clear hB
  go_enter Tryz.func88, Tryz.ntmps88
  go_upto_region 1 with fail
  obtain ⟨W, hW⟩ : ∃ W, (w.alloc (.cells #[.int .i64 d, .string nm] 29)).alloc (.cells #[.int .i64 d2, .string nm2] 29) = W := ⟨_, rfl⟩
  rw [hW] at hbx ⊢
  have k0 := cell_of hbx.1 0
  have k1 := cell_of hbx.1 1
  have k2 := cell_of hbx.2.1 0
  have k3 := cell_of hbx.2.1 1
  simp at k0 k1 k2 k3
  have HW : Hid (Below w.heap.size w W) := hbx.2.2.1
  clear hW hbx
  by_cases h1 : d < d2
  · have hd : decide (d < d2) = true := decide_eq_true h1
    have HQ : Hid (B = true) := by show _ = _; rw [← HB.out]; unfold lessK; rw [hd]; rfl
    go_wp2
    go_ret
    exact ⟨by rw [HQ.out]; rfl, HW.out⟩
  · have hd : decide (d < d2) = false := decide_eq_false h1
    by_cases h2 : d = d2
    · subst h2
      have HQ : Hid (B = Op.bytesLess nm.toList nm2.toList) := by show _ = _; rw [← HB.out]; unfold lessK; rw [hd]; simp
      go_wp2
      go_ret
      exact ⟨by rw [HQ.out]; rfl, HW.out⟩
    · have hd2 : (d == d2) = false := by simpa using h2
      have HQ : Hid (B = false) := by show _ = _; rw [← HB.out]; unfold lessK; rw [hd, decide_eq_false h2]; rfl
      go_wp2
      go_ret
      exact ⟨by rw [HQ.out]; rfl, HW.out⟩

set_option maxRecDepth 20000 in
set_option maxHeartbeats 8000000 in
theorem sorted_big (v : Value) (l : List En) (base : Nat) (w : World) (h : Row7 w base v l) (hl : l.length ≤ 1400000000000) :
    Calls Tryz.prog 68 #[v] w fun e w' => ∃ v' m, e = .returned v' ∧ Row7 w' w.heap.size v' m ∧ Sorts l m ∧ Below w.heap.size w w' := by
  obtain ⟨i1, hi1, hw0, hw1, hw2⟩ := info_parts Tryz.infoE
  obtain ⟨a, cap, rfl⟩ := owns_len h
  obtain ⟨n, hn⟩ : ∃ n, l.length = n := ⟨_, rfl⟩
  rw [hn] at hl
  have H : Hid (Row7 w base (.slice a n cap) l ∧ l.length = n) := ⟨by rw [← hn]; exact h, hn⟩
  rw [hn]
  clear h hn
  go_enter Tryz.func68, Tryz.ntmps68
  go_wp2
  go_loopw [3, 4] (fun u i wr => ∃ (k : Nat) (m : List En), k ≤ n ∧ i = .int .i64 k ∧ m.length = k ∧ Row7 wr w.heap.size u m ∧ Sorts (l.take k) m ∧ Below w.heap.size w wr) (fun _ i _ => n - (intOf i).toNat)
  case atStart => exact ⟨0, [], Nat.zero_le _, rfl, rfl, World.ownsRow_nil _ _ _ _, ⟨List.Perm.refl _, fun _ => List.Pairwise.nil⟩, Below.refl _ _⟩
  case round =>
    obtain ⟨k, m, hk, rfl, hmk, hrow, hso, hb⟩ := hrel
    by_cases hkn : k < n
    · obtain ⟨x, hx⟩ : ∃ x, l[k]? = some x := ⟨_, List.getElem?_eq_getElem (by rw [H.out.2]; exact hkn)⟩
      obtain ⟨g, rfl, -, -, -, hc, -⟩ := owns_entry (H.out.1.below hb) hx
      have x0 := hc.c0
      have x1 := hc.c1
      have x2 := hc.c2
      have x3 := hc.c3
      have x4 := hc.c4
      have x5 := hc.c5
      have x6 := hc.c6
      have hki : (k : Int) < (n : Int) := by omega
      have hrow' : wr.ownsRow w.heap.size 52 7 u3 k (ec m) := by have := hrow; unfold Row7 at this; rw [hmk] at this; exact this
      have HS : Hid (Sorts (l.take k) m ∧ l[k]? = some x ∧ m.length = k) := ⟨hso, hx, hmk⟩
      clear hrow hso hc hx hmk
      go_wp2_with (at_builtin; refine wpList_append_own_at _ rfl (.tmp 12) (.tmp 17) 23 rfl w.heap.size 52 i1 _ 7 72 Tryz.underlying23 hi1 hw0 hw1 hw2 rfl (by decide) _ k (ec m) rfl (World.ownsRow.alloc hrow' _) ⟨wr.heap.size, 0, none⟩ 1 1 x.vals rfl rfl (vals_at _ x _) (vals_one x) (by unfold maxLen; omega) (by omega) (by have := hb.size; simp; omega) ?_; intro v5 w5 hown5 hgrow5 _ _; obtain ⟨g5, c5, rfl⟩ := owns_form hown5; have H5 : Hid (w5.ownsRow w.heap.size 52 7 (.slice (some ⟨g5, 0, none⟩) (k + 1) c5) (k + 1) (ec (m ++ x :: [])) ∧ Below w.heap.size w w5) := ⟨by rw [ec_app]; have : ec [x] = x.vals := (by unfold ec; simp); rw [this]; exact hown5, Below.grown (hb.alloc hb.size _) hgrow5 (by have := hb.size; simp; omega) (fun q hq => (World.ownsRow.lt hrow' q hq).1)⟩; clear hown5 hgrow5)
      clear hrow' x0 x1 x2 x3 x4 x5 x6
      go_loopw [5] (fun i wr => ∃ (A B : List En), i = .int .i64 (A.length : Nat) ∧ A ++ B = m ∧ (Apart (l.take k ++ [x]) → ∀ b ∈ B, lessE x b) ∧ wr.ownsRow w.heap.size 52 7 (.slice (some ⟨g5, 0, none⟩) (k + 1) c5) (k + 1) (ec (A ++ x :: B)) ∧ Below w.heap.size w wr) (fun i _ => (intOf i).toNat)
      case atStart => exact ⟨m, [], by rw [HS.out.2.2], List.append_nil m, fun _ b hb => (by cases hb), H5.out.1, H5.out.2⟩
      case round =>
        clear H5 hb
        obtain ⟨A, B, rfl, hAB, hB, hown, hb⟩ := hrel
        have HI : Hid (A ++ B = m ∧ (Apart (l.take k ++ [x]) → ∀ b ∈ B, lessE x b) ∧ wr.ownsRow w.heap.size 52 7 (.slice (some ⟨g5, 0, none⟩) (k + 1) c5) (k + 1) (ec (A ++ x :: B)) ∧ Below w.heap.size w wr) := ⟨hAB, hB, hown, hb⟩
        have hlenA : A.length ≤ k := by rw [← HS.out.2.2, ← hAB, List.length_append]; omega
        have hstop : (∀ A' a, A = A' ++ [a] → ¬ lessE x a) → ∀ W, Below wr.heap.size wr W → Row7 W w.heap.size (.slice (some ⟨g5, 0, none⟩) (k + 1) c5) (A ++ x :: B) ∧ Sorts (l.take (k + 1)) (A ++ x :: B) ∧ (A ++ x :: B).length = k + 1 ∧ Below w.heap.size w W := fun hA W hbW => by
          have hlen : (A ++ x :: B).length = k + 1 := by rw [List.length_append, List.length_cons, ← HS.out.2.2, ← hAB, List.length_append]; omega
          refine ⟨?_, ?_, hlen, chainB hb hbW⟩
          · unfold Row7; rw [hlen]; exact owns_below hown hbW
          · rw [List.take_add_one, HS.out.2.1]; exact sorts_step HS.out.1 hAB hB hA
        have HStop : Hid ((∀ A' a, A = A' ++ [a] → ¬ lessE x a) → ∀ W, Below wr.heap.size wr W → Row7 W w.heap.size (.slice (some ⟨g5, 0, none⟩) (k + 1) c5) (A ++ x :: B) ∧ Sorts (l.take (k + 1)) (A ++ x :: B) ∧ (A ++ x :: B).length = k + 1 ∧ Below w.heap.size w W) := hstop
        clear hAB hB hown hb hstop
        rcases last_cases A with rfl | ⟨A', a0, rfl⟩
        · go_upto_region 7 with fail
          go_quiet (fail)
          go_wp2
          have hZ := HStop.out (fun A' a e => by simp at e) (wr.drewN nq) (below_drewN (Below.refl _ _) _)
          exact ⟨⟨k + 1, _, by omega, by simp, hZ.2.2.1, hZ.1, hZ.2.1, hZ.2.2.2⟩, by simp [intOf]; omega⟩
        · rw [List.length_append, List.length_singleton] at hlenA ⊢
          have hgp := get_prev A' B a0 x
          have hgm : ((A' ++ [a0]) ++ x :: B)[A'.length + 1]? = some x := by have := get_mid (A' ++ [a0]) B x; rw [List.length_append] at this; exact this
          have hlen : ((A' ++ [a0]) ++ x :: B).length = k + 1 := by have e := congrArg List.length HI.out.1; have e2 := HS.out.2.2; simp [List.length_append] at e ⊢; omega
          have hrw : wr.ownsRow w.heap.size 52 7 (.slice (some ⟨g5, 0, none⟩) (k + 1) c5) ((A' ++ [a0]) ++ x :: B).length (ec ((A' ++ [a0]) ++ x :: B)) := by rw [hlen]; exact HI.out.2.2.1
          obtain ⟨_, eg, -, hg5, -, hcx, hfz⟩ := owns_entry hrw hgm
          cases eg
          obtain ⟨_, eg, -, -, -, hca, -⟩ := owns_entry hrw hgp
          cases eg
          have p0 := hcx.c0
          have p1 := hcx.c1
          have p2 := hcx.c2
          have p3 := hcx.c3
          have p4 := hcx.c4
          have p5 := hcx.c5
          have p6 := hcx.c6
          have q0 := hca.c0
          have q1 := hca.c1
          have q2 := hca.c2
          have q3 := hca.c3
          have q4 := hca.c4
          have q5 := hca.c5
          have q6 := hca.c6
          obtain ⟨KA, hKA⟩ : ∃ y, A'.length = y := ⟨_, rfl⟩
          rw [hKA] at hlenA p0 p1 p2 p3 p4 p5 p6 q0 q1 q2 q3 q4 q5 q6 hgp hgm ⊢
          have HKA : Hid (A'.length = KA ∧ ((A' ++ [a0]) ++ x :: B)[KA]? = some a0 ∧ ((A' ++ [a0]) ++ x :: B)[KA + 1]? = some x) := ⟨hKA, hgp, hgm⟩
          have hKi : (KA : Int) + 1 < (k : Int) + 1 := by omega
          have hKi2 : (KA : Int) < (k : Int) + 1 := by omega
          have hKn : KA < k + 1 := by omega
          have hKt : ((KA : Int) + 1).toNat = KA + 1 := by omega
          have hK1 : (0 : Int) ≤ (KA : Int) + 1 := by omega
          have hKw : IntKind.i64.wrap ((KA : Int) + 1 - 1) = (KA : Int) := by rw [IntWalk.i64_in _ (by omega)]; omega
          have hKw2 : IntKind.i64.wrap (KA : Int) = (KA : Int) := IntWalk.i64_in _ (by omega)
          have hKk : KA < k := by omega
          have hKp : (0 : Int) < (KA : Int) + 1 := by omega
          have hK0 : (0 : Int) ≤ (KA : Int) := by omega
          clear hrw hcx hca hgp hgm hKA hlen
          by_cases hles : lessK x.d x.nm a0.d a0.nm = true
          · have HL : Hid (∀ W, Calls Tryz.prog 88 #[.agg #[.int .i64 x.d, .string x.nm], .agg #[.int .i64 a0.d, .string a0.nm]] W fun e w' => e = .returned (.bool true) ∧ Below W.heap.size W w') := by
              intro W; rw [← hles]; exact less_any _ _ _ _ W
            have HLe : Hid (lessE x a0) := hles
            clear hles
            go_upto_region 7 with fail
            go_region_held3 (fun w' => w'.cell? ⟨g5, (KA + 1) * 7, none⟩ = some (.int .i64 x.d) ∧ w'.cell? ⟨g5, (KA + 1) * 7 + 1, none⟩ = some (.string x.nm) ∧ w'.cell? ⟨g5, KA * 7, none⟩ = some (.int .i64 a0.d) ∧ w'.cell? ⟨g5, KA * 7 + 1, none⟩ = some (.string a0.nm))
              (first | exact ⟨p0, p1, q0, q1⟩ | exact ⟨(hb6.cell (cellLt p0)).trans p0, (hb6.cell (cellLt p1)).trans p1, (hb6.cell (cellLt q0)).trans q0, (hb6.cell (cellLt q1)).trans q1⟩ | assumption)
              (first | (go_at_call 88; refine (HL.out _).mono ?_; rintro e w6 ⟨rfl, hb6⟩))
            have b6 : Below wr.heap.size wr w6 := ⟨hb6.os, hb6.tape, hb6.output, hb6.size, hb6.block⟩
            have row6 := owns_below HI.out.2.2.1 b6
            have hp1 := put7o_row (e := a0) row6 HKA.out.2.2
            have hk2 : (((A' ++ [a0]) ++ x :: B).set (KA + 1) a0)[KA]? = some a0 := by rw [List.getElem?_set_ne (by omega)]; exact HKA.out.2.1
            have hp2 := put7o_row (e := x) hp1 hk2
            have hsw : (((A' ++ [a0]) ++ x :: B).set (KA + 1) a0).set KA x = A' ++ x :: a0 :: B := by rw [← HKA.out.1]; exact swap_mid A' B a0 x
            rw [hsw] at hp2
            have hbel : Below w.heap.size w (put7o (put7o w6 g5 ((KA + 1) * 7) a0) g5 (KA * 7) x) := ((put7o_only w6 g5 ((KA + 1) * 7) a0).trans (put7o_only _ g5 (KA * 7) x)).below (chainB HI.out.2.2.2 b6) (chainB HI.out.2.2.2 b6).size (fun q hq => by omega)
            have HP : Hid ((put7o (put7o w6 g5 ((KA + 1) * 7) a0) g5 (KA * 7) x).ownsRow w.heap.size 52 7 (.slice (some ⟨g5, 0, none⟩) (k + 1) c5) (k + 1) (ec (A' ++ x :: a0 :: B)) ∧ Below w.heap.size w (put7o (put7o w6 g5 ((KA + 1) * 7) a0) g5 (KA * 7) x)) := ⟨hp2, hbel⟩
            have hg5l : g5 < wr.heap.size := cellLt p0
            have fz : ∀ j, w6.frozen? ⟨g5, j, none⟩ = false := fun j => (b6.frozen (p := ⟨g5, j, none⟩) hg5l).trans (hfz j)
            have P0 := (b6.cell (cellLt p0)).trans p0
            have P1 := (b6.cell (cellLt p1)).trans p1
            have P2 := (b6.cell (cellLt p2)).trans p2
            have P3 := (b6.cell (cellLt p3)).trans p3
            have P4 := (b6.cell (cellLt p4)).trans p4
            have P5 := (b6.cell (cellLt p5)).trans p5
            have P6 := (b6.cell (cellLt p6)).trans p6
            have Q0 := (b6.cell (cellLt q0)).trans q0
            have Q1 := (b6.cell (cellLt q1)).trans q1
            have Q2 := (b6.cell (cellLt q2)).trans q2
            have Q3 := (b6.cell (cellLt q3)).trans q3
            have Q4 := (b6.cell (cellLt q4)).trans q4
            have Q5 := (b6.cell (cellLt q5)).trans q5
            have Q6 := (b6.cell (cellLt q6)).trans q6
            clear hb6 b6 row6 hp1 hk2 hp2 hsw hbel p0 p1 p2 p3 p4 p5 p6 q0 q1 q2 q3 q4 q5 q6 hfz
            go_upto_region 9 with fail
            go_region_law (fail)
            all_goals
              go_wp2
              refine ⟨⟨A', a0 :: B, by rw [HKA.out.1], by have := HI.out.1; rw [List.append_assoc] at this; exact this, ?_, ?_, ?_⟩, by simp [intOf]⟩
              · intro hd b hb
                rcases List.mem_cons.1 hb with rfl | hb
                · exact HLe.out
                · exact HI.out.2.1 hd b hb
              · exact owns_below HP.out.1 (below_drewN (Below.refl _ _) 1)
              · exact below_drewN HP.out.2 1
          · have hles' : lessK x.d x.nm a0.d a0.nm = false := by simpa using hles
            have HL : Hid (∀ W, Calls Tryz.prog 88 #[.agg #[.int .i64 x.d, .string x.nm], .agg #[.int .i64 a0.d, .string a0.nm]] W fun e w' => e = .returned (.bool false) ∧ Below W.heap.size W w') := by
              intro W; rw [← hles']; exact less_any _ _ _ _ W
            have HN : Hid (∀ A'' a, A' ++ [a0] = A'' ++ [a] → ¬ lessE x a) := fun A'' a e => by
              have e2 := (List.append_inj' e rfl).2
              simp only [List.cons.injEq, and_true] at e2
              rw [← e2]; exact hles
            clear hles hles'
            go_upto_region 7 with fail
            go_region_held3 (fun w' => w'.cell? ⟨g5, (KA + 1) * 7, none⟩ = some (.int .i64 x.d) ∧ w'.cell? ⟨g5, (KA + 1) * 7 + 1, none⟩ = some (.string x.nm) ∧ w'.cell? ⟨g5, KA * 7, none⟩ = some (.int .i64 a0.d) ∧ w'.cell? ⟨g5, KA * 7 + 1, none⟩ = some (.string a0.nm))
              (first | exact ⟨p0, p1, q0, q1⟩ | exact ⟨(hb6.cell (cellLt p0)).trans p0, (hb6.cell (cellLt p1)).trans p1, (hb6.cell (cellLt q0)).trans q0, (hb6.cell (cellLt q1)).trans q1⟩ | assumption)
              (first | (go_at_call 88; refine (HL.out _).mono ?_; rintro e w6 ⟨rfl, hb6⟩))
            have b6 : Below wr.heap.size wr w6 := ⟨hb6.os, hb6.tape, hb6.output, hb6.size, hb6.block⟩
            clear hb6 p0 p1 p2 p3 p4 p5 p6 q0 q1 q2 q3 q4 q5 q6 hfz
            go_wp2
            have hZ := HStop.out HN.out w6 b6
            exact ⟨⟨k + 1, _, by omega, by simp, hZ.2.2.1, hZ.1, hZ.2.1, hZ.2.2.2⟩, by simp [intOf]; omega⟩
    · have hkn' : ¬ (k : Int) < (n : Int) := by omega
      have hke : l.take k = l := List.take_of_length_le (by rw [H.out.2]; omega)
      rw [hke] at hso
      go_wp2
      go_ret
      exact ⟨_, rfl, m, hrow, hso, hb⟩
end
section
/-- the byte at a place; behind the end a slash -/
def bt (s : ByteArray) (i : Nat) : Nat := if h : i < s.size then (s[i]'h).toNat else 47
theorem bt_at (s : ByteArray) (i : Nat) (h : i < s.size) : bt s i = (s[i]'h).toNat := by unfold bt; rw [dif_pos h]
theorem bt_end (s : ByteArray) (i : Nat) (h : s.size ≤ i) : bt s i = 47 := by unfold bt; rw [dif_neg (by omega)]
theorem bt_lt (s : ByteArray) (i : Nat) : bt s i < 256 := by
  unfold bt; split
  · exact UInt8.toNat_lt _
  · omega

/-- a byte is among the first ones -/
def hasF (s : ByteArray) (c : Nat) : Nat → Bool
  | 0 => false
  | i + 1 => hasF s c i || decide (bt s i = c)
def hasB (s : ByteArray) (c : Nat) : Bool := hasF s c s.size
theorem hasF_iff (s : ByteArray) (c n : Nat) : hasF s c n = true ↔ ∃ i, i < n ∧ bt s i = c := by
  induction n with
  | zero => simp [hasF]
  | succ n ih =>
    simp only [hasF, Bool.or_eq_true, ih, decide_eq_true_eq]
    constructor
    · rintro (⟨i, h, e⟩ | e)
      · exact ⟨i, by omega, e⟩
      · exact ⟨n, by omega, e⟩
    · rintro ⟨i, h, e⟩
      by_cases hi : i = n
      · subst hi; exact .inr e
      · exact .inl ⟨i, by omega, e⟩
theorem hasB_of {s : ByteArray} {c i : Nat} (h : i < s.size) (e : bt s i = c) : hasB s c = true := (hasF_iff _ _ _).2 ⟨i, h, e⟩
theorem hasF_no {s : ByteArray} {c n m : Nat} (h : hasF s c n = false) (hm : ∀ i, n ≤ i → i < m → bt s i ≠ c) : hasF s c m = false := by
  rw [← Bool.not_eq_true, hasF_iff] at h ⊢
  rintro ⟨i, hi, e⟩
  by_cases hn : i < n
  · exact h ⟨i, hn, e⟩
  · exact hm i (by omega) hi e

/-- where the piece begins that goes on at a place -/
def frm (s : ByteArray) : Nat → Nat
  | 0 => 0
  | i + 1 => if bt s i = 47 then i + 1 else frm s i
theorem frm_le (s : ByteArray) (i : Nat) : frm s i ≤ i := by
  induction i with
  | zero => exact Nat.le_refl _
  | succ i ih => simp only [frm]; split <;> omega
/-- the pieces that have ended ahead of a place -/
def pcs (s : ByteArray) : Nat → List ByteArray
  | 0 => []
  | i + 1 => if bt s i = 47 ∧ frm s i < i then pcs s i ++ [s.extract (frm s i) i] else pcs s i
theorem pcs_len (s : ByteArray) (i : Nat) : (pcs s i).length ≤ i := by
  induction i with
  | zero => exact Nat.le_refl _
  | succ i ih => simp only [pcs]; split
                 · rw [List.length_append]; simp only [List.length_cons, List.length_nil]; omega
                 · omega
theorem frm_skip {s : ByteArray} {n m : Nat} (hnm : n ≤ m) (hm : ∀ i, n ≤ i → i < m → bt s i ≠ 47) : frm s m = frm s n ∧ pcs s m = pcs s n := by
  induction m with
  | zero => have : n = 0 := by omega
            subst this; exact ⟨rfl, rfl⟩
  | succ m ih =>
    by_cases h : n = m + 1
    · subst h; exact ⟨rfl, rfl⟩
    · have hb := hm m (by omega) (by omega)
      have := ih (by omega) (fun i h1 h2 => hm i h1 (by omega))
      simp only [frm, pcs, hb, if_false, false_and]
      exact this
def pieces (s : ByteArray) : List ByteArray := pcs s (s.size + 1)

def dotsB (s : ByteArray) : Bool := (s.toList == [46]) || (s.toList == [46, 46])
def rootB (s : ByteArray) : Bool := decide (0 < s.size) && decide (bt s 0 = 47)
/-- the last of a list -/
def lastT (l : List ByteArray) : ByteArray := l.getLast?.getD ⟨#[]⟩
def longB (l : List ByteArray) : Bool := l.any fun x => decide (12 < x.size)

def chkE (s : ByteArray) : Int := if 12 < s.size then 11 else if s.size = 0 ∨ dotsB s = true ∨ hasB s 0 = true ∨ hasB s 47 = true then 10 else 0
def cutE (s : ByteArray) (b : Bool) : Int := if 96 < s.size then 13 else if b = false ∨ hasB s 0 = true then 12 else if longB (pieces s) = true then 11 else 0
def cutL (s : ByteArray) (b : Bool) : List ByteArray := if cutE s b = 0 then pieces s else []
def dirB (s : ByteArray) : Bool := decide (bt s (s.size - 1) = 47) || dotsB (lastT (pieces s))
def cutD (s : ByteArray) (b : Bool) : Bool := if cutE s b = 0 then dirB s else false
def parE (s : ByteArray) : Int := if cutE s (rootB s) = 0 then (if (lastT (pieces s)).size = 0 ∨ dotsB (lastT (pieces s)) = true then 10 else 0) else cutE s (rootB s)
def parL (s : ByteArray) : List ByteArray := if parE s = 0 then (pieces s).dropLast else []
def parT (s : ByteArray) : ByteArray := if parE s = 0 then lastT (pieces s) else ⟨#[]⟩

/-- a list of texts in memory -/
def RowS (w : World) (a : Option Addr) (l : List ByteArray) : Prop :=
  l = [] ∨ ∃ b off, a = some ⟨b, off, none⟩ ∧ b < w.heap.size ∧ ∀ (i : Nat) (x : ByteArray), l[i]? = some x → w.cell? ⟨b, off + i, none⟩ = some (.string x)
end
section
theorem bt_get (s : ByteArray) (i : Nat) (h : i < s.size) : (s.get! i).toNat = bt s i := by
  rw [bt_at s i h]
  have := get_at s i h
  rw [Nat.add_zero] at this
  rw [this]

def contP (t : ByteArray) (pos k : Nat) : Prop := pos + k < t.size ∧ (t.get! (pos + k)).toNat / 64 = 2
theorem contP_of {t : ByteArray} {pos k : Nat} (h : (decide (pos + k < t.size) && (t.get! (pos + k)).toNat / 64 == 2) = true) : contP t pos k := by
  rw [Bool.and_eq_true, decide_eq_true_eq, beq_iff_eq] at h; exact h
theorem contP_bt {t : ByteArray} {pos k : Nat} (h : contP t pos k) : pos + k < t.size ∧ 128 ≤ bt t (pos + k) := by
  refine ⟨h.1, ?_⟩
  rw [← bt_get t _ h.1]
  have := h.2; omega
theorem dec_cases (t : ByteArray) (pos : Nat) : (Utf8.decode t pos).2 = 1 ∨ ((Utf8.decode t pos).2 = 2 ∧ contP t pos 1) ∨ ((Utf8.decode t pos).2 = 3 ∧ contP t pos 1 ∧ contP t pos 2) ∨ ((Utf8.decode t pos).2 = 4 ∧ contP t pos 1 ∧ contP t pos 2 ∧ contP t pos 3) := by
  unfold Utf8.decode
  dsimp only
  split
  · exact .inl rfl
  · split
    · rename_i h
      rw [Bool.and_eq_true] at h
      split
      · exact .inr (.inl ⟨rfl, contP_of h.2⟩)
      · exact .inl rfl
    · split
      · rename_i h
        rw [Bool.and_eq_true, Bool.and_eq_true] at h
        split
        · exact .inr (.inr (.inl ⟨rfl, contP_of h.1.2, contP_of h.2⟩))
        · exact .inl rfl
      · split
        · rename_i h
          rw [Bool.and_eq_true, Bool.and_eq_true, Bool.and_eq_true] at h
          split
          · exact .inr (.inr (.inr ⟨rfl, contP_of h.1.1.2, contP_of h.1.2, contP_of h.2⟩))
          · exact .inl rfl
        · exact .inl rfl

theorem dec_step (t : ByteArray) (pos : Nat) (h : pos < t.size) :
    1 ≤ (Utf8.decode t pos).2 ∧ pos + (Utf8.decode t pos).2 ≤ t.size ∧ (∀ i, pos < i → i < pos + (Utf8.decode t pos).2 → 128 ≤ bt t i) ∧
      ((bt t pos < 128 ∧ (Utf8.decode t pos).1 = bt t pos ∧ (Utf8.decode t pos).2 = 1) ∨ (128 ≤ bt t pos ∧ 128 ≤ (Utf8.decode t pos).1)) := by
  have h4 : (bt t pos < 128 ∧ (Utf8.decode t pos).1 = bt t pos ∧ (Utf8.decode t pos).2 = 1) ∨ (128 ≤ bt t pos ∧ 128 ≤ (Utf8.decode t pos).1) := by
    by_cases ha : bt t pos < 128
    · have e := decode_ascii t pos h (by rw [← bt_at t pos h]; exact ha)
      rw [e]
      exact .inl ⟨ha, (bt_at t pos h).symm, rfl⟩
    · exact .inr ⟨by omega, (decode_high t pos h (by rw [← bt_at t pos h]; omega)).1⟩
  refine ⟨?_, ?_, ?_, h4⟩
  · rcases dec_cases t pos with e | ⟨e, _⟩ | ⟨e, _⟩ | ⟨e, _⟩ <;> rw [e] <;> omega
  · rcases dec_cases t pos with e | ⟨e, h1⟩ | ⟨e, _, h1⟩ | ⟨e, _, _, h1⟩ <;> rw [e]
    · omega
    · have := (contP_bt h1).1; omega
    · have := (contP_bt h1).1; omega
    · have := (contP_bt h1).1; omega
  · intro i h1 h2
    rcases dec_cases t pos with e | ⟨e, c1⟩ | ⟨e, c1, c2⟩ | ⟨e, c1, c2, c3⟩ <;> rw [e] at h2
    · omega
    · obtain rfl : i = pos + 1 := by omega
      exact (contP_bt c1).2
    · have : i = pos + 1 ∨ i = pos + 2 := by omega
      rcases this with rfl | rfl
      · exact (contP_bt c1).2
      · exact (contP_bt c2).2
    · have : i = pos + 1 ∨ i = pos + 2 ∨ i = pos + 3 := by omega
      rcases this with rfl | rfl | rfl
      · exact (contP_bt c1).2
      · exact (contP_bt c2).2
      · exact (contP_bt c3).2

/-- a slash behind turns no byte -/
theorem bt_slash (s : ByteArray) (i : Nat) (h : i < s.size + 1) : bt (s ++ ⟨#[47]⟩) i = bt s i := by
  have hz : (s ++ (⟨#[47]⟩ : ByteArray)).size = s.size + 1 := by rw [ByteArray.size_append]; rfl
  by_cases hi : i < s.size
  · rw [bt_at s i hi, bt_at _ i (by omega), ByteArray.getElem_append_left hi]
  · obtain rfl : i = s.size := by omega
    rw [bt_end s _ (Nat.le_refl _), bt_at _ _ (by omega), ByteArray.getElem_append_right (Nat.le_refl _)]
    simp
    rfl
theorem size_slash (s : ByteArray) : (s ++ (⟨#[47]⟩ : ByteArray)).size = s.size + 1 := by rw [ByteArray.size_append]; rfl

theorem toList_size (s : ByteArray) : s.toList.length = s.size := by rw [ByteArray.toList_eq]; cases s; rfl
theorem toList_nil (s : ByteArray) : (s.toList == []) = decide (s.size = 0) := by
  have h := toList_size s
  cases hl : s.toList with
  | nil => rw [hl] at h; simp at h; simp [← h]
  | cons a l => rw [hl] at h; simp at h; simp [← h]

theorem pcs_succ_cut {s : ByteArray} {i : Nat} (h : bt s i = 47) (hf : frm s i < i) : pcs s (i + 1) = pcs s i ++ [s.extract (frm s i) i] := by simp only [pcs]; rw [if_pos ⟨h, hf⟩]
theorem pcs_succ_not {s : ByteArray} {i : Nat} (h : ¬ (bt s i = 47 ∧ frm s i < i)) : pcs s (i + 1) = pcs s i := by simp only [pcs]; rw [if_neg h]
theorem frm_succ_cut {s : ByteArray} {i : Nat} (h : bt s i = 47) : frm s (i + 1) = i + 1 := by simp only [frm]; rw [if_pos h]
theorem frm_succ_not {s : ByteArray} {i : Nat} (h : bt s i ≠ 47) : frm s (i + 1) = frm s i := by simp only [frm]; rw [if_neg h]
end
end Go.Proofs.YtmndnjgbbpkidaaGreat
