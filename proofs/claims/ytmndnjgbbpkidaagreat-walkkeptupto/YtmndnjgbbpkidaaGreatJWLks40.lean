/- Used keys are few; SameOut of equal outcomes. -/
import Derived.Test.YtmndnjgbbpkidaaGreatJWLks39
import Derived.Test.YtmndnjgbbpkidaaGreatJWLks26
import Derived.Test.YtmndnjgbbpkidaaGreatJWLks23
namespace Go.Proofs.YtmndnjgbbpkidaaGreat
section
open Go.RowKit
attribute [local go_sem high] eqK neqK guardK eqN neqN guardN

theorem goI_len (kn : Ky → Option En) (fol : Bool) (m : ByteArray → List ByteArray → Ws → Ou) (q : Nat) (hm : ∀ tg rest s, (m tg rest s).used.length ≤ s.used.length + rest.length + q) : ∀ (steps : List ByteArray) (s : Ws), (goI kn fol m steps s).used.length ≤ s.used.length + steps.length + q
  | [], s => by rw [goI, fin_used]; omega
  | x :: rest, s => by
    have hu : (s.use ⟨s.here.id, x⟩).used.length = s.used.length + 1 := by
      show (s.used ++ [_]).length = _
      rw [List.length_append]; rfl
    rw [goI, List.length_cons]
    split
    · show s.used.length ≤ _; omega
    split
    · have := goI_len kn fol m q hm rest s; omega
    split
    · have := goI_len kn fol m q hm rest s.up
      have e : s.up.used = s.used := rfl
      rw [e] at this; omega
    split
    · show s.used.length ≤ _; omega
    · split
      · show (s.use ⟨s.here.id, x⟩).used.length ≤ _; omega
      split
      · rename_i e _ _ _
        have := hm e.tg rest (s.use ⟨s.here.id, x⟩); omega
      · rename_i e _ _ _
        have := goI_len kn fol m q hm rest ((s.use ⟨s.here.id, x⟩).go e.nd)
        have e' : ((s.use ⟨s.here.id, x⟩).go e.nd).used = (s.use ⟨s.here.id, x⟩).used := rfl
        rw [e'] at this; omega
theorem goW_len (kn : Ky → Option En) (fol : Bool) : ∀ (l : Nat) (steps : List ByteArray) (s : Ws), (goW kn fol l steps s).used.length ≤ s.used.length + steps.length + 97 * l
  | 0, steps, s => goI_len kn fol _ 0 (fun _ _ s => by show s.used.length ≤ _; omega) steps s
  | l + 1, steps, s => by
    have := goI_len kn fol (metW (goW kn fol l)) (97 * (l + 1)) (fun tg rest s => by
      unfold metW
      split
      · have h := goW_len kn fol l (cutL tg (fullB tg) ++ rest) (s.met tg (decide (rest.length = 0)))
        have hc := cutL_len tg (fullB tg)
        have e : (s.met tg (decide (rest.length = 0))).used = s.used := rfl
        rw [e, List.length_append] at h
        omega
      · show s.used.length ≤ _; omega) steps s
    exact this
theorem walkO_len (kn : Ky → Option En) (path : ByteArray) (fol : Bool) (links : Int) : (walkO kn path fol links).used.length ≤ 1000 := by
  unfold walkO
  split
  · unfold stepsO
    have := goW_len kn fol (linksN links) (cutL path (rootB path)) (startW (cutD path (rootB path)))
    have hc := cutL_len path (rootB path)
    have hl := linksN_le links
    have e : (startW (cutD path (rootB path))).used.length = 0 := rfl
    omega
  · simp
theorem ouNode' {w : World} {g : Nat} {o : Ou} {uv : Value} (h : w.heap[g]? = some (.cells (ouVals o uv).toArray 35 (0, 0))) : w.cell? ⟨g, 5, none⟩ = some (.int .i64 o.node.kind) ∧ w.cell? ⟨g, 6, none⟩ = some (.int .i64 o.node.mode) ∧ w.cell? ⟨g, 7, none⟩ = some (.string o.node.tg) :=
  ⟨by rw [cell_of h]; rfl, by rw [cell_of h]; rfl, by rw [cell_of h]; rfl⟩
set_option maxRecDepth 100000 in
set_option maxHeartbeats 8000000 in
theorem sameOut_yes (o : Ou) (v v' : Value) (base base' : Nat) (w : World) (h : RowK w base v o.used) (h' : RowK w base' v' o.used) (hl : o.used.length ≤ 1000000000) :
    Calls Tryz.prog 10 #[ouAgg o v, ouAgg o v'] w fun r w' => r = .returned (.bool true) ∧ Below w.heap.size w w' := by
  obtain ⟨W1, hW1⟩ : ∃ W, w.alloc (.cells (ouVals o v).toArray 35) = W := ⟨_, rfl⟩
  have b1 := boxO hW1
  obtain ⟨W2, hW2⟩ : ∃ W, W1.alloc (.cells (ouVals o v').toArray 35) = W := ⟨_, rfl⟩
  have b2 := boxO hW2
  have hb := chainB b1.2.1 b2.2.1
  obtain ⟨x0, x1, x2, x3, x4, x8⟩ := ouCells (hkeep b1.1 b2.2.1)
  obtain ⟨y0, y1, y2, y3, y4, y8⟩ := ouCells b2.1
  have x5 := ouNode' (hkeep b1.1 b2.2.1)
  have y5 := ouNode' b2.1
  obtain ⟨x5, x6, x7⟩ := x5
  obtain ⟨y5, y6, y7⟩ := y5
  have HS : Hid (Calls Tryz.prog 35 #[v, v'] W2 fun e w' => e = .returned (.bool true) ∧ Below W2.heap.size W2 w') := by
    have := sameK_any v v' o.used o.used base base' W2 (h.below hb) (h'.below hb) (by omega) (by omega)
    rw [(sameKs_iff _ _).2 rfl] at this
    exact this
  have HB : Hid (Below w.heap.size w W2) := hb
  have e1 : w.heap.size + 1 = W1.heap.size := b1.2.2.symm
  rw [show ouAgg o v = .agg (ouVals o v).toArray from rfl, show ouAgg o v' = .agg (ouVals o v').toArray from rfl]
  clear h h' b1 b2 hb
  go_enter Tryz.func10, Tryz.ntmps10
  go_wp2_with (go_at_call 35; refine HS.out.mono ?_; rintro r w3 ⟨rfl, hb⟩; have HZ : Hid (Below w.heap.size w w3) := chainB HB.out hb; clear hb)
  go_ret
  exact ⟨rfl, HZ.out⟩
end
section
open Go.RowKit

def ouLd (v : Value) : Sem Value := Instr.loadAt 35 v
theorem loadOu (v : Value) : Instr.loadAt 35 v = ouLd v := rfl
theorem ouLd_of {w : World} {g : Nat} {o : Ou} {uv : Value} (h : w.heap[g]? = some (.cells (ouVals o uv).toArray 35 (0, 0))) : (ouLd (.pointer (some ⟨g, 0, none⟩))).run Tryz.prog w = .ok (ouAgg o uv) w := by
  have := run_loadAt_mid (P := Tryz.prog) w g 0 35 (ouVals o uv) _ (fun j v hv => by
    rw [Nat.zero_add, cell_of h]
    simpa using hv) Tryz.underlying35 rfl Tryz.sizeOu
  exact this
attribute [irreducible] ouLd
end
section
open Go.RowKit
attribute [local go_sem ↓ high] loadEn storeEn builden
attribute [local go_sem high] eqK neqK guardK

theorem nameL_takeL {L : List En} {j : Nat} {e : En} (d : Int) (h : L[j]? = some e) : nameL (L.take (j + 1)) d = nameL (L.take j) d ++ if decide (e.d = d) && !e.neg then [e] else [] := by
  unfold nameL
  rw [List.take_add_one, h, List.filter_append]
  congr 1
  cases hf : (decide (e.d = d) && !e.neg) <;> simp [hf]
set_option maxRecDepth 100000 in
set_option maxHeartbeats 4000000 in
theorem rnames_d (B q : Nat) (kc : Kc) (s : Cs) (d : Int) (w : World) (h : IsK w B q kc s) (hk : KeysOk s.L) (hl : s.L.length ≤ 1400000000000) : Calls Tryz.prog 47 #[.pointer (some ⟨q, 0, none⟩), .int .i64 d] w fun x w' => ∃ v m, x = .returned v ∧ Row7 w' w.heap.size v m ∧ NamesR s.L d m ∧ Below w.heap.size w w' := by
  obtain ⟨vl, vw⟩ := kc
  obtain ⟨a, cap, hv⟩ := owns_len h.rowL
  simp only at hv
  subst hv
  obtain ⟨n, hn⟩ : ∃ n, s.L.length = n := ⟨_, rfl⟩
  rw [hn] at hl
  have HI : Hid (IsK w B q ⟨.slice a n cap, vw⟩ s ∧ s.L.length = n ∧ KeysOk s.L) := ⟨by rw [← hn]; exact h, hn, hk⟩
  clear h hn hk
  have onee := enOne_of
  go_enter Tryz.func47, Tryz.ntmps47
  go_wp2
  go_loopw [5, 6] (fun s5 s6 wr => ∃ i : Nat, i ≤ n ∧ s6 = .int .i64 i ∧ ∃ a2 n2 c2, s5 = .slice a2 n2 c2 ∧ Hid (Row7 wr w.heap.size (.slice a2 n2 c2) (nameL (s.L.take i) d) ∧ Below w.heap.size w wr)) (fun _ s6 _ => n - (intOf s6).toNat)
  case atStart => exact ⟨0, Nat.zero_le _, rfl, _, _, _, rfl, World.ownsRow_nil _ _ _ _, Below.refl _ _⟩
  case round =>
    obtain ⟨i, hi, rfl, a2, n2, c2, rfl, HJ⟩ := hrel
    obtain ⟨hrow, hb⟩ := HJ.out
    obtain ⟨c0, -, -⟩ := (HI.out.1.below hb).cells
    simp only at c0
    by_cases hlt : i < n
    · obtain ⟨e, he⟩ : ∃ x, s.L[i]? = some x := ⟨_, List.getElem?_eq_getElem (by rw [HI.out.2.1]; exact hlt)⟩
      obtain ⟨g, rfl, -, -, -, hc, -⟩ := owns_entry (HI.out.1.below hb).rowL he
      have x0 := hc.c0
      have x2 := hc.c2
      have ld := enLd_at hc
      have hltz : (i : Int) < (n : Int) := by omega
      have hw1 : IntKind.i64.wrap ((i : Int) + 1) = ((i + 1 : Nat) : Int) := by
        rw [show ((i + 1 : Nat) : Int) = (i : Int) + 1 by omega]; exact IntWalk.i64_in _ (by omega)
      have hct := nameL_takeL d he
      have hcl : (nameL (s.L.take i) d).length ≤ i := Nat.le_trans (List.length_filter_le _ _) (by rw [List.length_take]; omega)
      by_cases hd : e.d = d
      · have hdz : (e.d == d) = true := by simp [hd]
        cases hneg : e.neg with
        | true =>
          rw [hneg] at x2 hct
          have HN : Hid (Row7 wr w.heap.size (.slice a2 n2 c2) (nameL (s.L.take (i + 1)) d) ∧ Below w.heap.size w wr) := ⟨by rw [hct]; simpa using hrow, hb⟩
          clear HJ hrow hb hct hcl he hc hd
          go_wp2
          go_roundw
          case rel => exact ⟨i + 1, by omega, rfl, _, _, _, rfl, HN⟩
          case measure => simp [intOf]; omega
        | false =>
          rw [hneg, decide_eq_true hd] at hct
          rw [hneg] at x2
          obtain ⟨a6, N6, c6, Z, r6, row6, o6⟩ := keep_more (X := wr) e hrow hb.size (by omega)
          have HN : Hid (Row7 Z w.heap.size (.slice a6 N6 c6) (nameL (s.L.take (i + 1)) d) ∧ Below w.heap.size w Z) := ⟨by rw [hct]; exact row6, o6.below hb hb.size fun b hb' => (World.ownsRow.lt hrow b hb').1⟩
          clear HJ hrow hb hct hcl he hc hd row6 o6
          go_wp2_with (at_builtin; refine wpList_apR rfl (.tmp 38) (.tmp 46) 23 rfl _ _ (.slice a6 N6 c6) Z (by simp [Act.eval]) (by simp [Act.eval]) r6 ?_)
          go_roundw
          case rel => exact ⟨i + 1, by omega, rfl, _, _, _, rfl, HN⟩
          case measure => simp [intOf]; omega
      · have hdz : (e.d == d) = false := by simp [hd]
        rw [decide_eq_false hd] at hct
        have HN : Hid (Row7 wr w.heap.size (.slice a2 n2 c2) (nameL (s.L.take (i + 1)) d) ∧ Below w.heap.size w wr) := ⟨by rw [hct]; simpa using hrow, hb⟩
        clear HJ hrow hb hct hcl he hc hd
        go_wp2
        go_roundw
        case rel => exact ⟨i + 1, by omega, rfl, _, _, _, rfl, HN⟩
        case measure => simp [intOf]; omega
    · obtain rfl : i = n := by omega
      have hltz : ¬ (i : Int) < (i : Int) := by omega
      rw [List.take_of_length_le (by rw [HI.out.2.1]; exact Nat.le_refl _)] at hrow
      have hnl : (nameL s.L d).length ≤ i := Nat.le_trans (List.length_filter_le _ _) (by rw [HI.out.2.1]; exact Nat.le_refl _)
      have HS : Hid (Calls Tryz.prog 68 #[.slice a2 n2 c2] wr fun e w' => ∃ v' m, e = .returned v' ∧ Row7 w' w.heap.size v' m ∧ NamesR s.L d m ∧ Below w.heap.size w w') := by
        refine (sorted_big _ _ _ wr hrow (by omega)).mono ?_
        rintro x w' ⟨v', m, rfl, hr, hs, hb'⟩
        exact ⟨v', m, rfl, owns_le hr hb.size, ⟨hs.1, hs.2 (HI.out.2.2.filter _)⟩, chainB hb hb'⟩
      clear HJ hrow hb hnl
      go_wp2_with (go_at_call 68; refine HS.out.mono ?_; rintro x W ⟨v', m, rfl, hq⟩; have HQ : Hid (Row7 W w.heap.size v' m ∧ NamesR s.L d m ∧ Below w.heap.size w W) := hq; clear hq)
      go_ret
      exact ⟨_, m, rfl, HQ.out⟩
end
end Go.Proofs.YtmndnjgbbpkidaaGreat
