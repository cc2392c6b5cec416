/- firsts: of each key the first entry; what the two sources tell; known. -/
import Derived.Test.YtppbbddlbfgpfaaJWUps25
namespace Go.Proofs.Ytppbbddlbfgpfaa
section
open Go.RowKit
attribute [local go_sem ↓ high] loadEn storeEn

/-- a list of entries that can be read -/
def RdE (w : World) (v : Value) (es : List En) : Prop := ∃ a cap, v = .slice a es.length cap ∧ es.length ≤ 2000000000000 ∧ ∀ (j : Nat) (e : En), es[j]? = some e → ∃ g o, a = some ⟨g, o, none⟩ ∧ Cells7 w g (o + j * 7) e
theorem RdE.below {w w' : World} {v : Value} {es : List En} (h : RdE w v es) (hb : Below w.heap.size w w') : RdE w' v es := by
  obtain ⟨a, cap, rfl, hl, hc⟩ := h
  refine ⟨a, cap, rfl, hl, fun j e he => ?_⟩
  obtain ⟨g, o, e1, e2⟩ := hc j e he
  exact ⟨g, o, e1, e2.below hb⟩
theorem RdE.nil (w : World) : RdE w (.slice none 0 0) [] := ⟨none, 0, rfl, by simp, fun j e he => by simp at he⟩
theorem firsts_take {es : List En} {i : Nat} {e : En} (h : es[i]? = some e) : firstsL (es.take (i + 1)) = firstE (firstsL (es.take i)) e := by
  unfold firstsL
  rw [List.take_add_one, h, List.foldl_append]
  rfl
set_option maxRecDepth 100000 in
set_option maxHeartbeats 4000000 in
theorem firsts_p (v : Value) (es : List En) (w : World) (h : RdE w v es) : Calls Try.prog 29 #[v] w fun r w' => ∃ g, r = .returned (.map (some g)) ∧ FAt w' g (firstsL es) ∧ w.heap.size ≤ g ∧ Below w.heap.size w w' := by
  obtain ⟨a, cap, rfl, hl, hc⟩ := h
  obtain ⟨n, hn⟩ : ∃ n, es.length = n := ⟨_, rfl⟩
  rw [hn] at hl ⊢
  have HE : Hid (∀ (j : Nat) e, es[j]? = some e → ∃ g o, a = some ⟨g, o, none⟩ ∧ ∀ W, Below w.heap.size w W → Cells7 W g (o + j * 7) e) := fun j e he => by
    obtain ⟨g, o, e1, e2⟩ := hc j e he
    exact ⟨g, o, e1, fun W hW => e2.below hW⟩
  have HN : Hid (es.length = n) := hn
  have bx := box7
  have ld := ld7
  have hmm := @run_makeMap Try.prog
  clear hc hn
  go_enter Try.func29, Try.ntmps29
  go_wp2
  obtain ⟨W1, hW1⟩ : ∃ W, w.alloc (.map #[] 0) = W := ⟨_, rfl⟩
  have b1 := boxO hW1
  have HS : Hid (FAt W1 w.heap.size (firstsL (es.take 0)) ∧ Below w.heap.size w W1) := ⟨⟨#[], 0, b1.1, by simp [firstsL]⟩, b1.2.1⟩
  rw [hW1]
  clear hW1 b1
  go_loopw [11] (fun i wr => ∃ k : Nat, k ≤ n ∧ i = .int .i64 k ∧ Hid (FAt wr w.heap.size (firstsL (es.take k)) ∧ Below w.heap.size w wr)) (fun i _ => n - (intOf i).toNat)
  case atStart => exact ⟨0, Nat.zero_le _, rfl, HS⟩
  case round =>
    clear HS
    obtain ⟨k, hk, rfl, HJ⟩ := hrel
    by_cases hlt : k < n
    · have hltz : (k : Int) < (n : Int) := by omega
      obtain ⟨e, he⟩ : ∃ x, es[k]? = some x := ⟨_, List.getElem?_eq_getElem (by rw [HN.out]; exact hlt)⟩
      obtain ⟨g, o, rfl, hcell⟩ := HE.out k e he
      have hld := enLd_at (hcell wr HJ.out.2)
      obtain ⟨V, hV⟩ : ∃ V, wr.alloc (.cells e.vals.toArray 42) = V := ⟨_, rfl⟩
      have bV := boxO hV
      have q7 := cells7_of bV.1
      have q0 := q7.c0
      have q1 := q7.c1
      simp only [Nat.zero_add] at q0 q1
      obtain ⟨fl, hfl⟩ : ∃ fl, firstsL (es.take k) = fl := ⟨_, rfl⟩
      have ht := firsts_take he
      rw [hfl] at ht
      obtain ⟨hF, hb⟩ := HJ.out
      rw [hfl] at hF
      have hlk := lookF e.key _ _ _ (hF.below bV.2.1)
      obtain ⟨x0, hx0⟩ : ∃ x0, (fget fl e.key).getD zeroEn = x0 := ⟨_, rfl⟩
      obtain ⟨ok, hok⟩ : ∃ ok, (fget fl e.key).isSome = ok := ⟨_, rfl⟩
      rw [hx0, hok] at hlk
      have hlk2 : (Instr.lookup 79 (.map (some w.heap.size)) (.agg #[.int .i64 e.d, .string e.nm]) true).run Try.prog V = .ok (.tuple #[x0.agg, .bool ok]) V := hlk
      obtain ⟨W2, hW2⟩ : ∃ W, V.alloc (.cells x0.vals.toArray 42) = W := ⟨_, rfl⟩
      have b2 := boxO hW2
      have bW : Below wr.heap.size wr W2 := chainB bV.2.1 b2.2.1
      cases ok with
      | true =>
        have HZ : Hid (FAt W2 w.heap.size (firstsL (es.take (k + 1))) ∧ Below w.heap.size w W2) := ⟨by rw [ht]; unfold firstE; rw [hok, if_pos rfl]; exact hF.below bW, chainB hb bW⟩
        clear hlk HJ hF hb hx0 hok hfl ht bV b2 bW he hcell q7
        go_wp2
        go_roundw
        case rel => exact ⟨k + 1, by omega, rfl, HZ⟩
        case measure => simp [intOf]; omega
      | false =>
        have hno : fget fl e.key = none := by
          cases hg : fget fl e.key with
          | none => rfl
          | some z => rw [hg] at hok; cases hok
        obtain ⟨Z, hst, hFZ, hoZ⟩ := storeF e.key e W2 w.heap.size fl (hF.below bW) hno
        have hst2 : (Instr.mapUpdate 79 (.map (some w.heap.size)) (.agg #[.int .i64 e.d, .string e.nm]) e.agg).run Try.prog W2 = .ok () Z := hst
        have HZ : Hid (FAt Z w.heap.size (firstsL (es.take (k + 1))) ∧ Below w.heap.size w Z) := ⟨by rw [ht]; unfold firstE; rw [hno]; exact hFZ, hoZ.below (chainB hb bW) (chainB hb bW).size (fun b hb' => by omega)⟩
        have r7 := q7.below b2.2.1
        have r0 := r7.c0
        have r1 := r7.c1
        have ldW := enLd_at r7
        simp only [Nat.zero_add] at r0 r1
        clear hlk HJ hF hb hx0 hok hfl ht bV b2 bW he hcell hst hFZ hoZ hno r7 q7
        go_wp2
        go_roundw
        case rel => exact ⟨k + 1, by omega, rfl, HZ⟩
        case measure => simp [intOf]; omega
    · obtain rfl : k = n := by omega
      have hltz : ¬ (k : Int) < (k : Int) := by omega
      have H := HJ.out
      rw [List.take_of_length_le (by rw [HN.out]; exact Nat.le_refl _)] at H
      have HZ : Hid (FAt wr w.heap.size (firstsL es) ∧ Below w.heap.size w wr) := H
      clear HJ H
      go_wp2
      go_ret
      exact ⟨_, rfl, HZ.out.1, Nat.le_refl _, HZ.out.2⟩
end
section
open Go.RowKit
attribute [local go_sem ↓ high] loadEn storeEn

set_option maxHeartbeats 2000000 in
theorem tellF_p (g : Nat) (fl : Fl) (k : Ky) (w : World) (h : FAt w g fl) : Calls Try.prog 112 #[.map (some g), .agg #[.int .i64 k.d, .string k.nm]] w fun r w' => r = .returned (.tuple #[((fget fl k).getD zeroEn).agg, .bool (fget fl k).isSome]) ∧ Below w.heap.size w w' := by
  obtain ⟨W1, hW1⟩ : ∃ W, w.alloc (.cells #[.int .i64 k.d, .string k.nm] 28) = W := ⟨_, rfl⟩
  have b1 := boxO hW1
  obtain ⟨W2, hW2⟩ : ∃ W, W1.alloc (.cells zeroes7 42) = W := ⟨_, rfl⟩
  have b2 := boxO hW2
  obtain ⟨x, hx⟩ : ∃ x, (fget fl k).getD zeroEn = x := ⟨_, rfl⟩
  obtain ⟨b, hb⟩ : ∃ x, (fget fl k).isSome = x := ⟨_, rfl⟩
  rw [hx, hb]
  obtain ⟨W3, hW3⟩ : ∃ W, W2.alloc (.cells x.vals.toArray 42) = W := ⟨_, rfl⟩
  have b3 := boxO hW3
  obtain ⟨W4, hW4⟩ : ∃ W, W3.setRow W1.heap.size x.vals.toArray = W := ⟨_, rfl⟩
  have z3 : W3.heap[W1.heap.size]? = some (.cells zeroes7 42 (0, 0)) := (b3.2.1.block _ (by omega)).trans b2.1
  have HR : Hid (W4.heap[W1.heap.size]? = some (.cells x.vals.toArray 42 (0, 0))) := by rw [← hW4]; exact setRow_heap _ _ _ _ _ _ z3
  have HB : Hid (Below w.heap.size w W4) := by
    have e1 := chainB (chainB b1.2.1 b2.2.1) b3.2.1
    rw [← hW4]
    exact (onlyR _ _ _).below e1 e1.size fun k e => by omega
  have kk := hkeep b1.1 b2.2.1
  have k0 : W2.cell? ⟨w.heap.size, 0, none⟩ = some (.int .i64 k.d) := by rw [cell_of kk]; rfl
  have k1 : W2.cell? ⟨w.heap.size, 1, none⟩ = some (.string k.nm) := by rw [cell_of kk]; rfl
  have lk := lookF k W2 g fl ((h.below b1.2.1).below b2.2.1)
  rw [hx, hb] at lk
  have lk2 : (Instr.lookup 79 (.map (some g)) (.agg #[.int .i64 k.d, .string k.nm]) true).run Try.prog W2 = .ok (.tuple #[x.agg, .bool b]) W2 := lk
  have l1 : (enLd (.pointer (some ⟨W2.heap.size, 0, none⟩))).run Try.prog W3 = .ok x.agg W3 := enLd_at (cells7_of b3.1)
  have s1 : (enSt (.pointer (some ⟨W1.heap.size, 0, none⟩)) x.agg).run Try.prog W3 = .ok () W4 := enSt_of z3 rfl hW4
  have bx := box7
  have e1 : w.heap.size + 1 = W1.heap.size := b1.2.2.symm
  have e2 : W1.heap.size + 1 = W2.heap.size := b2.2.2.symm
  clear h hx hb b1 b2 b3 hW4 z3 kk lk
  go_enter Try.func112, Try.ntmps112
  go_wp2
  (try simp only [Exit.inBlock, Exit.then])
  refine bodyPost_ret (ret_entry2 rfl _ _ W1.heap.size rfl HR.out) rfl ?_
  exact ⟨rfl, HB.out⟩
set_option maxHeartbeats 4000000 in
theorem tellC_p (p : Nat) (c : Pc) (s : Cs) (k : Ky) (w : World) (h : IsC w p c) (hs : Says c s) : Calls Try.prog 113 #[.agg #[.pointer (some ⟨p, 0, none⟩)], .agg #[.int .i64 k.d, .string k.nm]] w fun r w' => r = .returned (.tuple #[((knC s k).getD zeroEn).agg, .bool (knC s k).isSome]) ∧ Below w.heap.size w w' := by
  obtain ⟨W0, hW0⟩ : ∃ W, w.alloc (.cells #[.pointer (some ⟨p, 0, none⟩)] 82) = W := ⟨_, rfl⟩
  have b0 := boxO hW0
  obtain ⟨W1, hW1⟩ : ∃ W, W0.alloc (.cells #[.int .i64 k.d, .string k.nm] 28) = W := ⟨_, rfl⟩
  have b1 := boxO hW1
  obtain ⟨W2, hW2⟩ : ∃ W, W1.alloc (.cells zeroes7 42) = W := ⟨_, rfl⟩
  have b2 := boxO hW2
  have hb2 := chainB (chainB b0.2.1 b1.2.1) b2.2.1
  have HB2 : Hid (Below w.heap.size w W2) := hb2
  have h2 := h.below hb2
  have HS : Hid (∀ W, Below W2.heap.size W2 W → W.cell? ⟨w.heap.size, 0, none⟩ = some (.pointer (some ⟨p, 0, none⟩)) ∧ W.cell? ⟨W0.heap.size, 0, none⟩ = some (.int .i64 k.d) ∧ W.cell? ⟨W0.heap.size, 1, none⟩ = some (.string k.nm) ∧ W.heap[W1.heap.size]? = some (.cells zeroes7 42 (0, 0))) := fun W hW => by
    have q0 := hkeep (hkeep (hkeep b0.1 b1.2.1) b2.2.1) hW
    have q1 := hkeep (hkeep b1.1 b2.2.1) hW
    exact ⟨by rw [cell_of q0]; rfl, by rw [cell_of q1]; rfl, by rw [cell_of q1]; rfl, hkeep b2.1 hW⟩
  obtain ⟨p0, p1, p2, -⟩ := HS.out W2 (Below.refl _ _)
  have HG : Hid (Calls Try.prog 114 #[.pointer (some ⟨p, 0, none⟩), .agg #[.int .i64 k.d, .string k.nm]] W2 fun x w' => x = .returned (.tuple #[((getL s.L k).getD zeroEn).agg, .bool (getL s.L k).isSome]) ∧ Below W2.heap.size W2 w') := get_s p c s k W2 h2 hs
  have HW : Hid (∀ W, Below W2.heap.size W2 W → Calls Try.prog 115 #[.pointer (some ⟨p, 0, none⟩), .int .i64 k.d] W fun x w' => x = .returned (.bool (decide (k.d ∈ s.W))) ∧ Below W.heap.size W w') := fun W hW => by
    refine (whole_p p c k.d W (h2.below hW)).mono ?_
    rintro x w' ⟨rfl, hb⟩
    exact ⟨by rw [hs.whole], hb⟩
  have HT : Hid (∀ W (x : En), Below W2.heap.size W2 W → ∃ Z, (enSt (.pointer (some ⟨W1.heap.size, 0, none⟩)) x.agg).run Try.prog W = .ok () Z ∧ Z.heap[W1.heap.size]? = some (.cells x.vals.toArray 42 (0, 0)) ∧ Below w.heap.size w Z) := fun W x hW => by
    have z := (HS.out W hW).2.2.2
    have e1 := chainB hb2 hW
    exact ⟨_, enSt_of z rfl rfl, setRow_heap _ _ _ _ _ _ z, (onlyR _ _ _).below e1 e1.size fun k e => by have := b1.2.2; have := b0.2.2; omega⟩
  have bx := box7
  have e0 : w.heap.size + 1 = W0.heap.size := b0.2.2.symm
  have e1 : W0.heap.size + 1 = W1.heap.size := b1.2.2.symm
  have e2 : W1.heap.size + 1 = W2.heap.size := b2.2.2.symm
  clear h hs h2 b0 b1 b2 hb2
  unfold knC
  cases hg : getL s.L k with
  | some x =>
    rw [hg] at HG
    simp only [Option.getD_some, Option.isSome_some]
    clear hg
    go_enter Try.func113, Try.ntmps113
    go_wp2_with (go_at_call 114; refine HG.out.mono ?_; rintro r W3 ⟨rfl, hb⟩; obtain ⟨V, hV⟩ : ∃ V, W3.alloc (.cells x.vals.toArray 42) = V := ⟨_, rfl⟩; have bV := boxO hV; have lV := enLd_at (cells7_of bV.1); obtain ⟨Z, st, HZ⟩ := HT.out V x (chainB hb bV.2.1); have HZ' : Hid (Z.heap[W1.heap.size]? = some (.cells x.vals.toArray 42 (0, 0)) ∧ Below w.heap.size w Z) := HZ; clear hb bV HZ)
    (try simp only [Exit.inBlock, Exit.then])
    refine bodyPost_ret (ret_entry2 rfl _ _ W1.heap.size rfl HZ'.out.1) rfl ?_
    exact ⟨rfl, HZ'.out.2⟩
  | none =>
    rw [hg] at HG
    simp only [Option.getD_none, Option.isSome_none] at HG
    by_cases hd : k.d ∈ s.W
    · rw [decide_eq_true hd] at HW
      rw [if_pos hd]
      simp only [Option.getD_some, Option.isSome_some]
      clear hg hd
      go_enter Try.func113, Try.ntmps113
      go_wp2_with (first
        | (go_at_call 115; refine (HW.out _ HV.out).mono ?_; rintro r W4 ⟨rfl, hb⟩; obtain ⟨-, r1, r2, -⟩ := HS.out W4 (chainB HV.out hb); obtain ⟨Z, st, HZ⟩ := HT.out W4 (negK k) (chainB HV.out hb); have st2 : (enSt (.pointer (some ⟨W1.heap.size, 0, none⟩)) (.agg #[.int .i64 k.d, .string k.nm, .bool true, .int .i64 0, .int .i64 0, .int .i64 0, .string ⟨#[]⟩])).run Try.prog W4 = .ok () Z := st; have HZ' : Hid (Z.heap[W1.heap.size]? = some (.cells (negK k).vals.toArray 42 (0, 0)) ∧ Below w.heap.size w Z) := HZ; clear hb HZ st)
        | (go_at_call 114; refine HG.out.mono ?_; rintro r W3 ⟨rfl, hb⟩; obtain ⟨V, hV⟩ : ∃ V, W3.alloc (.cells zeroEn.vals.toArray 42) = V := ⟨_, rfl⟩; have bV := boxO hV; have HV : Hid (Below W2.heap.size W2 V) := chainB hb bV.2.1; obtain ⟨q0, q1, q2, -⟩ := HS.out V HV.out; clear hb bV))
      (try simp only [Exit.inBlock, Exit.then])
      refine bodyPost_ret (ret_entry2 rfl _ _ W1.heap.size rfl HZ'.out.1) rfl ?_
      exact ⟨rfl, HZ'.out.2⟩
    · rw [decide_eq_false hd] at HW
      rw [if_neg hd]
      simp only [Option.getD_none, Option.isSome_none]
      clear hg hd
      go_enter Try.func113, Try.ntmps113
      go_wp2_with (first
        | (go_at_call 115; refine (HW.out _ HV.out).mono ?_; rintro r W4 ⟨rfl, hb⟩; obtain ⟨Z, st, HZ⟩ := HT.out W4 zeroEn (chainB HV.out hb); have st2 : (enSt (.pointer (some ⟨W1.heap.size, 0, none⟩)) (.agg #[.int .i64 0, .string ⟨#[]⟩, .bool false, .int .i64 0, .int .i64 0, .int .i64 0, .string ⟨#[]⟩])).run Try.prog W4 = .ok () Z := st; have HZ' : Hid (Z.heap[W1.heap.size]? = some (.cells zeroEn.vals.toArray 42 (0, 0)) ∧ Below w.heap.size w Z) := HZ; clear hb HZ st)
        | (go_at_call 114; refine HG.out.mono ?_; rintro r W3 ⟨rfl, hb⟩; obtain ⟨V, hV⟩ : ∃ V, W3.alloc (.cells zeroEn.vals.toArray 42) = V := ⟨_, rfl⟩; have bV := boxO hV; have HV : Hid (Below W2.heap.size W2 V) := chainB hb bV.2.1; obtain ⟨q0, q1, q2, -⟩ := HS.out V HV.out; clear hb bV))
      (try simp only [Exit.inBlock, Exit.then])
      refine bodyPost_ret (ret_entry2 rfl _ _ W1.heap.size rfl HZ'.out.1) rfl ?_
      exact ⟨rfl, HZ'.out.2⟩
end
end Go.Proofs.Ytppbbddlbfgpfaa
