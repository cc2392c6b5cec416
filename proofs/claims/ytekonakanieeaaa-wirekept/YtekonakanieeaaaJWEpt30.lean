/- What is plain, in the document's own words: messages, the end. -/
import Derived.Test.YtekonakanieeaaaJWEpt26
import Derived.Test.YtekonakanieeaaaJWEpt06
import Derived.Test.YtekonakanieeaaaJWEpt07
import Derived.Test.YtekonakanieeaaaJWEpt29
namespace Go.Proofs.Ytekonakanieeaaa
section
open Go.RowKit Go.Lib
attribute [local go_sem high] eqO neqO guardO

set_option maxRecDepth 20000 in
set_option maxHeartbeats 8000000 in
theorem plm1_ok (client life seq : Int) (re im : Nat) (vers err : Int) (op : Opn) (ve vk : Value) (es : List En) (ks : List Ky) (w : World) (he : Row7 w 0 ve es) (hk : RowK w 0 vk ks) (R : Bool) (hR : R = true ↔ (∀ e ∈ es, entOk e) ∧ ∀ k ∈ ks, keyOk k) (hG : goodB re im = true) (h0 : numOk client) (h1 : numOk life) (h2 : numOk seq) (h3 : numOk vers) (h4 : numOk err) (hop : opOk op) (hl : es.length = 0) (hm : ks.length = 0) : Calls Try.prog 37 #[.agg (Ms.arr ⟨1, client, life, seq, re, im, vers, err, op, ve, vk, es, ks⟩)] w fun e w' => e = .returned (.bool R) ∧ Below w.heap.size w w' := by
  obtain ⟨ae, ce, rfl⟩ := owns_len he
  obtain ⟨ak, ck, rfl⟩ := owns_len hk
  unfold Ms.arr
  simp only []
  obtain ⟨W, hW⟩ : ∃ W, w.alloc (.cells #[.int .i64 1, .int .i64 client, .int .i64 life, .int .i64 seq, .complex .f64 re im, .int .i64 vers, .int .i64 err, .int .i64 op.kind, .int .i64 op.dir, .string op.nm, .int .i64 op.dst, .string op.new, .int .i64 op.mode, .string op.tg, .slice ae es.length ce, .slice ak ks.length ck] 30) = W := ⟨_, rfl⟩
  have hb := boxB hW
  have HB : Hid (W.heap[w.heap.size]? = some (.cells #[.int .i64 1, .int .i64 client, .int .i64 life, .int .i64 seq, .complex .f64 re im, .int .i64 vers, .int .i64 err, .int .i64 op.kind, .int .i64 op.dir, .string op.nm, .int .i64 op.dst, .string op.new, .int .i64 op.mode, .string op.tg, .slice ae es.length ce, .slice ak ks.length ck] 30 (0, 0)) ∧ Below w.heap.size w W) := hb
  have HR : Hid (R = true ↔ (∀ e ∈ es, entOk e) ∧ ∀ k ∈ ks, keyOk k) := hR
  have HE : Hid (∀ w', Below W.heap.size W w' → w'.cell? ⟨w.heap.size, 14, none⟩ = some (.slice ae es.length ce) ∧ w'.cell? ⟨w.heap.size, 15, none⟩ = some (.slice ak ks.length ck) ∧ Row7 w' 0 (.slice ae es.length ce) es ∧ RowK w' 0 (.slice ak ks.length ck) ks) := fun w' h' => by
    have n1 := hkeep HB.out.1 h'
    exact ⟨by have y := cell_of n1 14; simpa using y, by have y := cell_of n1 15; simpa using y, he.below (chainB HB.out.2 h'), hk.below (chainB HB.out.2 h')⟩
  have x0 := cell_of hb.1 0
  have x1 := cell_of hb.1 1
  have x2 := cell_of hb.1 2
  have x3 := cell_of hb.1 3
  have x4 := cell_of hb.1 4
  have x5 := cell_of hb.1 5
  have x6 := cell_of hb.1 6
  have x7 := cell_of hb.1 7
  have x8 := cell_of hb.1 8
  have x9 := cell_of hb.1 9
  have x10 := cell_of hb.1 10
  have x11 := cell_of hb.1 11
  have x12 := cell_of hb.1 12
  have x13 := cell_of hb.1 13
  have x14 := cell_of hb.1 14
  have x15 := cell_of hb.1 15
  simp at x0 x1 x2 x3 x4 x5 x6 x7 x8 x9 x10 x11 x12 x13 x14 x15
  have HPt : Hid (∀ W, Calls Try.prog 38 #[.complex .f64 re im] W fun e w' => ∃ E N, e = .returned (.tuple #[.int .i64 E, .int .i64 N, .bool true]) ∧ W = w') := fun W => (parts_any re im W).mono fun e w' h => by rw [hG] at h; exact ⟨_, _, h.1, h.2.symm⟩
  have HBad : Hid (∀ v W, Calls Try.prog 72 #[.int .i64 v] W fun e w' => e = .returned (.bool (!decide (numOk v))) ∧ W = w') := bad_d
  have e0 : decide (numOk client) = true := decide_eq_true h0
  have e1 : decide (numOk life) = true := decide_eq_true h1
  have e2 : decide (numOk seq) = true := decide_eq_true h2
  have e3 : decide (numOk vers) = true := decide_eq_true h3
  have e4 : decide (numOk err) = true := decide_eq_true h4
  have HOp : Hid (∀ W, Calls Try.prog 73 #[.agg #[.int .i64 op.kind, .int .i64 op.dir, .string op.nm, .int .i64 op.dst, .string op.new, .int .i64 op.mode, .string op.tg]] W fun e w' => e = .returned (.bool true) ∧ Below W.heap.size W w') := fun W => by have := plainOp_d op W; rw [decide_eq_true hop] at this; exact this
  have d5 : decide ((48 : Int) < (es.length : Int)) = false := decide_eq_false (by omega)
  have d6 : decide ((0 : Int) < (es.length : Int)) = false := decide_eq_false (by omega)
  have d6n : decide (0 < es.length) = false := decide_eq_false (by omega)
  have d7 : decide ((48 : Int) < (ks.length : Int)) = false := decide_eq_false (by omega)
  have d8 : decide ((0 : Int) < (ks.length : Int)) = false := decide_eq_false (by omega)
  have d8n : decide (0 < ks.length) = false := decide_eq_false (by omega)
  have HL : Hid (es.length ≤ 48 ∧ ks.length ≤ 48) := ⟨by omega, by omega⟩
  clear hb he hk hG hR hop h0 h1 h2 h3 h4 hl hm
  go_enter Try.func37, Try.ntmps37
  go_upto_region 1 with fail
  clear hW
  go_wp2_with (first
    | (go_at_call 38; refine (HPt.out _).mono ?_; rintro e w9 ⟨E9, N9, rfl, rfl⟩)
    | (go_at_call 72; refine (HBad.out _ _).mono ?_; rintro e w9 ⟨rfl, rfl⟩; first | rw [e0] | rw [e1] | rw [e2] | rw [e3] | rw [e4])
    | (go_at_call 73; refine (HOp.out _).mono ?_; rintro e w1 ⟨rfl, hb1⟩; have z0 := cell_of (hkeep HB.out.1 hb1) 0; have z14 := cell_of (hkeep HB.out.1 hb1) 14; have z15 := cell_of (hkeep HB.out.1 hb1) 15; simp at z0 z14 z15))
  have HW1 : Hid (Below W.heap.size W w1) := hb1
  clear x0 x1 x2 x3 x4 x5 x6 x7 x8 x9 x10 x11 x12 x13 x14 x15 z0 z14 z15 hb1 e0 e1 e2 e3 e4 d5 d7 d8 d8n d6 d6n
  go_loopw [6] (fun i wr => ∃ q : Nat, q ≤ es.length ∧ i = .int .i64 q ∧ Hid ((∀ (j : Nat) (x : En), j < q → es[j]? = some x → entOk x) ∧ Below W.heap.size W wr)) (fun i _ => es.length - (intOf i).toNat)
  case atStart => exact ⟨0, Nat.zero_le _, rfl, fun j x hj => (by omega), HW1.out⟩
  case round =>
    obtain ⟨q, hq, rfl, hI⟩ := hrel
    have hcl := (HE.out _ hI.out.2).1
    have hq48 : q ≤ 48 := Nat.le_trans hq HL.out.1
    by_cases hlt : q < es.length
    · obtain ⟨e, he⟩ : ∃ e, es[q]? = some e := ⟨_, List.getElem?_eq_getElem hlt⟩
      have hrow := (HE.out _ hI.out.2).2.2.1
      obtain ⟨g, rfl, -, -, hg, hc, -⟩ := owns_entry hrow he
      have x0 := hc.c0
      have x1 := hc.c1
      have x2 := hc.c2
      have x3 := hc.c3
      have x4 := hc.c4
      have x5 := hc.c5
      have x6 := hc.c6
      have hki : (q : Int) < (es.length : Int) := by omega
      have HEo : Hid (es[q]? = some e) := he
      have HP : Hid (∀ W2, Calls Try.prog 74 #[.agg #[.int .i64 e.d, .string e.nm, .bool e.neg, .int .i64 e.id, .int .i64 e.kind, .int .i64 e.mode, .string e.tg]] W2 fun x w' => x = .returned (.bool (decide (entOk e))) ∧ Below W2.heap.size W2 w') := fun W2 => plainEntry_d e W2
      clear hrow hc he
      cases hd : decide (entOk e) with
      | true =>
        rw [hd] at HP
        have ho : entOk e := of_decide_eq_true hd
        have HO : Hid (entOk e) := ho
        clear ho
        clear hd
        go_wp2_with (go_at_call 74; refine (HP.out _).mono ?_; rintro x w5 ⟨rfl, hb5⟩)
        go_roundw
        case rel =>
          refine ⟨q + 1, by omega, by go_num, fun j x hj hx => ?_, chainB hI.out.2 hb5⟩
          by_cases hjq : j = q
          · subst hjq; rw [HEo.out] at hx; cases hx; exact HO.out
          · exact hI.out.1 j x (by omega) hx
        case measure => simp [intOf]; omega
      | false =>
        rw [hd] at HP
        have HO : Hid (R = false) := by
          show R = false
          cases R with
          | false => rfl
          | true => exact absurd ((HR.out.1 rfl).1 e (List.mem_of_getElem? HEo.out)) (of_decide_eq_false hd)
        clear hd
        go_wp2_with (go_at_call 74; refine (HP.out _).mono ?_; rintro x w5 ⟨rfl, hb5⟩)
        go_ret
        exact ⟨by rw [HO.out]; rfl, chainB HB.out.2 (chainB hI.out.2 hb5)⟩
    · have hki : ¬ (q : Int) < (es.length : Int) := by omega
      have HA : Hid (∀ e ∈ es, entOk e) := fun e he => by
        obtain ⟨j, hj, hje⟩ := List.getElem_of_mem he
        exact hI.out.1 j e (by omega) (by rw [List.getElem?_eq_getElem hj, hje])
      go_wp2
      clear hcl hki hlt hq hq48
      go_loopw [7] (fun i wr2 => ∃ q : Nat, q ≤ ks.length ∧ i = .int .i64 q ∧ Hid ((∀ (j : Nat) (x : Ky), j < q → ks[j]? = some x → keyOk x) ∧ Below W.heap.size W wr2)) (fun i _ => ks.length - (intOf i).toNat)
      case atStart => exact ⟨0, Nat.zero_le _, rfl, fun j x hj => (by omega), hI.out.2⟩
      case round =>
        obtain ⟨p, hp, rfl, hJ⟩ := hrel
        have hcl := (HE.out _ hJ.out.2).2.1
        have hp48 : p ≤ 48 := Nat.le_trans hp HL.out.2
        by_cases hlt : p < ks.length
        · obtain ⟨k, hk⟩ : ∃ k, ks[p]? = some k := ⟨_, List.getElem?_eq_getElem hlt⟩
          have hrow := (HE.out _ hJ.out.2).2.2.2
          obtain ⟨g, rfl, hc0, hc1⟩ := owns_key0 hrow hk
          have hki : (p : Int) < (ks.length : Int) := by omega
          have HKo : Hid (ks[p]? = some k) := hk
          have HP : Hid (∀ W2, Calls Try.prog 75 #[.agg #[.int .i64 k.d, .string k.nm]] W2 fun x w' => x = .returned (.bool (decide (keyOk k))) ∧ Below W2.heap.size W2 w') := fun W2 => plainKey_d k W2
          clear hrow hk
          cases hd : decide (keyOk k) with
          | true =>
            rw [hd] at HP
            have ho : keyOk k := of_decide_eq_true hd
            have HO : Hid (keyOk k) := ho
            clear ho
            clear hd
            go_wp2_with (go_at_call 75; refine (HP.out _).mono ?_; rintro x w5 ⟨rfl, hb5⟩)
            go_roundw
            case rel =>
              refine ⟨p + 1, by omega, by go_num, fun j x hj hx => ?_, chainB hJ.out.2 hb5⟩
              by_cases hjq : j = p
              · subst hjq; rw [HKo.out] at hx; cases hx; exact HO.out
              · exact hJ.out.1 j x (by omega) hx
            case measure => simp [intOf]; omega
          | false =>
            rw [hd] at HP
            have HO : Hid (R = false) := by
              show R = false
              cases R with
              | false => rfl
              | true => exact absurd ((HR.out.1 rfl).2 k (List.mem_of_getElem? HKo.out)) (of_decide_eq_false hd)
            clear hd
            go_wp2_with (go_at_call 75; refine (HP.out _).mono ?_; rintro x w5 ⟨rfl, hb5⟩)
            go_ret
            exact ⟨by rw [HO.out]; rfl, chainB HB.out.2 (chainB hJ.out.2 hb5)⟩
        · have hki : ¬ (p : Int) < (ks.length : Int) := by omega
          have HO : Hid (R = true) := HR.out.2 ⟨HA.out, fun x hx => by
            obtain ⟨j, hj, hje⟩ := List.getElem_of_mem hx
            exact hJ.out.1 j x (by omega) (by rw [List.getElem?_eq_getElem hj, hje])⟩
          go_wp2
          go_ret
          exact ⟨by rw [HO.out]; rfl, chainB HB.out.2 hJ.out.2⟩
set_option maxRecDepth 20000 in
set_option maxHeartbeats 8000000 in
theorem plm3_ok (client life seq : Int) (re im : Nat) (vers err : Int) (op : Opn) (ve vk : Value) (es : List En) (ks : List Ky) (w : World) (he : Row7 w 0 ve es) (hk : RowK w 0 vk ks) (R : Bool) (hR : R = true ↔ (∀ e ∈ es, entOk e) ∧ ∀ k ∈ ks, keyOk k) (hG : goodB re im = true) (h0 : numOk client) (h1 : numOk life) (h2 : numOk seq) (h3 : numOk vers) (h4 : numOk err) (hop : op = zeroOp) (hl : es.length = 0) (hm : ks.length ≤ 48) (hm2 : 0 < ks.length) : Calls Try.prog 37 #[.agg (Ms.arr ⟨3, client, life, seq, re, im, vers, err, op, ve, vk, es, ks⟩)] w fun e w' => e = .returned (.bool R) ∧ Below w.heap.size w w' := by
  obtain ⟨ae, ce, rfl⟩ := owns_len he
  obtain ⟨ak, ck, rfl⟩ := owns_len hk
  unfold Ms.arr
  simp only []
  obtain ⟨W, hW⟩ : ∃ W, w.alloc (.cells #[.int .i64 3, .int .i64 client, .int .i64 life, .int .i64 seq, .complex .f64 re im, .int .i64 vers, .int .i64 err, .int .i64 op.kind, .int .i64 op.dir, .string op.nm, .int .i64 op.dst, .string op.new, .int .i64 op.mode, .string op.tg, .slice ae es.length ce, .slice ak ks.length ck] 30) = W := ⟨_, rfl⟩
  have hb := boxB hW
  have HB : Hid (W.heap[w.heap.size]? = some (.cells #[.int .i64 3, .int .i64 client, .int .i64 life, .int .i64 seq, .complex .f64 re im, .int .i64 vers, .int .i64 err, .int .i64 op.kind, .int .i64 op.dir, .string op.nm, .int .i64 op.dst, .string op.new, .int .i64 op.mode, .string op.tg, .slice ae es.length ce, .slice ak ks.length ck] 30 (0, 0)) ∧ Below w.heap.size w W) := hb
  have HR : Hid (R = true ↔ (∀ e ∈ es, entOk e) ∧ ∀ k ∈ ks, keyOk k) := hR
  have HE : Hid (∀ w', Below W.heap.size W w' → w'.cell? ⟨w.heap.size, 14, none⟩ = some (.slice ae es.length ce) ∧ w'.cell? ⟨w.heap.size, 15, none⟩ = some (.slice ak ks.length ck) ∧ Row7 w' 0 (.slice ae es.length ce) es ∧ RowK w' 0 (.slice ak ks.length ck) ks) := fun w' h' => by
    have n1 := hkeep HB.out.1 h'
    exact ⟨by have y := cell_of n1 14; simpa using y, by have y := cell_of n1 15; simpa using y, he.below (chainB HB.out.2 h'), hk.below (chainB HB.out.2 h')⟩
  have x0 := cell_of hb.1 0
  have x1 := cell_of hb.1 1
  have x2 := cell_of hb.1 2
  have x3 := cell_of hb.1 3
  have x4 := cell_of hb.1 4
  have x5 := cell_of hb.1 5
  have x6 := cell_of hb.1 6
  have x7 := cell_of hb.1 7
  have x8 := cell_of hb.1 8
  have x9 := cell_of hb.1 9
  have x10 := cell_of hb.1 10
  have x11 := cell_of hb.1 11
  have x12 := cell_of hb.1 12
  have x13 := cell_of hb.1 13
  have x14 := cell_of hb.1 14
  have x15 := cell_of hb.1 15
  simp at x0 x1 x2 x3 x4 x5 x6 x7 x8 x9 x10 x11 x12 x13 x14 x15
  have HPt : Hid (∀ W, Calls Try.prog 38 #[.complex .f64 re im] W fun e w' => ∃ E N, e = .returned (.tuple #[.int .i64 E, .int .i64 N, .bool true]) ∧ W = w') := fun W => (parts_any re im W).mono fun e w' h => by rw [hG] at h; exact ⟨_, _, h.1, h.2.symm⟩
  have HBad : Hid (∀ v W, Calls Try.prog 72 #[.int .i64 v] W fun e w' => e = .returned (.bool (!decide (numOk v))) ∧ W = w') := bad_d
  have e0 : decide (numOk client) = true := decide_eq_true h0
  have e1 : decide (numOk life) = true := decide_eq_true h1
  have e2 : decide (numOk seq) = true := decide_eq_true h2
  have e3 : decide (numOk vers) = true := decide_eq_true h3
  have e4 : decide (numOk err) = true := decide_eq_true h4
  have heO : eqOp ⟨op.kind, op.dir, op.nm, op.dst, op.new, op.mode, op.tg⟩ ⟨0, 0, ⟨#[]⟩, 0, ⟨#[]⟩, 0, ⟨#[]⟩⟩ = true := by
    exact (eqOp_iff op zeroOp).2 hop
  have d5 : decide ((48 : Int) < (es.length : Int)) = false := decide_eq_false (by omega)
  have d6 : decide ((0 : Int) < (es.length : Int)) = false := decide_eq_false (by omega)
  have d6n : decide (0 < es.length) = false := decide_eq_false (by omega)
  have d7 : decide ((48 : Int) < (ks.length : Int)) = false := decide_eq_false (by omega)
  have d8 : decide ((0 : Int) < (ks.length : Int)) = true := decide_eq_true (by omega)
  have d8n : decide (0 < ks.length) = true := decide_eq_true hm2
  have HL : Hid (es.length ≤ 48 ∧ ks.length ≤ 48) := ⟨by omega, by omega⟩
  clear hb he hk hG hR hop h0 h1 h2 h3 h4 hl hm hm2
  go_enter Try.func37, Try.ntmps37
  go_upto_region 1 with fail
  clear hW
  go_wp2_with (first
    | (go_at_call 38; refine (HPt.out _).mono ?_; rintro e w9 ⟨E9, N9, rfl, rfl⟩)
    | (go_at_call 72; refine (HBad.out _ _).mono ?_; rintro e w9 ⟨rfl, rfl⟩; first | rw [e0] | rw [e1] | rw [e2] | rw [e3] | rw [e4]))
  have HW1 : Hid (Below W.heap.size W W) := (Below.refl _ _)
  clear x0 x1 x2 x3 x4 x5 x6 x7 x8 x9 x10 x11 x12 x13 x14 x15 e0 e1 e2 e3 e4 d5 d7 d8 d8n d6 d6n
  go_loopw [6] (fun i wr => ∃ q : Nat, q ≤ es.length ∧ i = .int .i64 q ∧ Hid ((∀ (j : Nat) (x : En), j < q → es[j]? = some x → entOk x) ∧ Below W.heap.size W wr)) (fun i _ => es.length - (intOf i).toNat)
  case atStart => exact ⟨0, Nat.zero_le _, rfl, fun j x hj => (by omega), HW1.out⟩
  case round =>
    obtain ⟨q, hq, rfl, hI⟩ := hrel
    have hcl := (HE.out _ hI.out.2).1
    have hq48 : q ≤ 48 := Nat.le_trans hq HL.out.1
    by_cases hlt : q < es.length
    · obtain ⟨e, he⟩ : ∃ e, es[q]? = some e := ⟨_, List.getElem?_eq_getElem hlt⟩
      have hrow := (HE.out _ hI.out.2).2.2.1
      obtain ⟨g, rfl, -, -, hg, hc, -⟩ := owns_entry hrow he
      have x0 := hc.c0
      have x1 := hc.c1
      have x2 := hc.c2
      have x3 := hc.c3
      have x4 := hc.c4
      have x5 := hc.c5
      have x6 := hc.c6
      have hki : (q : Int) < (es.length : Int) := by omega
      have HEo : Hid (es[q]? = some e) := he
      have HP : Hid (∀ W2, Calls Try.prog 74 #[.agg #[.int .i64 e.d, .string e.nm, .bool e.neg, .int .i64 e.id, .int .i64 e.kind, .int .i64 e.mode, .string e.tg]] W2 fun x w' => x = .returned (.bool (decide (entOk e))) ∧ Below W2.heap.size W2 w') := fun W2 => plainEntry_d e W2
      clear hrow hc he
      cases hd : decide (entOk e) with
      | true =>
        rw [hd] at HP
        have ho : entOk e := of_decide_eq_true hd
        have HO : Hid (entOk e) := ho
        clear ho
        clear hd
        go_wp2_with (go_at_call 74; refine (HP.out _).mono ?_; rintro x w5 ⟨rfl, hb5⟩)
        go_roundw
        case rel =>
          refine ⟨q + 1, by omega, by go_num, fun j x hj hx => ?_, chainB hI.out.2 hb5⟩
          by_cases hjq : j = q
          · subst hjq; rw [HEo.out] at hx; cases hx; exact HO.out
          · exact hI.out.1 j x (by omega) hx
        case measure => simp [intOf]; omega
      | false =>
        rw [hd] at HP
        have HO : Hid (R = false) := by
          show R = false
          cases R with
          | false => rfl
          | true => exact absurd ((HR.out.1 rfl).1 e (List.mem_of_getElem? HEo.out)) (of_decide_eq_false hd)
        clear hd
        go_wp2_with (go_at_call 74; refine (HP.out _).mono ?_; rintro x w5 ⟨rfl, hb5⟩)
        go_ret
        exact ⟨by rw [HO.out]; rfl, chainB HB.out.2 (chainB hI.out.2 hb5)⟩
    · have hki : ¬ (q : Int) < (es.length : Int) := by omega
      have HA : Hid (∀ e ∈ es, entOk e) := fun e he => by
        obtain ⟨j, hj, hje⟩ := List.getElem_of_mem he
        exact hI.out.1 j e (by omega) (by rw [List.getElem?_eq_getElem hj, hje])
      go_wp2
      clear hcl hki hlt hq hq48
      go_loopw [7] (fun i wr2 => ∃ q : Nat, q ≤ ks.length ∧ i = .int .i64 q ∧ Hid ((∀ (j : Nat) (x : Ky), j < q → ks[j]? = some x → keyOk x) ∧ Below W.heap.size W wr2)) (fun i _ => ks.length - (intOf i).toNat)
      case atStart => exact ⟨0, Nat.zero_le _, rfl, fun j x hj => (by omega), hI.out.2⟩
      case round =>
        obtain ⟨p, hp, rfl, hJ⟩ := hrel
        have hcl := (HE.out _ hJ.out.2).2.1
        have hp48 : p ≤ 48 := Nat.le_trans hp HL.out.2
        by_cases hlt : p < ks.length
        · obtain ⟨k, hk⟩ : ∃ k, ks[p]? = some k := ⟨_, List.getElem?_eq_getElem hlt⟩
          have hrow := (HE.out _ hJ.out.2).2.2.2
          obtain ⟨g, rfl, hc0, hc1⟩ := owns_key0 hrow hk
          have hki : (p : Int) < (ks.length : Int) := by omega
          have HKo : Hid (ks[p]? = some k) := hk
          have HP : Hid (∀ W2, Calls Try.prog 75 #[.agg #[.int .i64 k.d, .string k.nm]] W2 fun x w' => x = .returned (.bool (decide (keyOk k))) ∧ Below W2.heap.size W2 w') := fun W2 => plainKey_d k W2
          clear hrow hk
          cases hd : decide (keyOk k) with
          | true =>
            rw [hd] at HP
            have ho : keyOk k := of_decide_eq_true hd
            have HO : Hid (keyOk k) := ho
            clear ho
            clear hd
            go_wp2_with (go_at_call 75; refine (HP.out _).mono ?_; rintro x w5 ⟨rfl, hb5⟩)
            go_roundw
            case rel =>
              refine ⟨p + 1, by omega, by go_num, fun j x hj hx => ?_, chainB hJ.out.2 hb5⟩
              by_cases hjq : j = p
              · subst hjq; rw [HKo.out] at hx; cases hx; exact HO.out
              · exact hJ.out.1 j x (by omega) hx
            case measure => simp [intOf]; omega
          | false =>
            rw [hd] at HP
            have HO : Hid (R = false) := by
              show R = false
              cases R with
              | false => rfl
              | true => exact absurd ((HR.out.1 rfl).2 k (List.mem_of_getElem? HKo.out)) (of_decide_eq_false hd)
            clear hd
            go_wp2_with (go_at_call 75; refine (HP.out _).mono ?_; rintro x w5 ⟨rfl, hb5⟩)
            go_ret
            exact ⟨by rw [HO.out]; rfl, chainB HB.out.2 (chainB hJ.out.2 hb5)⟩
        · have hki : ¬ (p : Int) < (ks.length : Int) := by omega
          have HO : Hid (R = true) := HR.out.2 ⟨HA.out, fun x hx => by
            obtain ⟨j, hj, hje⟩ := List.getElem_of_mem hx
            exact hJ.out.1 j x (by omega) (by rw [List.getElem?_eq_getElem hj, hje])⟩
          go_wp2
          go_ret
          exact ⟨by rw [HO.out]; rfl, chainB HB.out.2 hJ.out.2⟩
set_option maxRecDepth 20000 in
set_option maxHeartbeats 8000000 in
theorem plm4_ok (client life seq : Int) (re im : Nat) (vers err : Int) (op : Opn) (ve vk : Value) (es : List En) (ks : List Ky) (w : World) (he : Row7 w 0 ve es) (hk : RowK w 0 vk ks) (R : Bool) (hR : R = true ↔ (∀ e ∈ es, entOk e) ∧ ∀ k ∈ ks, keyOk k) (hG : goodB re im = true) (h0 : numOk client) (h1 : numOk life) (h2 : numOk seq) (h3 : numOk vers) (h4 : numOk err) (hop : op = zeroOp) (hl : es.length = 0) (hm : ks.length = 0) : Calls Try.prog 37 #[.agg (Ms.arr ⟨4, client, life, seq, re, im, vers, err, op, ve, vk, es, ks⟩)] w fun e w' => e = .returned (.bool R) ∧ Below w.heap.size w w' := by
  obtain ⟨ae, ce, rfl⟩ := owns_len he
  obtain ⟨ak, ck, rfl⟩ := owns_len hk
  unfold Ms.arr
  simp only []
  obtain ⟨W, hW⟩ : ∃ W, w.alloc (.cells #[.int .i64 4, .int .i64 client, .int .i64 life, .int .i64 seq, .complex .f64 re im, .int .i64 vers, .int .i64 err, .int .i64 op.kind, .int .i64 op.dir, .string op.nm, .int .i64 op.dst, .string op.new, .int .i64 op.mode, .string op.tg, .slice ae es.length ce, .slice ak ks.length ck] 30) = W := ⟨_, rfl⟩
  have hb := boxB hW
  have HB : Hid (W.heap[w.heap.size]? = some (.cells #[.int .i64 4, .int .i64 client, .int .i64 life, .int .i64 seq, .complex .f64 re im, .int .i64 vers, .int .i64 err, .int .i64 op.kind, .int .i64 op.dir, .string op.nm, .int .i64 op.dst, .string op.new, .int .i64 op.mode, .string op.tg, .slice ae es.length ce, .slice ak ks.length ck] 30 (0, 0)) ∧ Below w.heap.size w W) := hb
  have HR : Hid (R = true ↔ (∀ e ∈ es, entOk e) ∧ ∀ k ∈ ks, keyOk k) := hR
  have HE : Hid (∀ w', Below W.heap.size W w' → w'.cell? ⟨w.heap.size, 14, none⟩ = some (.slice ae es.length ce) ∧ w'.cell? ⟨w.heap.size, 15, none⟩ = some (.slice ak ks.length ck) ∧ Row7 w' 0 (.slice ae es.length ce) es ∧ RowK w' 0 (.slice ak ks.length ck) ks) := fun w' h' => by
    have n1 := hkeep HB.out.1 h'
    exact ⟨by have y := cell_of n1 14; simpa using y, by have y := cell_of n1 15; simpa using y, he.below (chainB HB.out.2 h'), hk.below (chainB HB.out.2 h')⟩
  have x0 := cell_of hb.1 0
  have x1 := cell_of hb.1 1
  have x2 := cell_of hb.1 2
  have x3 := cell_of hb.1 3
  have x4 := cell_of hb.1 4
  have x5 := cell_of hb.1 5
  have x6 := cell_of hb.1 6
  have x7 := cell_of hb.1 7
  have x8 := cell_of hb.1 8
  have x9 := cell_of hb.1 9
  have x10 := cell_of hb.1 10
  have x11 := cell_of hb.1 11
  have x12 := cell_of hb.1 12
  have x13 := cell_of hb.1 13
  have x14 := cell_of hb.1 14
  have x15 := cell_of hb.1 15
  simp at x0 x1 x2 x3 x4 x5 x6 x7 x8 x9 x10 x11 x12 x13 x14 x15
  have HPt : Hid (∀ W, Calls Try.prog 38 #[.complex .f64 re im] W fun e w' => ∃ E N, e = .returned (.tuple #[.int .i64 E, .int .i64 N, .bool true]) ∧ W = w') := fun W => (parts_any re im W).mono fun e w' h => by rw [hG] at h; exact ⟨_, _, h.1, h.2.symm⟩
  have HBad : Hid (∀ v W, Calls Try.prog 72 #[.int .i64 v] W fun e w' => e = .returned (.bool (!decide (numOk v))) ∧ W = w') := bad_d
  have e0 : decide (numOk client) = true := decide_eq_true h0
  have e1 : decide (numOk life) = true := decide_eq_true h1
  have e2 : decide (numOk seq) = true := decide_eq_true h2
  have e3 : decide (numOk vers) = true := decide_eq_true h3
  have e4 : decide (numOk err) = true := decide_eq_true h4
  have heO : eqOp ⟨op.kind, op.dir, op.nm, op.dst, op.new, op.mode, op.tg⟩ ⟨0, 0, ⟨#[]⟩, 0, ⟨#[]⟩, 0, ⟨#[]⟩⟩ = true := by
    exact (eqOp_iff op zeroOp).2 hop
  have d5 : decide ((48 : Int) < (es.length : Int)) = false := decide_eq_false (by omega)
  have d6 : decide ((0 : Int) < (es.length : Int)) = false := decide_eq_false (by omega)
  have d6n : decide (0 < es.length) = false := decide_eq_false (by omega)
  have d7 : decide ((48 : Int) < (ks.length : Int)) = false := decide_eq_false (by omega)
  have d8 : decide ((0 : Int) < (ks.length : Int)) = false := decide_eq_false (by omega)
  have d8n : decide (0 < ks.length) = false := decide_eq_false (by omega)
  have HL : Hid (es.length ≤ 48 ∧ ks.length ≤ 48) := ⟨by omega, by omega⟩
  clear hb he hk hG hR hop h0 h1 h2 h3 h4 hl hm
  go_enter Try.func37, Try.ntmps37
  go_upto_region 1 with fail
  clear hW
  go_wp2_with (first
    | (go_at_call 38; refine (HPt.out _).mono ?_; rintro e w9 ⟨E9, N9, rfl, rfl⟩)
    | (go_at_call 72; refine (HBad.out _ _).mono ?_; rintro e w9 ⟨rfl, rfl⟩; first | rw [e0] | rw [e1] | rw [e2] | rw [e3] | rw [e4]))
  have HW1 : Hid (Below W.heap.size W W) := (Below.refl _ _)
  clear x0 x1 x2 x3 x4 x5 x6 x7 x8 x9 x10 x11 x12 x13 x14 x15 e0 e1 e2 e3 e4 d5 d7 d8 d8n d6 d6n
  go_loopw [6] (fun i wr => ∃ q : Nat, q ≤ es.length ∧ i = .int .i64 q ∧ Hid ((∀ (j : Nat) (x : En), j < q → es[j]? = some x → entOk x) ∧ Below W.heap.size W wr)) (fun i _ => es.length - (intOf i).toNat)
  case atStart => exact ⟨0, Nat.zero_le _, rfl, fun j x hj => (by omega), HW1.out⟩
  case round =>
    obtain ⟨q, hq, rfl, hI⟩ := hrel
    have hcl := (HE.out _ hI.out.2).1
    have hq48 : q ≤ 48 := Nat.le_trans hq HL.out.1
    by_cases hlt : q < es.length
    · obtain ⟨e, he⟩ : ∃ e, es[q]? = some e := ⟨_, List.getElem?_eq_getElem hlt⟩
      have hrow := (HE.out _ hI.out.2).2.2.1
      obtain ⟨g, rfl, -, -, hg, hc, -⟩ := owns_entry hrow he
      have x0 := hc.c0
      have x1 := hc.c1
      have x2 := hc.c2
      have x3 := hc.c3
      have x4 := hc.c4
      have x5 := hc.c5
      have x6 := hc.c6
      have hki : (q : Int) < (es.length : Int) := by omega
      have HEo : Hid (es[q]? = some e) := he
      have HP : Hid (∀ W2, Calls Try.prog 74 #[.agg #[.int .i64 e.d, .string e.nm, .bool e.neg, .int .i64 e.id, .int .i64 e.kind, .int .i64 e.mode, .string e.tg]] W2 fun x w' => x = .returned (.bool (decide (entOk e))) ∧ Below W2.heap.size W2 w') := fun W2 => plainEntry_d e W2
      clear hrow hc he
      cases hd : decide (entOk e) with
      | true =>
        rw [hd] at HP
        have ho : entOk e := of_decide_eq_true hd
        have HO : Hid (entOk e) := ho
        clear ho
        clear hd
        go_wp2_with (go_at_call 74; refine (HP.out _).mono ?_; rintro x w5 ⟨rfl, hb5⟩)
        go_roundw
        case rel =>
          refine ⟨q + 1, by omega, by go_num, fun j x hj hx => ?_, chainB hI.out.2 hb5⟩
          by_cases hjq : j = q
          · subst hjq; rw [HEo.out] at hx; cases hx; exact HO.out
          · exact hI.out.1 j x (by omega) hx
        case measure => simp [intOf]; omega
      | false =>
        rw [hd] at HP
        have HO : Hid (R = false) := by
          show R = false
          cases R with
          | false => rfl
          | true => exact absurd ((HR.out.1 rfl).1 e (List.mem_of_getElem? HEo.out)) (of_decide_eq_false hd)
        clear hd
        go_wp2_with (go_at_call 74; refine (HP.out _).mono ?_; rintro x w5 ⟨rfl, hb5⟩)
        go_ret
        exact ⟨by rw [HO.out]; rfl, chainB HB.out.2 (chainB hI.out.2 hb5)⟩
    · have hki : ¬ (q : Int) < (es.length : Int) := by omega
      have HA : Hid (∀ e ∈ es, entOk e) := fun e he => by
        obtain ⟨j, hj, hje⟩ := List.getElem_of_mem he
        exact hI.out.1 j e (by omega) (by rw [List.getElem?_eq_getElem hj, hje])
      go_wp2
      clear hcl hki hlt hq hq48
      go_loopw [7] (fun i wr2 => ∃ q : Nat, q ≤ ks.length ∧ i = .int .i64 q ∧ Hid ((∀ (j : Nat) (x : Ky), j < q → ks[j]? = some x → keyOk x) ∧ Below W.heap.size W wr2)) (fun i _ => ks.length - (intOf i).toNat)
      case atStart => exact ⟨0, Nat.zero_le _, rfl, fun j x hj => (by omega), hI.out.2⟩
      case round =>
        obtain ⟨p, hp, rfl, hJ⟩ := hrel
        have hcl := (HE.out _ hJ.out.2).2.1
        have hp48 : p ≤ 48 := Nat.le_trans hp HL.out.2
        by_cases hlt : p < ks.length
        · obtain ⟨k, hk⟩ : ∃ k, ks[p]? = some k := ⟨_, List.getElem?_eq_getElem hlt⟩
          have hrow := (HE.out _ hJ.out.2).2.2.2
          obtain ⟨g, rfl, hc0, hc1⟩ := owns_key0 hrow hk
          have hki : (p : Int) < (ks.length : Int) := by omega
          have HKo : Hid (ks[p]? = some k) := hk
          have HP : Hid (∀ W2, Calls Try.prog 75 #[.agg #[.int .i64 k.d, .string k.nm]] W2 fun x w' => x = .returned (.bool (decide (keyOk k))) ∧ Below W2.heap.size W2 w') := fun W2 => plainKey_d k W2
          clear hrow hk
          cases hd : decide (keyOk k) with
          | true =>
            rw [hd] at HP
            have ho : keyOk k := of_decide_eq_true hd
            have HO : Hid (keyOk k) := ho
            clear ho
            clear hd
            go_wp2_with (go_at_call 75; refine (HP.out _).mono ?_; rintro x w5 ⟨rfl, hb5⟩)
            go_roundw
            case rel =>
              refine ⟨p + 1, by omega, by go_num, fun j x hj hx => ?_, chainB hJ.out.2 hb5⟩
              by_cases hjq : j = p
              · subst hjq; rw [HKo.out] at hx; cases hx; exact HO.out
              · exact hJ.out.1 j x (by omega) hx
            case measure => simp [intOf]; omega
          | false =>
            rw [hd] at HP
            have HO : Hid (R = false) := by
              show R = false
              cases R with
              | false => rfl
              | true => exact absurd ((HR.out.1 rfl).2 k (List.mem_of_getElem? HKo.out)) (of_decide_eq_false hd)
            clear hd
            go_wp2_with (go_at_call 75; refine (HP.out _).mono ?_; rintro x w5 ⟨rfl, hb5⟩)
            go_ret
            exact ⟨by rw [HO.out]; rfl, chainB HB.out.2 (chainB hJ.out.2 hb5)⟩
        · have hki : ¬ (p : Int) < (ks.length : Int) := by omega
          have HO : Hid (R = true) := HR.out.2 ⟨HA.out, fun x hx => by
            obtain ⟨j, hj, hje⟩ := List.getElem_of_mem hx
            exact hJ.out.1 j x (by omega) (by rw [List.getElem?_eq_getElem hj, hje])⟩
          go_wp2
          go_ret
          exact ⟨by rw [HO.out]; rfl, chainB HB.out.2 hJ.out.2⟩
end
end Go.Proofs.Ytekonakanieeaaa
