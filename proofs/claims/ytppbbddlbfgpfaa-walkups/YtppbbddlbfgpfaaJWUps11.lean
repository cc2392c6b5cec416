/- The program's tree: gone, look, Look, inside. -/
import Derived.Test.YtppbbddlbfgpfaaJWUps10
import Derived.Test.YtppbbddlbfgpfaaJWUps02
import Derived.Deep.RegionHeld3
import Derived.Sort.Grow
import Derived.Sort.Row
namespace Go.Proofs.Ytppbbddlbfgpfaa
section
open Go.RowKit
attribute [local go_sem high] eqK' neqK' eqE neqE eqN neqN guardK guardE guardN

/-- what package name answers -/
structure NmsP (M : Nms) : Prop where
  check : ∀ s w, Calls Try.prog 43 #[.string s] w fun e w' => e = .returned (.int .i64 (M.chk s)) ∧ Below w.heap.size w w'
  target : ∀ s w, Calls Try.prog 20 #[.string s] w fun e w' => ∃ v a b, e = .returned (.tuple #[v, .bool a, .bool b, .int .i64 (M.tgt s)]) ∧ Below w.heap.size w w'

theorem gone_p (d : Int) (nm : ByteArray) (w : World) :
    Calls Try.prog 44 #[.agg #[.int .i64 d, .string nm]] w fun e w' => e = .returned (goneEn d nm).agg ∧ Below w.heap.size w w' := by
  go_enter Try.func44, Try.ntmps44
  go_wp2
  obtain ⟨W, hW⟩ : ∃ W, (w.alloc (.cells #[.int .i64 d, .string nm] 28)).alloc (.cells #[.int .i64 d, .string nm, .bool true, .int .i64 0, .int .i64 0, .int .i64 0, .string ⟨#[]⟩] 42) = W := ⟨_, rfl⟩
  rw [hW]
  obtain ⟨m0, m1, hbW, hzW⟩ := boxes2 hW
  refine bodyPost_ret (ret_entry (e := goneEn d nm) rfl _ _ _ rfl m1) rfl ?_
  exact ⟨rfl, hbW⟩

theorem nowE_hit {es : List En} {d : Int} {nm : ByteArray} {k : Nat} {e : En} (he : es[k]? = some e) (hq : e.d = d ∧ e.nm = nm) (hno : ∀ (j : Nat) (e : En), j < k → es[j]? = some e → ¬ (e.d = d ∧ e.nm = nm)) : nowE es d nm = e := by
  rw [nowE_at, atE_some (atI_hit es d nm k e he hq hno) he]
theorem nowE_miss {es : List En} {d : Int} {nm : ByteArray} (hno : ∀ (j : Nat) (e : En), es[j]? = some e → ¬ (e.d = d ∧ e.nm = nm)) : nowE es d nm = goneEn d nm := by
  rw [nowE_at, atE_none (atI_miss es d nm hno)]; rfl

set_option maxHeartbeats 4000000 in
theorem look_p (M : Nms) (hM : NmsP M) (t : Nat) (s : Tr) (d : Int) (nm : ByteArray) (w : World) (h : IsP w t s) :
    Calls Try.prog 28 #[.pointer (some ⟨t, 0, none⟩), .agg #[.int .i64 d, .string nm]] w fun e w' => e = .returned (lookV M s.es d nm) ∧ Below w.heap.size w w' := by
  obtain ⟨D, hD⟩ : ∃ x, dirE s.es d = x := ⟨_, rfl⟩
  have HD : Hid (∀ w, IsP w t s → Calls Try.prog 35 #[.pointer (some ⟨t, 0, none⟩), .int .i64 d] w fun e w' => e = .returned (.int .i64 D) ∧ Below w.heap.size w w') := by
    intro w hw; rw [← hD]; exact directory_p t s d w hw
  obtain ⟨C, hC⟩ : ∃ x, M.chk nm = x := ⟨_, rfl⟩
  have HC : Hid (∀ w, Calls Try.prog 43 #[.string nm] w fun e w' => e = .returned (.int .i64 C) ∧ Below w.heap.size w w') := by
    intro w; rw [← hC]; exact hM.check nm w
  have H : Hid (IsP w t s) := h
  obtain ⟨R, hR⟩ : ∃ R, lookV M s.es d nm = R := ⟨_, rfl⟩
  have HR : Hid (R = if D ≠ 0 then .tuple #[zeroEn.agg, .int .i64 D] else if C ≠ 0 then .tuple #[zeroEn.agg, .int .i64 C] else .tuple #[(nowE s.es d nm).agg, .int .i64 0]) := by
    show _ = _
    rw [← hR]
    unfold lookV namedE
    rw [hD, hC]
    by_cases h1 : D = 0
    · by_cases h2 : C = 0 <;> simp [h1, h2]
    · simp [h1]
  rw [hR]
  obtain ⟨c0, _, _, _⟩ := h.cells
  obtain ⟨a, cap, e⟩ := owns_len h.row
  rw [e] at c0
  obtain ⟨n, hn⟩ : ∃ n, s.es.length = n := ⟨_, rfl⟩
  rw [hn] at c0 e
  have hlim := h.lim
  rw [hn] at hlim
  have hlt := h.tt.lt
  have HV : Hid (s.v = .slice a n cap ∧ s.es.length = n) := ⟨e, hn⟩
  clear hD hC hR hM h e hn
  go_enter Try.func28, Try.ntmps28
  go_upto_region 1 with fail
  obtain ⟨W, hW⟩ : ∃ W, (w.alloc (.cells #[.int .i64 d, .string nm] 28)).alloc (.cells #[.int .i64 0, .string ⟨#[]⟩, .bool false, .int .i64 0, .int .i64 0, .int .i64 0, .string ⟨#[]⟩] 42) = W := ⟨_, rfl⟩
  rw [hW]
  obtain ⟨m0, m1, hbW, hzW⟩ := boxes2 hW
  have k0 := cell_of m0 0
  have k1 := cell_of m0 1
  simp at k0 k1
  have d0 := (hbW.cell (p := ⟨t, 0, none⟩) hlt).trans c0
  have HM : Hid (W.heap[w.heap.size + 1]? = some (.cells zeroEn.vals.toArray 42 (0, 0)) ∧ W.heap.size = w.heap.size + 1 + 1 ∧ Below w.heap.size w W) := ⟨m1, hzW, hbW⟩
  clear hW m0 m1
  have HPut : Hid (∀ (w1 : World) (e : En), Below W.heap.size W w1 → (put7 w1 (w.heap.size + 1) e).heap[w.heap.size + 1]? = some (.cells e.vals.toArray 42 (0, 0)) ∧ Below w.heap.size w (put7 w1 (w.heap.size + 1) e)) := fun w1 e hb =>
    ⟨put7_heap e (hkeep HM.out.1 hb), (put7_only _ _ _).below (chainB HM.out.2.2 hb) (by have := hb.size; have := HM.out.2.1; omega) (fun k hk => by omega)⟩
  have HRes : Hid (∀ w1, Below W.heap.size W w1 → Cells7 w1 (w.heap.size + 1) 0 zeroEn ∧ ∀ i, w1.frozen? ⟨w.heap.size + 1, i, none⟩ = false) := fun w1 hb => by
    have hh := hkeep HM.out.1 hb
    exact ⟨cells7_of hh, free_of hh⟩
  by_cases hD0 : D = 0
  · by_cases hC0 : C = 0
    · subst hD0 hC0
      have HR2 : Hid (R = .tuple #[(nowE s.es d nm).agg, .int .i64 0]) := by show _ = _; rw [HR.out]; simp
      go_upto_region 7 with (first
        | (go_at_call 35; refine (HD.out _ (H.out.below hbW)).mono ?_; rintro x w1 ⟨rfl, hb1⟩; have f1 := (hb1.cell (p := ⟨w.heap.size, 1, none⟩) (by have := HM.out.2.1; show w.heap.size < _; omega)).trans k1)
        | (go_at_call 43; refine (HC.out _).mono ?_; rintro x w2 ⟨rfl, hb2⟩))
      have hw2 := chainB hb1 hb2
      have g0 := (hw2.cell (p := ⟨t, 0, none⟩) (by have := hbW.size; show t < _; omega)).trans d0
      have HB2 : Hid (Below W.heap.size W w2) := hw2
      clear hb1 hb2 hw2 f1
      go_wp2
      go_loopw [30] (fun i wr => ∃ k : Nat, k ≤ n ∧ i = .int .i64 k ∧ (∀ (j : Nat) (e : En), j < k → s.es[j]? = some e → ¬ (e.d = d ∧ e.nm = nm)) ∧ Below W.heap.size W wr) (fun i _ => n - (intOf i).toNat)
      case atStart => exact ⟨0, Nat.zero_le _, rfl, fun j e hj => (by omega), HB2.out⟩
      case round =>
        obtain ⟨k, hk, rfl, hno, hb⟩ := hrel
        obtain ⟨hz, zf⟩ := HRes.out wr hb
        have z0 := hz.c0
        have z1 := hz.c1
        have z2 := hz.c2
        have z3 := hz.c3
        have z4 := hz.c4
        have z5 := hz.c5
        have z6 := hz.c6
        simp only [Nat.zero_add] at z1 z2 z3 z4 z5 z6
        have hlw : w.heap.size + 1 < wr.heap.size := by have := hb.size; have := HM.out.2.1; omega
        have hlw0 : w.heap.size < wr.heap.size := by omega
        have y0 := (hb.cell (p := ⟨w.heap.size, 0, none⟩) (by have := HM.out.2.1; show w.heap.size < _; omega)).trans k0
        have y1 := (hb.cell (p := ⟨w.heap.size, 1, none⟩) (by have := HM.out.2.1; show w.heap.size < _; omega)).trans k1
        clear hz
        by_cases hkn : k < n
        · obtain ⟨e, he⟩ : ∃ e, s.es[k]? = some e := ⟨_, List.getElem?_eq_getElem (by rw [HV.out.2]; exact hkn)⟩
          have hrow := ((H.out.below hbW).below hb).row
          rw [HV.out.1] at hrow
          obtain ⟨g, rfl, -, -, hgl, hc, -⟩ := owns_entry hrow he
          have x0 := hc.c0
          have x1 := hc.c1
          have x2 := hc.c2
          have x3 := hc.c3
          have x4 := hc.c4
          have x5 := hc.c5
          have x6 := hc.c6
          have hki : (k : Int) < (n : Int) := by omega
          have HE : Hid (s.es[k]? = some e ∧ ∀ (j : Nat) (e : En), j < k → s.es[j]? = some e → ¬ (e.d = d ∧ e.nm = nm)) := ⟨he, hno⟩
          have HPw := HPut.out wr e hb
          have HP : Hid ((put7 wr (w.heap.size + 1) e).heap[w.heap.size + 1]? = some (.cells e.vals.toArray 42 (0, 0)) ∧ Below w.heap.size w (put7 wr (w.heap.size + 1) e)) := HPw
          clear hrow hc he hno HPw
          by_cases hq : e.d = d ∧ e.nm = nm
          · have HA : Hid (nowE s.es d nm = e) := nowE_hit HE.out.1 hq HE.out.2
            have hqb : eqKy e.d e.nm d nm = true := decide_eq_true hq
            clear hq
            go_wp2
            refine bodyPost_ret (ret_entry2 (e := e) rfl _ _ _ rfl (hkeep HP.out.1 (below_alloc _ _))) rfl ?_
            exact ⟨by rw [HR2.out, HA.out]; rfl, chainB HP.out.2 (below_alloc _ _)⟩
          · have hqb : eqKy e.d e.nm d nm = false := decide_eq_false hq
            have HQ : Hid (¬ (e.d = d ∧ e.nm = nm)) := hq
            clear hq
            go_wp2
            refine ⟨⟨k + 1, by omega, by simp, fun j e' hj he' => ?_, chainB hb (below_alloc _ _)⟩, by simp [intOf]; omega⟩
            by_cases hjk : j < k
            · exact HE.out.2 j e' hjk he'
            · obtain rfl : j = k := by omega
              rw [HE.out.1] at he'
              cases he'
              exact HQ.out
        · have hkn' : ¬ (k : Int) < (n : Int) := by omega
          have HA : Hid (nowE s.es d nm = goneEn d nm) := nowE_miss (fun j e he => hno j e (by have := (List.getElem?_eq_some_iff.1 he).1; have := HV.out.2; omega) he)
          clear hno z0 z1 z2 z3 z4 z5 z6 zf
          go_wp2_with (go_at_call 44; refine (gone_p d nm _).mono ?_; unfold En.agg goneEn; rintro x w3 ⟨rfl, hb3⟩; obtain ⟨hz, zf⟩ := HRes.out w3 (chainB hb hb3); have z0 := hz.c0; have z1 := hz.c1; have z2 := hz.c2; have z3 := hz.c3; have z4 := hz.c4; have z5 := hz.c5; have z6 := hz.c6; simp only [Nat.zero_add] at z1 z2 z3 z4 z5 z6; have HP : Hid ((put7 w3 (w.heap.size + 1) (goneEn d nm)).heap[w.heap.size + 1]? = some (.cells (goneEn d nm).vals.toArray 42 (0, 0)) ∧ Below w.heap.size w (put7 w3 (w.heap.size + 1) (goneEn d nm))) := HPut.out w3 (goneEn d nm) (chainB hb hb3); clear hz)
          refine bodyPost_ret (ret_entry2 (e := goneEn d nm) rfl _ _ _ rfl HP.out.1) rfl ?_
          exact ⟨by rw [HR2.out, HA.out]; rfl, HP.out.2⟩
    · subst hD0
      have hCb : (C != 0) = true := by simpa using hC0
      have HR2 : Hid (R = .tuple #[zeroEn.agg, .int .i64 C]) := by show _ = _; rw [HR.out]; simp [hC0]
      clear hC0
      go_wp2_with (first
        | (go_at_call 35; refine (HD.out _ (H.out.below hbW)).mono ?_; rintro x w1 ⟨rfl, hb1⟩; have f1 := (hb1.cell (p := ⟨w.heap.size, 1, none⟩) (by have := HM.out.2.1; show w.heap.size < _; omega)).trans k1)
        | (go_at_call 43; refine (HC.out _).mono ?_; rintro x w3 ⟨rfl, hb3⟩; obtain ⟨hz, zf⟩ := HRes.out w3 (chainB hb1 hb3); have z0 := hz.c0; have z1 := hz.c1; have z2 := hz.c2; have z3 := hz.c3; have z4 := hz.c4; have z5 := hz.c5; have z6 := hz.c6; simp only [Nat.zero_add] at z1 z2 z3 z4 z5 z6; have HP : Hid ((put7 w3 (w.heap.size + 1) zeroEn).heap[w.heap.size + 1]? = some (.cells zeroEn.vals.toArray 42 (0, 0)) ∧ Below w.heap.size w (put7 w3 (w.heap.size + 1) zeroEn)) := HPut.out w3 zeroEn (chainB hb1 hb3); clear hz))
      refine bodyPost_ret (ret_entry2 (e := zeroEn) rfl _ _ _ rfl HP.out.1) rfl ?_
      exact ⟨by rw [HR2.out]; rfl, HP.out.2⟩
  · have hDb : (D != 0) = true := by simpa using hD0
    have HR2 : Hid (R = .tuple #[zeroEn.agg, .int .i64 D]) := by show _ = _; rw [HR.out]; simp [hD0]
    clear hD0
    go_wp2_with (go_at_call 35; refine (HD.out _ (H.out.below hbW)).mono ?_; rintro x w3 ⟨rfl, hb3⟩; obtain ⟨hz, zf⟩ := HRes.out w3 hb3; have z0 := hz.c0; have z1 := hz.c1; have z2 := hz.c2; have z3 := hz.c3; have z4 := hz.c4; have z5 := hz.c5; have z6 := hz.c6; simp only [Nat.zero_add] at z1 z2 z3 z4 z5 z6; have HP : Hid ((put7 w3 (w.heap.size + 1) zeroEn).heap[w.heap.size + 1]? = some (.cells zeroEn.vals.toArray 42 (0, 0)) ∧ Below w.heap.size w (put7 w3 (w.heap.size + 1) zeroEn)) := HPut.out w3 zeroEn hb3; clear hz)
    refine bodyPost_ret (ret_entry2 (e := zeroEn) rfl _ _ _ rfl HP.out.1) rfl ?_
    exact ⟨by rw [HR2.out]; rfl, HP.out.2⟩

theorem lookV_form (M : Nms) (es : List En) (d : Int) (nm : ByteArray) : lookV M es d nm = .tuple #[(if namedE M es d nm = 0 then nowE es d nm else zeroEn).agg, .int .i64 (namedE M es d nm)] := by
  unfold lookV
  split
  · rename_i h; rw [h]
  · rfl
theorem Look_p (M : Nms) (hM : NmsP M) (t : Nat) (s : Tr) (d : Int) (nm : ByteArray) (w : World) (h : IsP w t s) :
    Calls Try.prog 11 #[.pointer (some ⟨t, 0, none⟩), .int .i64 d, .string nm] w fun e w' => e = .returned (lookV M s.es d nm) ∧ Below w.heap.size w w' := by
  have hL := fun w (h : IsP w t s) => look_p M hM t s d nm w h
  rw [lookV_form] at hL ⊢
  obtain ⟨e, he⟩ : ∃ e, (if namedE M s.es d nm = 0 then nowE s.es d nm else zeroEn) = e := ⟨_, rfl⟩
  obtain ⟨E, hE⟩ : ∃ E, namedE M s.es d nm = E := ⟨_, rfl⟩
  rw [he, hE] at hL ⊢
  have HL : Hid (∀ w, IsP w t s → Calls Try.prog 28 #[.pointer (some ⟨t, 0, none⟩), .agg #[.int .i64 d, .string nm]] w fun x w' => x = .returned (.tuple #[e.agg, .int .i64 E]) ∧ Below w.heap.size w w') := hL
  unfold En.agg at HL
  have H : Hid (IsP w t s) := h
  clear hL he hE hM h
  go_enter Try.func11, Try.ntmps11
  go_wp2_with (go_at_call 28; refine (HL.out _ (H.out.below (below_alloc _ _))).mono ?_; rintro x w1 ⟨rfl, hb1⟩; have hm := hkeep (heap_new w (.cells zeroEn.vals.toArray 42)) hb1; have hz := cells7_of hm; have zf := free_of hm; have z0 := hz.c0; have z1 := hz.c1; have z2 := hz.c2; have z3 := hz.c3; have z4 := hz.c4; have z5 := hz.c5; have z6 := hz.c6; simp only [Nat.zero_add] at z1 z2 z3 z4 z5 z6; have HP : Hid ((put7 w1 w.heap.size e).heap[w.heap.size]? = some (.cells e.vals.toArray 42 (0, 0)) ∧ Below w.heap.size w (put7 w1 w.heap.size e)) := ⟨put7_heap e hm, (put7_only _ _ _).below (chainB (below_alloc _ _) hb1) (chainB (below_alloc _ _) hb1).size (fun k hk => by omega)⟩; clear hz hm)
  refine bodyPost_ret (ret_entry2 (e := e) rfl _ _ _ rfl HP.out.1) rfl ?_
  exact ⟨rfl, HP.out.2⟩

theorem insideF_hit (es : List En) (n : Nat) (d : Int) : insideF es (n + 1) d d = true := by rw [insideF, if_pos rfl]
theorem insideF_up (es : List En) (n : Nat) (d x : Int) (h : d ≠ x) : insideF es (n + 1) d x = insideF es n (upD es d) x := by rw [insideF, if_neg h]
theorem findV_form (es : List En) (id : Int) : ∃ (e : En) (E : Int), findV es id = .tuple #[e.agg, .int .i64 E] ∧ e.d = upD es id := by
  unfold findV upD
  by_cases h1 : id = 1
  · exact ⟨zeroEn, 1, by rw [if_pos h1], by rw [if_pos h1]; rfl⟩
  · rw [if_neg h1, if_neg h1]
    cases nodeE es id with
    | none => exact ⟨zeroEn, 46, rfl, rfl⟩
    | some e => exact ⟨e, 0, rfl, rfl⟩
set_option maxHeartbeats 2000000 in
theorem inside_p (t : Nat) (s : Tr) (dir x : Int) (w : World) (h : IsP w t s) :
    Calls Try.prog 80 #[.pointer (some ⟨t, 0, none⟩), .int .i64 dir, .int .i64 x] w fun e w' => e = .returned (.bool (insideF s.es (s.es.length + 1) dir x)) ∧ Below w.heap.size w w' := by
  have HCt : Hid (∀ w, IsP w t s → Calls Try.prog 92 #[.pointer (some ⟨t, 0, none⟩)] w fun e w' => e = .returned (.int .i64 ((s.es.length : Int) + 1)) ∧ w' = w) := fun w h => count_p t s w h
  obtain ⟨n, hn⟩ : ∃ n, s.es.length = n := ⟨_, rfl⟩
  rw [hn] at HCt ⊢
  have hlim := h.lim
  rw [hn] at hlim
  have H : Hid (IsP w t s) := h
  obtain ⟨R, hR⟩ : ∃ R, insideF s.es (n + 1) dir x = R := ⟨_, rfl⟩
  rw [hR]
  have HR : Hid (insideF s.es (n + 1) dir x = R) := hR
  clear h hn hR
  go_enter Try.func80, Try.ntmps80
  go_wp2_with (go_at_call 92; refine (HCt.out _ H.out).mono ?_; rintro y w1 ⟨rfl, rfl⟩)
  go_loopw [1, 11] (fun u i wr => ∃ (k : Nat) (d : Int), k ≤ n + 1 ∧ i = .int .i64 k ∧ u = .int .i64 d ∧ insideF s.es (n + 1 - k) d x = R ∧ Below w1.heap.size w1 wr) (fun _ i _ => n + 1 - (intOf i).toNat)
  case atStart => exact ⟨0, dir, Nat.zero_le _, rfl, rfl, HR.out, Below.refl _ _⟩
  case round =>
    clear HR
    obtain ⟨k, d, hk, rfl, rfl, hw, hb⟩ := hrel
    have HB : Hid (Below w1.heap.size w1 wr ∧ IsP wr t s) := ⟨hb, H.out.below hb⟩
    clear hb
    by_cases hkn : k < n + 1
    · have hki : (k : Int) < (n : Int) + 1 := by omega
      obtain ⟨m, hm⟩ : ∃ m, n + 1 - k = m + 1 := ⟨n - k, by omega⟩
      rw [hm] at hw
      have HW : Hid (insideF s.es (m + 1) d x = R ∧ n + 1 - (k + 1) = m) := ⟨hw, by omega⟩
      clear hw hm
      by_cases hd : d = x
      · subst hd
        have HQ : Hid (R = true) := by show _ = _; rw [← HW.out.1]; exact insideF_hit _ _ _
        go_wp2
        go_ret
        exact ⟨by rw [HQ.out]; rfl, HB.out.1⟩
      · have hdb : (d == x) = false := by simpa using hd
        have hN := fun w (h : IsP w t s) => find_p t s d w h
        obtain ⟨e, E, hF, hup⟩ := findV_form s.es d
        rw [hF] at hN
        have HN : Hid (∀ w, IsP w t s → Calls Try.prog 56 #[.pointer (some ⟨t, 0, none⟩), .int .i64 d] w fun x w' => x = .returned (.tuple #[e.agg, .int .i64 E]) ∧ Below w.heap.size w w') := hN
        unfold En.agg at HN
        have HQ : Hid (insideF s.es m e.d x = R) := by show _ = _; rw [hup, ← HW.out.1]; exact (insideF_up _ _ _ _ hd).symm
        clear hN hF hup hd
        go_wp2_with (go_at_call 56; refine (HN.out _ HB.out.2).mono ?_; rintro y w2 ⟨rfl, hb2⟩)
        exact ⟨⟨k + 1, e.d, by omega, by simp, rfl, by rw [HW.out.2]; exact HQ.out, chainB (chainB HB.out.1 hb2) (below_alloc _ _)⟩, by simp [intOf]; omega⟩
    · have hkn' : ¬ (k : Int) < (n : Int) + 1 := by omega
      have HQ : Hid (R = false) := by show _ = _; rw [← hw, show n + 1 - k = 0 by omega]; rfl
      clear hw
      go_wp2
      go_ret
      exact ⟨by rw [HQ.out]; rfl, HB.out.1⟩
end
section
open Go.RowKit Go.Sort

def cmpI (a b : Int) : Int := if a < b then -1 else if b < a then 1 else 0
def cmpS (x y : ByteArray) : Int := if Op.bytesLess x.toList y.toList then -1 else if x.toList == y.toList then 0 else 1
theorem cmpI_p (a b : Int) (w : World) : Calls Try.prog 85 #[.int .i64 a, .int .i64 b] w fun e w' => e = .returned (.int .i64 (cmpI a b)) ∧ w' = w := by
  have hn : ∀ x w, Calls Try.prog 93 #[.int .i64 x] w fun e w' => e = .returned (.bool false) ∧ w' = w := by
    intro x w
    go_enter Try.func93, Try.ntmps93
    go_wp2
    go_ret
    exact ⟨by simp, rfl⟩
  have HN : Hid (∀ x w, Calls Try.prog 93 #[.int .i64 x] w fun e w' => e = .returned (.bool false) ∧ w' = w) := hn
  clear hn
  unfold cmpI
  by_cases h1 : a < b
  · rw [if_pos h1]
    go_enter Try.func85, Try.ntmps85
    go_wp2_with (go_at_call 93; refine (HN.out _ _).mono ?_; rintro x w1 ⟨rfl, rfl⟩)
    go_ret
    exact ⟨rfl, rfl⟩
  · rw [if_neg h1]
    by_cases h2 : b < a
    · rw [if_pos h2]
      go_enter Try.func85, Try.ntmps85
      go_wp2_with (go_at_call 93; refine (HN.out _ _).mono ?_; rintro x w1 ⟨rfl, rfl⟩)
      go_ret
      exact ⟨rfl, rfl⟩
    · rw [if_neg h2]
      go_enter Try.func85, Try.ntmps85
      go_wp2_with (go_at_call 93; refine (HN.out _ _).mono ?_; rintro x w1 ⟨rfl, rfl⟩)
      go_ret
      exact ⟨rfl, rfl⟩
theorem cmpS_p (x y : ByteArray) (w : World) : Calls Try.prog 34 #[.string x, .string y] w fun e w' => e = .returned (.int .i64 (cmpS x y)) ∧ w' = w := by
  have hn : ∀ x w, Calls Try.prog 55 #[.string x] w fun e w' => e = .returned (.bool false) ∧ w' = w := by
    intro x w
    go_enter Try.func55, Try.ntmps55
    go_wp2
    go_ret
    exact ⟨by simp, rfl⟩
  have HN : Hid (∀ x w, Calls Try.prog 55 #[.string x] w fun e w' => e = .returned (.bool false) ∧ w' = w) := hn
  clear hn
  unfold cmpS
  cases h1 : Op.bytesLess x.toList y.toList with
  | true =>
    simp only [if_true]
    go_enter Try.func34, Try.ntmps34
    go_wp2_with (go_at_call 55; refine (HN.out _ _).mono ?_; rintro z w1 ⟨rfl, rfl⟩)
    go_ret
    exact ⟨rfl, rfl⟩
  | false =>
    simp only [Bool.false_eq_true, if_false]
    cases h2 : x.toList == y.toList with
    | true =>
      simp only [if_true]
      go_enter Try.func34, Try.ntmps34
      go_wp2_with (go_at_call 55; refine (HN.out _ _).mono ?_; rintro z w1 ⟨rfl, rfl⟩)
      go_ret
      exact ⟨rfl, rfl⟩
    | false =>
      simp only [Bool.false_eq_true, if_false]
      go_enter Try.func34, Try.ntmps34
      go_wp2_with (go_at_call 55; refine (HN.out _ _).mono ?_; rintro z w1 ⟨rfl, rfl⟩)
      go_ret
      exact ⟨rfl, rfl⟩
theorem cmpI_neg (a b : Int) : (cmpI a b < 0) = (a < b) := by
  unfold cmpI
  by_cases h1 : a < b
  · simp [h1]
  · by_cases h2 : b < a <;> simp [h1, h2]
theorem cmpI_zero (a b : Int) : cmpI a b = 0 ↔ a = b := by
  unfold cmpI
  by_cases h1 : a < b
  · rw [if_pos h1]; constructor <;> intro h <;> omega
  · by_cases h2 : b < a
    · rw [if_neg h1, if_pos h2]; constructor <;> intro h <;> omega
    · rw [if_neg h1, if_neg h2]; constructor <;> intro h <;> omega
theorem cmpS_neg (x y : ByteArray) : decide (cmpS x y < 0) = Op.bytesLess x.toList y.toList := by
  unfold cmpS
  cases Op.bytesLess x.toList y.toList with
  | true => rfl
  | false => cases x.toList == y.toList <;> rfl
theorem take_put (cur : Array Value) (l : List Value) (h : l.length ≤ cur.size) : (putCells id 0 l.toArray cur).toList.take l.length = l := by
  apply List.ext_getElem?
  intro j
  by_cases hj : j < l.length
  · rw [List.getElem?_take_of_lt hj, Array.getElem?_toList]
    simp [putCells, hj, show j < cur.size by omega]
  · rw [List.getElem?_take_eq_none (by omega), List.getElem?_eq_none (by omega)]

theorem grow2 (w : World) (o1 o2 : Obj) : (w.alloc o1).alloc o2 = grow w (#[o1] ++ #[o2]) := by rw [alloc_eq_grow, alloc_eq_grow, grow_grow]
theorem snoc_mid {α : Type} {D A B l : List α} {y : α} (h : (D ++ (A ++ y :: B)).Perm l) : ((D ++ [y]) ++ (A ++ B)).Perm l := by
  refine List.Perm.trans ?_ h
  rw [List.append_assoc]
  refine List.Perm.append_left D ?_
  exact (List.perm_middle (a := y) (l₁ := A) (l₂ := B)).symm
end
end Go.Proofs.Ytppbbddlbfgpfaa
