/- The document's tree in memory: its small methods, in one text. -/
import Derived.Test.YtjelggpkeogebaaEnM
namespace Go.Proofs.Ytjelggpkeogebaa
open Go.RowKit

structure IsT (w : World) (t : Nat) (s : Tr) : Prop where
  head : w.heap[t]? = some (.cells #[s.v, .int .i64 s.vers, .int .i64 s.next] 60 (0, 0))
  row : w.ownsRow 0 56 7 s.v s.es.length (ec s.es)
  lim : s.es.length ≤ 47
theorem IsT.tt {w : World} {t : Nat} {s : Tr} (h : IsT w t s) : Tag w t 60 := ⟨_, _, h.head⟩
theorem IsT.tv {w : World} {t : Nat} {s : Tr} (h : IsT w t s) {k : Nat} (hk : s.v.ownBlock = some k) : Tag w k 56 := Tag.own h.row hk
theorem IsT.moved {w w' : World} {t : Nat} {s : Tr} (h : IsT w t s) (ht : w'.heap[t]? = w.heap[t]?) (hv : ∀ k, s.v.ownBlock = some k → w'.heap[k]? = w.heap[k]?) : IsT w' t s := ⟨ht.trans h.head, owns_moved h.row hv, h.lim⟩
theorem IsT.below {w w' : World} {t : Nat} {s : Tr} (h : IsT w t s) (hb : Below w.heap.size w w') : IsT w' t s := h.moved (hb.block _ h.tt.lt) (fun _ hk => hb.block _ (h.tv hk).lt)
theorem IsT.cells {w : World} {t : Nat} {s : Tr} (h : IsT w t s) : w.cell? ⟨t, 0, none⟩ = some s.v ∧ w.cell? ⟨t, 1, none⟩ = some (.int .i64 s.vers) ∧ w.cell? ⟨t, 2, none⟩ = some (.int .i64 s.next) ∧ ∀ i, w.frozen? ⟨t, i, none⟩ = false :=
  ⟨by rw [cell_of h.head]; rfl, by rw [cell_of h.head]; rfl, by rw [cell_of h.head]; rfl, free_of h.head⟩
attribute [local go_sem high] eqK neqK eqE neqE eqN neqN guardK guardE guardN
set_option maxHeartbeats 1000000 in
theorem at_any (t : Nat) (s : Tr) (d : Int) (nm : ByteArray) (w : World) (h : IsT w t s) :
    Calls Try.prog 63 #[.pointer (some ⟨t, 0, none⟩), .agg #[.int .i64 d, .string nm]] w fun e w' => e = .returned (.int .i64 (atV s.es d nm)) ∧ Below w.heap.size w w' := by
  obtain ⟨c0, _, _, _⟩ := h.cells
  obtain ⟨a, cap, e⟩ := owns_len h.row
  rw [e] at c0
  obtain ⟨n, hn⟩ : ∃ n, s.es.length = n := ⟨_, rfl⟩
  rw [hn] at c0 e
  have hlim := h.lim
  rw [hn] at hlim
  have hlt := h.tt.lt
  have H : Hid (IsT w t s ∧ s.v = .slice a n cap ∧ s.es.length = n) := ⟨h, e, hn⟩
  clear h e hn
  go_enter Try.func63, Try.ntmps63
  go_wp2
  have hbx : Below w.heap.size w (w.alloc (.cells #[.int .i64 d, .string nm] 52)) := below_alloc _ _
  have m0 : (w.alloc (.cells #[.int .i64 d, .string nm] 52)).heap[w.heap.size]? = some (.cells #[.int .i64 d, .string nm] 52 (0, 0)) := heap_new _ _
  obtain ⟨W, hW⟩ : ∃ W, w.alloc (.cells #[.int .i64 d, .string nm] 52) = W := ⟨_, rfl⟩
  rw [hW] at hbx m0 ⊢
  have k0 := cell_of m0 0
  have k1 := cell_of m0 1
  simp at k0 k1
  have hlk : w.heap.size < W.heap.size := (Array.getElem?_eq_some_iff.1 m0).1
  have d0 := (hbx.cell (p := ⟨t, 0, none⟩) hlt).trans c0
  clear hW
  go_loopw [5] (fun i wr => ∃ k : Nat, k ≤ n ∧ i = .int .i64 k ∧ (∀ (j : Nat) (e : En), j < k → s.es[j]? = some e → ¬ (e.d = d ∧ e.nm = nm)) ∧ Below W.heap.size W wr) (fun i _ => n - (intOf i).toNat)
  case atStart => exact ⟨0, Nat.zero_le _, rfl, fun j e hj => (by omega), Below.refl _ _⟩
  case round =>
    obtain ⟨k, hk, rfl, hno, hb⟩ := hrel
    have f0 := (hb.cell (p := ⟨t, 0, none⟩) (by have := hbx.size; show t < _; omega)).trans d0
    have g0 := (hb.cell (p := ⟨w.heap.size, 0, none⟩) hlk).trans k0
    have g1 := (hb.cell (p := ⟨w.heap.size, 1, none⟩) hlk).trans k1
    by_cases hkn : k < n
    · obtain ⟨e, he⟩ : ∃ e, s.es[k]? = some e := ⟨_, List.getElem?_eq_getElem (by rw [H.out.2.2]; exact hkn)⟩
      have hrow := ((H.out.1.below hbx).below hb).row
      rw [H.out.2.1] at hrow
      obtain ⟨g, rfl, -, -, -, hc, -⟩ := owns_entry hrow he
      have x0 := hc.c0
      have x1 := hc.c1
      have hki : (k : Int) < (n : Int) := by omega
      have HE : Hid (s.es[k]? = some e ∧ ∀ (j : Nat) (e : En), j < k → s.es[j]? = some e → ¬ (e.d = d ∧ e.nm = nm)) := ⟨he, hno⟩
      clear hrow hc he hno
      by_cases hq : e.d = d ∧ e.nm = nm
      · obtain ⟨hq1, hq2⟩ := hq
        have HA : Hid (atV s.es d nm = (k : Int)) := by
          show _ = _
          rw [atV_hit s.es d nm k e HE.out.1 ⟨hq1, hq2⟩ HE.out.2]
        go_upto_region 4 with fail
        go_quiet (fail)
        go_wp2
        go_ret
        exact ⟨by rw [HA.out]; rfl, below_drewN (chainB hbx hb) _⟩
      · have hq' : decide (e.d = d ∧ e.nm = nm) = false := decide_eq_false hq
        have HQ : Hid (¬ (e.d = d ∧ e.nm = nm)) := hq
        clear hq
        go_upto_region 4 with fail
        go_quiet (fail)
        go_wp2
        refine ⟨⟨k + 1, by omega, by simp, fun j e' hj he' => ?_, below_drewN hb _⟩, by simp [intOf]; omega⟩
        by_cases hjk : j < k
        · exact HE.out.2 j e' hjk he'
        · obtain rfl : j = k := by omega
          rw [HE.out.1] at he'
          cases he'
          exact HQ.out
    · have HA : Hid (atV s.es d nm = -1) := atV_miss s.es d nm (fun j e he => hno j e (by have := (List.getElem?_eq_some_iff.1 he).1; have := H.out.2.2; omega) he)
      have hkn' : ¬ (k : Int) < (n : Int) := by omega
      clear hno
      go_wp2
      go_ret
      exact ⟨by rw [HA.out]; rfl, chainB hbx hb⟩
open Go.RowKit
attribute [local go_sem high] eqK neqK eqE neqE eqN neqN guardK guardE guardN

set_option maxHeartbeats 1000000 in
theorem node_any (t : Nat) (s : Tr) (id : Int) (w : World) (h : IsT w t s) :
    Calls Try.prog 46 #[.pointer (some ⟨t, 0, none⟩), .int .i64 id] w fun e w' => e = .returned (nodeV s.es id) ∧ Below w.heap.size w w' := by
  by_cases h1 : id = 1
  · subst h1
    have e1 : nodeV s.es 1 = .tuple #[rootEn.agg, .bool true] := rfl
    rw [e1]
    clear h e1
    go_enter Try.func46, Try.ntmps46
    go_wp2
    refine bodyPost_ret (ret_entry2 (e := rootEn) rfl _ _ _ rfl (heap_new _ _)) rfl ?_
    exact ⟨rfl, below_alloc _ _⟩
  · obtain ⟨c0, _, _, _⟩ := h.cells
    obtain ⟨a, cap, e⟩ := owns_len h.row
    rw [e] at c0
    obtain ⟨n, hn⟩ : ∃ n, s.es.length = n := ⟨_, rfl⟩
    rw [hn] at c0 e
    have hlim := h.lim
    rw [hn] at hlim
    have hlt := h.tt.lt
    have H : Hid (IsT w t s ∧ s.v = .slice a n cap ∧ s.es.length = n) := ⟨h, e, hn⟩
    have h1b : (id == 1) = false := by simpa using h1
    clear h e hn
    go_enter Try.func46, Try.ntmps46
    go_wp2
    obtain ⟨W, hW⟩ : ∃ W, w.alloc (.cells #[.int .i64 0, .string ⟨#[]⟩, .bool false, .int .i64 0, .int .i64 0, .int .i64 0, .string ⟨#[]⟩] 56) = W := ⟨_, rfl⟩
    have hbx : Below w.heap.size w W := by rw [← hW]; exact below_alloc _ _
    have m0 : W.heap[w.heap.size]? = some (.cells zeroEn.vals.toArray 56 (0, 0)) := by rw [← hW]; exact heap_new _ _
    rw [hW]
    have hlk : w.heap.size < W.heap.size := (Array.getElem?_eq_some_iff.1 m0).1
    have d0 := (hbx.cell (p := ⟨t, 0, none⟩) hlt).trans c0
    have HM : Hid (W.heap[w.heap.size]? = some (.cells zeroEn.vals.toArray 56 (0, 0))) := m0
    clear hW m0
    go_loopw [6] (fun i wr => ∃ k : Nat, k ≤ n ∧ i = .int .i64 k ∧ (∀ (j : Nat) (e : En), j < k → s.es[j]? = some e → ¬ e.id = id) ∧ Below W.heap.size W wr) (fun i _ => n - (intOf i).toNat)
    case atStart => exact ⟨0, Nat.zero_le _, rfl, fun j e hj => (by omega), Below.refl _ _⟩
    case round =>
      obtain ⟨k, hk, rfl, hno, hb⟩ := hrel
      have f0 := (hb.cell (p := ⟨t, 0, none⟩) (by have := hbx.size; show t < _; omega)).trans d0
      have hm := (hb.block _ hlk).trans HM.out
      have hz := cells7_of hm
      have zf := free_of hm
      have HZ : Hid (wr.heap[w.heap.size]? = some (.cells zeroEn.vals.toArray 56 (0, 0)) ∧ Below w.heap.size w wr) := ⟨hm, chainB hbx hb⟩
      have z0 := hz.c0
      have z1 := hz.c1
      have z2 := hz.c2
      have z3 := hz.c3
      have z4 := hz.c4
      have z5 := hz.c5
      have z6 := hz.c6
      clear hm hz
      simp only [Nat.zero_add] at z1 z2 z3 z4 z5 z6
      by_cases hkn : k < n
      · obtain ⟨e, he⟩ : ∃ e, s.es[k]? = some e := ⟨_, List.getElem?_eq_getElem (by rw [H.out.2.2]; exact hkn)⟩
        have hrow := ((H.out.1.below hbx).below hb).row
        rw [H.out.2.1] at hrow
        obtain ⟨g, rfl, -, -, -, hc, -⟩ := owns_entry hrow he
        have x0 := hc.c0
        have x1 := hc.c1
        have x2 := hc.c2
        have x3 := hc.c3
        have x4 := hc.c4
        have x5 := hc.c5
        have x6 := hc.c6
        have hki : (k : Int) < (n : Int) := by omega
        by_cases hq : e.id = id
        · have HA : Hid (nodeE s.es id = some e) := nodeE_hit s.es id k e h1 he hq hno
          have hqb : (e.id == id) = true := by simpa using hq
          have HP : Hid ((put7 wr w.heap.size e).heap[w.heap.size]? = some (.cells e.vals.toArray 56 (0, 0)) ∧ Below w.heap.size w (put7 wr w.heap.size e)) := ⟨put7_heap e HZ.out.1, (put7_only _ _ _).below HZ.out.2 HZ.out.2.size (fun k hk => by omega)⟩
          clear hrow hc he hno hq
          go_wp2
          refine bodyPost_ret (ret_entry2 (e := e) rfl _ _ _ rfl HP.out.1) rfl ?_
          exact ⟨by unfold nodeV; rw [HA.out]; rfl, HP.out.2⟩
        · have HE : Hid (s.es[k]? = some e ∧ (∀ (j : Nat) (e : En), j < k → s.es[j]? = some e → ¬ e.id = id) ∧ ¬ e.id = id) := ⟨he, hno, hq⟩
          have hqb : (e.id == id) = false := by simpa using hq
          clear hrow hc he hno hq
          go_wp2
          refine ⟨⟨k + 1, by omega, by simp, fun j e' hj he' => ?_, hb⟩, by simp [intOf]; omega⟩
          by_cases hjk : j < k
          · exact HE.out.2.1 j e' hjk he'
          · obtain rfl : j = k := by omega
            rw [HE.out.1] at he'
            cases he'
            exact HE.out.2.2
      · have HA : Hid (nodeE s.es id = none) := nodeE_miss s.es id h1 (fun j e he => hno j e (by have := (List.getElem?_eq_some_iff.1 he).1; have := H.out.2.2; omega) he)
        have hkn' : ¬ (k : Int) < (n : Int) := by omega
        have HP : Hid ((put7 wr w.heap.size zeroEn).heap[w.heap.size]? = some (.cells zeroEn.vals.toArray 56 (0, 0)) ∧ Below w.heap.size w (put7 wr w.heap.size zeroEn)) := ⟨put7_heap zeroEn HZ.out.1, (put7_only _ _ _).below HZ.out.2 HZ.out.2.size (fun k hk => by omega)⟩
        clear hno
        go_wp2
        refine bodyPost_ret (ret_entry2 (e := zeroEn) rfl _ _ _ rfl HP.out.1) rfl ?_
        exact ⟨by unfold nodeV; rw [HA.out]; rfl, HP.out.2⟩

theorem dir_any (t : Nat) (s : Tr) (id : Int) (w : World) (h : IsT w t s) :
    Calls Try.prog 26 #[.pointer (some ⟨t, 0, none⟩), .int .i64 id] w fun e w' => e = .returned (.int .i64 (dirE s.es id)) ∧ Below w.heap.size w w' := by
  have hN := fun w (h : IsT w t s) => node_any t s id w h
  unfold nodeV at hN
  unfold dirE
  cases hq : nodeE s.es id with
  | none =>
    rw [hq] at hN
    have HN : Hid (∀ w, IsT w t s → Calls Try.prog 46 #[.pointer (some ⟨t, 0, none⟩), .int .i64 id] w fun e w' => e = .returned (.tuple #[zeroEn.agg, .bool false]) ∧ Below w.heap.size w w') := hN
    have H : Hid (IsT w t s) := h
    unfold En.agg at HN
    clear hN hq h
    go_enter Try.func26, Try.ntmps26
    go_wp2_with (go_at_call 46; refine (HN.out _ H.out).mono ?_; rintro e w1 ⟨rfl, hb1⟩)
    go_ret
    exact ⟨rfl, chainB hb1 (below_alloc _ _)⟩
  | some e =>
    rw [hq] at hN
    have HN : Hid (∀ w, IsT w t s → Calls Try.prog 46 #[.pointer (some ⟨t, 0, none⟩), .int .i64 id] w fun x w' => x = .returned (.tuple #[e.agg, .bool true]) ∧ Below w.heap.size w w') := hN
    have H : Hid (IsT w t s) := h
    unfold En.agg at HN
    clear hN hq h
    by_cases hk : e.kind = 1
    · have hkb : (e.kind != 1) = false := by simpa using hk
      simp only [hk, if_true]
      go_enter Try.func26, Try.ntmps26
      go_wp2_with (go_at_call 46; refine (HN.out _ H.out).mono ?_; rintro x w1 ⟨rfl, hb1⟩)
      go_ret
      exact ⟨rfl, chainB hb1 (below_alloc _ _)⟩
    · have hkb : (e.kind != 1) = true := by simpa using hk
      simp only [hk, if_false]
      go_enter Try.func26, Try.ntmps26
      go_wp2_with (go_at_call 46; refine (HN.out _ H.out).mono ?_; rintro x w1 ⟨rfl, hb1⟩)
      go_ret
      exact ⟨rfl, chainB hb1 (below_alloc _ _)⟩
open Go.RowKit
attribute [local go_sem high] eqK neqK eqE neqE eqN neqN guardK guardE guardN

set_option maxHeartbeats 1000000 in
theorem names_any (t : Nat) (s : Tr) (dir : Int) (w : World) (h : IsT w t s) :
    Calls Try.prog 80 #[.pointer (some ⟨t, 0, none⟩), .int .i64 dir] w fun e w' => e = .returned (.int .i64 (namesN s.es dir)) ∧ w' = w := by
  obtain ⟨c0, _, _, _⟩ := h.cells
  obtain ⟨a, cap, e⟩ := owns_len h.row
  rw [e] at c0
  obtain ⟨n, hn⟩ : ∃ n, s.es.length = n := ⟨_, rfl⟩
  rw [hn] at c0 e
  have hlim := h.lim
  rw [hn] at hlim
  have H : Hid (IsT w t s ∧ s.v = .slice a n cap ∧ s.es.length = n) := ⟨h, e, hn⟩
  clear h e hn
  go_enter Try.func80, Try.ntmps80
  go_wp2
  go_loopw [5, 6] (fun u i wr => ∃ k m : Nat, k ≤ n ∧ i = .int .i64 k ∧ u = .int .i64 m ∧ m = namesN (s.es.take k) dir ∧ m ≤ k ∧ wr = w) (fun _ i _ => n - (intOf i).toNat)
  case atStart => exact ⟨0, 0, Nat.zero_le _, rfl, rfl, rfl, Nat.le_refl _, rfl⟩
  case round =>
    obtain ⟨k, m, hk, rfl, rfl, hm, hmk, rfl⟩ := hrel
    have HM : Hid (m = namesN (s.es.take k) dir) := hm
    clear hm
    by_cases hkn : k < n
    · obtain ⟨e, he⟩ : ∃ e, s.es[k]? = some e := ⟨_, List.getElem?_eq_getElem (by rw [H.out.2.2]; exact hkn)⟩
      have hrow := H.out.1.row
      rw [H.out.2.1] at hrow
      obtain ⟨g, rfl, -, -, -, hc, -⟩ := owns_entry hrow he
      have x0 := hc.c0
      have hki : (k : Int) < (n : Int) := by omega
      have HE : Hid (s.es[k]? = some e) := he
      clear hrow hc he
      by_cases hq : e.d = dir
      · have hqb : (e.d == dir) = true := by simpa using hq
        have HQ : Hid (e.d = dir) := hq
        clear hq
        go_wp2
        refine ⟨⟨k + 1, m + 1, by omega, by simp, by simp, ?_, by omega, trivial⟩, by simp [intOf]; omega⟩
        rw [namesN_take _ _ _ _ HE.out, if_pos HQ.out, ← HM.out]
      · have hqb : (e.d == dir) = false := by simpa using hq
        have HQ : Hid (¬ e.d = dir) := hq
        clear hq
        go_wp2
        refine ⟨⟨k + 1, m, by omega, by simp, by simp, ?_, by omega, trivial⟩, by simp [intOf]; omega⟩
        rw [namesN_take _ _ _ _ HE.out, if_neg HQ.out, ← HM.out]; rfl
    · have hkn' : ¬ (k : Int) < (n : Int) := by omega
      go_wp2
      go_ret
      refine ⟨?_, rfl⟩
      have hk2 : k = n := by omega
      have := HM.out
      rw [List.take_of_length_le (by rw [H.out.2.2]; omega)] at this
      rw [← this]; rfl

theorem IsT.entry {w : World} {t i : Nat} {s : Tr} {e : En} (h : IsT w t s) (hi : s.es[i]? = some e) : ∃ g n cap, s.v = .slice (some ⟨g, 0, none⟩) n cap ∧ n = s.es.length ∧ i < n ∧ n ≤ 47 ∧ g < w.heap.size ∧ w.cell? ⟨t, 0, none⟩ = some (.slice (some ⟨g, 0, none⟩) n cap) ∧ Cells7 w g (i * 7) e ∧ (∀ j, w.frozen? ⟨g, j, none⟩ = false) := by
  obtain ⟨c0, _⟩ := h.cells
  obtain ⟨a, cap, e'⟩ := owns_len h.row
  have hrow := h.row
  rw [e'] at c0 hrow
  obtain ⟨g, rfl, _, _, hg, hc, hf⟩ := owns_entry hrow hi
  have := (List.getElem?_eq_some_iff.1 hi).1
  exact ⟨g, s.es.length, cap, e', rfl, this, h.lim, hg, c0, hc, hf⟩
set_option maxHeartbeats 1000000 in
theorem now_any (t : Nat) (s : Tr) (d : Int) (nm : ByteArray) (w : World) (h : IsT w t s) :
    Calls Try.prog 37 #[.pointer (some ⟨t, 0, none⟩), .agg #[.int .i64 d, .string nm]] w fun e w' => e = .returned (nowE s.es d nm).agg ∧ Below w.heap.size w w' := by
  have hA := fun w (h : IsT w t s) => at_any t s d nm w h
  unfold atV at hA
  have H : Hid (IsT w t s) := h
  go_enter Try.func37, Try.ntmps37
  go_upto_region 1 with fail
  obtain ⟨W, hW⟩ : ∃ W, (w.alloc (.cells #[.int .i64 d, .string nm] 52)).alloc (.cells #[.int .i64 0, .string ⟨#[]⟩, .bool false, .int .i64 0, .int .i64 0, .int .i64 0, .string ⟨#[]⟩] 56) = W := ⟨_, rfl⟩
  rw [hW]
  obtain ⟨m0, m1, hbW, hzW⟩ := boxes2 hW
  have k0 := cell_of m0 0
  have k1 := cell_of m0 1
  simp at k0 k1
  have HM : Hid (W.heap[w.heap.size + 1]? = some (.cells zeroEn.vals.toArray 56 (0, 0)) ∧ W.heap.size = w.heap.size + 1 + 1 ∧ Below w.heap.size w W ∧ W.heap[w.heap.size]? = some (.cells #[.int .i64 d, .string nm] 52 (0, 0))) := ⟨m1, hzW, hbW, m0⟩
  clear hW m0 m1
  have hput : ∀ (w1 : World) (e : En), Below W.heap.size W w1 → (put7 w1 (w.heap.size + 1) e).heap[w.heap.size + 1]? = some (.cells e.vals.toArray 56 (0, 0)) ∧ Below w.heap.size w (put7 w1 (w.heap.size + 1) e) := fun w1 e hb =>
    ⟨put7_heap e ((hb.block _ (by have := HM.out.2.1; omega)).trans HM.out.1), (put7_only _ _ _).below (chainB HM.out.2.2.1 hb) (by have := hb.size; have := HM.out.2.1; omega) (fun k hk => by omega)⟩
  have HPut : Hid (∀ (w1 : World) (e : En), Below W.heap.size W w1 → (put7 w1 (w.heap.size + 1) e).heap[w.heap.size + 1]? = some (.cells e.vals.toArray 56 (0, 0)) ∧ Below w.heap.size w (put7 w1 (w.heap.size + 1) e)) := hput
  have hres : ∀ w1, Below W.heap.size W w1 → Cells7 w1 (w.heap.size + 1) 0 zeroEn ∧ ∀ i, w1.frozen? ⟨w.heap.size + 1, i, none⟩ = false := fun w1 hb => by
    have hh := (hb.block _ (by have := HM.out.2.1; omega)).trans HM.out.1
    exact ⟨cells7_of hh, free_of hh⟩
  have HRes : Hid (∀ w1, Below W.heap.size W w1 → Cells7 w1 (w.heap.size + 1) 0 zeroEn ∧ ∀ i, w1.frozen? ⟨w.heap.size + 1, i, none⟩ = false) := hres
  clear hput hres h
  cases hq : atI s.es d nm with
  | none =>
    rw [hq] at hA
    have HA : Hid (∀ w, IsT w t s → Calls Try.prog 63 #[.pointer (some ⟨t, 0, none⟩), .agg #[.int .i64 d, .string nm]] w fun e w' => e = .returned (.int .i64 (-1)) ∧ Below w.heap.size w w') := hA
    have HN : Hid (nowE s.es d nm = ⟨d, nm, true, 0, 0, 0, ⟨#[]⟩⟩) := by show _ = _; unfold nowE; rw [hq]; rfl
    clear hA hq
    go_wp2_with (go_at_call 63; refine (HA.out _ (H.out.below hbW)).mono ?_; rintro e w1 ⟨rfl, hb1⟩; obtain ⟨hz, zf⟩ := HRes.out w1 hb1; have z0 := hz.c0; have z1 := hz.c1; have z2 := hz.c2; have z3 := hz.c3; have z4 := hz.c4; have z5 := hz.c5; have z6 := hz.c6; simp only [Nat.zero_add] at z1 z2 z3 z4 z5 z6; have x0 := (hb1.cell (cellLt k0)).trans k0; have x1 := (hb1.cell (cellLt k1)).trans k1; have HP : Hid _ := HPut.out w1 ⟨d, nm, true, 0, 0, 0, ⟨#[]⟩⟩ hb1; clear hz)
    refine bodyPost_ret (ret_entry (e := ⟨d, nm, true, 0, 0, 0, ⟨#[]⟩⟩) rfl _ _ _ rfl HP.out.1) rfl ?_
    exact ⟨by rw [HN.out], HP.out.2⟩
  | some i =>
    rw [hq] at hA
    obtain ⟨e, he, -, -⟩ := atI_lt hq
    have HA : Hid (∀ w, IsT w t s → Calls Try.prog 63 #[.pointer (some ⟨t, 0, none⟩), .agg #[.int .i64 d, .string nm]] w fun e w' => e = .returned (.int .i64 (i : Int)) ∧ Below w.heap.size w w') := hA
    have HN : Hid (nowE s.es d nm = e) := by show _ = _; unfold nowE; rw [hq]; simp [he]
    obtain ⟨g, n, cap, _, -, hin, hn47, hg, ct, hc, -⟩ := H.out.entry he
    have HC : Hid (Cells7 w g (i * 7) e) := hc
    have hlt := H.out.tt.lt
    have hii : (i : Int) < (n : Int) := by omega
    clear hA hq hc he
    go_wp2_with (go_at_call 63; refine (HA.out _ (H.out.below hbW)).mono ?_; rintro x w1 ⟨rfl, hb1⟩; obtain ⟨hz, zf⟩ := HRes.out w1 hb1; have z0 := hz.c0; have z1 := hz.c1; have z2 := hz.c2; have z3 := hz.c3; have z4 := hz.c4; have z5 := hz.c5; have z6 := hz.c6; simp only [Nat.zero_add] at z1 z2 z3 z4 z5 z6; have hw := chainB hbW hb1; have ct1 := (hw.cell (p := ⟨t, 0, none⟩) hlt).trans ct; have hc1 := HC.out.below hw; have x0 := hc1.c0; have x1 := hc1.c1; have x2 := hc1.c2; have x3 := hc1.c3; have x4 := hc1.c4; have x5 := hc1.c5; have x6 := hc1.c6; have HP : Hid _ := HPut.out w1 e hb1; clear hz hc1 hw)
    refine bodyPost_ret (ret_entry (e := e) rfl _ _ _ rfl HP.out.1) rfl ?_
    exact ⟨by rw [HN.out], HP.out.2⟩

set_option maxHeartbeats 2000000 in
theorem within_any (t : Nat) (s : Tr) (dir above : Int) (w : World) (h : IsT w t s) :
    Calls Try.prog 28 #[.pointer (some ⟨t, 0, none⟩), .int .i64 dir, .int .i64 above] w fun e w' => e = .returned (.bool (withinF s.es (s.es.length + 1) dir above)) ∧ Below w.heap.size w w' := by
  obtain ⟨c0, _, _, _⟩ := h.cells
  obtain ⟨a, cap, e⟩ := owns_len h.row
  rw [e] at c0
  obtain ⟨n, hn⟩ : ∃ n, s.es.length = n := ⟨_, rfl⟩
  rw [hn] at c0 ⊢
  have hlim := h.lim
  rw [hn] at hlim
  have hlt := h.tt.lt
  have H : Hid (IsT w t s) := h
  obtain ⟨R, hR⟩ : ∃ R, withinF s.es (n + 1) dir above = R := ⟨_, rfl⟩
  rw [hR]
  have HR : Hid (withinF s.es (n + 1) dir above = R) := hR
  clear h e hn hR
  go_enter Try.func28, Try.ntmps28
  go_wp2
  go_loopw [1, 7] (fun u i wr => ∃ (k : Nat) (d : Int), k ≤ n + 1 ∧ i = .int .i64 k ∧ u = .int .i64 d ∧ withinF s.es (n + 1 - k) d above = R ∧ Below w.heap.size w wr) (fun _ i _ => n + 1 - (intOf i).toNat)
  case atStart => exact ⟨0, dir, Nat.zero_le _, rfl, rfl, HR.out, Below.refl _ _⟩
  case round =>
    clear HR
    obtain ⟨k, d, hk, rfl, rfl, hw, hb⟩ := hrel
    have f0 := (hb.cell (p := ⟨t, 0, none⟩) hlt).trans c0
    have HB : Hid (Below w.heap.size w wr ∧ IsT wr t s) := ⟨hb, H.out.below hb⟩
    clear hb
    by_cases hkn : k ≤ n
    · have hki : (k : Int) ≤ (n : Int) := by omega
      obtain ⟨m, hm⟩ : ∃ m, n + 1 - k = m + 1 := ⟨n - k, by omega⟩
      rw [hm] at hw
      have HW : Hid (withinF s.es (m + 1) d above = R ∧ n + 1 - (k + 1) = m) := ⟨hw, by omega⟩
      clear hw hm
      by_cases hd : d = above
      · subst hd
        have HQ : Hid (R = true) := by show _ = _; rw [← HW.out.1]; exact withinF_hit _ _ _
        go_wp2
        go_ret
        exact ⟨by rw [HQ.out]; rfl, HB.out.1⟩
      · have hdb : (d == above) = false := by simpa using hd
        have hN := fun w (h : IsT w t s) => node_any t s d w h
        unfold nodeV at hN
        cases hq : nodeE s.es d with
        | none =>
          rw [hq] at hN
          have HN : Hid (∀ w, IsT w t s → Calls Try.prog 46 #[.pointer (some ⟨t, 0, none⟩), .int .i64 d] w fun e w' => e = .returned (.tuple #[zeroEn.agg, .bool false]) ∧ Below w.heap.size w w') := hN
          unfold En.agg at HN
          have HQ : Hid (R = false) := by show _ = _; rw [← HW.out.1]; exact withinF_none _ _ _ _ hd hq
          clear hN hq hd
          go_wp2_with (go_at_call 46; refine (HN.out _ HB.out.2).mono ?_; rintro x w1 ⟨rfl, hb1⟩)
          go_ret
          exact ⟨by rw [HQ.out]; rfl, chainB (chainB HB.out.1 hb1) (below_alloc _ _)⟩
        | some e =>
          rw [hq] at hN
          have HN : Hid (∀ w, IsT w t s → Calls Try.prog 46 #[.pointer (some ⟨t, 0, none⟩), .int .i64 d] w fun x w' => x = .returned (.tuple #[e.agg, .bool true]) ∧ Below w.heap.size w w') := hN
          unfold En.agg at HN
          by_cases h1 : d = 1
          · subst h1
            have HQ : Hid (R = false) := by show _ = _; rw [← HW.out.1]; exact withinF_root _ _ _ hd
            clear hN hq hd
            go_wp2_with (go_at_call 46; refine (HN.out _ HB.out.2).mono ?_; rintro x w1 ⟨rfl, hb1⟩)
            go_ret
            exact ⟨by rw [HQ.out]; rfl, chainB (chainB HB.out.1 hb1) (below_alloc _ _)⟩
          · have h1b : (d == 1) = false := by simpa using h1
            have HQ : Hid (withinF s.es m e.d above = R) := by show _ = _; rw [← HW.out.1]; exact (withinF_up _ _ _ _ _ hd hq h1).symm
            clear hN hq hd h1
            go_wp2_with (go_at_call 46; refine (HN.out _ HB.out.2).mono ?_; rintro x w1 ⟨rfl, hb1⟩)
            exact ⟨⟨k + 1, e.d, by omega, by simp, rfl, by rw [HW.out.2]; exact HQ.out, chainB (chainB HB.out.1 hb1) (below_alloc _ _)⟩, by simp [intOf]; omega⟩
    · have hkn' : ¬ (k : Int) ≤ (n : Int) := by omega
      have HQ : Hid (R = false) := by show _ = _; rw [← hw, show n + 1 - k = 0 by omega]; rfl
      clear hw
      go_wp2
      go_ret
      exact ⟨by rw [HQ.out]; rfl, HB.out.1⟩
open Go.RowKit
attribute [local go_sem high] eqK neqK eqE neqE eqN neqN guardK guardE guardN

/-- one call on the document's tree -/
structure TS (w w' : World) (t : Nat) (s s' : Tr) : Prop where
  is : IsT w' t s'
  only : Only (fun x => x = t ∨ s.v.ownBlock = some x) w w'
  v : s'.v.ownBlock = s.v.ownBlock ∨ ∀ q, s'.v.ownBlock = some q → w.heap.size ≤ q
theorem TS.stay {w w' : World} {t : Nat} {s : Tr} (h : IsT w t s) (hb : Below w.heap.size w w') : TS w w' t s s := ⟨h.below hb, Only.of hb, .inl rfl⟩
theorem TS.le {w0 w w' : World} {t : Nat} {s s' : Tr} (h : TS w w' t s s') (hb : Below w0.heap.size w0 w) : TS w0 w' t s s' := ⟨h.is, (Only.of hb).trans h.only, h.v.imp id fun k q hq => Nat.le_trans hb.size (k q hq)⟩
theorem TS.on {w w' w2 : World} {t : Nat} {s s' : Tr} (h : TS w w' t s s') (hb : Below w'.heap.size w' w2) : TS w w2 t s s' := ⟨h.is.below hb, h.only.trans (Only.of hb), h.v⟩
theorem TS.trans {w w1 w2 : World} {t : Nat} {s s1 s2 : Tr} (h : TS w w1 t s s1) (k : TS w1 w2 t s1 s2) : TS w w2 t s s2 := by
  refine ⟨k.is, ⟨k.only.os.trans h.only.os, k.only.tape.trans h.only.tape, k.only.output.trans h.only.output, Nat.le_trans h.only.size k.only.size, fun q hq hs => ?_⟩, ?_⟩
  · refine (k.only.block q (Nat.lt_of_lt_of_le hq h.only.size) (fun e => e.elim (fun e => hs (.inl e)) (fun e => ?_))).trans (h.only.block q hq hs)
    rcases h.v with e' | e'
    · exact hs (.inr (e' ▸ e))
    · have := e' q e; omega
  · rcases k.v with e | e
    · rw [e]; exact h.v
    · exact .inr fun q hq => Nat.le_trans h.only.size (e q hq)

set_option maxHeartbeats 2000000 in
theorem gone_any (t : Nat) (s : Tr) (d : Int) (nm : ByteArray) (w : World) (h : IsT w t s) :
    Calls Try.prog 81 #[.pointer (some ⟨t, 0, none⟩), .agg #[.int .i64 d, .string nm]] w fun e w' => e = .returned (.tuple #[]) ∧ ∃ v', TS w w' t s { s with v := v', es := goneL s.es d nm } := by
  obtain ⟨i1, hi1, hw0, hw1, hw2⟩ := info_parts Try.infoE
  obtain ⟨c0, _, _, _⟩ := h.cells
  obtain ⟨a, cap, e⟩ := owns_len h.row
  rw [e] at c0
  obtain ⟨n, hn⟩ : ∃ n, s.es.length = n := ⟨_, rfl⟩
  rw [hn] at c0 e
  have hlim := h.lim
  rw [hn] at hlim
  have hlt := h.tt.lt
  have H : Hid (IsT w t s ∧ s.v = .slice a n cap ∧ s.es.length = n) := ⟨h, e, hn⟩
  clear h e hn
  go_enter Try.func81, Try.ntmps81
  go_wp2
  have hbx : Below w.heap.size w (w.alloc (.cells #[.int .i64 d, .string nm] 52)) := below_alloc _ _
  have m0 : (w.alloc (.cells #[.int .i64 d, .string nm] 52)).heap[w.heap.size]? = some (.cells #[.int .i64 d, .string nm] 52 (0, 0)) := heap_new _ _
  obtain ⟨W, hW⟩ : ∃ W, w.alloc (.cells #[.int .i64 d, .string nm] 52) = W := ⟨_, rfl⟩
  rw [hW] at hbx m0 ⊢
  have hlk : w.heap.size < W.heap.size := (Array.getElem?_eq_some_iff.1 m0).1
  have k0 := cell_of m0 0
  have k1 := cell_of m0 1
  simp at k0 k1
  have d0 := (hbx.cell (p := ⟨t, 0, none⟩) hlt).trans c0
  have htW : t < W.heap.size := by omega
  clear hW m0
  go_loopw [4, 5] (fun u i wr => ∃ k : Nat, k ≤ n ∧ i = .int .i64 k ∧ wr.ownsRow W.heap.size 56 7 u (goneL (s.es.take k) d nm).length (ec (goneL (s.es.take k) d nm)) ∧ Below W.heap.size W wr) (fun _ i _ => n - (intOf i).toNat)
  case atStart => exact ⟨0, Nat.zero_le _, rfl, World.ownsRow_nil _ _ _ _, Below.refl _ _⟩
  case round =>
    obtain ⟨k, hk, rfl, hown, hb⟩ := hrel
    have f0 := (hb.cell (p := ⟨t, 0, none⟩) htW).trans d0
    have g0 := (hb.cell (p := ⟨w.heap.size, 0, none⟩) hlk).trans k0
    have g1 := (hb.cell (p := ⟨w.heap.size, 1, none⟩) hlk).trans k1
    by_cases hkn : k < n
    · obtain ⟨e, he⟩ : ∃ e, s.es[k]? = some e := ⟨_, List.getElem?_eq_getElem (by rw [H.out.2.2]; exact hkn)⟩
      have hrow := ((H.out.1.below hbx).below hb).row
      rw [H.out.2.1] at hrow
      obtain ⟨g, rfl, -, -, hg, hc, -⟩ := owns_entry hrow he
      have x0 := hc.c0
      have x1 := hc.c1
      have hki : (k : Int) < (n : Int) := by omega
      have HT := goneL_take s.es d nm k e he
      have hgl := goneL_le (s.es.take k) d nm
      rw [List.length_take] at hgl
      obtain ⟨G, hG⟩ : ∃ G, goneL (s.es.take k) d nm = G := ⟨_, rfl⟩
      rw [hG] at hown HT hgl
      by_cases hq : e.d = d ∧ e.nm = nm
      · rw [if_pos hq, List.append_nil] at HT
        have HE : Hid (goneL (s.es.take (k + 1)) d nm = G) := HT
        have HO : Hid (wr.ownsRow W.heap.size 56 7 u4 G.length (ec G)) := hown
        obtain ⟨hq1, hq2⟩ := hq
        clear hrow hc he HT hG hown
        go_upto_region 5 with fail
        go_quiet (fail)
        go_wp2
        exact ⟨⟨k + 1, by omega, by simp, by rw [HE.out]; exact owns_below HO.out (below_drewN (Below.refl _ _) _), below_drewN hb _⟩, by simp [intOf]; omega⟩
      · rw [if_neg hq] at HT
        have HE : Hid (goneL (s.es.take (k + 1)) d nm = G ++ [e]) := HT
        have hq' : decide (e.d = d ∧ e.nm = nm) = false := decide_eq_false hq
        have hGl : G.length ≤ 47 := by omega
        have HC : Hid (Cells7 wr g (k * 7) e) := hc
        clear hrow hc he HT hG hq hgl
        go_upto_region 5 with fail
        go_quiet (fail)
        have hb2 : Below W.heap.size W (wr.drewN nq) := below_drewN hb _
        have ho2 : (wr.drewN nq).ownsRow W.heap.size 56 7 u4 G.length (ec G) := owns_below hown (below_drewN (Below.refl _ _) _)
        have hc2 : Cells7 (wr.drewN nq) g (k * 7) e := HC.out.below (below_drewN (Below.refl _ _) _)
        have f2 : (wr.drewN nq).cell? ⟨t, 0, none⟩ = some (.slice (some ⟨g, 0, none⟩) n cap) := (hb2.cell (p := ⟨t, 0, none⟩) htW).trans d0
        obtain ⟨w2, hw2'⟩ : ∃ w2, wr.drewN nq = w2 := ⟨_, rfl⟩
        rw [hw2'] at hb2 ho2 hc2 f2 ⊢
        have y0 := hc2.c0
        have y1 := hc2.c1
        have y2 := hc2.c2
        have y3 := hc2.c3
        have y4 := hc2.c4
        have y5 := hc2.c5
        have y6 := hc2.c6
        clear hw2' hc2 hown f0 g0 g1 x0 x1 HC
        go_wp2_with (at_builtin; refine wpList_append_own_at _ rfl (.tmp 25) (.tmp 33) 22 rfl W.heap.size 56 i1 _ 7 72 Try.underlying22 hi1 hw0 hw1 hw2 rfl (by decide) _ G.length (ec G) rfl (World.ownsRow.alloc ho2 _) ⟨w2.heap.size, 0, none⟩ 1 1 e.vals rfl rfl (vals_at _ e _) (vals_one e) (by unfold maxLen; omega) (by omega) (by have := hb2.size; simp; omega) ?_; intro v5 w5 hown5 hgrow5 _ _; have H5 : Hid (w5.ownsRow W.heap.size 56 7 v5 (G.length + 1) (ec G ++ e.vals) ∧ Below W.heap.size W w5) := ⟨hown5, Below.grown (hb2.alloc hb2.size _) hgrow5 (by have := hb2.size; simp; omega) (fun q hq => (World.ownsRow.lt ho2 q hq).1)⟩; clear hown5 hgrow5)
        refine ⟨⟨k + 1, by omega, by simp, ?_, H5.out.2⟩, by simp [intOf]; omega⟩
        rw [HE.out, List.length_append, ec_app]
        have : ec [e] = e.vals := by unfold ec; simp
        rw [this]; exact H5.out.1
    · have hkn' : ¬ (k : Int) < (n : Int) := by omega
      have hke : s.es.take k = s.es := List.take_of_length_le (by rw [H.out.2.2]; omega)
      rw [hke] at hown
      have h2 := (H.out.1.below hbx).below hb
      obtain ⟨_, _, _, cf⟩ := h2.cells
      have cf0 := cf 0
      have HO : Hid (wr.ownsRow W.heap.size 56 7 u4 (goneL s.es d nm).length (ec (goneL s.es d nm)) ∧ IsT wr t s ∧ Below w.heap.size w wr) := ⟨hown, h2, chainB hbx hb⟩
      obtain ⟨av, cv, rfl⟩ := owns_len hown
      clear hown h2 cf hke
      go_wp2
      go_end0
      refine ⟨rfl, _, ⟨?_, HO.out.1 |> fun ho => owns_moved (owns_le ho (Nat.zero_le _)) fun q hq => heap_set_ne ((Tag.own ho hq).ne HO.out.2.1.tt (by decide)), ?_⟩, ?_, .inr fun q hq => ?_⟩
      · exact (heap_set HO.out.2.1.head 0 _).trans rfl
      · exact Nat.le_trans (goneL_le _ _ _) H.out.1.lim
      · exact (Only.of HO.out.2.2).trans ((only1 wr t 0 _).mono fun _ e => .inl e)
      · have := (World.ownsRow.lt HO.out.1 q hq).1; omega
open Go.RowKit
attribute [local go_sem high] eqK neqK eqE neqE eqN neqN guardK guardE guardN

/-- what a call on the tree leaves: nothing turned, or the entries that are told -/
def Left (w w' : World) (t : Nat) (s : Tr) (E : Int) (es' : List En) (next' : Int) : Prop :=
  (E ≠ 0 → Below w.heap.size w w') ∧ (E = 0 → ∃ v', TS w w' t s { s with v := v', es := es', next := next' })
theorem Left.no {w w' : World} {t : Nat} {s : Tr} {E : Int} {es' : List En} {next' : Int} (hE : E ≠ 0) (hb : Below w.heap.size w w') : Left w w' t s E es' next' := ⟨fun _ => hb, fun h => absurd h hE⟩
theorem Left.yes {w w' : World} {t : Nat} {s : Tr} {E : Int} {es' : List En} {next' : Int} (hE : E = 0) (h : ∃ v', TS w w' t s { s with v := v', es := es', next := next' }) : Left w w' t s E es' next' := ⟨fun k => absurd hE k, fun _ => h⟩

theorem atN (t : Nat) (s : Tr) (d : Int) (nm : ByteArray) (h : atI s.es d nm = none) : ∀ w, IsT w t s → Calls Try.prog 63 #[.pointer (some ⟨t, 0, none⟩), .agg #[.int .i64 d, .string nm]] w fun e w' => e = .returned (.int .i64 (-1)) ∧ Below w.heap.size w w' := fun w hw => by
  have := at_any t s d nm w hw
  unfold atV at this
  rw [h] at this
  exact this
theorem atS (t : Nat) (s : Tr) (d : Int) (nm : ByteArray) (i : Nat) (h : atI s.es d nm = some i) : ∀ w, IsT w t s → Calls Try.prog 63 #[.pointer (some ⟨t, 0, none⟩), .agg #[.int .i64 d, .string nm]] w fun e w' => e = .returned (.int .i64 (i : Int)) ∧ Below w.heap.size w w' := fun w hw => by
  have := at_any t s d nm w hw
  unfold atV at this
  rw [h] at this
  exact this

set_option maxRecDepth 20000 in
set_option maxHeartbeats 4000000 in
theorem removed_any (t : Nat) (s : Tr) (d : Int) (nm : ByteArray) (dir : Bool) (w : World) (h : IsT w t s) :
    Calls Try.prog 61 #[.pointer (some ⟨t, 0, none⟩), .agg #[.int .i64 d, .string nm], .bool dir] w fun e w' => e = .returned (.int .i64 (removedE s.es d nm dir)) ∧ Left w w' t s (removedE s.es d nm dir) (goneL s.es d nm) s.next := by
  have H : Hid (IsT w t s) := h
  have hlt := h.tt.lt
  cases hq : atI s.es d nm with
  | none =>
    have HA : Hid _ := atN t s d nm hq
    have HE : Hid (removedE s.es d nm dir = 40) := by show _ = _; unfold removedE; rw [atE_none hq]
    rw [HE.out]
    clear hq h HE
    go_enter Try.func61, Try.ntmps61
    go_wp2_with (go_at_call 63; refine (HA.out _ (H.out.below (below_alloc _ _))).mono ?_; rintro e w1 ⟨rfl, hb1⟩)
    go_ret
    exact ⟨rfl, Left.no (by decide) (chainB (below_alloc _ _) hb1)⟩
  | some i =>
    have HA : Hid _ := atS t s d nm i hq
    obtain ⟨e, he, -, -⟩ := atI_lt hq
    have hE : removedE s.es d nm dir = if e.kind = 1 ∧ dir = false then 43 else if ¬ e.kind = 1 ∧ dir = true then 42 else if dir = true ∧ 0 < namesN s.es e.id then 44 else 0 := by
      unfold removedE; rw [atE_some hq he]
    rw [hE]
    obtain ⟨g, n, cap, _, -, hin, hn47, hg, ct, hc, -⟩ := h.entry he
    have HC : Hid (Cells7 w g (i * 7) e) := hc
    have hii : (i : Int) < (n : Int) := by omega
    have HAt : Hid (∀ w1, Below w.heap.size w w1 → w1.cell? ⟨t, 0, none⟩ = some (.slice (some ⟨g, 0, none⟩) n cap) ∧ w1.cell? ⟨g, i * 7 + 4, none⟩ = some (.int .i64 e.kind) ∧ w1.cell? ⟨g, i * 7 + 3, none⟩ = some (.int .i64 e.id)) := fun w1 hb => ⟨(hb.cell (p := ⟨t, 0, none⟩) hlt).trans ct, (HC.out.below hb).c4, (HC.out.below hb).c3⟩
    clear hq he hE hc h ct
    by_cases hk : e.kind = 1
    · have hkb : (e.kind == 1) = true := by simpa using hk
      cases dir with
      | false =>
        simp only [hk, true_and, if_true]
        go_enter Try.func61, Try.ntmps61
        go_wp2_with (go_at_call 63; refine (HA.out _ (H.out.below (below_alloc _ _))).mono ?_; rintro x w1 ⟨rfl, hb1⟩; have hw := chainB (below_alloc _ _) hb1; obtain ⟨f0, f1, f2⟩ := HAt.out w1 hw)
        go_ret
        exact ⟨rfl, Left.no (by decide) hw⟩
      | true =>
        obtain ⟨nn, hnn⟩ : ∃ x, namesN s.es e.id = x := ⟨_, rfl⟩
        have HNn : Hid (∀ w, IsT w t s → Calls Try.prog 80 #[.pointer (some ⟨t, 0, none⟩), .int .i64 e.id] w fun e w' => e = .returned (.int .i64 (nn : Int)) ∧ w' = w) := by
          intro w hw; rw [← hnn]; exact names_any t s e.id w hw
        rw [hnn]
        clear hnn
        by_cases hz : 0 < nn
        · simp only [hk, hz, Bool.true_eq_false, and_false, if_false, not_true, false_and, and_self, if_true]
          have hzi : (0 : Int) < (nn : Int) := by omega
          go_enter Try.func61, Try.ntmps61
          go_wp2_with (first
            | (go_at_call 63; refine (HA.out _ (H.out.below (below_alloc _ _))).mono ?_; rintro x w1 ⟨rfl, hb1⟩; have hw := chainB (below_alloc _ _) hb1; obtain ⟨f0, f1, f2⟩ := HAt.out w1 hw)
            | (go_at_call 80; refine (HNn.out _ (H.out.below hw)).mono ?_; rintro x w2 ⟨rfl, rfl⟩))
          go_ret
          exact ⟨rfl, Left.no (by decide) hw⟩
        · simp only [hk, hz, Bool.true_eq_false, and_false, if_false, not_true, false_and]
          have hzi : ¬ (0 : Int) < (nn : Int) := by omega
          go_enter Try.func61, Try.ntmps61
          go_wp2_with (first
            | (go_at_call 63; refine (HA.out _ (H.out.below (below_alloc _ _))).mono ?_; rintro x w1 ⟨rfl, hb1⟩; have hw := chainB (below_alloc _ _) hb1; obtain ⟨f0, f1, f2⟩ := HAt.out w1 hw; have hk1 := (hb1.cell (p := ⟨w.heap.size, 0, none⟩) (by simp)).trans (by rw [cell_of (heap_new _ _)]; rfl : _ = some (.int .i64 d)); have hk2 := (hb1.cell (p := ⟨w.heap.size, 1, none⟩) (by simp)).trans (by rw [cell_of (heap_new _ _)]; rfl : _ = some (.string nm)))
            | (go_at_call 80; refine (HNn.out _ (H.out.below hw)).mono ?_; rintro x w2 ⟨rfl, rfl⟩)
            | (go_at_call 81; refine (gone_any t s d nm _ (H.out.below hw)).mono ?_; rintro x w3 ⟨rfl, v3, hS3⟩))
          go_ret
          exact ⟨rfl, Left.yes rfl ⟨v3, hS3.le hw⟩⟩
    · have hkb : (e.kind == 1) = false := by simpa using hk
      cases dir with
      | true =>
        simp only [hk, false_and, if_false, not_false_eq_true, and_self, if_true]
        go_enter Try.func61, Try.ntmps61
        go_wp2_with (go_at_call 63; refine (HA.out _ (H.out.below (below_alloc _ _))).mono ?_; rintro x w1 ⟨rfl, hb1⟩; have hw := chainB (below_alloc _ _) hb1; obtain ⟨f0, f1, f2⟩ := HAt.out w1 hw)
        go_ret
        exact ⟨rfl, Left.no (by decide) hw⟩
      | false =>
        simp only [hk, false_and, if_false, Bool.false_eq_true, and_false]
        go_enter Try.func61, Try.ntmps61
        go_wp2_with (first
          | (go_at_call 63; refine (HA.out _ (H.out.below (below_alloc _ _))).mono ?_; rintro x w1 ⟨rfl, hb1⟩; have hw := chainB (below_alloc _ _) hb1; obtain ⟨f0, f1, f2⟩ := HAt.out w1 hw; have hk1 := (hb1.cell (p := ⟨w.heap.size, 0, none⟩) (by simp)).trans (by rw [cell_of (heap_new _ _)]; rfl : _ = some (.int .i64 d)); have hk2 := (hb1.cell (p := ⟨w.heap.size, 1, none⟩) (by simp)).trans (by rw [cell_of (heap_new _ _)]; rfl : _ = some (.string nm)))
          | (go_at_call 81; refine (gone_any t s d nm _ (H.out.below hw)).mono ?_; rintro x w3 ⟨rfl, v3, hS3⟩))
        go_ret
        exact ⟨rfl, Left.yes rfl ⟨v3, hS3.le hw⟩⟩
end Go.Proofs.Ytjelggpkeogebaa
