/- The program's tree in memory; New, Version, Count, Next, Find, directory. -/
import Derived.Test.YtppbbddlbfgpfaaJWUps02
import Derived.Test.YtppbbddlbfgpfaaJWUps09
namespace Go.Proofs.Ytppbbddlbfgpfaa
section
open Go.RowKit
attribute [local go_sem high] eqE neqE eqN neqN guardK guardE guardN

/-- are two keys the same (shut, so that the walk leaves it standing) -/
def eqKy (a : Int) (x : ByteArray) (b : Int) (y : ByteArray) : Bool := decide (a = b ∧ x = y)
theorem eqK' (w : World) (a b : Int) (x y : ByteArray) : (binOp .eql 28 (.agg #[.int .i64 a, .string x]) (.agg #[.int .i64 b, .string y])).run Try.prog w = .ok (.bool (eqKy a x b y)) w := eqK w a b x y
theorem neqK' (w : World) (a b : Int) (x y : ByteArray) : (binOp .neq 28 (.agg #[.int .i64 a, .string x]) (.agg #[.int .i64 b, .string y])).run Try.prog w = .ok (.bool (!eqKy a x b y)) w := neqK w a b x y
/-- the program's tree, in memory -/
structure IsP (w : World) (t : Nat) (s : Tr) : Prop where
  head : w.heap[t]? = some (.cells #[s.v, .int .i64 s.vers, .int .i64 s.next] 92 (0, 0))
  row : w.ownsRow 0 42 7 s.v s.es.length (ec s.es)
  lim : s.es.length ≤ 100
theorem IsP.tt {w : World} {t : Nat} {s : Tr} (h : IsP w t s) : Tag w t 92 := ⟨_, _, h.head⟩
theorem IsP.tv {w : World} {t : Nat} {s : Tr} (h : IsP w t s) {k : Nat} (hk : s.v.ownBlock = some k) : Tag w k 42 := Tag.own h.row hk
theorem IsP.moved {w w' : World} {t : Nat} {s : Tr} (h : IsP w t s) (ht : w'.heap[t]? = w.heap[t]?) (hv : ∀ k, s.v.ownBlock = some k → w'.heap[k]? = w.heap[k]?) : IsP w' t s := ⟨ht.trans h.head, owns_moved h.row hv, h.lim⟩
theorem IsP.below {w w' : World} {t : Nat} {s : Tr} (h : IsP w t s) (hb : Below w.heap.size w w') : IsP w' t s := h.moved (hb.block _ h.tt.lt) (fun _ hk => hb.block _ (h.tv hk).lt)
theorem IsP.cells {w : World} {t : Nat} {s : Tr} (h : IsP w t s) : w.cell? ⟨t, 0, none⟩ = some s.v ∧ w.cell? ⟨t, 1, none⟩ = some (.int .i64 s.vers) ∧ w.cell? ⟨t, 2, none⟩ = some (.int .i64 s.next) ∧ ∀ i, w.frozen? ⟨t, i, none⟩ = false :=
  ⟨by rw [cell_of h.head]; rfl, by rw [cell_of h.head]; rfl, by rw [cell_of h.head]; rfl, free_of h.head⟩
theorem IsP.entry {w : World} {t i : Nat} {s : Tr} {e : En} (h : IsP w t s) (hi : s.es[i]? = some e) : ∃ g n cap, s.v = .slice (some ⟨g, 0, none⟩) n cap ∧ n = s.es.length ∧ i < n ∧ n ≤ 100 ∧ g < w.heap.size ∧ w.cell? ⟨t, 0, none⟩ = some (.slice (some ⟨g, 0, none⟩) n cap) ∧ Cells7 w g (i * 7) e ∧ (∀ j, w.frozen? ⟨g, j, none⟩ = false) := by
  obtain ⟨c0, _⟩ := h.cells
  obtain ⟨a, cap, e'⟩ := owns_len h.row
  have hrow := h.row
  rw [e'] at c0 hrow
  obtain ⟨g, rfl, _, _, hg, hc, hf⟩ := owns_entry hrow hi
  have := (List.getElem?_eq_some_iff.1 hi).1
  exact ⟨g, s.es.length, cap, e', rfl, this, h.lim, hg, c0, hc, hf⟩

theorem new_p (w : World) : Calls Try.prog 22 #[] w fun e w' => e = .returned (.pointer (some ⟨w.heap.size, 0, none⟩)) ∧ IsP w' w.heap.size ⟨.slice none 0 0, [], 0, 2⟩ ∧ Below w.heap.size w w' := by
  go_enter Try.func22, Try.ntmps22
  go_wp2
  go_ret
  exact ⟨rfl, ⟨heap_new _ _, World.ownsRow_nil _ _ _ _, Nat.zero_le _⟩, below_alloc _ _⟩
theorem count_p (t : Nat) (s : Tr) (w : World) (h : IsP w t s) : Calls Try.prog 92 #[.pointer (some ⟨t, 0, none⟩)] w fun e w' => e = .returned (.int .i64 ((s.es.length : Int) + 1)) ∧ w' = w := by
  obtain ⟨c0, c1, c2, _⟩ := h.cells
  obtain ⟨a, cap, e⟩ := owns_len h.row
  have hl := h.lim
  rw [e] at c0
  clear h e
  obtain ⟨n, hn⟩ : ∃ n, s.es.length = n := ⟨_, rfl⟩
  rw [hn] at c0 hl ⊢
  go_enter Try.func92, Try.ntmps92
  go_wp2
  go_ret
  refine ⟨?_, rfl⟩
  simp

/-- a result's seven cells, behind whatever was made since -/
theorem res_put {w W wr : World} (m0 : W.heap[w.heap.size]? = some (.cells zeroEn.vals.toArray 42 (0, 0))) (hbx : Below w.heap.size w W) (hb : Below W.heap.size W wr) (e : En) : (put7 wr w.heap.size e).heap[w.heap.size]? = some (.cells e.vals.toArray 42 (0, 0)) ∧ Below w.heap.size w (put7 wr w.heap.size e) :=
  ⟨put7_heap e (hkeep m0 hb), (put7_only _ _ _).below (chainB hbx hb) (chainB hbx hb).size (fun k hk => by omega)⟩
theorem res_on {w W : World} {e : En} (h : W.heap[w.heap.size]? = some (.cells e.vals.toArray 42 (0, 0)) ∧ Below w.heap.size w W) (o : Obj) : (W.alloc o).heap[w.heap.size]? = some (.cells e.vals.toArray 42 (0, 0)) ∧ Below w.heap.size w (W.alloc o) :=
  ⟨hkeep h.1 (below_alloc _ _), chainB h.2 (below_alloc _ _)⟩

set_option maxHeartbeats 2000000 in
theorem find_p (t : Nat) (s : Tr) (id : Int) (w : World) (h : IsP w t s) :
    Calls Try.prog 56 #[.pointer (some ⟨t, 0, none⟩), .int .i64 id] w fun e w' => e = .returned (findV s.es id) ∧ Below w.heap.size w w' := by
  by_cases h1 : id = 1
  · subst h1
    have e1 : findV s.es 1 = .tuple #[zeroEn.agg, .int .i64 1] := rfl
    rw [e1]
    clear h e1
    go_enter Try.func56, Try.ntmps56
    go_wp2
    refine bodyPost_ret (ret_entry2 (e := zeroEn) rfl _ _ _ rfl (heap_new _ _)) rfl ?_
    exact ⟨rfl, below_alloc _ _⟩
  · obtain ⟨c0, _, _, _⟩ := h.cells
    obtain ⟨a, cap, e⟩ := owns_len h.row
    rw [e] at c0
    obtain ⟨n, hn⟩ : ∃ n, s.es.length = n := ⟨_, rfl⟩
    rw [hn] at c0 e
    have hlim := h.lim
    rw [hn] at hlim
    have hlt := h.tt.lt
    have H : Hid (IsP w t s ∧ s.v = .slice a n cap ∧ s.es.length = n) := ⟨h, e, hn⟩
    have h1b : (id == 1) = false := by simpa using h1
    have hF : findV s.es id = match nodeE s.es id with | none => .tuple #[zeroEn.agg, .int .i64 46] | some e => .tuple #[e.agg, .int .i64 0] := by unfold findV; rw [if_neg h1]; rfl
    obtain ⟨R, hR⟩ : ∃ R, findV s.es id = R := ⟨_, rfl⟩
    rw [hR] at hF ⊢
    have HF : Hid (R = match nodeE s.es id with | none => .tuple #[zeroEn.agg, .int .i64 46] | some e => .tuple #[e.agg, .int .i64 0]) := hF
    clear h e hn hF hR
    go_enter Try.func56, Try.ntmps56
    go_upto_region 3 with fail
    obtain ⟨W, hW⟩ : ∃ W, w.alloc (.cells #[.int .i64 0, .string ⟨#[]⟩, .bool false, .int .i64 0, .int .i64 0, .int .i64 0, .string ⟨#[]⟩] 42) = W := ⟨_, rfl⟩
    have hbx : Below w.heap.size w W := by rw [← hW]; exact below_alloc _ _
    have m0 : W.heap[w.heap.size]? = some (.cells zeroEn.vals.toArray 42 (0, 0)) := by rw [← hW]; exact heap_new _ _
    rw [hW]
    have hlk : w.heap.size < W.heap.size := (Array.getElem?_eq_some_iff.1 m0).1
    have d0 := (hbx.cell (p := ⟨t, 0, none⟩) hlt).trans c0
    have HM : Hid (W.heap[w.heap.size]? = some (.cells zeroEn.vals.toArray 42 (0, 0)) ∧ Below w.heap.size w W) := ⟨m0, hbx⟩
    clear hW m0
    go_wp2
    go_loopw [16] (fun i wr => ∃ k : Nat, k ≤ n ∧ i = .int .i64 k ∧ (∀ (j : Nat) (e : En), j < k → s.es[j]? = some e → ¬ e.id = id) ∧ Below W.heap.size W wr) (fun i _ => n - (intOf i).toNat)
    case atStart => exact ⟨0, Nat.zero_le _, rfl, fun j e hj => (by omega), Below.refl _ _⟩
    case round =>
      obtain ⟨k, hk, rfl, hno, hb⟩ := hrel
      have hm := hkeep HM.out.1 hb
      have hz := cells7_of hm
      have zf := free_of hm
      have z0 := hz.c0
      have z1 := hz.c1
      have z2 := hz.c2
      have z3 := hz.c3
      have z4 := hz.c4
      have z5 := hz.c5
      have z6 := hz.c6
      have hlw : w.heap.size < wr.heap.size := Nat.lt_of_lt_of_le hlk hb.size
      clear hm hz
      simp only [Nat.zero_add] at z1 z2 z3 z4 z5 z6
      by_cases hkn : k < n
      · obtain ⟨e, he⟩ : ∃ e, s.es[k]? = some e := ⟨_, List.getElem?_eq_getElem (by rw [H.out.2.2]; exact hkn)⟩
        have hrow := ((H.out.1.below hbx).below hb).row
        rw [H.out.2.1] at hrow
        obtain ⟨g, rfl, -, -, hgl, hc, -⟩ := owns_entry hrow he
        have x0 := hc.c0
        have x1 := hc.c1
        have x2 := hc.c2
        have x3 := hc.c3
        have x4 := hc.c4
        have x5 := hc.c5
        have x6 := hc.c6
        have hki : (k : Int) < (n : Int) := by omega
        by_cases hq : e.id = id
        · have HA : Hid (nodeE s.es id = some e) := nodeE_hit s.es id k e h1 he hq hno
          have hqb : (e.id == id) = true := by simpa using hq
          have HP := res_put HM.out.1 HM.out.2 hb e
          have HP' : Hid ((put7 wr w.heap.size e).heap[w.heap.size]? = some (.cells e.vals.toArray 42 (0, 0)) ∧ Below w.heap.size w (put7 wr w.heap.size e)) := HP
          clear hrow hc he hno hq HP
          go_wp2
          refine bodyPost_ret (ret_entry2 (e := e) rfl _ _ _ rfl (res_on HP'.out _).1) rfl ?_
          exact ⟨by rw [HF.out, HA.out]; rfl, (res_on HP'.out _).2⟩
        · have HE : Hid (s.es[k]? = some e ∧ (∀ (j : Nat) (e : En), j < k → s.es[j]? = some e → ¬ e.id = id) ∧ ¬ e.id = id) := ⟨he, hno, hq⟩
          have hqb : (e.id == id) = false := by simpa using hq
          clear hrow hc he hno hq
          go_wp2
          refine ⟨⟨k + 1, by omega, by simp, fun j e' hj he' => ?_, chainB hb (below_alloc _ _)⟩, by simp [intOf]; omega⟩
          by_cases hjk : j < k
          · exact HE.out.2.1 j e' hjk he'
          · obtain rfl : j = k := by omega
            rw [HE.out.1] at he'
            cases he'
            exact HE.out.2.2
      · have HA : Hid (nodeE s.es id = none) := nodeE_miss s.es id h1 (fun j e he => hno j e (by have := (List.getElem?_eq_some_iff.1 he).1; have := H.out.2.2; omega) he)
        have hkn' : ¬ (k : Int) < (n : Int) := by omega
        have HP := res_put HM.out.1 HM.out.2 hb zeroEn
        have HP' : Hid ((put7 wr w.heap.size zeroEn).heap[w.heap.size]? = some (.cells zeroEn.vals.toArray 42 (0, 0)) ∧ Below w.heap.size w (put7 wr w.heap.size zeroEn)) := HP
        clear hno HP
        go_wp2
        refine bodyPost_ret (ret_entry2 (e := zeroEn) rfl _ _ _ rfl HP'.out.1) rfl ?_
        exact ⟨by rw [HF.out, HA.out]; rfl, HP'.out.2⟩

theorem directory_p (t : Nat) (s : Tr) (id : Int) (w : World) (h : IsP w t s) :
    Calls Try.prog 35 #[.pointer (some ⟨t, 0, none⟩), .int .i64 id] w fun e w' => e = .returned (.int .i64 (dirE s.es id)) ∧ Below w.heap.size w w' := by
  have hN := fun w (h : IsP w t s) => find_p t s id w h
  have H : Hid (IsP w t s) := h
  by_cases h1 : id = 1
  · subst h1
    clear hN h
    go_enter Try.func35, Try.ntmps35
    go_wp2
    go_ret
    exact ⟨rfl, Below.refl _ _⟩
  · have h1b : (id == 1) = false := by simpa using h1
    unfold findV at hN
    simp only [if_neg h1] at hN
    unfold dirE
    cases hq : nodeE s.es id with
    | none =>
      rw [hq] at hN
      have HN : Hid (∀ w, IsP w t s → Calls Try.prog 56 #[.pointer (some ⟨t, 0, none⟩), .int .i64 id] w fun e w' => e = .returned (.tuple #[zeroEn.agg, .int .i64 46]) ∧ Below w.heap.size w w') := hN
      unfold En.agg at HN
      clear hN hq h
      go_enter Try.func35, Try.ntmps35
      go_wp2_with (go_at_call 56; refine (HN.out _ H.out).mono ?_; rintro e w1 ⟨rfl, hb1⟩)
      go_ret
      exact ⟨rfl, chainB hb1 (below_alloc _ _)⟩
    | some e =>
      rw [hq] at hN
      have HN : Hid (∀ w, IsP w t s → Calls Try.prog 56 #[.pointer (some ⟨t, 0, none⟩), .int .i64 id] w fun x w' => x = .returned (.tuple #[e.agg, .int .i64 0]) ∧ Below w.heap.size w w') := hN
      unfold En.agg at HN
      clear hN hq h
      by_cases hk : e.kind = 1
      · have hkb : (e.kind != 1) = false := by simpa using hk
        simp only [hk, if_true]
        go_enter Try.func35, Try.ntmps35
        go_wp2_with (go_at_call 56; refine (HN.out _ H.out).mono ?_; rintro x w1 ⟨rfl, hb1⟩)
        go_ret
        exact ⟨rfl, chainB hb1 (below_alloc _ _)⟩
      · have hkb : (e.kind != 1) = true := by simpa using hk
        simp only [hk, if_false]
        go_enter Try.func35, Try.ntmps35
        go_wp2_with (go_at_call 56; refine (HN.out _ H.out).mono ?_; rintro x w1 ⟨rfl, hb1⟩)
        go_ret
        exact ⟨rfl, chainB hb1 (below_alloc _ _)⟩
end
end Go.Proofs.Ytppbbddlbfgpfaa
