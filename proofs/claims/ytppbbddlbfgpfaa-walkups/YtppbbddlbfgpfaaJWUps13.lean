/- slices.DeleteFunc over a list of entries, by a key: the program's own walk. -/
import Derived.Test.YtppbbddlbfgpfaaJWUps11
import Derived.Test.YtppbbddlbfgpfaaJWUps12
namespace Go.Proofs.Ytppbbddlbfgpfaa
section
open Go.RowKit
attribute [local go_sem high] eqK' neqK' eqE neqE eqN neqN guardK guardE guardN

/-- what put hands to DeleteFunc: is this entry's key the one in the box? -/
theorem pred_p (B : Nat) (d : Int) (nm : ByteArray) (x : En) (w : World) (hB : B < w.heap.size) (h0 : w.cell? ⟨B, 0, none⟩ = some (.int .i64 d)) (h1 : w.cell? ⟨B, 1, none⟩ = some (.string nm)) :
    Calls Try.prog 65 #[x.agg, .pointer (some ⟨B, 0, none⟩)] w fun e w' => e = .returned (.bool (eqKy x.d x.nm d nm)) ∧ Below w.heap.size w w' := by
  obtain ⟨R, hR⟩ : ∃ R, eqKy x.d x.nm d nm = R := ⟨_, rfl⟩
  rw [hR]
  unfold En.agg
  go_enter Try.func65, Try.ntmps65
  go_wp2
  go_ret
  exact ⟨by simp, below_alloc _ _⟩

theorem eqKy_iff (x : En) (d : Int) (nm : ByteArray) : eqKy x.d x.nm d nm = true ↔ x.d = d ∧ x.nm = nm := by unfold eqKy; rw [decide_eq_true_iff]
theorem eqKy_no {x : En} {d : Int} {nm : ByteArray} (h : eqKy x.d x.nm d nm = false) : ¬ (x.d = d ∧ x.nm = nm) := fun k => by rw [(eqKy_iff x d nm).2 k] at h; cases h

set_option maxHeartbeats 2000000 in
theorem index_p (v : Value) (es : List En) (base B : Nat) (d : Int) (nm : ByteArray) (w : World) (h : w.ownsRow base 42 7 v es.length (ec es)) (hl : es.length ≤ 1000000)
    (hB : B < w.heap.size) (h0 : w.cell? ⟨B, 0, none⟩ = some (.int .i64 d)) (h1 : w.cell? ⟨B, 1, none⟩ = some (.string nm)) :
    Calls Try.prog 83 #[v, .func (.func 65) #[] #[.pointer (some ⟨B, 0, none⟩)]] w fun e w' => e = .returned (.int .i64 (atV es d nm)) ∧ Below w.heap.size w w' := by
  have eg : ∀ args w, (callFunc 65 args).run Try.prog w = .ok (.enter 65 args) w := enters_of Try.func65 (by kernel_rfl) rfl
  obtain ⟨a, cap, rfl⟩ := owns_len h
  obtain ⟨n, hn⟩ : ∃ n, es.length = n := ⟨_, rfl⟩
  rw [hn] at h hl
  have H : Hid (w.ownsRow base 42 7 (.slice a n cap) n (ec es) ∧ es.length = n) := ⟨h, hn⟩
  have HB : Hid (w.cell? ⟨B, 0, none⟩ = some (.int .i64 d) ∧ w.cell? ⟨B, 1, none⟩ = some (.string nm)) := ⟨h0, h1⟩
  rw [hn]
  clear h hn h0 h1
  go_enter Try.func83, Try.ntmps83
  go_wp2
  go_loopw [8] (fun i wr => ∃ k : Nat, k ≤ n ∧ i = .int .i64 k ∧ (∀ (j : Nat) (e : En), j < k → es[j]? = some e → ¬ (e.d = d ∧ e.nm = nm)) ∧ Below w.heap.size w wr) (fun i _ => n - (intOf i).toNat)
  case atStart => exact ⟨0, Nat.zero_le _, rfl, fun j e hj => (by omega), Below.refl _ _⟩
  case round =>
    obtain ⟨k, hk, rfl, hno, hb⟩ := hrel
    by_cases hkn : k < n
    · obtain ⟨e, he⟩ : ∃ e, es[k]? = some e := ⟨_, List.getElem?_eq_getElem (by rw [H.out.2]; exact hkn)⟩
      have hrow := owns_below H.out.1 hb
      rw [← H.out.2] at hrow
      obtain ⟨g, rfl, -, -, hgl, hc, -⟩ := owns_entry hrow he
      have x0 := hc.c0
      have x1 := hc.c1
      have x2 := hc.c2
      have x3 := hc.c3
      have x4 := hc.c4
      have x5 := hc.c5
      have x6 := hc.c6
      have hki : (k : Int) < (n : Int) := by omega
      have HE : Hid (es[k]? = some e ∧ ∀ (j : Nat) (e : En), j < k → es[j]? = some e → ¬ (e.d = d ∧ e.nm = nm)) := ⟨he, hno⟩
      have hcall := pred_p B d nm e wr (Nat.lt_of_lt_of_le hB hb.size) ((hb.cell (p := ⟨B, 0, none⟩) hB).trans HB.out.1) ((hb.cell (p := ⟨B, 1, none⟩) hB).trans HB.out.2)
      clear hrow hc he hno
      cases hq : eqKy e.d e.nm d nm with
      | true =>
        rw [hq] at hcall
        have HC : Hid (Calls Try.prog 65 #[e.agg, .pointer (some ⟨B, 0, none⟩)] wr fun e w' => e = .returned (.bool true) ∧ Below wr.heap.size wr w') := hcall
        unfold En.agg at HC
        have HA : Hid (atV es d nm = (k : Int)) := atV_hit es d nm k e HE.out.1 ((eqKy_iff _ _ _).1 hq) HE.out.2
        clear hcall hq
        go_wp2_with (go_at_fn 65; refine HC.out.mono ?_; rintro x w' ⟨rfl, hb'⟩)
        go_ret
        exact ⟨by rw [HA.out]; rfl, chainB hb hb'⟩
      | false =>
        rw [hq] at hcall
        have HC : Hid (Calls Try.prog 65 #[e.agg, .pointer (some ⟨B, 0, none⟩)] wr fun e w' => e = .returned (.bool false) ∧ Below wr.heap.size wr w') := hcall
        unfold En.agg at HC
        have HQ : Hid (¬ (e.d = d ∧ e.nm = nm)) := eqKy_no hq
        clear hcall hq
        go_wp2_with (go_at_fn 65; refine HC.out.mono ?_; rintro x w' ⟨rfl, hb'⟩)
        refine ⟨⟨k + 1, by omega, by simp, fun j e' hj he' => ?_, chainB hb hb'⟩, by simp [intOf]; omega⟩
        by_cases hjk : j < k
        · exact HE.out.2 j e' hjk he'
        · obtain rfl : j = k := by omega
          rw [HE.out.1] at he'
          cases he'
          exact HQ.out
    · have hkn' : ¬ (k : Int) < (n : Int) := by omega
      have HA : Hid (atV es d nm = -1) := atV_miss es d nm (fun j e he => hno j e (by have := (List.getElem?_eq_some_iff.1 he).1; have := H.out.2; omega) he)
      clear hno
      go_wp2
      go_ret
      exact ⟨by rw [HA.out]; rfl, hb⟩

theorem run_clear7 (w : World) (g o n c : Nat) (cur : Array Value) (t : TypeId) (hg : w.heap[g]? = some (.cells cur t (0, 0))) (hn : 0 < n) (hfit : o + n * 7 ≤ cur.size) :
    ∃ zs : List Value, zs.length = n * 7 ∧ ∀ ty, (Builtin.clear_ #[48] ty #[.slice (some ⟨g, o, none⟩) n c]).run Try.prog w = .ok (.tuple #[]) (w.setRow g (cur.toList.take o ++ zs ++ cur.toList.drop (o + n * 7)).toArray) := by
  have hl : (Builtin.zeroCells zeroEn.agg.cells n).toList.length = n * 7 := by
    unfold Builtin.zeroCells
    have : zeroEn.agg.cells.size = 7 := rfl
    simp [this]
  have h1 : ∀ u ∈ (Builtin.zeroCells zeroEn.agg.cells n).toList, u.oneCell' = true := by
    intro u hu
    unfold Builtin.zeroCells at hu
    rw [Array.toList_map] at hu
    obtain ⟨i, _, rfl⟩ := List.mem_map.1 hu
    have h7 : zeroEn.agg.cells.size = 7 := rfl
    have hi : i % zeroEn.agg.cells.size < zeroEn.agg.cells.size := Nat.mod_lt _ (by rw [h7]; decide)
    rw [getElem!_pos zeroEn.agg.cells (i % zeroEn.agg.cells.size) hi]
    have hm : zeroEn.agg.cells[i % zeroEn.agg.cells.size] ∈ zeroEn.agg.cells.toList := Array.getElem_mem_toList hi
    exact vals_one zeroEn _ hm
  refine ⟨(Builtin.zeroCells zeroEn.agg.cells n).toList, hl, fun ty => ?_⟩
  have hst := run_storeCells_at Try.prog g o t (Builtin.zeroCells zeroEn.agg.cells n).toList 0 cur w hg (by rw [hl]; simpa using hfit) h1
  simp only [Nat.add_zero] at hst
  rw [hl] at hst
  have hz : ∀ w, (zeroValue 42).run Try.prog w = .ok zeroEn.agg w := Try.zeroValue42
  obtain ⟨m, rfl⟩ : ∃ m, n = m + 1 := ⟨n - 1, by omega⟩
  simp [Builtin.clear_, run_underlying Try.underlying48, hz, hst]

/-- what has been kept so far stands in front; what is to come, as it was -/
structure Kept (es l : List En) (d : Int) (nm : ByteArray) (i j : Nat) : Prop where
  len : l.length = es.length
  lt : i < j
  le : j ≤ es.length
  front : l.take i = goneL (es.take j) d nm
  rest : ∀ k, j ≤ k → l[k]? = es[k]?
theorem Kept.start {es : List En} {d : Int} {nm : ByteArray} {i : Nat} {e : En} (hi : es[i]? = some e) (hq : e.d = d ∧ e.nm = nm) (hno : ∀ (j : Nat) (e : En), j < i → es[j]? = some e → ¬ (e.d = d ∧ e.nm = nm)) : Kept es es d nm i (i + 1) := by
  refine ⟨rfl, by omega, (List.getElem?_eq_some_iff.1 hi).1, ?_, fun _ _ => rfl⟩
  rw [goneL_take es d nm i e hi, if_pos hq, List.append_nil]
  refine (goneL_none ?_).symm
  rw [atE_none_iff]
  intro x hx
  obtain ⟨j, hj, rfl⟩ := List.getElem_of_mem hx
  rw [List.length_take] at hj
  rw [List.getElem_take]
  exact hno j _ (by omega) (List.getElem?_eq_getElem (by omega))
theorem Kept.skip {es l : List En} {d : Int} {nm : ByteArray} {i j : Nat} {e : En} (h : Kept es l d nm i j) (he : es[j]? = some e) (hq : e.d = d ∧ e.nm = nm) : Kept es l d nm i (j + 1) :=
  ⟨h.len, by have := h.lt; omega, (List.getElem?_eq_some_iff.1 he).1, by rw [goneL_take es d nm j e he, if_pos hq, List.append_nil]; exact h.front, fun k hk => h.rest k (by omega)⟩
theorem Kept.keep {es l : List En} {d : Int} {nm : ByteArray} {i j : Nat} {e : En} (h : Kept es l d nm i j) (he : es[j]? = some e) (hq : ¬ (e.d = d ∧ e.nm = nm)) : Kept es (l.set i e) d nm (i + 1) (j + 1) := by
  have hlt := h.lt
  have hj := (List.getElem?_eq_some_iff.1 he).1
  have hl := h.len
  refine ⟨by rw [List.length_set]; exact h.len, by omega, hj, ?_, fun k hk => ?_⟩
  · rw [goneL_take es d nm j e he, if_neg hq, ← h.front, List.take_add_one, List.getElem?_set_self (by omega), List.take_set_of_le (Nat.le_refl _)]; rfl
  · rw [List.getElem?_set_ne (by omega)]; exact h.rest k (by omega)

set_option maxHeartbeats 4000000 in
theorem delete_p (v : Value) (es : List En) (base B : Nat) (d : Int) (nm : ByteArray) (w : World) (h : w.ownsRow base 42 7 v es.length (ec es)) (hl : es.length ≤ 1000000)
    (hB : B < w.heap.size) (hBv : ∀ q, v.ownBlock = some q → q ≠ B) (h0 : w.cell? ⟨B, 0, none⟩ = some (.int .i64 d)) (h1 : w.cell? ⟨B, 1, none⟩ = some (.string nm)) :
    Calls Try.prog 64 #[v, .func (.func 65) #[] #[.pointer (some ⟨B, 0, none⟩)]] w fun e w' => ∃ v', e = .returned v' ∧ w'.ownsRow base 42 7 v' (goneL es d nm).length (ec (goneL es d nm)) ∧ v'.ownBlock = v.ownBlock ∧ Only (fun q => v.ownBlock = some q) w w' := by
  have eg : ∀ args w, (callFunc 65 args).run Try.prog w = .ok (.enter 65 args) w := enters_of Try.func65 (by kernel_rfl) rfl
  have hI := index_p v es base B d nm w h hl hB h0 h1
  cases hq : atI es d nm with
  | none =>
    have hv : atV es d nm = -1 := by unfold atV; rw [hq]
    rw [hv] at hI
    have HI : Hid (Calls Try.prog 83 #[v, .func (.func 65) #[] #[.pointer (some ⟨B, 0, none⟩)]] w fun e w' => e = .returned (.int .i64 (-1)) ∧ Below w.heap.size w w') := hI
    have HG : Hid (goneL es d nm = es ∧ w.ownsRow base 42 7 v es.length (ec es)) := ⟨goneL_none (atE_none hq), h⟩
    clear hI hv hq h h0 h1
    go_enter Try.func64, Try.ntmps64
    go_wp2_with (go_at_call 83; refine HI.out.mono ?_; rintro e w' ⟨rfl, hb⟩)
    go_ret
    exact ⟨v, rfl, by rw [HG.out.1]; exact owns_below HG.out.2 hb, rfl, Only.of hb⟩
  | some i0 =>
    obtain ⟨e0, he0, hq1, hq2⟩ := atI_lt hq
    have hno : ∀ (j : Nat) (e : En), j < i0 → es[j]? = some e → ¬ (e.d = d ∧ e.nm = nm) := by
      unfold atI at hq
      rw [List.findIdx?_eq_some_iff_getElem] at hq
      intro j e hj he hk
      have := hq.2.2 j hj
      have e1 := (List.getElem?_eq_some_iff.1 he).2
      rw [e1] at this
      simp [hk] at this
    have hv : atV es d nm = (i0 : Int) := by unfold atV; rw [hq]
    rw [hv] at hI
    obtain ⟨g, cap, hform⟩ : ∃ g cap, v = .slice (some ⟨g, 0, none⟩) es.length cap := by
      obtain ⟨a, cap, rfl⟩ := owns_len h
      obtain ⟨g, rfl, _⟩ := owns_entry h he0
      exact ⟨g, cap, rfl⟩
    subst hform
    have hgB : g ≠ B := hBv g rfl
    obtain ⟨n, hn⟩ : ∃ n, es.length = n := ⟨_, rfl⟩
    rw [hn] at h hl hI ⊢
    have hcapn : n ≤ cap := (owns_cells h).2.2.1
    have hcapm : cap ≤ maxLen := (owns_cells h).2.2.2.1
    unfold maxLen at hcapm
    have hi0 : i0 < n := by have := (List.getElem?_eq_some_iff.1 he0).1; omega
    have HI : Hid (Calls Try.prog 83 #[.slice (some ⟨g, 0, none⟩) n cap, .func (.func 65) #[] #[.pointer (some ⟨B, 0, none⟩)]] w fun e w' => e = .returned (.int .i64 (i0 : Int)) ∧ Below w.heap.size w w') := hI
    have HS : Hid (Kept es es d nm i0 (i0 + 1) ∧ es.length = n ∧ w.ownsRow base 42 7 (.slice (some ⟨g, 0, none⟩) n cap) n (ec es)) := ⟨Kept.start he0 ⟨hq1, hq2⟩ hno, hn, h⟩
    have HB : Hid (w.cell? ⟨B, 0, none⟩ = some (.int .i64 d) ∧ w.cell? ⟨B, 1, none⟩ = some (.string nm)) := ⟨h0, h1⟩
    have hgw : g < w.heap.size := (owns_cells h).2.2.2.2.2
    have hne1 : ((i0 : Int) == -1) = false := beq_eq_false_iff_ne.2 (by omega)
    clear hI hv hq h h0 h1 he0 hq1 hq2 hno hn hBv
    go_enter Try.func64, Try.ntmps64
    go_wp2_with (go_at_call 83; refine HI.out.mono ?_; rintro e w1 ⟨rfl, hb1⟩)
    go_loopw [5, 6] (fun u x wr => ∃ (i j : Nat) (l : List En), u = .int .i64 i ∧ x = .int .i64 j ∧ Hid (Kept es l d nm i j ∧ wr.ownsRow base 42 7 (.slice (some ⟨g, 0, none⟩) n cap) n (ec l) ∧ Only (· = g) w wr)) (fun _ x _ => n - (intOf x).toNat)
    case atStart => exact ⟨i0, i0 + 1, es, rfl, by simp, HS.out.1, owns_below HS.out.2.2 hb1, Only.of hb1⟩
    case round =>
      obtain ⟨i, j, l, rfl, rfl, hk⟩ := hrel
      have hij := hk.out.1.lt
      have hjn := hk.out.1.le
      rw [HS.out.2.1] at hjn
      have hlen : l.length = n := hk.out.1.len.trans HS.out.2.1
      have hlen' : Hid (l.length = n) := hlen
      have hBw : B < wr.heap.size := Nat.lt_of_lt_of_le hB hk.out.2.2.size
      have hgr : g < wr.heap.size := Nat.lt_of_lt_of_le hgw hk.out.2.2.size
      clear hlen
      by_cases hlt : j < n
      · obtain ⟨e, he⟩ : ∃ e, es[j]? = some e := ⟨_, List.getElem?_eq_getElem (by rw [HS.out.2.1]; exact hlt)⟩
        have hej : l[j]? = some e := (hk.out.1.rest j (Nat.le_refl _)).trans he
        obtain ⟨f, hf⟩ : ∃ f, l[i]? = some f := ⟨_, List.getElem?_eq_getElem (by rw [hlen'.out]; omega)⟩
        have hrow := hk.out.2.1
        have hrow' : wr.ownsRow base 42 7 (.slice (some ⟨g, 0, none⟩) n cap) l.length (ec l) := by rw [hlen'.out]; exact hrow
        obtain ⟨g', hg', -, -, -, hc, hfz⟩ := owns_entry hrow' hej
        cases hg'
        obtain ⟨g', hg', -, -, -, hc2, -⟩ := owns_entry hrow' hf
        cases hg'
        have x0 := hc.c0
        have x1 := hc.c1
        have x2 := hc.c2
        have x3 := hc.c3
        have x4 := hc.c4
        have x5 := hc.c5
        have x6 := hc.c6
        have hji : (j : Int) < (n : Int) := by omega
        have hb0 : wr.cell? ⟨B, 0, none⟩ = some (.int .i64 d) := (World.cell?_of_block (hk.out.2.2.block B hB (Ne.symm hgB))).trans HB.out.1
        have hb1' : wr.cell? ⟨B, 1, none⟩ = some (.string nm) := (World.cell?_of_block (hk.out.2.2.block B hB (Ne.symm hgB))).trans HB.out.2
        have hcall : ∀ o, Calls Try.prog 65 #[e.agg, .pointer (some ⟨B, 0, none⟩)] (wr.alloc o) fun x w' => x = .returned (.bool (eqKy e.d e.nm d nm)) ∧ Below (wr.alloc o).heap.size (wr.alloc o) w' := fun o => pred_p B d nm e (wr.alloc o) (by simp; omega) (Lib.cell?_alloc_some _ hb0) (Lib.cell?_alloc_some _ hb1')
        cases hq : eqKy e.d e.nm d nm with
        | true =>
          rw [hq] at hcall
          have HC : Hid (∀ o, Calls Try.prog 65 #[e.agg, .pointer (some ⟨B, 0, none⟩)] (wr.alloc o) fun x w' => x = .returned (.bool true) ∧ Below (wr.alloc o).heap.size (wr.alloc o) w') := hcall
          unfold En.agg at HC
          have HK : Hid (Kept es l d nm i (j + 1)) := hk.out.1.skip he ((eqKy_iff _ _ _).1 hq)
          clear hcall hrow hrow' hc hc2 hej he hf hb0 hb1'
          go_wp2_with (go_at_fn 65; refine (HC.out _).mono ?_; rintro x w' ⟨rfl, hb'⟩; have hb2 := chainB (below_alloc _ _) hb')
          exact ⟨⟨i, j + 1, l, rfl, by simp, HK.out, owns_below hk.out.2.1 hb2, hk.out.2.2.trans (Only.of hb2)⟩, by simp [intOf]; omega⟩
        | false =>
          rw [hq] at hcall
          have HC : Hid (∀ o, Calls Try.prog 65 #[e.agg, .pointer (some ⟨B, 0, none⟩)] (wr.alloc o) fun x w' => x = .returned (.bool false) ∧ Below (wr.alloc o).heap.size (wr.alloc o) w') := hcall
          unfold En.agg at HC
          have HK : Hid (Kept es (l.set i e) d nm (i + 1) (j + 1) ∧ l[i]? = some f ∧ Cells7 wr g (i * 7) f) := ⟨hk.out.1.keep he (eqKy_no hq), hf, hc2⟩
          have hin : i < n := by omega
          have hini : (i : Int) < (n : Int) := by omega
          clear hcall hrow hrow' hc hc2 hej he hf hb0 hb1'
          go_wp2_with (go_at_fn 65; refine (HC.out _).mono ?_; rintro x w' ⟨rfl, hb'⟩; have hb2 := chainB (below_alloc _ _) hb'; have hbx := cells7_of (e := e) (hkeep (heap_new wr _) hb'); have b0 := hbx.c0; have b1 := hbx.c1; have b2 := hbx.c2; have b3 := hbx.c3; have b4 := hbx.c4; have b5 := hbx.c5; have b6 := hbx.c6; simp only [Nat.zero_add] at b1 b2 b3 b4 b5 b6; have hy := HK.out.2.2.below hb2; have y0 := hy.c0; have y1 := hy.c1; have y2 := hy.c2; have y3 := hy.c3; have y4 := hy.c4; have y5 := hy.c5; have y6 := hy.c6; have hrow2 := owns_below hk.out.2.1 hb2; have hfz2 := (owns_cells hrow2).2.1; have HP : Hid ((put7o w' g (i * 7) e).ownsRow base 42 7 (.slice (some ⟨g, 0, none⟩) n cap) n (ec (l.set i e)) ∧ Only (· = g) w (put7o w' g (i * 7) e)) := ⟨put7o_row hrow2 HK.out.2.1, (hk.out.2.2.trans (Only.of hb2)).trans (put7o_only _ _ _ _)⟩; clear hbx hy hrow2 hb' hfz)
          exact ⟨⟨i + 1, j + 1, l.set i e, by simp, by simp, HK.out.1, HP.out.1, HP.out.2⟩, by simp [intOf]; omega⟩
      · have hjn' : ¬ (j : Int) < (n : Int) := by omega
        have hje : j = n := by omega
        have hin : i < n := by omega
        obtain ⟨cur, hh, r3, r4⟩ : ∃ cur : Array Value, wr.heap[g]? = some (.cells cur 42 (0, 0)) ∧ cur.size = cap * 7 ∧ cur.toList.take (n * 7) = ec l := by
          rcases hk.out.2.1.2 with ⟨e1, _⟩ | ⟨g', cap', cur, e1, hg', hh, r1, r2, r3, r4⟩
          · cases e1
          · cases e1; exact ⟨cur, hh, r3, r4⟩
        obtain ⟨zs, hzl, hcl⟩ := run_clear7 wr g (i * 7) (n - i) (cap - i) cur _ hh (by omega) (by omega)
        obtain ⟨W2, hW2⟩ : ∃ W2, wr.setRow g (cur.toList.take (i * 7) ++ zs ++ cur.toList.drop (i * 7 + (n - i) * 7)).toArray = W2 := ⟨_, rfl⟩
        rw [hW2] at hcl
        have hfr : goneL es d nm = l.take i := by
          have := hk.out.1.front
          have e0 : es.take j = es := List.take_of_length_le (by rw [HS.out.2.1]; omega)
          rw [e0] at this
          exact this.symm
        have hgl : (goneL es d nm).length = i := by rw [hfr, List.length_take, hlen'.out]; omega
        have HW : Hid ((goneL es d nm).length = i ∧ W2.ownsRow base 42 7 (.slice (some ⟨g, 0, none⟩) i cap) i (ec (goneL es d nm)) ∧ Only (· = g) w W2) := by
          refine ⟨hgl, ⟨by rw [ec_len, hgl], .inr ⟨g, cap, _, rfl, (owns_cells hk.out.2.1).2.2.2.2.1, by rw [← hW2]; exact setRow_heap wr g _ _ _ _ hh, by omega, (owns_cells hk.out.2.1).2.2.2.1, ?_, ?_⟩⟩, ?_⟩
          · simp [hzl, r3]; omega
          · rw [hfr]
            have e1 : (cur.toList.take (i * 7) ++ zs ++ cur.toList.drop (i * 7 + (n - i) * 7)).take (i * 7) = cur.toList.take (i * 7) := by
              rw [List.append_assoc, List.take_left' (by rw [List.length_take]; simp [r3]; omega)]
            show (cur.toList.take (i * 7) ++ zs ++ cur.toList.drop (i * 7 + (n - i) * 7)).take (i * 7) = _
            rw [e1]
            have e2 : cur.toList.take (i * 7) = (cur.toList.take (n * 7)).take (i * 7) := by rw [List.take_take, Nat.min_eq_left (by omega)]
            rw [e2, r4]
            have e3 : ec l = ec (l.take i) ++ ec (l.drop i) := by rw [← ec_app, List.take_append_drop]
            rw [e3, List.take_left' (by rw [ec_len, List.length_take, hlen'.out]; omega)]
          · rw [← hW2]; exact hk.out.2.2.trans (onlyR _ _ _)
        clear hW2 hfr hgl hzl r3 r4 hh
        go_wp2
        go_ret
        refine ⟨_, rfl, by rw [HW.out.1]; exact HW.out.2.1, rfl, HW.out.2.2.mono fun q hq => by rw [hq]; rfl⟩
end
end Go.Proofs.Ytppbbddlbfgpfaa
