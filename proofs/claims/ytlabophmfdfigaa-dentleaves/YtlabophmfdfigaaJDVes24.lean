/- DentLeaves. -/
import Derived.Test.YtlabophmfdfigaaJDVes23
namespace Go.Proofs.Ytlabophmfdfigaa
section
open Go.RowKit
attribute [local go_sem ↓ high] loadEn storeEn loadDo storeDo builddo
attribute [local go_sem high] eqK neqK guardK eqN neqN guardN
/-- does the law take this call into its own script? -/
def upB (x : DOp) : Bool := decide (0 < x.e.d) && (x.e.neg && decide (x.e.id = 0 ∧ x.e.kind = 0 ∧ x.e.mode = 0 ∧ x.e.tg = nob) || !x.e.neg && decide (x.e.d < x.e.id))
theorem filt_takeD {L : List DOp} {j : Nat} {e : DOp} (f : DOp → Bool) (h : L[j]? = some e) : (L.take (j + 1)).filter f = (L.take j).filter f ++ if f e then [e] else [] := by
  rw [List.take_add_one, h, List.filter_append]
  congr 1
  cases hf : f e <;> simp [hf]
theorem mem_opS {s : Cs} {x : DOp} {e : En} (h : e ∈ (opS s x).L) : e ∈ s.L ∨ e = x.e := by
  unfold opS at h
  split at h
  · unfold putS at h
    split at h
    · exact .inl h
    · exact mem_put h
  split at h
  · exact .inl (mem_use h)
  split at h
  · exact .inl ((cut_sub x.ks s).subset h)
  split at h
  · cases h
  split at h
  · exact .inl (mem_evict h)
  · exact .inl h
/-- what a script leaves was put by it -/
theorem mem_runS {ops : List DOp} {e : En} (h : e ∈ (runS ops).L) : ∃ x ∈ ops, x.e = e := by
  unfold runS at h
  have : ∀ (l : List DOp) (s : Cs), e ∈ (l.foldl opS s).L → e ∈ s.L ∨ ∃ x ∈ l, x.e = e := fun l => by
    induction l with
    | nil => exact fun s h => .inl h
    | cons x l ih =>
      intro s h
      rw [List.foldl_cons] at h
      rcases ih _ h with h | ⟨y, hy, he⟩
      · rcases mem_opS h with h | h
        · exact .inl h
        · exact .inr ⟨x, List.mem_cons_self, h.symm⟩
      · exact .inr ⟨y, List.mem_cons_of_mem _ hy, he⟩
  rcases this ops Cs.clear h with h | h
  · cases h
  · exact h
theorem upB_ok {x : DOp} (h : upB x = true) : 0 < x.e.d ∧ (idOf x.e = 0 ∨ x.e.d < idOf x.e) := by
  unfold upB at h
  unfold idOf
  rw [Bool.and_eq_true, decide_eq_true_iff] at h
  refine ⟨h.1, ?_⟩
  cases hn : x.e.neg with
  | true => exact .inl rfl
  | false =>
    have h2 := h.2
    rw [hn] at h2
    simp at h2
    exact .inr h2
theorem maxD : ∀ (L : List En), L ≠ [] → ∃ e ∈ L, ∀ x ∈ L, x.d ≤ e.d
  | [], h => absurd rfl h
  | [a], _ => ⟨a, List.mem_cons_self, fun x hx => by simp at hx; rw [hx]; exact Int.le_refl _⟩
  | a :: b :: l, _ => by
    obtain ⟨e, he, hm⟩ := maxD (b :: l) (by simp)
    by_cases hle : a.d ≤ e.d
    · refine ⟨e, List.mem_cons_of_mem _ he, fun x hx => ?_⟩
      rcases List.mem_cons.1 hx with rfl | hx
      · exact hle
      · exact hm x hx
    · refine ⟨a, List.mem_cons_self, fun x hx => ?_⟩
      rcases List.mem_cons.1 hx with rfl | hx
      · exact Int.le_refl _
      · have := hm x hx; omega
/-- a leaf, as long as there are entries -/
theorem some_leaf {L : List En} (hk : KeysOk L) (h : ∀ e ∈ L, 0 < e.d ∧ (idOf e = 0 ∨ e.d < idOf e)) (hn : ∀ e ∈ L, leafB L e.key = false) : L = [] := by
  by_cases h0 : L = []
  · exact h0
  · obtain ⟨e, he, hm⟩ := maxD L h0
    have h1 := hn e he
    unfold leafB at h1
    rw [hk.get.2 ⟨he, rfl, rfl⟩] at h1
    simp only at h1
    have : (L.all fun x => decide (x.d ≠ idOf e)) = true := List.all_eq_true.2 fun x hx => by
      rw [decide_eq_true_iff]
      have h2 := hm x hx
      have h3 := (h x hx).1
      rcases (h e he).2 with h4 | h4 <;> omega
    rw [this] at h1
    cases h1
theorem rowD_arg {w : World} {a : Option Addr} {ops : List DOp} (h : RowD w a ops) {x : DOp} (hx : x ∈ ops) : ArgK w x.vk x.ks := by
  obtain ⟨i, hi⟩ := List.mem_iff_getElem?.1 hx
  rcases h with h | ⟨b, off, _, _, h⟩
  · rw [h] at hx; cases hx
  · exact (h i x hi).2
set_option maxRecDepth 100000 in
set_option maxHeartbeats 16000000 in
theorem walk_DentLeaves (a : Option Addr) (cap : Nat) (ops : List DOp) (w : World) (row : RowD w a ops) (hlen : ops.length * 112 ≤ 140737488351232) :
    Calls Try.prog 6 #[.slice a ops.length cap] w fun x w' => x = .returned (.bool true) ∧ Below w.heap.size w w' := by
  obtain ⟨n, hn⟩ : ∃ n, ops.length = n := ⟨_, rfl⟩
  have HR : Hid (RowD w a ops ∧ ops.length = n) := ⟨row, hn⟩
  rw [hn]
  rw [hn] at hlen
  clear row hn
  have onee := doOne_of
  go_enter Try.func6, Try.ntmps6
  go_wp2
  go_loopw [3, 4, 5] (fun s3 s4 _ wr => ∃ i : Nat, i ≤ n ∧ s4 = .int .i64 i ∧ ∃ a2 n2 c2, s3 = .slice a2 n2 c2 ∧ Hid (RowO wr w.heap.size (.slice a2 n2 c2) ((ops.take i).filter upB) ∧ Below w.heap.size w wr)) (fun _ s4 _ _ => n - (intOf s4).toNat)
  case atStart => exact ⟨0, Nat.zero_le _, rfl, _, _, _, rfl, World.ownsRow_nil _ _ _ _, Below.refl _ _⟩
  case round =>
    obtain ⟨i, hi, rfl, a2, n2, c2, rfl, HJ⟩ := hrel
    by_cases hlt : i < n
    · obtain ⟨hrow, hbj⟩ := HJ.out
      obtain ⟨g, o, x, rfl, hx, hg, hc, hk⟩ := HR.out.1.get (i := i) (by rw [HR.out.2]; exact hlt)
      have hltz : (i : Int) < (n : Int) := by omega
      have hcw : ∀ (j : Nat) u, x.vals[j]? = some u → wr.cell? ⟨g, o + i * 10 + j, none⟩ = some u := fun j u hu => (hbj.cell (p := ⟨g, o + i * 10 + j, none⟩) hg).trans (hc j u hu)
      have q2 := hcw 2 _ rfl
      have q4 := hcw 4 _ rfl
      have q5 := hcw 5 _ rfl
      have q6 := hcw 6 _ rfl
      have q7 := hcw 7 _ rfl
      have q8 := hcw 8 _ rfl
      obtain ⟨W1, hW1⟩ : ∃ W, wr.alloc (.cells #[.int .i64 x.e.id, .int .i64 x.e.kind, .int .i64 x.e.mode, .string x.e.tg] 35) = W := ⟨_, rfl⟩
      have b1 := boxO hW1
      have f0 : W1.cell? ⟨wr.heap.size, 0, none⟩ = some (.int .i64 x.e.id) := by rw [cell_of b1.1]; rfl
      have f1 : W1.cell? ⟨wr.heap.size, 1, none⟩ = some (.int .i64 x.e.kind) := by rw [cell_of b1.1]; rfl
      have f2 : W1.cell? ⟨wr.heap.size, 2, none⟩ = some (.int .i64 x.e.mode) := by rw [cell_of b1.1]; rfl
      have f3 : W1.cell? ⟨wr.heap.size, 3, none⟩ = some (.string x.e.tg) := by rw [cell_of b1.1]; rfl
      have p2 := (b1.2.1.cell (cellLt q2)).trans q2
      have p4 := (b1.2.1.cell (cellLt q4)).trans q4
      have hct := filt_takeD upB hx
      have hcl : ((ops.take i).filter upB).length ≤ i := Nat.le_trans (List.length_filter_le _ _) (by rw [List.length_take]; omega)
      have hw1 : IntKind.i64.wrap ((i : Int) + 1) = ((i + 1 : Nat) : Int) := by
        rw [show ((i + 1 : Nat) : Int) = (i : Int) + 1 by omega]; exact IntWalk.i64_in _ (by omega)
      have HKp : Hid (∀ nq, upB x = true → ∃ a6 N6 c6 Z, (∀ ty, (Builtin.append_ #[22, 22] ty #[.slice a2 n2 c2, .slice (some ⟨(W1.drewN nq).heap.size, 0, none⟩) 1 1]).run Try.prog ((W1.drewN nq).alloc (.cells x.vals.toArray 39)) = .ok (.slice a6 N6 c6) Z) ∧ Hid (RowO Z w.heap.size (.slice a6 N6 c6) ((ops.take (i + 1)).filter upB) ∧ Below w.heap.size w Z) ∧ (doLd (.pointer (some ⟨g, o + i * 10, none⟩))).run Try.prog (W1.drewN nq) = .ok x.agg (W1.drewN nq)) := fun nq hu => by
        have bb : Below wr.heap.size wr (W1.drewN nq) := below_drewN b1.2.1 nq
        obtain ⟨a6, N6, c6, Z, r6, row6, o6⟩ := keep_op (X := W1.drewN nq) x (owns_below hrow bb) hk.one (chainB hbj bb).size (by omega)
        refine ⟨a6, N6, c6, Z, r6, ⟨by rw [hct, if_pos hu]; exact row6, ?_⟩, doLd_at fun j u hu => (bb.cell (cellLt (hcw j u hu))).trans (hcw j u hu)⟩
        exact o6.below (chainB hbj bb) (chainB hbj bb).size fun b hb' => (World.ownsRow.lt hrow b hb').1
      have HDr : Hid (∀ nq, upB x = false → RowO (W1.drewN nq) w.heap.size (.slice a2 n2 c2) ((ops.take (i + 1)).filter upB) ∧ Below w.heap.size w (W1.drewN nq)) := fun nq hu => by
        have bb : Below wr.heap.size wr (W1.drewN nq) := below_drewN b1.2.1 nq
        exact ⟨by rw [hct, if_neg (by rw [hu]; decide), List.append_nil]; exact owns_below hrow bb, chainB hbj bb⟩
      have hub : upB x = (decide (0 < x.e.d) && (x.e.neg && decide (x.e.id = 0 ∧ x.e.kind = 0 ∧ x.e.mode = 0 ∧ x.e.tg = ⟨#[]⟩) || !x.e.neg && decide (x.e.d < x.e.id))) := rfl
      obtain ⟨Z0, hZ0⟩ : ∃ Z0, decide (x.e.id = 0 ∧ x.e.kind = 0 ∧ x.e.mode = 0 ∧ x.e.tg = ⟨#[]⟩) = Z0 := ⟨_, rfl⟩
      rw [hZ0] at hub
      clear HJ hrow b1 hcl hct hcw hc hk hx hbj
      by_cases hd : 0 < x.e.d
      · rw [decide_eq_true hd, Bool.true_and] at hub
        cases hneg : x.e.neg with
        | true =>
          rw [hneg] at hub p4 q4
          cases Z0 with
          | true =>
            have hu : upB x = true := hub
            clear hub
            go_upto_region 6 with fail
            clear hW1
            go_quiet (fail)
            obtain ⟨a6, N6, c6, Z, r6, H7, ld6⟩ := HKp.out nq hu
            clear HKp HDr hu
            go_wp2_with (at_builtin; refine wpList_apR rfl (.tmp 65) (.tmp 70) 22 rfl _ _ (.slice a6 N6 c6) Z (by simp [Act.eval]) (by simp [Act.eval]) r6 ?_)
            go_roundw
            case rel => exact ⟨i + 1, by omega, rfl, _, _, _, rfl, H7⟩
            case measure => simp [intOf]; omega
          | false =>
            have hu : upB x = false := hub
            clear hub
            go_upto_region 6 with fail
            clear hW1
            go_quiet (fail)
            have H7 : Hid (RowO (W1.drewN nq) w.heap.size (.slice a2 n2 c2) ((ops.take (i + 1)).filter upB) ∧ Below w.heap.size w (W1.drewN nq)) := HDr.out nq hu
            clear HKp HDr hu
            go_wp2
            go_roundw
            case rel => exact ⟨i + 1, by omega, rfl, _, _, _, rfl, H7⟩
            case measure => simp [intOf]; omega
        | false =>
          rw [hneg] at hub p4 q4
          clear hZ0
          by_cases hid : x.e.d < x.e.id
          · have hu : upB x = true := by rw [hub, decide_eq_true hid]; simp
            clear hub
            go_upto_region 6 with fail
            clear hW1
            go_quiet (fail)
            obtain ⟨a6, N6, c6, Z, r6, H7, ld6⟩ := HKp.out nq hu
            clear HKp HDr hu
            go_wp2_with (at_builtin; refine wpList_apR rfl (.tmp 65) (.tmp 70) 22 rfl _ _ (.slice a6 N6 c6) Z (by simp [Act.eval]) (by simp [Act.eval]) r6 ?_)
            go_roundw
            case rel => exact ⟨i + 1, by omega, rfl, _, _, _, rfl, H7⟩
            case measure => simp [intOf]; omega
          · have hu : upB x = false := by rw [hub, decide_eq_false hid]; simp
            clear hub
            go_upto_region 6 with fail
            clear hW1
            go_quiet (fail)
            have H7 : Hid (RowO (W1.drewN nq) w.heap.size (.slice a2 n2 c2) ((ops.take (i + 1)).filter upB) ∧ Below w.heap.size w (W1.drewN nq)) := HDr.out nq hu
            clear HKp HDr hu
            go_wp2
            go_roundw
            case rel => exact ⟨i + 1, by omega, rfl, _, _, _, rfl, H7⟩
            case measure => simp [intOf]; omega
      · have hu : upB x = false := by rw [hub, decide_eq_false hd]; rfl
        clear hub hZ0
        go_upto_region 6 with fail
        clear hW1
        go_quiet (fail)
        have H7 : Hid (RowO (W1.drewN nq) w.heap.size (.slice a2 n2 c2) ((ops.take (i + 1)).filter upB) ∧ Below w.heap.size w (W1.drewN nq)) := HDr.out nq hu
        clear HKp HDr hu
        go_wp2
        go_roundw
        case rel => exact ⟨i + 1, by omega, rfl, _, _, _, rfl, H7⟩
        case measure => simp [intOf]; omega
    · obtain rfl : i = n := by omega
      have hltz : ¬ (i : Int) < (i : Int) := by omega
      obtain ⟨hrow, hbj⟩ := HJ.out
      rw [List.take_of_length_le (by rw [HR.out.2]; exact Nat.le_refl _)] at hrow
      obtain ⟨U, hU⟩ : ∃ U, ops.filter upB = U := ⟨_, rfl⟩
      rw [hU] at hrow
      obtain ⟨hrd, hn2⟩ := hrow.rowD fun x hx => (rowD_arg HR.out.1 (List.mem_filter.1 (by rw [hU]; exact hx)).1).below hbj
      have hUl : n2 ≤ i := by
        rw [hn2, ← hU, ← HR.out.2]
        exact List.length_filter_le _ _
      obtain ⟨S, hS⟩ : ∃ S, runS U = S := ⟨_, rfl⟩
      have HO : Hid (Calls Try.prog 9 #[.slice a2 n2 c2] wr fun x w2 => ∃ p q, x = .returned (.tuple #[.pointer (some ⟨p, 0, none⟩), .pointer (some ⟨q, 0, none⟩), .bool true]) ∧ Ld wr w2 p S n2 (fun _ => False)) := by
        rw [hn2, ← hS]
        refine (of_p a2 c2 U wr hrd (by omega)).mono ?_
        rintro x w2 ⟨p, q, rfl, ht⟩
        exact ⟨p, q, rfl, ht.ld.mono (fun _ hb => hb.elim) (Nat.le_refl _)⟩
      have HA : Hid (∀ w, Calls Try.prog 12 #[] w fun x w' => x = .returned (.bool true) ∧ Below w.heap.size w w') := awake_p
      have HE0 : Hid (∀ e ∈ S.L, 0 < e.d ∧ (idOf e = 0 ∨ e.d < idOf e)) := fun e he => by
        rw [← hS] at he
        obtain ⟨x, hx, rfl⟩ := mem_runS he
        rw [← hU] at hx
        exact upB_ok (List.mem_filter.1 hx).2
      have HB0 : Hid (Below w.heap.size w wr) := hbj
      clear HJ hrow hrd hn2 hU hS hbj
      obtain ⟨w1, hw1⟩ : ∃ w1, w1 = wr := ⟨_, rfl⟩
      subst hw1
      go_wp2_with (first
        | (go_at_call 13; refine (ld_entries H2.out (by omega)).mono ?_; rintro x w3 ⟨v3, rfl, hr3, hb⟩; have H3 : Hid (Ld w1 w3 p S n2 (fun _ => False) ∧ Row7 w3 w2.heap.size v3 S.L) := ⟨H2.out.on' hb, hr3⟩; clear hr3 hb)
        | (go_at_call 9; refine HO.out.mono ?_; rintro x w2 ⟨p, q, rfl, hl⟩; have H2 : Hid (Ld w1 w2 p S n2 (fun _ => False)) := hl; clear hl))
      obtain ⟨a3, c3, hv3⟩ := owns_len H3.out.2
      subst hv3
      obtain ⟨m, hm⟩ : ∃ m, S.L.length = m := ⟨_, rfl⟩
      have HM : Hid (S.L.length = m) := hm
      have H5 : Hid (Ld w1 w3 p S n2 (fun _ => False) ∧ Row7 w3 w2.heap.size (.slice a3 m c3) S.L) := by
        rw [← hm]; exact H3.out
      have hml : m ≤ n2 := by rw [← hm]; exact H3.out.1.len
      rw [hm]
      clear H2 H3 HO hm
      have hb3 : Below w3.heap.size w3 w3 := Below.refl _ _
      go_loopw [10] (fun s10 wk => ∃ k : Nat, k ≤ m ∧ s10 = .int .i64 k ∧ Hid ((∀ x ∈ S.L.take k, leafB S.L x.key = false) ∧ Below w3.heap.size w3 wk)) (fun s10 _ => m - (intOf s10).toNat)
      case atStart => exact ⟨0, Nat.zero_le _, rfl, fun x hx => by simp at hx, hb3⟩
      case round =>
        obtain ⟨k, hk, rfl, HK⟩ := hrel
        by_cases hlk : k < m
        · obtain ⟨hno, hbk⟩ := HK.out
          obtain ⟨e, he⟩ : ∃ e, S.L[k]? = some e := ⟨_, List.getElem?_eq_getElem (by rw [HM.out]; exact hlk)⟩
          obtain ⟨gl, rfl, -, -, hgl2, hc, -⟩ := owns_entry (H5.out.2.below hbk) he
          have e0 := hc.c0
          have e1 := hc.c1
          have hlkz : (k : Int) < (m : Int) := by omega
          have hw4 : IntKind.i64.wrap ((k : Int) + 1) = ((k + 1 : Nat) : Int) := by
            rw [show ((k + 1 : Nat) : Int) = (k : Int) + 1 by omega]; exact IntWalk.i64_in _ (by omega)
          have HL : Hid (∀ b, leafB S.L e.key = b → Calls Try.prog 17 #[.pointer (some ⟨p, 0, none⟩), .agg #[.int .i64 e.d, .string e.nm]] wr fun x w' => x = .returned (.bool b) ∧ Below w3.heap.size w3 w') := fun b hb => by
            refine (ld_leaf (H5.out.1.on' hbk) e.key).mono ?_
            rintro x w' ⟨rfl, hb'⟩
            exact ⟨by rw [hb], chainB hbk hb'⟩
          cases hlf : leafB S.L e.key with
          | true =>
            clear HK hno hbk hc he
            go_wp2_with (first
              | (go_at_call 12; refine (HA.out _).mono ?_; rintro x wD ⟨rfl, hb⟩; have HD : Hid (Below w.heap.size w wD) := chainB HB.out hb; clear hb)
              | (go_at_call 17; refine (HL.out true hlf).mono ?_; rintro x wB ⟨rfl, hb⟩; have HB : Hid (Below w.heap.size w wB) := chainB HB0.out (chainB H5.out.1.below hb); clear hb))
            go_ret
            exact ⟨rfl, HD.out⟩
          | false =>
            have HN : Hid (∀ x ∈ S.L.take (k + 1), leafB S.L x.key = false) := fun x hx => by
              rw [List.take_add_one, he, List.mem_append] at hx
              rcases hx with hx | hx
              · exact hno x hx
              · simp at hx; rw [hx]; exact hlf
            clear HK hno hbk hc he
            go_wp2_with (go_at_call 17; refine (HL.out false hlf).mono ?_; rintro x wB ⟨rfl, hb⟩; have HB : Hid (Below w3.heap.size w3 wB) := hb; clear hb)
            exact ⟨⟨k + 1, by omega, by simp, HN.out, HB.out⟩, by simp [intOf]; omega⟩
        · obtain rfl : k = m := by omega
          have hlkz : ¬ (k : Int) < (k : Int) := by omega
          obtain ⟨hno, hbk⟩ := HK.out
          rw [List.take_of_length_le (by rw [HM.out]; exact Nat.le_refl _)] at hno
          have hnil := some_leaf H5.out.1.keys HE0.out hno
          have hk0 : k = 0 := by rw [← HM.out, hnil]; rfl
          have HB : Hid (Below w.heap.size w wr) := chainB HB0.out (chainB H5.out.1.below hbk)
          subst hk0
          clear HK hno hbk hnil
          go_wp2_with (go_at_call 12; refine (HA.out _).mono ?_; rintro x wD ⟨rfl, hb⟩; have HD : Hid (Below w.heap.size w wD) := chainB HB.out hb; clear hb)
          go_ret
          exact ⟨rfl, HD.out⟩
end
end Go.Proofs.Ytlabophmfdfigaa
