/- DentLeaves. -/
import Derived.Test.YtabdicbmecgogaaJPEpt31
namespace Go.Proofs.Ytabdicbmecgogaa
section
open Go.RowKit
attribute [local go_sem ↓ high] loadEn storeEn loadDo storeDo builddo
attribute [local go_sem high] eqK neqK guardK eqN neqN guardN
/-- does the law take this call into its own script? -/
def upB (x : DOp) : Bool := decide (0 < x.e.d) && (x.e.neg && decide (x.e.id = 0 ∧ x.e.kind = 0 ∧ x.e.mode = 0 ∧ x.e.tg = nob) || !x.e.neg && decide (x.e.d < x.e.id))
theorem filt_takeD {L : List DOp} {j : Nat} {e : DOp} (f : DOp → Bool) (h : L[j]? = some e) : (L.take (j + 1)).filter f = (L.take j).filter f ++ if f e then [e] else [] := by
  rw [List.take_add_one, h, List.filter_append]
  congr 1
  cases hf : f e <;> simp [hf]
theorem mem_opS {s : Cs} {x : DOp} {e : En} (h : e ∈ (opS s x).L) : e ∈ s.L ∨ e = x.e := by
  unfold opS at h
  split at h
  · unfold putS at h
    split at h
    · exact .inl h
    · exact mem_put h
  split at h
  · exact .inl (mem_use h)
  split at h
  · exact .inl ((cut_sub x.ks s).subset h)
  split at h
  · cases h
  split at h
  · exact .inl (mem_evict h)
  · exact .inl h
/-- what a script leaves was put by it -/
theorem mem_runS {ops : List DOp} {e : En} (h : e ∈ (runS ops).L) : ∃ x ∈ ops, x.e = e := by
  unfold runS at h
  have : ∀ (l : List DOp) (s : Cs), e ∈ (l.foldl opS s).L → e ∈ s.L ∨ ∃ x ∈ l, x.e = e := fun l => by
    induction l with
    | nil => exact fun s h => .inl h
    | cons x l ih =>
      intro s h
      rw [List.foldl_cons] at h
      rcases ih _ h with h | ⟨y, hy, he⟩
      · rcases mem_opS h with h | h
        · exact .inl h
        · exact .inr ⟨x, List.mem_cons_self, h.symm⟩
      · exact .inr ⟨y, List.mem_cons_of_mem _ hy, he⟩
  rcases this ops Cs.clear h with h | h
  · cases h
  · exact h
theorem upB_ok {x : DOp} (h : upB x = true) : 0 < x.e.d ∧ (idOf x.e = 0 ∨ x.e.d < idOf x.e) := by
  unfold upB at h
  unfold idOf
  rw [Bool.and_eq_true, decide_eq_true_iff] at h
  refine ⟨h.1, ?_⟩
  cases hn : x.e.neg with
  | true => exact .inl rfl
  | false =>
    have h2 := h.2
    rw [hn] at h2
    simp at h2
    exact .inr h2
theorem maxD : ∀ (L : List En), L ≠ [] → ∃ e ∈ L, ∀ x ∈ L, x.d ≤ e.d
  | [], h => absurd rfl h
  | [a], _ => ⟨a, List.mem_cons_self, fun x hx => by simp at hx; rw [hx]; exact Int.le_refl _⟩
  | a :: b :: l, _ => by
    obtain ⟨e, he, hm⟩ := maxD (b :: l) (by simp)
    by_cases hle : a.d ≤ e.d
    · refine ⟨e, List.mem_cons_of_mem _ he, fun x hx => ?_⟩
      rcases List.mem_cons.1 hx with rfl | hx
      · exact hle
      · exact hm x hx
    · refine ⟨a, List.mem_cons_self, fun x hx => ?_⟩
      rcases List.mem_cons.1 hx with rfl | hx
      · exact Int.le_refl _
      · have := hm x hx; omega
/-- a leaf, as long as there are entries -/
theorem some_leaf {L : List En} (hk : KeysOk L) (h : ∀ e ∈ L, 0 < e.d ∧ (idOf e = 0 ∨ e.d < idOf e)) (hn : ∀ e ∈ L, leafB L e.key = false) : L = [] := by
  by_cases h0 : L = []
  · exact h0
  · obtain ⟨e, he, hm⟩ := maxD L h0
    have h1 := hn e he
    unfold leafB at h1
    rw [hk.get.2 ⟨he, rfl, rfl⟩] at h1
    simp only at h1
    have : (L.all fun x => decide (x.d ≠ idOf e)) = true := List.all_eq_true.2 fun x hx => by
      rw [decide_eq_true_iff]
      have h2 := hm x hx
      have h3 := (h x hx).1
      rcases (h e he).2 with h4 | h4 <;> omega
    rw [this] at h1
    cases h1
theorem rowD_arg {w : World} {a : Option Addr} {ops : List DOp} (h : RowD w a ops) {x : DOp} (hx : x ∈ ops) : ArgK w x.vk x.ks := by
  obtain ⟨i, hi⟩ := List.mem_iff_getElem?.1 hx
  rcases h with h | ⟨b, off, _, _, h⟩
  · rw [h] at hx; cases hx
  · exact (h i x hi).2
end
section
open Go.RowKit
attribute [local go_sem ↓ high] loadEn storeEn loadDo storeDo builddo
attribute [local go_sem high] eqK neqK guardK eqN neqN guardN

def TrP (ops : List DOp) (w : World) (r : Ending) (w' : World) : Prop := ∃ p m, r = .returned (.tuple #[.pointer (some ⟨p, 0, none⟩), .bool true]) ∧ Ld w w' p (runS (ops.filter upB)) m (fun _ => False) ∧ m ≤ ops.length
set_option maxRecDepth 100000 in
set_option maxHeartbeats 16000000 in
theorem tree_p (a : Option Addr) (cap : Nat) (ops : List DOp) (w : World) (row : RowD w a ops) (hlen : ops.length * 112 ≤ 140737488351232) :
    Calls Try.prog 14 #[.slice a ops.length cap] w fun x w' => TrP ops w x w' := by
  obtain ⟨n, hn⟩ : ∃ n, ops.length = n := ⟨_, rfl⟩
  have HR : Hid (RowD w a ops ∧ ops.length = n) := ⟨row, hn⟩
  rw [hn]
  rw [hn] at hlen
  clear row hn
  have onee := doOne_of
  have bx := box7
  go_enter Try.func14, Try.ntmps14
  go_wp2
  go_loopw [4, 5] (fun s4 s5 wr => ∃ i : Nat, i ≤ n ∧ s5 = .int .i64 i ∧ ∃ a2 n2 c2, s4 = .slice a2 n2 c2 ∧ Hid (RowO wr w.heap.size (.slice a2 n2 c2) ((ops.take i).filter upB) ∧ Below w.heap.size w wr)) (fun _ s5 _ => n - (intOf s5).toNat)
  case atStart => exact ⟨0, Nat.zero_le _, rfl, _, _, _, rfl, World.ownsRow_nil _ _ _ _, Below.refl _ _⟩
  case round =>
    obtain ⟨i, hi, rfl, a2, n2, c2, rfl, HJ⟩ := hrel
    by_cases hlt : i < n
    · obtain ⟨hrow, hbj⟩ := HJ.out
      obtain ⟨g, o, x, rfl, hx, hg, hc, hk⟩ := HR.out.1.get (i := i) (by rw [HR.out.2]; exact hlt)
      have hltz : (i : Int) < (n : Int) := by omega
      have hcw : ∀ (j : Nat) u, x.vals[j]? = some u → wr.cell? ⟨g, o + i * 10 + j, none⟩ = some u := fun j u hu => (hbj.cell (p := ⟨g, o + i * 10 + j, none⟩) hg).trans (hc j u hu)
      have h7 : Cells7 wr g (o + i * 10 + 2) x.e := ⟨hcw 2 _ rfl, hcw 3 _ rfl, hcw 4 _ rfl, hcw 5 _ rfl, hcw 6 _ rfl, hcw 7 _ rfl, hcw 8 _ rfl⟩
      have lE := enLd_at h7
      obtain ⟨W1, hW1⟩ : ∃ W, wr.alloc (.cells x.e.vals.toArray 47) = W := ⟨_, rfl⟩
      have b1 := boxO hW1
      have p0 := (cells7_of b1.1).c0
      have p2 := (cells7_of b1.1).c2
      have p3 := (cells7_of b1.1).c3
      have p4 := (cells7_of b1.1).c4
      have p5 := (cells7_of b1.1).c5
      have p6 := (cells7_of b1.1).c6
      simp only [Nat.zero_add] at p0 p2 p3 p4 p5 p6
      have hct := filt_takeD upB hx
      have hcl : ((ops.take i).filter upB).length ≤ i := Nat.le_trans (List.length_filter_le _ _) (by rw [List.length_take]; omega)
      have hw1 : IntKind.i64.wrap ((i : Int) + 1) = ((i + 1 : Nat) : Int) := by
        rw [show ((i + 1 : Nat) : Int) = (i : Int) + 1 by omega]; exact IntWalk.i64_in _ (by omega)
      have HKp : Hid (upB x = true → ∃ a6 N6 c6 Z, (∀ ty, (Builtin.append_ #[22, 22] ty #[.slice a2 n2 c2, .slice (some ⟨W1.heap.size, 0, none⟩) 1 1]).run Try.prog (W1.alloc (.cells x.vals.toArray 54)) = .ok (.slice a6 N6 c6) Z) ∧ Hid (RowO Z w.heap.size (.slice a6 N6 c6) ((ops.take (i + 1)).filter upB) ∧ Below w.heap.size w Z) ∧ (doLd (.pointer (some ⟨g, o + i * 10, none⟩))).run Try.prog W1 = .ok x.agg W1) := fun hu => by
        have bb := b1.2.1
        obtain ⟨a6, N6, c6, Z, r6, row6, o6⟩ := keep_op (X := W1) x (owns_below hrow bb) hk.one (chainB hbj bb).size (by omega)
        refine ⟨a6, N6, c6, Z, r6, ⟨by rw [hct, if_pos hu]; exact row6, ?_⟩, doLd_at fun j u hu => (bb.cell (cellLt (hcw j u hu))).trans (hcw j u hu)⟩
        exact o6.below (chainB hbj bb) (chainB hbj bb).size fun b hb' => (World.ownsRow.lt hrow b hb').1
      have HDr : Hid (upB x = false → RowO W1 w.heap.size (.slice a2 n2 c2) ((ops.take (i + 1)).filter upB) ∧ Below w.heap.size w W1) := fun hu => by
        have bb := b1.2.1
        exact ⟨by rw [hct, if_neg (by rw [hu]; decide), List.append_nil]; exact owns_below hrow bb, chainB hbj bb⟩
      have hub : upB x = (decide (0 < x.e.d) && (x.e.neg && decide (x.e.id = 0 ∧ x.e.kind = 0 ∧ x.e.mode = 0 ∧ x.e.tg = ⟨#[]⟩) || !x.e.neg && decide (x.e.d < x.e.id))) := rfl
      obtain ⟨Z0, hZ0⟩ : ∃ Z0, decide (x.e.id = 0 ∧ x.e.kind = 0 ∧ x.e.mode = 0 ∧ x.e.tg = ⟨#[]⟩) = Z0 := ⟨_, rfl⟩
      rw [hZ0] at hub
      clear HJ hrow b1 hcl hct hcw hc hk hx hbj h7
      by_cases hd : 0 < x.e.d
      · rw [decide_eq_true hd, Bool.true_and] at hub
        cases hneg : x.e.neg with
        | true =>
          rw [hneg] at hub p2
          cases Z0 with
          | true =>
            have hu : upB x = true := hub
            obtain ⟨a6, N6, c6, Z, r6, H7, ld6⟩ := HKp.out hu
            clear hub HKp HDr hu
            go_wp2_with (at_builtin; refine wpList_apR rfl (.tmp 49) (.tmp 54) 22 rfl _ _ (.slice a6 N6 c6) Z (by simp [Act.eval]) (by simp [Act.eval]) r6 ?_)
            go_roundw
            case rel => exact ⟨i + 1, by omega, rfl, _, _, _, rfl, H7⟩
            case measure => simp [intOf]; omega
          | false =>
            have hu : upB x = false := hub
            have H7 : Hid (RowO W1 w.heap.size (.slice a2 n2 c2) ((ops.take (i + 1)).filter upB) ∧ Below w.heap.size w W1) := HDr.out hu
            clear hub HKp HDr hu
            go_wp2
            go_roundw
            case rel => exact ⟨i + 1, by omega, rfl, _, _, _, rfl, H7⟩
            case measure => simp [intOf]; omega
        | false =>
          rw [hneg] at hub p2
          clear hZ0
          by_cases hid : x.e.d < x.e.id
          · have hu : upB x = true := by rw [hub, decide_eq_true hid]; simp
            obtain ⟨a6, N6, c6, Z, r6, H7, ld6⟩ := HKp.out hu
            clear hub HKp HDr hu
            go_wp2_with (at_builtin; refine wpList_apR rfl (.tmp 49) (.tmp 54) 22 rfl _ _ (.slice a6 N6 c6) Z (by simp [Act.eval]) (by simp [Act.eval]) r6 ?_)
            go_roundw
            case rel => exact ⟨i + 1, by omega, rfl, _, _, _, rfl, H7⟩
            case measure => simp [intOf]; omega
          · have hu : upB x = false := by rw [hub, decide_eq_false hid]; simp
            have H7 : Hid (RowO W1 w.heap.size (.slice a2 n2 c2) ((ops.take (i + 1)).filter upB) ∧ Below w.heap.size w W1) := HDr.out hu
            clear hub HKp HDr hu
            go_wp2
            go_roundw
            case rel => exact ⟨i + 1, by omega, rfl, _, _, _, rfl, H7⟩
            case measure => simp [intOf]; omega
      · have hu : upB x = false := by rw [hub, decide_eq_false hd]; rfl
        have H7 : Hid (RowO W1 w.heap.size (.slice a2 n2 c2) ((ops.take (i + 1)).filter upB) ∧ Below w.heap.size w W1) := HDr.out hu
        clear hub hZ0 HKp HDr hu
        go_wp2
        go_roundw
        case rel => exact ⟨i + 1, by omega, rfl, _, _, _, rfl, H7⟩
        case measure => simp [intOf]; omega
    · obtain rfl : i = n := by omega
      have hltz : ¬ (i : Int) < (i : Int) := by omega
      obtain ⟨hrow, hbj⟩ := HJ.out
      rw [List.take_of_length_le (by rw [HR.out.2]; exact Nat.le_refl _)] at hrow
      obtain ⟨U, hU⟩ : ∃ U, ops.filter upB = U := ⟨_, rfl⟩
      rw [hU] at hrow
      obtain ⟨hrd, hn2⟩ := hrow.rowD fun x hx => (rowD_arg HR.out.1 (List.mem_filter.1 (by rw [hU]; exact hx)).1).below hbj
      have hUl : n2 ≤ i := by
        rw [hn2, ← hU, ← HR.out.2]
        exact List.length_filter_le _ _
      have HO : Hid (Calls Try.prog 6 #[.slice a2 n2 c2] wr fun x w2 => ∃ p q, x = .returned (.tuple #[.pointer (some ⟨p, 0, none⟩), .pointer (some ⟨q, 0, none⟩), .bool true]) ∧ Ld w w2 p (runS (ops.filter upB)) n2 (fun _ => False)) := by
        rw [hn2, hU]
        refine (of_p a2 c2 U wr hrd (by omega)).mono ?_
        rintro x w2 ⟨p, q, rfl, ht⟩
        exact ⟨p, q, rfl, (ht.ld.up hbj).mono (fun _ hb => hb.elim) (Nat.le_refl _)⟩
      have HU : Hid (n2 ≤ ops.length) := by show n2 ≤ _; rw [HR.out.2]; exact hUl
      clear HJ hrow hrd hn2 hU hUl hbj onee bx
      go_wp2_with (go_at_call 6; refine HO.out.mono ?_; rintro r w9 ⟨p, q, rfl, hl⟩; have H9 : Hid (Ld w w9 p (runS (ops.filter upB)) n2 (fun _ => False)) := hl; clear hl)
      go_ret2
      exact ⟨p, n2, rfl, H9.out, HU.out⟩
end
section
open Go.RowKit
attribute [local go_sem ↓ high] loadEn storeEn
attribute [local go_sem high] eqK neqK guardK

theorem len_out {L : List En} (hk : KeysOk L) {e : En} (he : e ∈ L) : (outL L e.key).length + 1 = L.length := by
  rcases at_cases L e.key with ⟨h, -⟩ | ⟨i, x, -, -, hi, ho⟩
  · rw [hk.get.2 ⟨he, rfl, rfl⟩] at h; cases h
  · have hl := (List.getElem?_eq_some_iff.1 hi).1
    rw [ho hk, List.length_append, List.length_take, List.length_drop]
    omega
theorem trim_none (s : Cs) : trimS s s.L.length (negN s.L) = ([], s) := by
  have h1 : trimA s (negN s.L) = ([], s) := by
    unfold trimA
    rw [show ((negN s.L : Int) - max (negN s.L : Int) 0).toNat = 0 by omega]
    rfl
  unfold trimS
  rw [h1]
  have h2 : trimB s s.L.length = ([], s) := by
    unfold trimB
    rw [show ((s.L.length : Int) - max (s.L.length : Int) 0).toNat = 0 by omega]
    rfl
  rw [h2]; rfl
theorem trim_one {s : Cs} {k : Nat} {e : En} (hl : s.L.length = k + 1) (hv : vicS s false = some e) : trimS s k (negN s.L) = ([e.key], s.evict e.key) := by
  have h1 : trimA s (negN s.L) = ([], s) := by
    unfold trimA
    rw [show ((negN s.L : Int) - max (negN s.L : Int) 0).toNat = 0 by omega]
    rfl
  unfold trimS
  rw [h1]
  have h2 : trimB s k = ([e.key], s.evict e.key) := by
    unfold trimB
    rw [hl, show (((k + 1 : Nat) : Int) - max (k : Int) 0).toNat = 1 by omega, evN, hv]
    rfl
  rw [h2]; rfl
theorem up_victim {ops : List DOp} {k : Nat} (hl : (runS (ops.filter upB)).L.length = k + 1) : ∃ e, KeysOk (runS (ops.filter upB)).L → vicS (runS (ops.filter upB)) false = some e ∧ e ∈ (runS (ops.filter upB)).L := by
  by_cases hk : KeysOk (runS (ops.filter upB)).L
  · cases hv : vicS (runS (ops.filter upB)) false with
    | some e => exact ⟨e, fun _ => ⟨rfl, List.mem_of_find?_eq_some hv⟩⟩
    | none =>
      have hn : ∀ e ∈ (runS (ops.filter upB)).L, leafB (runS (ops.filter upB)).L e.key = false := fun e he => by
        have := List.find?_eq_none.1 hv e he
        simpa using this
      have := some_leaf hk (fun e he => by
        obtain ⟨x, hx, rfl⟩ := mem_runS he
        exact upB_ok (List.mem_filter.1 hx).2) hn
      rw [this] at hl
      cases hl
  · exact ⟨⟨0, ⟨#[]⟩, false, 0, 0, 0, ⟨#[]⟩⟩, fun h => (hk h).elim⟩
end
section
open Go.RowKit
attribute [local go_sem ↓ high] loadEn storeEn
attribute [local go_sem high] eqK neqK guardK

theorem wf_hi {z : Int} (h : (Lit.int .i64 z).wf = true) : z ≤ 9223372036854775807 := by
  have a1 : IntKind.i64.min = -9223372036854775808 := rfl
  have a2 : IntKind.i64.max = 9223372036854775807 := rfl
  simp only [Lit.wf, Bool.and_eq_true, decide_eq_true_eq] at h
  omega
/-- a directory that is whole behind was whole ahead, and has its names -/
def StaysW (d : Int) (s s' : Cs) : Prop := KeysOk s'.L ∧ (d ∈ s'.W → d ∈ s.W ∧ nameL s'.L d = nameL s.L d)
theorem StaysW.trans {d : Int} {s s' s'' : Cs} (h : StaysW d s s') (h' : StaysW d s' s'') : StaysW d s s'' :=
  ⟨h'.1, fun hd => ⟨(h.2 (h'.2 hd).1).1, (h'.2 hd).2.trans (h.2 (h'.2 hd).1).2⟩⟩
theorem staysW_evict {s : Cs} (hk : KeysOk s.L) (k : Ky) (d : Int) : StaysW d s (s.evict k) := by
  unfold Cs.evict
  cases hg : getL s.L k with
  | none => exact ⟨hk, fun h => ⟨h, rfl⟩⟩
  | some e =>
    refine ⟨hk.filter _, fun hd => ?_⟩
    have he := hk.get.1 hg
    have hd : d ∈ (if e.neg = true then s.W else partW s.W k.d) := hd
    have key : (e.neg = true ∨ e.d ≠ d) → nameL (outL s.L k) d = nameL s.L d := fun hx => by
      unfold nameL outL
      rw [List.filter_filter]
      refine List.filter_congr fun x hxm => ?_
      cases hh : hasK k x with
      | false => simp
      | true =>
        have h2 := hasK_iff.1 hh
        have : getL s.L k = some x := hk.get.2 ⟨hxm, h2.1, h2.2⟩
        rw [hg] at this
        injection this with this
        subst this
        rcases hx with hx | hx
        · simp [hx]
        · simp [hx]
    show d ∈ s.W ∧ nameL (outL s.L k) d = nameL s.L d
    cases hn : e.neg with
    | true =>
      rw [hn, if_pos rfl] at hd
      exact ⟨hd, key (.inl hn)⟩
    | false =>
      rw [hn, if_neg (by decide)] at hd
      have h3 := mem_partW.1 hd
      exact ⟨h3.1, key (.inr fun h => h3.2 (by rw [← he.2.1, h]))⟩
theorem staysW_evN (b : Bool) (d : Int) : ∀ (n : Nat) (s : Cs), KeysOk s.L → StaysW d s (evN b n s).2
  | 0, s, hk => ⟨hk, fun h => ⟨h, rfl⟩⟩
  | n + 1, s, hk => by
    rw [evN]
    cases hv : vicS s b with
    | none => exact ⟨hk, fun h => ⟨h, rfl⟩⟩
    | some e =>
      have h1 := staysW_evict hk e.key d
      exact h1.trans (staysW_evN b d n _ h1.1)
theorem staysW_trim (s : Cs) (most neg d : Int) (hk : KeysOk s.L) : StaysW d s (trimS s most neg).2 := by
  have h1 : StaysW d s (trimA s neg).2 := staysW_evN _ _ _ _ hk
  exact h1.trans (staysW_evN _ _ _ _ h1.1)
end
section
open Go.RowKit
attribute [local go_sem ↓ high] loadEn storeEn
attribute [local go_sem high] eqK neqK guardK

/-- what went and is no Neg had nothing below it then, and nothing of it stays -/
def GoneB (s s' : Cs) : Prop := KeysOk s'.L ∧ (∀ x ∈ s'.L, x ∈ s.L) ∧ ∀ e ∈ s.L, e ∉ s'.L → e.neg = false → ∀ x ∈ s'.L, x.d ≠ e.id
theorem GoneB.trans {s s' s'' : Cs} (h : GoneB s s') (h' : GoneB s' s'') : GoneB s s'' :=
  ⟨h'.1, fun x hx => h.2.1 x (h'.2.1 x hx), fun e he hn hg x hx => by
    by_cases h1 : e ∈ s'.L
    · exact h'.2.2 e h1 hn hg x hx
    · exact h.2.2 e he h1 hg x (h'.2.1 x hx)⟩
theorem goneB_refl {s : Cs} (hk : KeysOk s.L) : GoneB s s := ⟨hk, fun _ hx => hx, fun _ he hn => (hn he).elim⟩
theorem goneB_evict {s : Cs} (hk : KeysOk s.L) {b : Bool} {v : En} (hv : vicS s b = some v) : GoneB s (s.evict v.key) := by
  have hvm : v ∈ s.L := List.mem_of_find?_eq_some hv
  have hvp : mayB b s.L v = true := List.find?_some hv
  refine ⟨by rw [evict_L]; exact hk.filter _, fun x hx => ?_, fun e he hn hg x hx => ?_⟩
  · rw [evict_L] at hx
    exact (mem_outL.1 hx).1
  · rw [evict_L] at hx hn
    have hek : e.d = v.d ∧ e.nm = v.nm := by
      by_cases hh : e.d = v.key.d ∧ e.nm = v.key.nm
      · exact hh
      · exact (hn (mem_outL.2 ⟨he, hh⟩)).elim
    have hev : e = v := key_inj hk he hvm (by unfold En.key; rw [hek.1, hek.2])
    subst hev
    cases b with
    | true =>
      have : e.neg = true := hvp
      rw [hg] at this; cases this
    | false =>
      have h1 : leafB s.L e.key = true := hvp
      have h2 := (leaf_iff hk he).1 h1 x (mem_outL.1 hx).1
      unfold idOf at h2
      rw [hg] at h2
      exact h2
theorem goneB_evN (b : Bool) : ∀ (n : Nat) (s : Cs), KeysOk s.L → GoneB s (evN b n s).2
  | 0, s, hk => goneB_refl hk
  | n + 1, s, hk => by
    rw [evN]
    cases hv : vicS s b with
    | none => exact goneB_refl hk
    | some e =>
      have h1 := goneB_evict hk hv
      exact h1.trans (goneB_evN b n _ h1.1)
theorem goneB_trim (s : Cs) (most neg : Int) (hk : KeysOk s.L) : GoneB s (trimS s most neg).2 := by
  have h1 : GoneB s (trimA s neg).2 := goneB_evN _ _ _ hk
  exact h1.trans (goneB_evN _ _ _ h1.1)
end
end Go.Proofs.Ytabdicbmecgogaa
