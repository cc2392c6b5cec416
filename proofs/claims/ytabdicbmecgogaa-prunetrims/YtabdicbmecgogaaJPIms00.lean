/- The document's Victim (vistaref13). -/
import Derived.Test.YtabdicbmecgogaaJPEpt35
import Derived.Test.YtabdicbmecgogaaJPEpt31
namespace Go.Proofs.Ytabdicbmecgogaa
section
open Go.RowKit
attribute [local go_sem ↓ high] loadEn storeEn
attribute [local go_sem high] eqK neqK guardK

theorem rvic_quit (w : World) {g : Nat} (h : w.heap[g]? = some (.cells #[.int .i64 0, .string ⟨#[]⟩] 28 (0, 0))) : w.cell? ⟨g, 0, none⟩ = some (.int .i64 0) ∧ w.cell? ⟨g, 1, none⟩ = some (.string ⟨#[]⟩) ∧ w.frozen? ⟨g, 0, none⟩ = false ∧ w.frozen? ⟨g, 1, none⟩ = false :=
  ⟨by rw [cell_of h]; rfl, by rw [cell_of h]; rfl, free_of h 0, free_of h 1⟩
set_option maxRecDepth 20000 in
set_option maxHeartbeats 4000000 in
theorem rvic_d (b : Bool) (B q : Nat) (kc : Kc) (s : Cs) (w : World) (h : IsK w B q kc s) (hl : s.L.length ≤ 1400000000000) : Calls Try.prog 8 #[.pointer (some ⟨q, 0, none⟩), .bool b] w fun x w' => x = .returned (vicV (vicS s b)) ∧ Below w.heap.size w w' := by
  obtain ⟨W, hW⟩ : ∃ W, w.alloc (.cells #[.int .i64 0, .string ⟨#[]⟩] 28) = W := ⟨_, rfl⟩
  have bW := boxO hW
  obtain ⟨vl, vw⟩ := kc
  obtain ⟨a, cap, hv⟩ := owns_len h.rowL
  simp only at hv
  subst hv
  obtain ⟨n, hn⟩ : ∃ n, s.L.length = n := ⟨_, rfl⟩
  rw [hn] at hl
  have HI : Hid (IsK W B q ⟨.slice a n cap, vw⟩ s ∧ s.L.length = n ∧ Below w.heap.size w W ∧ W.heap[w.heap.size]? = some (.cells #[.int .i64 0, .string ⟨#[]⟩] 28 (0, 0)) ∧ s.L.length ≤ 1400000000000) := ⟨by rw [← hn]; exact h.below bW.2.1, hn, bW.2.1, bW.1, by omega⟩
  clear h hn bW
  go_enter Try.func8, Try.ntmps8
  go_wp2
  go_loopw [6] (fun s6 wr => ∃ i : Nat, i ≤ n ∧ s6 = .int .i64 (i : Int) ∧ Hid ((∀ (j : Nat) x, j < i → s.L[j]? = some x → mayB b s.L x = false) ∧ Below W.heap.size W wr)) (fun s6 _ => n - (intOf s6).toNat)
  case atStart => exact ⟨0, Nat.zero_le _, rfl, fun j x hj => by omega, Below.refl _ _⟩
  case round =>
    obtain ⟨i, hi, rfl, HJ⟩ := hrel
    have hk := HI.out.1.below HJ.out.2
    have hkb := hkeep HI.out.2.2.2.1 HJ.out.2
    obtain ⟨c0, -, -⟩ := hk.cells
    simp only at c0
    have HZ : Hid (Below w.heap.size w wr) := chainB HI.out.2.2.1 HJ.out.2
    by_cases hlt : i < n
    · have hltz : (i : Int) < (n : Int) := by omega
      obtain ⟨x, hx⟩ : ∃ x, s.L[i]? = some x := ⟨_, List.getElem?_eq_getElem (by rw [HI.out.2.1]; exact hlt)⟩
      obtain ⟨g, rfl, -, -, -, hc, -⟩ := owns_entry hk.rowL hx
      have x0 := hc.c0
      have x1 := hc.c1
      have x2 := hc.c2
      have HLf : Hid (Calls Try.prog 34 #[.pointer (some ⟨q, 0, none⟩), .agg #[.int .i64 x.d, .string x.nm]] wr fun y w' => y = .returned (.bool (leafB s.L x.key)) ∧ Below wr.heap.size wr w') := rleaf_d B q _ s x.key wr hk HI.out.2.2.2.2
      obtain ⟨m, hm⟩ : ∃ m, mayB b s.L x = m := ⟨_, rfl⟩
      have HX : Hid (s.L[i]? = some x ∧ mayB b s.L x = m) := ⟨hx, hm⟩
      have HN : m = false → Hid ((∀ (j : Nat) y, j < i + 1 → s.L[j]? = some y → mayB b s.L y = false)) := fun e j y hj hy => by
        by_cases e1 : j = i
        · subst e1
          rw [hx] at hy
          cases hy
          rw [hm]; exact e
        · exact HJ.out.1 j y (by omega) hy
      have HV : m = true → Hid (vicS s b = some x) := fun e => by
        show vicS s b = some x
        rw [vicS_is, List.find?_eq_some_iff_getElem]
        obtain ⟨hil, hie⟩ := List.getElem?_eq_some_iff.1 hx
        refine ⟨by rw [hm]; exact e, i, hil, hie, fun j hj => ?_⟩
        have := HJ.out.1 j s.L[j] hj (List.getElem?_eq_getElem (by omega))
        simpa using this
      cases b with
      | true =>
        have hm' : x.neg = m := hm
        rw [hm'] at x2
        cases m with
        | true =>
          have HV' := HV rfl
          obtain ⟨z0, z1, f0, f1⟩ := rvic_quit wr hkb
          have HKb : Hid (wr.heap[w.heap.size]? = some (.cells #[.int .i64 0, .string ⟨#[]⟩] 28 (0, 0))) := hkb
          clear hx hm hm' hc hk hkb HN HV HJ HLf
          go_wp2
          (try simp only [Exit.inBlock, Exit.then])
          refine bodyPost_ret (ret_key2 rfl _ _ w.heap.size rfl (hset2 HKb.out)) rfl ?_
          exact ⟨by rw [HV'.out]; rfl, (HZ.out.setCell (Nat.le_refl _) _).setCell (Nat.le_refl _) _⟩
        | false =>
          have HN' := HN rfl
          clear hx hm hm' hc hk hkb HN HV HLf
          go_wp2
          go_roundw
          case rel => exact ⟨i + 1, by omega, rfl, HN'.out, HJ.out.2⟩
          case measure => simp [intOf]; omega
      | false =>
        have hm' : leafB s.L x.key = m := hm
        rw [hm'] at HLf
        cases m with
        | true =>
          have HV' := HV rfl
          have HK2 : Hid (∀ w5, Below wr.heap.size wr w5 → w5.cell? ⟨q, 0, none⟩ = some (.slice (some ⟨g, 0, none⟩) n cap) ∧ w5.cell? ⟨g, i * 7, none⟩ = some (.int .i64 x.d) ∧ w5.cell? ⟨g, i * 7 + 1, none⟩ = some (.string x.nm) ∧ w5.heap[w.heap.size]? = some (.cells #[.int .i64 0, .string ⟨#[]⟩] 28 (0, 0)) ∧ Below w.heap.size w w5) := fun w5 hb => ⟨(hb.cell (cellLt c0)).trans c0, (hb.cell (cellLt x0)).trans x0, (hb.cell (cellLt x1)).trans x1, hkeep hkb hb, chainB HZ.out hb⟩
          clear hx hm hm' hc hk hkb HN HV HJ
          go_wp2_with (go_at_call 34; refine HLf.out.mono ?_; rintro r w5 ⟨rfl, hb⟩; obtain ⟨d0, d1, d2, dk, dz⟩ := HK2.out w5 hb; obtain ⟨z0, z1, f0, f1⟩ := rvic_quit w5 dk; have HKb : Hid (w5.heap[w.heap.size]? = some (.cells #[.int .i64 0, .string ⟨#[]⟩] 28 (0, 0)) ∧ Below w.heap.size w w5) := ⟨dk, dz⟩; clear dk dz hb)
          (try simp only [Exit.inBlock, Exit.then])
          refine bodyPost_ret (ret_key2 rfl _ _ w.heap.size rfl (hset2 HKb.out.1)) rfl ?_
          exact ⟨by rw [HV'.out]; rfl, (HKb.out.2.setCell (Nat.le_refl _) _).setCell (Nat.le_refl _) _⟩
        | false =>
          have HN' := HN rfl
          clear hx hm hm' hc hk hkb HN HV
          go_wp2_with (go_at_call 34; refine HLf.out.mono ?_; rintro r w5 ⟨rfl, hb⟩; have H5 : Hid (Below W.heap.size W w5) := chainB HJ.out.2 hb; clear hb)
          go_roundw
          case rel => exact ⟨i + 1, by omega, rfl, HN'.out, H5.out⟩
          case measure => simp [intOf]; omega
    · obtain rfl : i = n := by omega
      have hltz : ¬ (i : Int) < (i : Int) := by omega
      have HV : Hid (vicS s b = none) := by
        show vicS s b = none
        rw [vicS_is, List.find?_eq_none]
        intro x hx
        obtain ⟨j, hj⟩ := List.getElem?_of_mem hx
        have := HJ.out.1 j x (by have := (List.getElem?_eq_some_iff.1 hj).1; have := HI.out.2.1; omega) hj
        rw [this]; decide
      obtain ⟨z0, z1, f0, f1⟩ := rvic_quit wr hkb
      have HKb : Hid (wr.heap[w.heap.size]? = some (.cells #[.int .i64 0, .string ⟨#[]⟩] 28 (0, 0))) := hkb
      clear hk hkb HJ hlt
      go_wp2
      (try simp only [Exit.inBlock, Exit.then])
      refine bodyPost_ret (ret_key2 rfl _ _ w.heap.size rfl (hset2 HKb.out)) rfl ?_
      exact ⟨by rw [HV.out]; rfl, (HZ.out.setCell (Nat.le_refl _) _).setCell (Nat.le_refl _) _⟩
end
section
open Go.RowKit
attribute [local go_sem ↓ high] loadEn storeEn loadDo storeDo builddo
attribute [local go_sem high] eqK neqK guardK eqN neqN guardN
/-- does the law take this call into its own script? -/
def upB (x : DOp) : Bool := decide (0 < x.e.d) && (x.e.neg && decide (x.e.id = 0 ∧ x.e.kind = 0 ∧ x.e.mode = 0 ∧ x.e.tg = nob) || !x.e.neg && decide (x.e.d < x.e.id))
theorem filt_takeD {L : List DOp} {j : Nat} {e : DOp} (f : DOp → Bool) (h : L[j]? = some e) : (L.take (j + 1)).filter f = (L.take j).filter f ++ if f e then [e] else [] := by
  rw [List.take_add_one, h, List.filter_append]
  congr 1
  cases hf : f e <;> simp [hf]
theorem mem_opS {s : Cs} {x : DOp} {e : En} (h : e ∈ (opS s x).L) : e ∈ s.L ∨ e = x.e := by
  unfold opS at h
  split at h
  · unfold putS at h
    split at h
    · exact .inl h
    · exact mem_put h
  split at h
  · exact .inl (mem_use h)
  split at h
  · exact .inl ((cut_sub x.ks s).subset h)
  split at h
  · cases h
  split at h
  · exact .inl (mem_evict h)
  · exact .inl h
/-- what a script leaves was put by it -/
theorem mem_runS {ops : List DOp} {e : En} (h : e ∈ (runS ops).L) : ∃ x ∈ ops, x.e = e := by
  unfold runS at h
  have : ∀ (l : List DOp) (s : Cs), e ∈ (l.foldl opS s).L → e ∈ s.L ∨ ∃ x ∈ l, x.e = e := fun l => by
    induction l with
    | nil => exact fun s h => .inl h
    | cons x l ih =>
      intro s h
      rw [List.foldl_cons] at h
      rcases ih _ h with h | ⟨y, hy, he⟩
      · rcases mem_opS h with h | h
        · exact .inl h
        · exact .inr ⟨x, List.mem_cons_self, h.symm⟩
      · exact .inr ⟨y, List.mem_cons_of_mem _ hy, he⟩
  rcases this ops Cs.clear h with h | h
  · cases h
  · exact h
theorem upB_ok {x : DOp} (h : upB x = true) : 0 < x.e.d ∧ (idOf x.e = 0 ∨ x.e.d < idOf x.e) := by
  unfold upB at h
  unfold idOf
  rw [Bool.and_eq_true, decide_eq_true_iff] at h
  refine ⟨h.1, ?_⟩
  cases hn : x.e.neg with
  | true => exact .inl rfl
  | false =>
    have h2 := h.2
    rw [hn] at h2
    simp at h2
    exact .inr h2
theorem maxD : ∀ (L : List En), L ≠ [] → ∃ e ∈ L, ∀ x ∈ L, x.d ≤ e.d
  | [], h => absurd rfl h
  | [a], _ => ⟨a, List.mem_cons_self, fun x hx => by simp at hx; rw [hx]; exact Int.le_refl _⟩
  | a :: b :: l, _ => by
    obtain ⟨e, he, hm⟩ := maxD (b :: l) (by simp)
    by_cases hle : a.d ≤ e.d
    · refine ⟨e, List.mem_cons_of_mem _ he, fun x hx => ?_⟩
      rcases List.mem_cons.1 hx with rfl | hx
      · exact hle
      · exact hm x hx
    · refine ⟨a, List.mem_cons_self, fun x hx => ?_⟩
      rcases List.mem_cons.1 hx with rfl | hx
      · exact Int.le_refl _
      · have := hm x hx; omega
/-- a leaf, as long as there are entries -/
theorem some_leaf {L : List En} (hk : KeysOk L) (h : ∀ e ∈ L, 0 < e.d ∧ (idOf e = 0 ∨ e.d < idOf e)) (hn : ∀ e ∈ L, leafB L e.key = false) : L = [] := by
  by_cases h0 : L = []
  · exact h0
  · obtain ⟨e, he, hm⟩ := maxD L h0
    have h1 := hn e he
    unfold leafB at h1
    rw [hk.get.2 ⟨he, rfl, rfl⟩] at h1
    simp only at h1
    have : (L.all fun x => decide (x.d ≠ idOf e)) = true := List.all_eq_true.2 fun x hx => by
      rw [decide_eq_true_iff]
      have h2 := hm x hx
      have h3 := (h x hx).1
      rcases (h e he).2 with h4 | h4 <;> omega
    rw [this] at h1
    cases h1
theorem rowD_arg {w : World} {a : Option Addr} {ops : List DOp} (h : RowD w a ops) {x : DOp} (hx : x ∈ ops) : ArgK w x.vk x.ks := by
  obtain ⟨i, hi⟩ := List.mem_iff_getElem?.1 hx
  rcases h with h | ⟨b, off, _, _, h⟩
  · rw [h] at hx; cases hx
  · exact (h i x hi).2
end
section
open Go.RowKit
attribute [local go_sem ↓ high] loadEn storeEn loadDo storeDo builddo
attribute [local go_sem high] eqK neqK guardK eqN neqN guardN

def TrP (ops : List DOp) (w : World) (r : Ending) (w' : World) : Prop := ∃ p m, r = .returned (.tuple #[.pointer (some ⟨p, 0, none⟩), .bool true]) ∧ Ld w w' p (runS (ops.filter upB)) m (fun _ => False) ∧ m ≤ ops.length
set_option maxRecDepth 100000 in
set_option maxHeartbeats 16000000 in
theorem tree_p (a : Option Addr) (cap : Nat) (ops : List DOp) (w : World) (row : RowD w a ops) (hlen : ops.length * 112 ≤ 140737488351232) :
    Calls Try.prog 14 #[.slice a ops.length cap] w fun x w' => TrP ops w x w' := by
  obtain ⟨n, hn⟩ : ∃ n, ops.length = n := ⟨_, rfl⟩
  have HR : Hid (RowD w a ops ∧ ops.length = n) := ⟨row, hn⟩
  rw [hn]
  rw [hn] at hlen
  clear row hn
  have onee := doOne_of
  have bx := box7
  go_enter Try.func14, Try.ntmps14
  go_wp2
  go_loopw [4, 5] (fun s4 s5 wr => ∃ i : Nat, i ≤ n ∧ s5 = .int .i64 i ∧ ∃ a2 n2 c2, s4 = .slice a2 n2 c2 ∧ Hid (RowO wr w.heap.size (.slice a2 n2 c2) ((ops.take i).filter upB) ∧ Below w.heap.size w wr)) (fun _ s5 _ => n - (intOf s5).toNat)
  case atStart => exact ⟨0, Nat.zero_le _, rfl, _, _, _, rfl, World.ownsRow_nil _ _ _ _, Below.refl _ _⟩
  case round =>
    obtain ⟨i, hi, rfl, a2, n2, c2, rfl, HJ⟩ := hrel
    by_cases hlt : i < n
    · obtain ⟨hrow, hbj⟩ := HJ.out
      obtain ⟨g, o, x, rfl, hx, hg, hc, hk⟩ := HR.out.1.get (i := i) (by rw [HR.out.2]; exact hlt)
      have hltz : (i : Int) < (n : Int) := by omega
      have hcw : ∀ (j : Nat) u, x.vals[j]? = some u → wr.cell? ⟨g, o + i * 10 + j, none⟩ = some u := fun j u hu => (hbj.cell (p := ⟨g, o + i * 10 + j, none⟩) hg).trans (hc j u hu)
      have h7 : Cells7 wr g (o + i * 10 + 2) x.e := ⟨hcw 2 _ rfl, hcw 3 _ rfl, hcw 4 _ rfl, hcw 5 _ rfl, hcw 6 _ rfl, hcw 7 _ rfl, hcw 8 _ rfl⟩
      have lE := enLd_at h7
      obtain ⟨W1, hW1⟩ : ∃ W, wr.alloc (.cells x.e.vals.toArray 47) = W := ⟨_, rfl⟩
      have b1 := boxO hW1
      have p0 := (cells7_of b1.1).c0
      have p2 := (cells7_of b1.1).c2
      have p3 := (cells7_of b1.1).c3
      have p4 := (cells7_of b1.1).c4
      have p5 := (cells7_of b1.1).c5
      have p6 := (cells7_of b1.1).c6
      simp only [Nat.zero_add] at p0 p2 p3 p4 p5 p6
      have hct := filt_takeD upB hx
      have hcl : ((ops.take i).filter upB).length ≤ i := Nat.le_trans (List.length_filter_le _ _) (by rw [List.length_take]; omega)
      have hw1 : IntKind.i64.wrap ((i : Int) + 1) = ((i + 1 : Nat) : Int) := by
        rw [show ((i + 1 : Nat) : Int) = (i : Int) + 1 by omega]; exact IntWalk.i64_in _ (by omega)
      have HKp : Hid (upB x = true → ∃ a6 N6 c6 Z, (∀ ty, (Builtin.append_ #[22, 22] ty #[.slice a2 n2 c2, .slice (some ⟨W1.heap.size, 0, none⟩) 1 1]).run Try.prog (W1.alloc (.cells x.vals.toArray 54)) = .ok (.slice a6 N6 c6) Z) ∧ Hid (RowO Z w.heap.size (.slice a6 N6 c6) ((ops.take (i + 1)).filter upB) ∧ Below w.heap.size w Z) ∧ (doLd (.pointer (some ⟨g, o + i * 10, none⟩))).run Try.prog W1 = .ok x.agg W1) := fun hu => by
        have bb := b1.2.1
        obtain ⟨a6, N6, c6, Z, r6, row6, o6⟩ := keep_op (X := W1) x (owns_below hrow bb) hk.one (chainB hbj bb).size (by omega)
        refine ⟨a6, N6, c6, Z, r6, ⟨by rw [hct, if_pos hu]; exact row6, ?_⟩, doLd_at fun j u hu => (bb.cell (cellLt (hcw j u hu))).trans (hcw j u hu)⟩
        exact o6.below (chainB hbj bb) (chainB hbj bb).size fun b hb' => (World.ownsRow.lt hrow b hb').1
      have HDr : Hid (upB x = false → RowO W1 w.heap.size (.slice a2 n2 c2) ((ops.take (i + 1)).filter upB) ∧ Below w.heap.size w W1) := fun hu => by
        have bb := b1.2.1
        exact ⟨by rw [hct, if_neg (by rw [hu]; decide), List.append_nil]; exact owns_below hrow bb, chainB hbj bb⟩
      have hub : upB x = (decide (0 < x.e.d) && (x.e.neg && decide (x.e.id = 0 ∧ x.e.kind = 0 ∧ x.e.mode = 0 ∧ x.e.tg = ⟨#[]⟩) || !x.e.neg && decide (x.e.d < x.e.id))) := rfl
      obtain ⟨Z0, hZ0⟩ : ∃ Z0, decide (x.e.id = 0 ∧ x.e.kind = 0 ∧ x.e.mode = 0 ∧ x.e.tg = ⟨#[]⟩) = Z0 := ⟨_, rfl⟩
      rw [hZ0] at hub
      clear HJ hrow b1 hcl hct hcw hc hk hx hbj h7
      by_cases hd : 0 < x.e.d
      · rw [decide_eq_true hd, Bool.true_and] at hub
        cases hneg : x.e.neg with
        | true =>
          rw [hneg] at hub p2
          cases Z0 with
          | true =>
            have hu : upB x = true := hub
            obtain ⟨a6, N6, c6, Z, r6, H7, ld6⟩ := HKp.out hu
            clear hub HKp HDr hu
            go_wp2_with (at_builtin; refine wpList_apR rfl (.tmp 49) (.tmp 54) 22 rfl _ _ (.slice a6 N6 c6) Z (by simp [Act.eval]) (by simp [Act.eval]) r6 ?_)
            go_roundw
            case rel => exact ⟨i + 1, by omega, rfl, _, _, _, rfl, H7⟩
            case measure => simp [intOf]; omega
          | false =>
            have hu : upB x = false := hub
            have H7 : Hid (RowO W1 w.heap.size (.slice a2 n2 c2) ((ops.take (i + 1)).filter upB) ∧ Below w.heap.size w W1) := HDr.out hu
            clear hub HKp HDr hu
            go_wp2
            go_roundw
            case rel => exact ⟨i + 1, by omega, rfl, _, _, _, rfl, H7⟩
            case measure => simp [intOf]; omega
        | false =>
          rw [hneg] at hub p2
          clear hZ0
          by_cases hid : x.e.d < x.e.id
          · have hu : upB x = true := by rw [hub, decide_eq_true hid]; simp
            obtain ⟨a6, N6, c6, Z, r6, H7, ld6⟩ := HKp.out hu
            clear hub HKp HDr hu
            go_wp2_with (at_builtin; refine wpList_apR rfl (.tmp 49) (.tmp 54) 22 rfl _ _ (.slice a6 N6 c6) Z (by simp [Act.eval]) (by simp [Act.eval]) r6 ?_)
            go_roundw
            case rel => exact ⟨i + 1, by omega, rfl, _, _, _, rfl, H7⟩
            case measure => simp [intOf]; omega
          · have hu : upB x = false := by rw [hub, decide_eq_false hid]; simp
            have H7 : Hid (RowO W1 w.heap.size (.slice a2 n2 c2) ((ops.take (i + 1)).filter upB) ∧ Below w.heap.size w W1) := HDr.out hu
            clear hub HKp HDr hu
            go_wp2
            go_roundw
            case rel => exact ⟨i + 1, by omega, rfl, _, _, _, rfl, H7⟩
            case measure => simp [intOf]; omega
      · have hu : upB x = false := by rw [hub, decide_eq_false hd]; rfl
        have H7 : Hid (RowO W1 w.heap.size (.slice a2 n2 c2) ((ops.take (i + 1)).filter upB) ∧ Below w.heap.size w W1) := HDr.out hu
        clear hub hZ0 HKp HDr hu
        go_wp2
        go_roundw
        case rel => exact ⟨i + 1, by omega, rfl, _, _, _, rfl, H7⟩
        case measure => simp [intOf]; omega
    · obtain rfl : i = n := by omega
      have hltz : ¬ (i : Int) < (i : Int) := by omega
      obtain ⟨hrow, hbj⟩ := HJ.out
      rw [List.take_of_length_le (by rw [HR.out.2]; exact Nat.le_refl _)] at hrow
      obtain ⟨U, hU⟩ : ∃ U, ops.filter upB = U := ⟨_, rfl⟩
      rw [hU] at hrow
      obtain ⟨hrd, hn2⟩ := hrow.rowD fun x hx => (rowD_arg HR.out.1 (List.mem_filter.1 (by rw [hU]; exact hx)).1).below hbj
      have hUl : n2 ≤ i := by
        rw [hn2, ← hU, ← HR.out.2]
        exact List.length_filter_le _ _
      have HO : Hid (Calls Try.prog 6 #[.slice a2 n2 c2] wr fun x w2 => ∃ p q, x = .returned (.tuple #[.pointer (some ⟨p, 0, none⟩), .pointer (some ⟨q, 0, none⟩), .bool true]) ∧ Ld w w2 p (runS (ops.filter upB)) n2 (fun _ => False)) := by
        rw [hn2, hU]
        refine (of_p a2 c2 U wr hrd (by omega)).mono ?_
        rintro x w2 ⟨p, q, rfl, ht⟩
        exact ⟨p, q, rfl, (ht.ld.up hbj).mono (fun _ hb => hb.elim) (Nat.le_refl _)⟩
      have HU : Hid (n2 ≤ ops.length) := by show n2 ≤ _; rw [HR.out.2]; exact hUl
      clear HJ hrow hrd hn2 hU hUl hbj onee bx
      go_wp2_with (go_at_call 6; refine HO.out.mono ?_; rintro r w9 ⟨p, q, rfl, hl⟩; have H9 : Hid (Ld w w9 p (runS (ops.filter upB)) n2 (fun _ => False)) := hl; clear hl)
      go_ret2
      exact ⟨p, n2, rfl, H9.out, HU.out⟩
end
section
open Go.RowKit
attribute [local go_sem ↓ high] loadEn storeEn
attribute [local go_sem high] eqK neqK guardK

theorem len_out {L : List En} (hk : KeysOk L) {e : En} (he : e ∈ L) : (outL L e.key).length + 1 = L.length := by
  rcases at_cases L e.key with ⟨h, -⟩ | ⟨i, x, -, -, hi, ho⟩
  · rw [hk.get.2 ⟨he, rfl, rfl⟩] at h; cases h
  · have hl := (List.getElem?_eq_some_iff.1 hi).1
    rw [ho hk, List.length_append, List.length_take, List.length_drop]
    omega
theorem trim_none (s : Cs) : trimS s s.L.length (negN s.L) = ([], s) := by
  have h1 : trimA s (negN s.L) = ([], s) := by
    unfold trimA
    rw [show ((negN s.L : Int) - max (negN s.L : Int) 0).toNat = 0 by omega]
    rfl
  unfold trimS
  rw [h1]
  have h2 : trimB s s.L.length = ([], s) := by
    unfold trimB
    rw [show ((s.L.length : Int) - max (s.L.length : Int) 0).toNat = 0 by omega]
    rfl
  rw [h2]; rfl
theorem trim_one {s : Cs} {k : Nat} {e : En} (hl : s.L.length = k + 1) (hv : vicS s false = some e) : trimS s k (negN s.L) = ([e.key], s.evict e.key) := by
  have h1 : trimA s (negN s.L) = ([], s) := by
    unfold trimA
    rw [show ((negN s.L : Int) - max (negN s.L : Int) 0).toNat = 0 by omega]
    rfl
  unfold trimS
  rw [h1]
  have h2 : trimB s k = ([e.key], s.evict e.key) := by
    unfold trimB
    rw [hl, show (((k + 1 : Nat) : Int) - max (k : Int) 0).toNat = 1 by omega, evN, hv]
    rfl
  rw [h2]; rfl
theorem up_victim {ops : List DOp} {k : Nat} (hl : (runS (ops.filter upB)).L.length = k + 1) : ∃ e, KeysOk (runS (ops.filter upB)).L → vicS (runS (ops.filter upB)) false = some e ∧ e ∈ (runS (ops.filter upB)).L := by
  by_cases hk : KeysOk (runS (ops.filter upB)).L
  · cases hv : vicS (runS (ops.filter upB)) false with
    | some e => exact ⟨e, fun _ => ⟨rfl, List.mem_of_find?_eq_some hv⟩⟩
    | none =>
      have hn : ∀ e ∈ (runS (ops.filter upB)).L, leafB (runS (ops.filter upB)).L e.key = false := fun e he => by
        have := List.find?_eq_none.1 hv e he
        simpa using this
      have := some_leaf hk (fun e he => by
        obtain ⟨x, hx, rfl⟩ := mem_runS he
        exact upB_ok (List.mem_filter.1 hx).2) hn
      rw [this] at hl
      cases hl
  · exact ⟨⟨0, ⟨#[]⟩, false, 0, 0, 0, ⟨#[]⟩⟩, fun h => (hk h).elim⟩
end
end Go.Proofs.Ytabdicbmecgogaa
