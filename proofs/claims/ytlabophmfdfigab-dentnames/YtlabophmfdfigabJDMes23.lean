/- Lists compared, of any length; keys, entries and calls among the arguments by value. -/
import Derived.Test.YtlabophmfdfigabJDMes22
namespace Go.Proofs.Ytlabophmfdfigab
section
section
open Go.RowKit
attribute [local go_sem high] eqK neqK eqE neqE eqN neqN guardK guardE guardN
set_option maxHeartbeats 4000000 in
theorem sameE_big (v v' : Value) (l l' : List En) (base base' : Nat) (w : World) (h : Row7 w base v l) (h' : Row7 w base' v' l') (hl : l.length ≤ 140737488351232) (hl' : l'.length ≤ 140737488351232) :
    Calls Try.prog 14 #[v, v'] w fun e w' => e = .returned (.bool (sameEs l l')) ∧ Below w.heap.size w w' := by
  obtain ⟨a, cap, rfl⟩ := owns_len h
  obtain ⟨a', cap', rfl⟩ := owns_len h'
  by_cases hn : l.length = l'.length
  · obtain ⟨n, hn1⟩ : ∃ n, l.length = n := ⟨_, rfl⟩
    have hn2 : l'.length = n := by omega
    rw [hn1] at hl
    have HC : Hid (Row7 w base (.slice a n cap) l ∧ Row7 w base' (.slice a' n cap') l' ∧ l.length = n ∧ l'.length = n) := ⟨by rw [← hn1]; exact h, by rw [← hn2]; exact h', hn1, hn2⟩
    rw [hn1, hn2]
    clear h h' hn hn1 hn2 hl'
    go_enter Try.func14, Try.ntmps14
    go_wp2
    go_loopw [5] (fun i wr => ∃ k : Nat, k ≤ n ∧ i = .int .i64 k ∧ l.take k = l'.take k ∧ Below w.heap.size w wr) (fun i _ => n - (intOf i).toNat)
    case atStart => exact ⟨0, Nat.zero_le _, rfl, rfl, Below.refl _ _⟩
    case round =>
      obtain ⟨k, hk, rfl, ht, hb⟩ := hrel
      by_cases hlt : k < n
      · obtain ⟨e, he⟩ : ∃ x, l[k]? = some x := ⟨_, List.getElem?_eq_getElem (by rw [HC.out.2.2.1]; exact hlt)⟩
        obtain ⟨f, hf⟩ : ∃ x, l'[k]? = some x := ⟨_, List.getElem?_eq_getElem (by rw [HC.out.2.2.2]; exact hlt)⟩
        obtain ⟨g, rfl, -, -, -, hc, -⟩ := owns_entry (HC.out.1.below hb) he
        obtain ⟨g', rfl, -, -, -, hc', -⟩ := owns_entry (HC.out.2.1.below hb) hf
        have x0 := hc.c0
        have x1 := hc.c1
        have x2 := hc.c2
        have x3 := hc.c3
        have x4 := hc.c4
        have x5 := hc.c5
        have x6 := hc.c6
        have y0 := hc'.c0
        have y1 := hc'.c1
        have y2 := hc'.c2
        have y3 := hc'.c3
        have y4 := hc'.c4
        have y5 := hc'.c5
        have y6 := hc'.c6
        have hki : (k : Int) < (n : Int) := by omega
        by_cases hxx : e = f
        · have HT : Hid (l.take (k + 1) = l'.take (k + 1)) := take_snocE ht he (hxx ▸ hf)
          subst hxx
          obtain ⟨e0, e1, e2, e3, e4, e5, e6⟩ := e
          have heq : eqEn ⟨e0, e1, e2, e3, e4, e5, e6⟩ ⟨e0, e1, e2, e3, e4, e5, e6⟩ = true := (eqEn_iff _ _).2 rfl
          clear he hf ht hc hc'
          go_upto_region 6 with fail
          go_quiet (fail)
          go_wp2
          exact ⟨⟨k + 1, by omega, by simp, HT.out, below_drewN hb _⟩, by simp [intOf]; omega⟩
        · have HE : Hid (sameEs l l' = false) := sameEs_no (by rintro rfl; rw [he] at hf; exact hxx (Option.some.inj hf))
          obtain ⟨e0, e1, e2, e3, e4, e5, e6⟩ := e
          obtain ⟨f0, f1, f2, f3, f4, f5, f6⟩ := f
          have hne : eqEn ⟨e0, e1, e2, e3, e4, e5, e6⟩ ⟨f0, f1, f2, f3, f4, f5, f6⟩ = false := eqEn_no hxx
          clear he hf ht hc hc' hxx
          go_upto_region 6 with fail
          go_quiet (fail)
          go_wp2
          go_ret
          exact ⟨by rw [HE.out]; rfl, below_drewN hb _⟩
      · have hkl : k = n := by omega
        subst hkl
        have HE : Hid (sameEs l l' = true) := (sameEs_iff l l').2 (take_eqE ht HC.out.2.2.1.symm HC.out.2.2.2.symm)
        clear ht
        go_wp2
        go_ret
        exact ⟨by rw [HE.out]; rfl, hb⟩
  · have HE : Hid (sameEs l l' = false) := sameEs_no (by rintro rfl; exact hn rfl)
    have hne : ((l.length : Int) != (l'.length : Int)) = true := by simp; omega
    clear h h'
    go_enter Try.func14, Try.ntmps14
    go_wp2
    go_ret
    exact ⟨by rw [HE.out]; rfl, Below.refl _ _⟩
theorem sameE_yes (v v' : Value) (l : List En) (base base' : Nat) (w : World) (h : Row7 w base v l) (h' : Row7 w base' v' l) (hl : l.length ≤ 140737488351232) : Calls Try.prog 14 #[v, v'] w fun e w' => e = .returned (.bool true) ∧ Below w.heap.size w w' := by
  have := sameE_big v v' l l base base' w h h' hl hl
  rw [(sameEs_iff l l).2 rfl] at this; exact this
end
section
open Go.ChangeShapes Go.WideShapes Go.ChangeAt Go.RowKit Go.Joins
set_option maxRecDepth 100000 in
theorem key_arg {H : Type} {enc : TypeId × Value → H} {W : World} {r : Reach} {b0 : Nat} {v : Value} {d : DataW H} {ps : List MemPlace} (hv : Value.okWide Try.prog W r b0 31 v) (h : DataW.Trod enc Try.prog W 0 (fun _ => true) true 31 v d ps) : ∃ k : Ky, v = .agg #[.int .i64 k.d, .string k.nm] := by
  obtain ⟨cs, rfl, hsz⟩ := okWide_struct Try.underlying31 hv
  obtain ⟨fuel, hf⟩ := h
  obtain ⟨p, hp⟩ := ky_of hf
  refine ⟨p, ?_⟩
  have e : (Value.agg cs).cells.toList = cs.toList := rfl
  rw [e] at hp
  have : cs = #[.int .i64 p.d, .string p.nm] := Array.toList_inj.1 hp
  rw [this]
set_option maxRecDepth 100000 in
theorem ent_arg {H : Type} {enc : TypeId × Value → H} {W : World} {r : Reach} {b0 : Nat} {v : Value} {d : DataW H} {ps : List MemPlace} (hv : Value.okWide Try.prog W r b0 35 v) (h : DataW.Trod enc Try.prog W 0 (fun _ => true) true 35 v d ps) : ∃ e : En, v = e.agg := by
  obtain ⟨cs, rfl, hsz⟩ := okWide_struct Try.underlying35 hv
  obtain ⟨fuel, hf⟩ := h
  obtain ⟨p, hp⟩ := en_of hf
  refine ⟨p, ?_⟩
  have e : (Value.agg cs).cells.toList = cs.toList := rfl
  rw [e] at hp
  have : cs = p.vals.toArray := Array.toList_inj.1 (by rw [hp])
  rw [this]; rfl
set_option maxRecDepth 100000 in
theorem dop_arg {H : Type} {enc : TypeId × Value → H} {W : World} {r : Reach} {b0 : Nat} {v : Value} {d : DataW H} {ps : List MemPlace} (hv : Value.okWide Try.prog W r b0 66 v) (h : DataW.Trod enc Try.prog W 0 (fun _ => true) true 66 v d ps) (hw : ∀ n ∈ d.weights Try.prog 66, n ≤ reachBytes) : ∃ x : DOp, v = x.agg ∧ ArgK W x.vk x.ks := by
  obtain ⟨cs, rfl, hsz⟩ := okWide_struct Try.underlying66 hv
  obtain ⟨fuel, hf⟩ := h
  obtain ⟨p, hp, hk⟩ := dop_of hf hw
  refine ⟨p, ?_, hk⟩
  have e : (Value.agg cs).cells.toList = cs.toList := rfl
  rw [e] at hp
  have : cs = p.vals.toArray := Array.toList_inj.1 (by rw [hp])
  rw [this]; rfl
end
open Go.RowKit
/-- a law's cache told anew from an earlier world -/
theorem Ld.up {w0 w wr : World} {p : Nat} {s : Cs} {n : Nat} {F : Nat → Prop} (h : Ld w wr p s n F) (hb : Below w0.heap.size w0 w) : Ld w0 wr p s n (fun b => F b ∨ b < w.heap.size) := by
  obtain ⟨c, h1, h2, h3, h4⟩ := h.ex
  have hs := h.below.size
  refine ⟨⟨c, h1, h2, h3, fun k hk => ⟨Nat.le_trans hb.size (h4 k hk).1, fun e => ?_⟩⟩, ⟨h.below.os.trans hb.os, h.below.tape.trans hb.tape, h.below.output.trans hb.output, Nat.le_trans hb.size hs, fun k hk => (h.below.block k (Nat.lt_of_lt_of_le hk hb.size)).trans (hb.block k hk)⟩, h.nn, fun k hk => ?_, h.len⟩
  · rcases e with e | e
    · exact (h4 k hk).2 e
    · have := (h4 k hk).1; omega
  · rcases hk with hk | hk
    · exact h.fl k hk
    · omega
end
section
open Go.RowKit
attribute [local go_sem high] eqK neqK eqE neqE eqN neqN guardK guardE guardN
theorem filt_take {L : List En} {j : Nat} {e : En} (f : En → Bool) (h : L[j]? = some e) : (L.take (j + 1)).filter f = (L.take j).filter f ++ if f e then [e] else [] := by
  rw [List.take_add_one, h, List.filter_append]
  congr 1
  cases hf : f e <;> simp [hf]
theorem negN_take {L : List En} {j : Nat} {e : En} (h : L[j]? = some e) : negN (L.take (j + 1)) = negN (L.take j) + if e.neg then 1 else 0 := by
  unfold negN
  rw [filt_take _ h, List.length_append]
  cases e.neg <;> rfl
theorem nameL_take {L : List En} {j : Nat} {e : En} (d : Int) (h : L[j]? = some e) : (nameL (L.take (j + 1)) d).length = (nameL (L.take j) d).length + if decide (e.d = d) && !e.neg then 1 else 0 := by
  unfold nameL
  rw [filt_take _ h, List.length_append]
  cases (decide (e.d = d) && !e.neg) <;> rfl
def inE (M : List En) (e : En) : Bool := M.any fun x => eqEn x e
theorem inE_mem {M : List En} {e : En} (h : e ∈ M) : inE M e = true := List.any_eq_true.2 ⟨e, h, (eqEn_iff e e).2 rfl⟩
theorem memT {M : List En} {k : Nat} {x e : En} (h : M[k]? = some x) : inE (M.take (k + 1)) e = (inE (M.take k) e || eqEn x e) := by
  unfold inE
  rw [List.take_add_one, h, List.any_append]
  simp
theorem namesR_lt {L M : List En} {d : Int} (h : NamesR L d M) {k : Nat} {x y : En} (hx : M[k]? = some x) (hy : M[k + 1]? = some y) : x.nm.toList < y.nm.toList := by
  obtain ⟨h1, e1⟩ := List.getElem?_eq_some_iff.1 hx
  obtain ⟨h2, e2⟩ := List.getElem?_eq_some_iff.1 hy
  have := List.pairwise_iff_getElem.1 h.2 k (k + 1) h1 h2 (by omega)
  rw [e1, e2, lessE_iff] at this
  have dd : ∀ e, e ∈ M → e.d = d := fun e he => by
    have := (List.mem_filter.1 (h.1.mem_iff.1 he)).2
    simp at this
    exact this.1
  have d1 := dd x (List.mem_of_getElem? hx)
  have d2 := dd y (List.mem_of_getElem? hy)
  rcases this with h | h
  · omega
  · exact h.2
set_option maxRecDepth 100000 in
set_option maxHeartbeats 16000000 in
theorem walk_DentNames (a : Option Addr) (cap : Nat) (ops : List DOp) (dir : Int) (w : World) (row : RowD w a ops) (hlen : ops.length * 112 ≤ 140737488351232) (_ : (Lit.int .i64 dir).wf = true) :
    Calls Try.prog 4 #[.slice a ops.length cap, .int .i64 dir] w fun x w' => x = .returned (.bool true) ∧ Below w.heap.size w w' := by
  obtain ⟨n, hn⟩ : ∃ n, ops.length = n := ⟨_, rfl⟩
  have hnb : n < 1300000000000 := by omega
  obtain ⟨S, hS⟩ : ∃ S, runS ops = S := ⟨_, rfl⟩
  have HO : Hid (Calls Try.prog 9 #[.slice a n cap] w fun x w2 => ∃ p q, x = .returned (.tuple #[.pointer (some ⟨p, 0, none⟩), .pointer (some ⟨q, 0, none⟩), .bool true]) ∧ Ld w w2 p S n (fun _ => False)) := by
    rw [← hn, ← hS]
    refine (of_p a cap ops w row (by omega)).mono ?_
    rintro x w2 ⟨p, q, rfl, ht⟩
    exact ⟨p, q, rfl, ht.ld.mono (fun _ hb => hb.elim) (Nat.le_refl _)⟩
  have HA : Hid (∀ w, Calls Try.prog 16 #[] w fun x w' => x = .returned (.bool true) ∧ Below w.heap.size w w') := awake_p
  have hSl : S.L.length ≤ n := by
    rw [← hS, ← hn]; exact (runS_len ops).1
  rw [hn]
  clear row hlen hS
  go_enter Try.func4, Try.ntmps4
  go_wp2_with (first
    | (go_at_call 17; refine (ld_names H3.out.1 dir (by omega)).mono ?_; rintro x w4 ⟨v4, M, rfl, hr4, hM, hb⟩; have H4 : Hid (Ld w w4 p S n (fun _ => False) ∧ Row7 w4 w2.heap.size v3 S.L ∧ Row7 w4 w3.heap.size v4 M ∧ NamesR S.L dir M) := ⟨H3.out.1.on' hb, H3.out.2.below hb, hr4, hM⟩; clear hr4 hb hM)
    | (go_at_call 10; refine (ld_entries H2.out (by omega)).mono ?_; rintro x w3 ⟨v3, rfl, hr3, hb⟩; have H3 : Hid (Ld w w3 p S n (fun _ => False) ∧ Row7 w3 w2.heap.size v3 S.L) := ⟨H2.out.on' hb, hr3⟩; clear hr3 hb)
    | (go_at_call 9; refine HO.out.mono ?_; rintro x w2 ⟨p, q, rfl, hl⟩; have H2 : Hid (Ld w w2 p S n (fun _ => False)) := hl; clear hl))
  obtain ⟨a3, c3, hv3⟩ := owns_len H4.out.2.1
  subst hv3
  obtain ⟨a4, c4, hv4⟩ := owns_len H4.out.2.2.1
  subst hv4
  obtain ⟨m, hm⟩ : ∃ m, S.L.length = m := ⟨_, rfl⟩
  obtain ⟨ml, hml⟩ : ∃ m, M.length = m := ⟨_, rfl⟩
  have hmn : ml ≤ m := by
    rw [← hm, ← hml, H4.out.2.2.2.1.length_eq]
    exact List.length_filter_le _ _
  have HM : Hid (S.L.length = m ∧ M.length = ml ∧ NamesR S.L dir M) := ⟨hm, hml, H4.out.2.2.2⟩
  have H5 : Hid (Ld w w4 p S n (fun _ => False) ∧ Row7 w4 w2.heap.size (.slice a3 m c3) S.L ∧ Row7 w4 w3.heap.size (.slice a4 ml c4) M) := by
    rw [← hm, ← hml]
    exact ⟨H4.out.1, H4.out.2.1, H4.out.2.2.1⟩
  rw [hm] at hSl ⊢
  rw [hml]
  clear H2 H3 H4 HO hm hml
  have hb4 : Below w4.heap.size w4 w4 := Below.refl _ _
  go_loopw [10, 11, 12, 13, 14] (fun s10 s11 s12 _ _ wj => ∃ j : Nat, j ≤ m ∧ s12 = .int .i64 j ∧ ∃ ct ng : Nat, ct ≤ j ∧ ng ≤ j ∧ s10 = .int .i64 ct ∧ s11 = .int .i64 ng ∧ Hid (ct = (nameL (S.L.take j) dir).length ∧ ng = negN (S.L.take j) ∧ Below w4.heap.size w4 wj)) (fun _ _ s12 _ _ _ => m - (intOf s12).toNat)
  case atStart => exact ⟨0, Nat.zero_le _, rfl, 0, 0, Nat.le_refl _, Nat.le_refl _, rfl, rfl, rfl, rfl, hb4⟩
  case round =>
    obtain ⟨j, hj, rfl, ct, ng, hct, hng, rfl, rfl, HJ⟩ := hrel
    by_cases hlj : j < m
    · obtain ⟨ec, en, hbj⟩ := HJ.out
      obtain ⟨e, he⟩ : ∃ e, S.L[j]? = some e := ⟨_, List.getElem?_eq_getElem (by rw [HM.out.1]; exact hlj)⟩
      obtain ⟨gl, rfl, -, -, hgl2, hc, -⟩ := owns_entry (H5.out.2.1.below hbj) he
      have x0 := hc.c0
      have x2 := hc.c2
      have hljz : (j : Int) < (m : Int) := by omega
      have hw1 : IntKind.i64.wrap ((j : Int) + 1) = ((j + 1 : Nat) : Int) := by
        rw [show ((j + 1 : Nat) : Int) = (j : Int) + 1 by omega]; exact IntWalk.i64_in _ (by omega)
      have hw2 : IntKind.i64.wrap ((ct : Int) + 1) = ((ct + 1 : Nat) : Int) := by
        rw [show ((ct + 1 : Nat) : Int) = (ct : Int) + 1 by omega]; exact IntWalk.i64_in _ (by omega)
      have hw3 : IntKind.i64.wrap ((ng : Int) + 1) = ((ng + 1 : Nat) : Int) := by
        rw [show ((ng + 1 : Nat) : Int) = (ng : Int) + 1 by omega]; exact IntWalk.i64_in _ (by omega)
      have hnt := negN_take he
      have hat := nameL_take dir he
      cases hneg : e.neg with
      | true =>
        rw [hneg] at hnt hat x2
        have HN : Hid (ct = (nameL (S.L.take (j + 1)) dir).length ∧ ng + 1 = negN (S.L.take (j + 1)) ∧ Below w4.heap.size w4 wr) := ⟨by rw [hat]; simp [ec], by rw [hnt]; simp [en], hbj⟩
        clear HJ ec en hbj hnt hat he hc
        go_wp2
        go_roundw
        case rel => exact ⟨j + 1, by omega, rfl, ct, ng + 1, by omega, by omega, rfl, rfl, HN⟩
        case measure => simp [intOf]; omega
      | false =>
        rw [hneg] at hnt hat x2
        by_cases hd : e.d = dir
        · have hmem : e ∈ M := HM.out.2.2.1.mem_iff.2 (List.mem_filter.2 ⟨List.mem_of_getElem? he, by simp [hd, hneg]⟩)
          have HN : Hid (∀ W, Below w4.heap.size w4 W → ct + 1 = (nameL (S.L.take (j + 1)) dir).length ∧ ng = negN (S.L.take (j + 1)) ∧ Below w4.heap.size w4 W) := fun W hW => ⟨by rw [hat]; simp [ec, hd], by rw [hnt]; simp [en], hW⟩
          have HCe : Hid (∀ W, Below w4.heap.size w4 W → Cells7 W gl (j * 7) e) := fun W hW => by
            obtain ⟨g', hg', -, -, -, hc', -⟩ := owns_entry (H5.out.2.1.below hW) he
            cases hg'; exact hc'
          have hdz : (e.d != dir) = false := by simp [hd]
          have HMe : Hid (e ∈ M) := hmem
          clear ec en hnt hat he hc hmem
          go_wp2
          go_loopw [13, 14] (fun s13 s14 wk => ∃ k : Nat, k ≤ ml ∧ s14 = .int .i64 k ∧ ∃ b, s13 = .bool b ∧ Hid (b = inE (M.take k) e ∧ Below w4.heap.size w4 wk)) (fun _ s14 _ => ml - (intOf s14).toNat)
          case atStart => exact ⟨0, Nat.zero_le _, rfl, false, rfl, rfl, hbj⟩
          case round =>
            obtain ⟨k, hk, rfl, b, rfl, HK⟩ := hrel
            by_cases hlk : k < ml
            · obtain ⟨eb, hbk⟩ := HK.out
              obtain ⟨y, hy⟩ : ∃ e, M[k]? = some e := ⟨_, List.getElem?_eq_getElem (by rw [HM.out.2.1]; exact hlk)⟩
              obtain ⟨gm, rfl, -, -, hgm2, hcm, -⟩ := owns_entry (H5.out.2.2.below hbk) hy
              have hce := HCe.out _ hbk
              have hlkz : (k : Int) < (ml : Int) := by omega
              have hw4 : IntKind.i64.wrap ((k : Int) + 1) = ((k + 1 : Nat) : Int) := by
                rw [show ((k + 1 : Nat) : Int) = (k : Int) + 1 by omega]; exact IntWalk.i64_in _ (by omega)
              have hmt := memT (e := e) hy
              rw [← eb] at hmt
              cases b with
              | true =>
                rw [Bool.true_or] at hmt
                have HT : Hid (true = inE (M.take (k + 1)) e ∧ Below w4.heap.size w4 wr) := ⟨hmt.symm, hbk⟩
                clear HK eb hbk hmt hy hcm hce
                go_upto_region 19 with fail
                go_quiet (fail)
                go_wp2
                go_roundw
                case rel => exact ⟨k + 1, by omega, rfl, true, rfl, HT.out.1, below_drewN HT.out.2 _⟩
                case measure => simp [intOf]; omega
              | false =>
                rw [Bool.false_or] at hmt
                have HT : Hid (eqEn y e = inE (M.take (k + 1)) e ∧ Below w4.heap.size w4 wr) := ⟨hmt.symm, hbk⟩
                have y0 := hcm.c0
                have y1 := hcm.c1
                have y2 := hcm.c2
                have y3 := hcm.c3
                have y4 := hcm.c4
                have y5 := hcm.c5
                have y6 := hcm.c6
                have z0 := hce.c0
                have z1 := hce.c1
                have z2 := hce.c2
                have z3 := hce.c3
                have z4 := hce.c4
                have z5 := hce.c5
                have z6 := hce.c6
                clear HK eb hbk hmt hy hcm hce x0 x2
                clear HCe HMe HN hneg hd hdz
                obtain ⟨e0, e1, e2, e3, e4, e5, e6⟩ := e
                obtain ⟨f0, f1, f2, f3, f4, f5, f6⟩ := y
                go_upto_region 19 with fail
                go_quiet (fail)
                go_wp2
                go_roundw
                case rel => exact ⟨k + 1, by omega, rfl, _, rfl, HT.out.1, below_drewN HT.out.2 _⟩
                case measure => simp [intOf]; omega
            · obtain rfl : k = ml := by omega
              have hlkz : ¬ (k : Int) < (k : Int) := by omega
              obtain ⟨eb, hbk⟩ := HK.out
              rw [List.take_of_length_le (by rw [HM.out.2.1]; exact Nat.le_refl _), inE_mem HMe.out] at eb
              subst eb
              have HN' : Hid _ := HN.out _ hbk
              clear HK hbk HN HCe HMe
              go_wp2
              go_roundw
              case rel => exact ⟨j + 1, by omega, rfl, ct + 1, ng, by omega, by omega, rfl, rfl, HN'⟩
              case measure => simp [intOf]; omega
        · have HN : Hid (ct = (nameL (S.L.take (j + 1)) dir).length ∧ ng = negN (S.L.take (j + 1)) ∧ Below w4.heap.size w4 wr) := ⟨by rw [hat]; simp [ec, hd], by rw [hnt]; simp [en], hbj⟩
          have hdz : (e.d != dir) = true := by simp [hd]
          clear HJ ec en hbj hnt hat he hc
          go_wp2
          go_roundw
          case rel => exact ⟨j + 1, by omega, rfl, ct, ng, by omega, by omega, rfl, rfl, HN⟩
          case measure => simp [intOf]; omega
    · obtain rfl : j = m := by omega
      have hljz : ¬ (j : Int) < (j : Int) := by omega
      obtain ⟨ec, en, hbj⟩ := HJ.out
      rw [List.take_of_length_le (by rw [HM.out.1]; exact Nat.le_refl _)] at ec en
      have hctl : ct = ml := by rw [ec, ← HM.out.2.1, HM.out.2.2.1.length_eq]
      have HE : Hid (ng = negN S.L) := en
      have HBJ : Hid (Below w4.heap.size w4 wr) := hbj
      subst hctl
      clear HJ ec en hbj
      go_wp2
      go_loopw [15] (fun s15 wk => ∃ i k : Nat, k = i + 1 ∧ (k ≤ ct ∨ i = 0) ∧ s15 = .int .i64 k ∧ Hid (Below w4.heap.size w4 wk)) (fun s15 _ => ct + 1 - (intOf s15).toNat)
      case atStart => exact ⟨0, 1, rfl, .inr rfl, rfl, HBJ⟩
      case round =>
        obtain ⟨i, k, hki, hk, rfl, HK⟩ := hrel
        by_cases hlk : k < ct
        · obtain ⟨y, hy⟩ : ∃ e, M[i]? = some e := ⟨_, List.getElem?_eq_getElem (by rw [HM.out.2.1]; omega)⟩
          obtain ⟨z, hz⟩ : ∃ e, M[i + 1]? = some e := ⟨_, List.getElem?_eq_getElem (by rw [HM.out.2.1]; omega)⟩
          have hlt := namesR_lt HM.out.2.2 hy hz
          rw [← hki] at hz
          obtain ⟨gm, rfl, -, -, hgm2, hcm, -⟩ := owns_entry (H5.out.2.2.below HK.out) hy
          obtain ⟨g', hg', -, -, -, hcz, -⟩ := owns_entry (H5.out.2.2.below HK.out) hz
          cases hg'
          have y1 := hcm.c1
          have z1 := hcz.c1
          have hlkz : (k : Int) < (ct : Int) := by omega
          have hliz : (i : Int) < (ct : Int) := by omega
          have hw4 : IntKind.i64.wrap ((k : Int) + 1) = ((k + 1 : Nat) : Int) := by
            rw [show ((k + 1 : Nat) : Int) = (k : Int) + 1 by omega]; exact IntWalk.i64_in _ (by omega)
          have hw5 : IntKind.i64.wrap ((k : Int) - 1) = (i : Int) := by
            rw [show (k : Int) - 1 = (i : Int) by omega]; exact IntWalk.i64_in _ (by omega)
          have HKi : Hid (k = i + 1) := hki
          have hless : Op.bytesLess y.nm.toList z.nm.toList = true := by rw [bytesLess_lt]; exact decide_eq_true hlt
          clear hcm hcz hy hz hki hlt
          go_upto_region 25 with fail
          go_quiet (fail)
          go_wp2
          exact ⟨⟨k, k + 1, rfl, .inl (by omega), by simp, below_drewN HK.out _⟩, by simp [intOf]; omega⟩
        · have hlkz : ¬ (k : Int) < (ct : Int) := by omega
          have HQ : Hid (Calls Try.prog 18 #[.pointer (some ⟨p, 0, none⟩)] wr fun x w' => x = .returned (.int .i64 ng) ∧ Ld w w' p S n (fun _ => False)) := by
            refine (ld_neg (H5.out.1.on' HK.out) (by omega)).mono ?_
            rintro x w' ⟨rfl, hb⟩
            exact ⟨by rw [HE.out], (H5.out.1.on' HK.out).on' hb⟩
          have HLn : Hid (∀ W, Ld w W p S n (fun _ => False) → Calls Try.prog 15 #[.pointer (some ⟨p, 0, none⟩)] W fun x w' => x = .returned (.int .i64 j) ∧ Below w.heap.size w w') := fun W hW => by
            refine (ld_len hW (by omega)).mono ?_
            rintro x w' ⟨rfl, hb⟩
            exact ⟨by rw [HM.out.1], chainB hW.below hb⟩
          clear HK
          go_wp2_with (first
            | (go_at_call 16; refine (HA.out _).mono ?_; rintro x wD ⟨rfl, hb⟩; have HD : Hid (Below w.heap.size w wD) := chainB HC.out hb; clear hb)
            | (go_at_call 15; refine (HLn.out _ HB.out).mono ?_; rintro x wC ⟨rfl, hb⟩; have HC : Hid (Below w.heap.size w wC) := hb; clear hb)
            | (go_at_call 18; refine HQ.out.mono ?_; rintro x wB ⟨rfl, hl⟩; have HB : Hid (Ld w wB p S n (fun _ => False)) := hl; clear hl))
          go_ret
          exact ⟨rfl, HD.out⟩
end
end Go.Proofs.Ytlabophmfdfigab
