/- Entries among the arguments; a copy of them. -/
import Derived.Test.YtmndnjgbbpkidaaGreatJWLks02
import Derived.Test.YtmndnjgbbpkidaaGreatJWLks39
import Derived.Test.YtmndnjgbbpkidaaGreatJWLks40
import Derived.Test.YtmndnjgbbpkidaaGreatJWLks41
import Derived.Test.YtmndnjgbbpkidaaGreatJWLks15
namespace Go.Proofs.YtmndnjgbbpkidaaGreat
section
open Go.RowKit Go.Lib

/-- entries that came in -/
def ArgE (w : World) (v : Value) (es : List En) : Prop := ∃ a cap, v = .slice a es.length cap ∧ es.length * 72 ≤ 140737488351232 ∧ (es = [] ∨ ∃ b off, a = some ⟨b, off, none⟩ ∧ b < w.heap.size ∧ ∀ j u, (ec es)[j]? = some u → w.cell? ⟨b, off + j, none⟩ = some u)
theorem ArgE.below {w w' : World} {v : Value} {es : List En} (h : ArgE w v es) (hb : Below w.heap.size w w') : ArgE w' v es := by
  obtain ⟨a, cap, rfl, hl, h⟩ := h
  refine ⟨a, cap, rfl, hl, ?_⟩
  rcases h with h | ⟨b, off, rfl, hg, hc⟩
  · exact .inl h
  · exact .inr ⟨b, off, rfl, Nat.lt_of_lt_of_le hg hb.size, fun j u hu => (hb.cell (p := ⟨b, off + j, none⟩) hg).trans (hc j u hu)⟩
set_option maxRecDepth 20000 in
set_option maxHeartbeats 4000000 in
theorem copyE_any (v : Value) (es : List En) (w : World) (h : ArgE w v es) :
    Calls Tryz.prog 8 #[v] w fun e w' => ∃ v', e = .returned v' ∧ Row7 w' w.heap.size v' es ∧ Below w.heap.size w w' := by
  obtain ⟨i1, hi1, hw0, hw1, hw2⟩ := info_parts Tryz.infoE
  obtain ⟨a, cap, rfl, hl, hc⟩ := h
  by_cases h0 : a = none
  · subst h0
    have he : es = [] := by
      rcases hc with h | ⟨b, off, e, _⟩
      · exact h
      · cases e
    subst he
    clear hc
    go_enter Tryz.func8, Tryz.ntmps8
    go_wp2
    go_ret
    exact ⟨_, rfl, World.ownsRow_nil _ _ _ _, Below.refl _ _⟩
  · obtain ⟨ad, rfl⟩ : ∃ ad, a = some ad := by cases a with | none => exact absurd rfl h0 | some x => exact ⟨x, rfl⟩
    have HC : Hid (∀ j u, (ec es)[j]? = some u → w.cell? (ad.add j) = some u) := by
      rcases hc with h | ⟨b, off, e, _, hc⟩
      · subst h; intro j u hu; simp [ec] at hu
      · cases e; intro j u hu; rw [add_plain']; exact hc j u hu
    obtain ⟨n, hn⟩ : ∃ n, es.length = n := ⟨_, rfl⟩
    have HN : Hid (es.length = n ∧ (ec es).length = n * 7) := ⟨hn, by rw [ec_len, hn]⟩
    rw [hn] at hl ⊢
    clear hc h0 hn
    go_enter Tryz.func8, Tryz.ntmps8
    go_wp2_with (at_builtin; refine wpList_append_own _ rfl _ _ 23 rfl w.heap.size 52 i1 _ 7 72 Tryz.underlying23 hi1 hw0 hw1 hw2 rfl (by decide) _ 0 [] rfl (World.ownsRow_nil _ _ _ _) ad n cap (ec es) rfl HN.out.2 HC.out (ec_one es) (by unfold maxLen; omega) (by omega) (Nat.le_refl _) ?_; intro v' w1 hown hgrow _; obtain ⟨av, cv, hv⟩ := owns_len hown; subst hv)
    go_ret
    refine ⟨_, rfl, ?_, below_grown hgrow⟩
    rw [Nat.zero_add, List.nil_append] at hown
    show World.ownsRow _ _ _ _ _ _ _
    rw [HN.out.1]; exact hown
end
section
open Go.RowKit
attribute [local go_sem ↓ high] loadEn storeEn storeOu loadOu

theorem rdE_arg {w : World} {v : Value} {es : List En} (h : ArgE w v es) : RdE w v es := by
  obtain ⟨a, cap, rfl, hl, hc⟩ := h
  refine ⟨a, cap, rfl, by omega, fun j e he => ?_⟩
  rcases hc with h | ⟨b, off, rfl, hb, hc⟩
  · subst h; simp at he
  · exact ⟨b, off + 0, rfl, ⟨hc _ _ (ec_get es j 0 e he (by omega)), hc _ _ (ec_get es j 1 e he (by omega)), hc _ _ (ec_get es j 2 e he (by omega)), hc _ _ (ec_get es j 3 e he (by omega)), hc _ _ (ec_get es j 4 e he (by omega)), hc _ _ (ec_get es j 5 e he (by omega)), hc _ _ (ec_get es j 6 e he (by omega))⟩⟩
theorem rdE_row {w : World} {B : Nat} {v : Value} {es : List En} (h : Row7 w B v es) (hl : es.length ≤ 2000000000000) : RdE w v es := by
  obtain ⟨a, cap, rfl⟩ := owns_len h
  refine ⟨a, cap, rfl, hl, fun j e he => ?_⟩
  obtain ⟨g, e1, -, -, -, hc, -⟩ := owns_entry h he
  exact ⟨g, 0, e1, by rw [Nat.zero_add]; exact hc⟩
/-- both walks, of one script's caches -/
theorem tw_walks {w0 wr : World} {p q : Nat} {s : Cs} {n : Nat} {F : Nat → Prop} (h : Tw w0 wr p q s s n F) (hn : n < 1300000000000) {v v' : Value} {es : List En} (hv : RdE wr v es) (hv' : RdE wr v' es) (path : ByteArray) (fol : Bool) (links : Int) {O : Ou} (hO : walkO (knF (firstsL es) s) path fol links = O) :
    Calls Tryz.prog 7 #[.pointer (some ⟨p, 0, none⟩), v, .string path, .bool fol, .int .i64 links] wr (fun r w' => OutR wr O r w') ∧ Calls Tryz.prog 9 #[.agg #[.pointer (some ⟨q, 0, none⟩), v', .pointer none], .string path, .bool fol, .int .i64 links] wr (fun r w' => OutR wr O r w') := by
  obtain ⟨k, h1, h2, h3⟩ := h.ex
  obtain ⟨c, i1, i2, -, -⟩ := h.ld.ex
  refine ⟨?_, rwalk_d w0.heap.size q k s es v' wr h1 hv' (by have := h.lt; omega) (by have := h.lw; omega) path fol links O hO⟩
  rw [← hO]
  exact walk_p p c s v es path fol links wr i1 i2 hv
theorem like_nil (w : World) : RdK w (.slice none 0 0) [] (fun _ => False) := by
  exact ⟨none, 0, rfl, fun j k hk => by simp at hk⟩
set_option maxRecDepth 100000 in
set_option maxHeartbeats 8000000 in
theorem walk_WalkWalks (a : Option Addr) (cap : Nat) (ops : List DOp) (v : Value) (es : List En) (path : ByteArray) (fol : Bool) (links : Int) (w : World) (row : RowD w a ops) (hlen : ops.length * 112 ≤ 140737488351232) (hes : ArgE w v es) (_ : (Lit.int .i64 links).wf = true) :
    Calls Tryz.prog 3 #[.slice a ops.length cap, v, .string path, .bool fol, .int .i64 links] w fun x w' => x = .returned (.bool true) ∧ Below w.heap.size w w' := by
  obtain ⟨n, hn⟩ : ∃ n, ops.length = n := ⟨_, rfl⟩
  have hnb : n < 1290000000000 := by omega
  obtain ⟨S, hS⟩ : ∃ S, runS ops = S := ⟨_, rfl⟩
  have HOf : Hid (Calls Tryz.prog 6 #[.slice a n cap] w fun x w2 => ∃ p q, x = .returned (.tuple #[.pointer (some ⟨p, 0, none⟩), .pointer (some ⟨q, 0, none⟩), .bool true]) ∧ Tw w w2 p q S S n (fun _ => False)) := by
    rw [← hn, ← hS]
    exact of_p a cap ops w row (by omega)
  obtain ⟨av, cv, rfl, -, -⟩ := id hes
  obtain ⟨ne, hne⟩ : ∃ n, es.length = n := ⟨_, rfl⟩
  have hel : ne * 72 ≤ 140737488351232 := by
    obtain ⟨_, _, _, h, -⟩ := hes
    rw [← hne]; exact h
  rw [hne] at hes
  have HE : Hid (∀ W, Below w.heap.size w W → ArgE W (.slice av ne cv) es) := fun W hb => hes.below hb
  have HCe : Hid (∀ W, Below w.heap.size w W → Calls Tryz.prog 8 #[.slice av ne cv] W fun e w' => ∃ a2 c2, e = .returned (.slice a2 ne c2) ∧ Row7 w' W.heap.size (.slice a2 ne c2) es ∧ Below W.heap.size W w') := fun W hb => by
    refine (copyE_any _ es W (hes.below hb)).mono ?_
    rintro x w' ⟨v', rfl, hr, hb'⟩
    obtain ⟨a2, c2, rfl⟩ := owns_len hr
    rw [hne] at hr ⊢
    exact ⟨a2, c2, rfl, hr, hb'⟩
  obtain ⟨O, hO⟩ : ∃ O, walkO (knF (firstsL es) S) path fol links = O := ⟨_, rfl⟩
  obtain ⟨lo, hlo⟩ : ∃ l, O.used.length = l := ⟨_, rfl⟩
  have HO : Hid (walkO (knF (firstsL es) S) path fol links = O ∧ O.used.length = lo ∧ lo ≤ 1000 ∧ es.length = ne) := ⟨hO, hlo, by rw [← hlo, ← hO]; exact walkO_len _ _ _ _, hne⟩
  have HA : Hid (∀ w, Calls Tryz.prog 12 #[] w fun x w' => x = .returned (.bool true) ∧ Below w.heap.size w w') := awake14_p
  have bx := box9
  rw [hn, hne]
  clear row hlen hS hn hne hes hO hlo
  go_enter Tryz.func3, Tryz.ntmps3
  go_upto_region 6 with (first
    | (go_at_call 9; have hc := (tw_walks (H1.out.on' (chainB H2.out.2 H3.out.2.1)) (by omega) (rdE_arg (HE.out _ (chainB H1.out.below (chainB H2.out.2 H3.out.2.1)))) (rdE_arg (HE.out _ (chainB H1.out.below (chainB H2.out.2 H3.out.2.1)))) path fol links HO.out.1).2; refine hc.mono ?_; rintro r w4 ⟨uv, rfl, hr, hb⟩; clear hc; obtain ⟨a4, c4, rfl⟩ := owns_len hr; rw [HO.out.2.1] at hr ⊢; obtain ⟨V4, hV4⟩ : ∃ V, w4.alloc (.cells (ouVals O (.slice a4 lo c4)).toArray 35) = V := ⟨_, rfl⟩; have bV4 := boxO hV4; have H4 : Hid (RowK V4 V3.heap.size (.slice a4 lo c4) O.used ∧ Below V3.heap.size V3 V4 ∧ V4.heap[w4.heap.size]? = some (.cells (ouVals O (.slice a4 lo c4)).toArray 35 (0, 0))) := ⟨hr.below bV4.2.1, chainB hb bV4.2.1, bV4.1⟩; clear hr hb bV4)
    | (go_at_call 7; have hc := (tw_walks (H1.out.on' H2.out.2) (by omega) (rdE_row H2.out.1 (by rw [HO.out.2.2.2]; omega)) (rdE_row H2.out.1 (by rw [HO.out.2.2.2]; omega)) path fol links HO.out.1).1; refine hc.mono ?_; rintro r w3 ⟨uv, rfl, hr, hb⟩; clear hc; obtain ⟨a3, c3, rfl⟩ := owns_len hr; rw [HO.out.2.1] at hr ⊢; obtain ⟨V3, hV3⟩ : ∃ V, w3.alloc (.cells (ouVals O (.slice a3 lo c3)).toArray 35) = V := ⟨_, rfl⟩; have bV3 := boxO hV3; have H3 : Hid (RowK V3 w2.heap.size (.slice a3 lo c3) O.used ∧ Below w2.heap.size w2 V3 ∧ V3.heap[w3.heap.size]? = some (.cells (ouVals O (.slice a3 lo c3)).toArray 35 (0, 0))) := ⟨hr.below bV3.2.1, chainB hb bV3.2.1, bV3.1⟩; clear hr hb bV3)
    | (go_at_call 8; refine (HCe.out _ H1.out.below).mono ?_; rintro r w2 ⟨a2, c2, rfl, hr, hb⟩; have H2 : Hid (Row7 w2 w1.heap.size (.slice a2 ne c2) es ∧ Below w1.heap.size w1 w2) := ⟨hr, hb⟩; clear hr hb)
    | (go_at_call 6; refine HOf.out.mono ?_; rintro r w1 ⟨p, q, rfl, hl⟩; have H1 : Hid (Tw w w1 p q S S n (fun _ => False)) := hl; clear hl))
  have l3 := ouLd_of (hkeep H3.out.2.2 H4.out.2.1)
  have l4 := ouLd_of H4.out.2.2
  have HB4 : Hid (Below w1.heap.size w1 V4) := chainB H2.out.2 (chainB H3.out.2.1 H4.out.2.1)
  go_wp2_with (first
    | (go_at_call 12; refine (HA.out _).mono ?_; rintro r w7 ⟨rfl, hb⟩; have H7 : Hid (Below w.heap.size w w7) := chainB H1.out.below (chainB H6.out hb); clear hb)
    | (go_at_call 11; refine (like_p w w5 p q S n _ (H1.out.on' H5.out) (by omega) _ [] (like_nil _) (by simp)).mono ?_; rintro r w6 ⟨rfl, hb⟩; have H6 : Hid (Below w1.heap.size w1 w6) := chainB H5.out hb; clear hb)
    | (go_at_call 10; refine (sameOut_yes O _ _ _ _ V4 (H3.out.1.below H4.out.2.1) H4.out.1 (by rw [HO.out.2.1]; have := HO.out.2.2.1; omega)).mono ?_; rintro r w5 ⟨rfl, hb⟩; have H5 : Hid (Below w1.heap.size w1 w5) := chainB HB4.out hb; clear hb))
  go_ret
  exact ⟨rfl, H7.out⟩
end
section
open Go.ChangeShapes Go.WideShapes Go.ChangeAt Go.RowKit Go.Joins

theorem Tryz.bytesEnt : Tryz.prog.bytesOf 52 = 72 := by kernel_rfl
section
variable {H : Type} {enc : TypeId × Value → H} {W : World}
theorem argE_len {fuel : Nat} {v : Value} {x : DataW H × List MemPlace} (h : DataW.trod enc Tryz.prog W 0 (fun _ => true) true fuel 23 [v] = some x) (hw : ∀ a len cap, v = .slice a len cap → len * 72 ≤ 140737488351232) : ∃ es, ArgE W v es := by
  rcases Go.Deep.open_slice Tryz.underlying23 h with ⟨hcs, hx⟩ | ⟨a', len, cap, m, n, D, Pl, hcs, hb, hl, hm, hmm, rfl, hel⟩
  · simp at hcs
    subst hcs
    exact ⟨[], _, _, rfl, by simp, .inl rfl⟩
  · simp at hcs
    subst hcs
    simp only [if_true] at hmm
    subst hmm
    have hlen : len * 72 ≤ 140737488351232 := hw _ _ _ rfl
    by_cases h0 : len = 0
    · subst h0; exact ⟨[], _, _, rfl, by simp, .inl rfl⟩
    have key : ∀ i, i < len → ∃ p : En, ∀ r u, p.vals[r]? = some u → W.cell? ((a'.add (i * 7)).add r) = some u := by
      intro i hi
      obtain ⟨cs', hc, ht⟩ := hel i (by omega)
      rw [Tryz.cellsEnt] at hc
      obtain ⟨_, hlen', hget⟩ := World.cells?_some hc
      obtain ⟨p, rfl⟩ := en_of ht
      refine ⟨p, fun r u hu => ?_⟩
      have hr : r < 7 := by have := (List.getElem?_eq_some_iff.1 hu).1; simpa [En.vals] using this
      have := hget r (by omega)
      rw [hu] at this
      exact this
    have iO : Inhabited En := ⟨⟨0, ⟨#[]⟩, false, 0, 0, 0, ⟨#[]⟩⟩⟩
    obtain ⟨X, hX⟩ := Go.Deep.choose_lt (α := En) key
    obtain ⟨b, off, spot⟩ := a'
    have hc0 := hX 0 (by omega) 0 _ rfl
    have hs := World.cell?_spot hc0
    have hspot : spot = none := by simpa [Addr.add] using hs
    subst hspot
    have hlt : b < W.heap.size := cellLt hc0
    refine ⟨(List.range len).map X, some ⟨b, off, none⟩, _, by simp; rfl, by simpa using hlen, .inr ⟨b, off, rfl, hlt, fun j u hu => ?_⟩⟩
    have hj : j < len * 7 := by have := (List.getElem?_eq_some_iff.1 hu).1; rw [ec_len] at this; simpa using this
    have hi : j / 7 < len := by omega
    have he : ((List.range len).map X)[j / 7]? = some (X (j / 7)) := by rw [List.getElem?_map, List.getElem?_range hi]; rfl
    have hg := ec_get _ (j / 7) (j % 7) _ he (by omega)
    rw [show j / 7 * 7 + j % 7 = j by omega, hu] at hg
    have := hX (j / 7) hi (j % 7) u hg.symm
    rw [add_plain', add_plain', show off + j / 7 * 7 + j % 7 = off + j by omega] at this
    exact this
theorem argE_tr {v : Value} {d : DataW H} {ps : List MemPlace} (h : DataW.Trod enc Tryz.prog W 0 (fun _ => true) true 23 v d ps) (hw : ∀ n ∈ d.weights Tryz.prog 23, n ≤ reachBytes) (hv : ∃ a len cap, v = .slice a len cap) : ∃ es, ArgE W v es := by
  obtain ⟨fuel, hf⟩ := h
  obtain ⟨a, len, cap, rfl⟩ := hv
  refine argE_len (x := (d, ps)) hf fun a' len' cap' e => ?_
  injection e with e1 e2 e3
  subst e1 e2 e3
  rcases Go.Deep.open_slice Tryz.underlying23 hf with ⟨hcs, hx⟩ | ⟨a', len', cap', m, n, D, Pl, hcs, hb, hl, hm, hmm, hx, hel⟩
  · simp [Value.cells] at hcs
    omega
  · simp [Value.cells] at hcs
    obtain ⟨rfl, rfl, rfl⟩ := hcs
    simp only [if_true] at hmm
    subst hmm
    simp only [Prod.mk.injEq] at hx
    obtain ⟨rfl, -⟩ := hx
    have := weights_slice Tryz.underlying23 hw
    rw [Tryz.bytesEnt] at this
    simp [reachBytes] at this
    omega
end
end
end Go.Proofs.YtmndnjgbbpkidaaGreat
