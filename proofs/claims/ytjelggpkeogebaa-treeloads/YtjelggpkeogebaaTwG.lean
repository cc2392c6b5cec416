/- The document's Load: what it asks of each entry is what makes a right tree. -/
import Derived.Test.YtjelggpkeogebaaTqR
import Derived.Test.YtjelggpkeogebaaTlB
import Derived.Test.YtjelggpkeogebaaTwP
namespace Go.Proofs.Ytjelggpkeogebaa
section
open Go.RowKit

theorem doc_wf {es : List En} {next : Int} (hl : es.length < 48) (hn : 1 < next) (h : ∀ i e, es[i]? = some e → DocE Mn es next i e) : WF Mn es next := by
  have hm : ∀ e ∈ es, ∃ i, DocE Mn es next i e := fun e he => by
    obtain ⟨i, hi⟩ := List.mem_iff_getElem?.1 he
    exact ⟨i, h i e hi⟩
  have hid : ∀ f ∈ es, f.id ≠ 0 := fun f hf => by obtain ⟨i, hi⟩ := hm f hf; have := hi.lo; omega
  refine wf_of (rises_of fun i _ e f he hf => (h (i + 1) f hf).less i e rfl he) hl hn ⟨fun e he => ?_, fun e he f hf hef => ?_⟩ (fun e he => ?_)
  · obtain ⟨i, hi⟩ := hm e he
    exact ⟨by have := hi.lo; omega, hi.hi⟩
  · obtain ⟨i, hi⟩ := List.mem_iff_getElem?.1 he
    obtain ⟨j, hj⟩ := List.mem_iff_getElem?.1 hf
    rcases Nat.lt_trichotomy i j with hij | hij | hij
    · exact absurd hef ((h j f hj).ids i e hij hi)
    · subst hij; exact Option.some.inj (hi.symm.trans hj)
    · exact absurd hef.symm ((h i e hi).ids j f hij hj)
  · obtain ⟨i, hi⟩ := hm e he
    refine ⟨hi.neg, hi.chk, (right_ok Mn _ _ _).2 ⟨⟨hi.m0, hi.m1⟩, ?_⟩, hi.dir, by rw [insideF_within hid (by decide)]; exact hi.root⟩
    by_cases h3 : e.kind = 3
    · exact .inl ⟨h3, hi.lnk h3⟩
    · have := hi.k1; have := hi.k3; exact .inr ⟨by omega, hi.plain h3⟩
theorem wf_doc {es : List En} {next : Int} (w : WF Mn es next) {i : Nat} {e : En} (he : es[i]? = some e) : DocE Mn es next i e := by
  have hm := List.mem_of_getElem? he
  have hid : ∀ f ∈ es, f.id ≠ 0 := fun f hf => by have := w.ids f hf; omega
  have hs := w.sound e hm
  have hi := w.ids e hm
  have hok := w.ok e hm
  refine ⟨hs.1, by omega, hi.2, by omega, by omega, hok.1.1, hok.1.2, fun h3 => ?_, fun h3 => ?_, hs.2.1, hs.2.2.2.1, fun j f hj hf => ?_, fun j f hj hf hef => ?_, ?_⟩
  · rcases hok.2 with h | h
    · exact h.2
    · omega
  · rcases hok.2 with h | h
    · exact absurd h.1 h3
    · exact h.2
  · subst hj; exact w.rises.to (j + 2) j (by omega) f e hf he
  · have := w.ided f (List.mem_of_getElem? hf) e hm hef
    subst this
    obtain ⟨h1, h2⟩ := List.getElem?_eq_some_iff.1 hf
    obtain ⟨h3, h4⟩ := List.getElem?_eq_some_iff.1 he
    have hp := List.pairwise_iff_getElem.1 w.rises j i h1 h3 hj
    rw [h2, h4] at hp
    exact lessE_irrefl _ hp
  · have := hs.2.2.2.2
    rw [insideF_within hid (by decide)] at this
    exact this
end
section
open Go.RowKit
attribute [local go_sem high] eqK' neqK' eqE neqE eqN neqN guardK guardE guardN

theorem docAll_iff {es : List En} {vers next : Int} : DocAll Mn es vers next ↔ WF Mn es next ∧ 0 ≤ vers :=
  ⟨fun h => ⟨doc_wf h.1 h.2.2.1 h.2.2.2, h.2.1⟩, fun h => ⟨by have := h.1.len; omega, h.2, by have := h.1.next2; omega, fun _ _ he => wf_doc h.1 he⟩⟩
/-- both trees, loaded -/
theorem Twin.loaded {w w1 w2 w3 : World} {t d : Nat} {s : Tr} {v : Value} {es : List En} {vers next k : Int} (hb1 : Below w.heap.size w w1) (ho : Own5 w1.heap.size w2 t s) (he : s.es = es) (hv : s.vers = vers) (hn : s.next = next) (hb2 : Below w1.heap.size w1 w2) (hwf : WF Mn es next) (h0 : 0 ≤ vers) (hi : IsT w3 d ⟨v, es, vers, next⟩) (hd : ∀ q, v.ownBlock = some q → w2.heap.size ≤ q) (hb3 : Below w2.heap.size w2 w3) (hk1 : vers ≤ k) (hk2 : next ≤ 2 + k) : Twin w w3 t s k d ⟨v, es, vers, next⟩ := by
  have ho2 : Own5 w.heap.size w2 t s := ⟨ho.is, Nat.le_trans hb1.size ho.t0, fun q hq => Nat.le_trans hb1.size (ho.v0 q hq)⟩
  refine ⟨⟨ho2.below hb3, chainB (chainB hb1 hb2) hb3, ⟨by rw [he, hn]; exact hwf, by rw [hv]; exact h0, by rw [hv]; exact hk1, by rw [hn]; exact hk2⟩⟩, hi, ⟨by rw [he], hv, hn⟩, fun q hq e => ?_⟩
  have := hd q e
  have := (ho.is.tv hq).lt
  omega
theorem Twin.mono {w0 w : World} {t d : Nat} {s D : Tr} {k k' : Int} (h : Twin w0 w t s k d D) (hk : s.vers ≤ k') (hn : s.next ≤ 2 + k') : Twin w0 w t s k' d D := ⟨⟨h.one.own, h.one.bel, h.one.good.wf, h.one.good.v0, hk, hn⟩, h.two, h.likes, h.off⟩
set_option maxRecDepth 20000 in
set_option maxHeartbeats 16000000 in
theorem walk_TreeLoads (v : Value) (es : List En) (vers next : Int) (a : Option Addr) (cap : Nat) (ops : List Opn) (w : World) (hes : ArgE w v es) (_ : (Lit.int .i64 vers).wf = true) (_ : (Lit.int .i64 next).wf = true) (row : RowOps w a ops) (hlen : ops.length ≤ 3000000000000) :
    Calls Try.prog 3 #[v, .int .i64 vers, .int .i64 next, .slice a ops.length cap] w fun e w' => e = .returned (.bool true) ∧ Below w.heap.size w w' := by
  have HAw : Hid (∀ w, Calls Try.prog 8 #[] w fun e w' => e = .returned (.bool true) ∧ Below w.heap.size w w') := awake_p
  have HE : Hid (ArgE w v es) := hes
  obtain ⟨n, hn⟩ : ∃ n, ops.length = n := ⟨_, rfl⟩
  rw [hn] at hlen ⊢
  have H : Hid (RowOps w a ops ∧ ops.length = n) := ⟨row, hn⟩
  clear row hn hes
  by_cases hG : ¬ (WF Mn es next ∧ 0 ≤ vers)
  · have HN : Hid (¬ (WF Mn es next ∧ 0 ≤ vers)) := hG
    clear hG
    go_enter Try.func3, Try.ntmps3
    go_wp2_with (first
      | (go_at_call 6; refine (copyE_any v es _ HE.out).mono ?_; rintro x w1 ⟨v1, rfl, hr1, hb1⟩)
      | (go_at_call 5; refine (load_q v1 es _ vers next _ hr1).mono ?_; rintro x w2 h2; obtain ⟨rfl, hb2⟩ : x = .returned (.tuple #[.pointer none, .int .i64 1]) ∧ Below w1.heap.size w1 w2 := (by
          rcases h2 with ⟨t, s, -, hw, h0, -⟩ | ⟨hx, -, hb⟩
          · exact absurd ⟨hw, h0⟩ HN.out
          · exact ⟨hx, hb⟩); clear h2)
      | (go_at_call 7; refine (loadD_any Mn nmsD v es vers next _ ((HE.out.below hb1).below hb2)).mono ?_; rintro x w3 h3; obtain ⟨rfl, hb3⟩ : x = .returned (.tuple #[.pointer none, .int .i64 1]) ∧ Below w2.heap.size w2 w3 := (by
          rcases h3 with ⟨t, s, -, hw, -⟩ | ⟨hx, -, hb⟩
          · exact absurd (docAll_iff.1 hw) HN.out
          · exact ⟨hx, hb⟩); clear h3)
      | (go_at_call 8; refine (HAw.out _).mono ?_; rintro x w4 ⟨rfl, hb4⟩))
    go_ret
    exact ⟨rfl, chainB (chainB (chainB hb1 hb2) hb3) hb4⟩
  · have HG : Hid (WF Mn es next ∧ 0 ≤ vers) := (Classical.not_not.1 hG : WF Mn es next ∧ 0 ≤ vers)
    obtain ⟨K, hK⟩ : ∃ K : Int, max vers next = K := ⟨_, rfl⟩
    have HK : Hid (vers ≤ K ∧ next ≤ 2 + K) := ⟨by omega, by omega⟩
    clear hG hK
    go_enter Try.func3, Try.ntmps3
    go_upto_region 3 with (first
      | (go_at_call 6; refine (copyE_any v es _ HE.out).mono ?_; rintro x w1 ⟨v1, rfl, hr1, hb1⟩)
      | (go_at_call 5; refine (load_q v1 es _ vers next _ hr1).mono ?_; rintro x w2 h2; obtain ⟨t, s, rfl, ho, hse, hsv, hsn, hb2⟩ : ∃ t s, x = .returned (.tuple #[.pointer (some ⟨t, 0, none⟩), .int .i64 0]) ∧ Own5 w1.heap.size w2 t s ∧ s.es = es ∧ s.vers = vers ∧ s.next = next ∧ Below w1.heap.size w1 w2 := (by
          rcases h2 with ⟨t, s, hx, -, -, h⟩ | ⟨-, hw, -⟩
          · exact ⟨t, s, hx, h⟩
          · exact absurd HG.out hw); clear h2; have HO : Hid (Own5 w1.heap.size w2 t s ∧ s.es = es ∧ s.vers = vers ∧ s.next = next ∧ Below w1.heap.size w1 w2 ∧ Below w.heap.size w w1) := ⟨ho, hse, hsv, hsn, hb2, hb1⟩; clear ho hse hsv hsn)
      | (go_at_call 7; refine (loadD_any Mn nmsD v es vers next _ ((HE.out.below hb1).below hb2)).mono ?_; rintro x w3 h3; obtain ⟨d, vd, rfl, H3⟩ : ∃ d vd, x = .returned (.tuple #[.pointer (some ⟨d, 0, none⟩), .int .i64 0]) ∧ Hid (Twin w w3 t s K d ⟨vd, es, vers, next⟩) := (by
          rcases h3 with ⟨d, vd, hx, hw, hi, hd, hv, hb⟩ | ⟨-, hw, -⟩
          · exact ⟨d, vd, hx, Twin.loaded HO.out.2.2.2.2.2 HO.out.1 HO.out.2.1 HO.out.2.2.1 HO.out.2.2.2.1 HO.out.2.2.2.2.1 HG.out.1 HG.out.2 hi hv hb HK.out.1 HK.out.2⟩
          · exact absurd (docAll_iff.2 HG.out) hw); clear h3))
    have HS : Hid (s.vers = vers ∧ s.next = next) := ⟨HO.out.2.2.1, HO.out.2.2.2.1⟩
    clear hr1 hb1 hb2 HO HE
    go_upto_region 9 with (go_at_call 9; refine (like_p H3.out).mono ?_; rintro x w4 ⟨rfl, hb4⟩)
    have H4 : Hid (Twin w w4 t s K d ⟨vd, es, vers, next⟩) := H3.out.below hb4
    clear H3 hb4
    by_cases hv40 : 1099511627776 < vers
    · go_wp2_with (go_at_call 8; refine (HAw.out _).mono ?_; rintro x w5 ⟨rfl, hb5⟩)
      go_ret
      exact ⟨rfl, chainB H4.out.one.bel hb5⟩
    by_cases hn40 : 1099511627776 < next
    · go_wp2_with (go_at_call 8; refine (HAw.out _).mono ?_; rintro x w5 ⟨rfl, hb5⟩)
      go_ret
      exact ⟨rfl, chainB H4.out.one.bel hb5⟩
    have H5 : Hid (Twin w w4 t s 1099511627776 d ⟨vd, es, vers, next⟩) := H4.out.mono (by rw [HS.out.1]; omega) (by rw [HS.out.2]; omega)
    clear H4 HS
    go_wp2
    go_loopw [11, 13] (fun u i wr => ∃ (k : Nat) (s : Tr) (d : Nat) (D : Tr), k ≤ n ∧ u = .pointer (some ⟨d, 0, none⟩) ∧ i = .int .i64 k ∧ Hid (Twin w wr t s (1099511627776 + k) d D)) (fun _ i _ => n - (intOf i).toNat)
    case atStart => exact ⟨0, s, _, _, Nat.zero_le _, rfl, rfl, H5.out⟩
    case round =>
      obtain ⟨k, s, d, D, hk, rfl, rfl, hI⟩ := hrel
      by_cases hkn : k < n
      · obtain ⟨o, ho⟩ : ∃ o, ops[k]? = some o := ⟨_, List.getElem?_eq_getElem (by rw [H.out.2]; exact hkn)⟩
        rcases H.out.1 with h0 | ⟨b, off, rfl, hbl, hcs⟩
        · rw [h0] at ho; simp at ho
        · have HOc : Hid (CellsO w b (off + k * 7) o ∧ b < w.heap.size) := ⟨hcs k o ho, hbl⟩
          have hki : (k : Int) < (n : Int) := by omega
          obtain ⟨E, hE⟩ : ∃ x, doesE Mn s o = x := ⟨_, rfl⟩
          have hc := HOc.out.1.below HOc.out.2 hI.out.one.bel
          have x0 := hc.c0
          have x1 := hc.c1
          have x2 := hc.c2
          have x3 := hc.c3
          have x4 := hc.c4
          have x5 := hc.c5
          have x6 := hc.c6
          have HAp : Hid (Calls Try.prog 10 #[.pointer (some ⟨t, 0, none⟩), .agg #[.int .i64 o.kind, .int .i64 o.dir, .string o.nm, .int .i64 o.dst, .string o.new, .int .i64 o.mode, .string o.tg]] wr fun e w' => ∃ v kv s', e = .returned (.tuple #[v, kv, .int .i64 E]) ∧ Hid (Mid w w' t s s' (1099511627776 + k) d D o v kv)) := (hI.out.one.apply o (by omega)).mono fun e w' hh => by
            obtain ⟨v, kv, s', he, hd⟩ := hI.out.mid hh
            exact ⟨v, kv, s', by rw [← hE]; exact he, hd⟩
          clear ho hcs hc
          go_upto_region 15 with (go_at_call 10; refine HAp.out.mono ?_; rintro x w7 ⟨v7, k7, s7, rfl, h7⟩)
          clear x0 x1 x2 x3 x4 x5 x6 HAp
          have hc := HOc.out.1.below HOc.out.2 h7.out.one.bel
          have x0 := hc.c0
          have x1 := hc.c1
          have x2 := hc.c2
          have x3 := hc.c3
          have x4 := hc.c4
          have x5 := hc.c5
          have x6 := hc.c6
          have hgd := hI.out.one.good
          have hD1 : -9223372036854775808 ≤ D.next ∧ D.next < 9223372036854775807 := by rw [← hI.out.likes.next]; have := hgd.n1; have := hgd.wf.next2; omega
          have hD2 : 0 ≤ D.vers := by rw [← hI.out.likes.vers]; exact hgd.v0
          have hD3 : D.vers < 9223372036854775807 := by rw [← hI.out.likes.vers]; have := hgd.v1; omega
          have HAd : Hid (Calls Try.prog 11 #[.pointer (some ⟨d, 0, none⟩), .agg #[.int .i64 o.kind, .int .i64 o.dir, .string o.nm, .int .i64 o.dst, .string o.new, .int .i64 o.mode, .string o.tg]] w7 fun e w' => ∃ d' D' ev kv', e = .returned (.tuple #[.pointer (some ⟨d', 0, none⟩), ev, kv', .int .i64 E]) ∧ Hid (Twin w w' t s7 (1099511627776 + (k : Int) + 1) d' D' ∧ Row7 w' w.heap.size ev (toldE Mn s o) ∧ RowK w' w.heap.size kv' (toldK Mn s o) ∧ Below w7.heap.size w7 w')) := (applyD_any d D o w7 h7.out.two hD1 hD2 hD3).mono fun e w' hh => by
            obtain ⟨d', D', ev, kv', he, h⟩ := h7.out.doc hh
            exact ⟨d', D', ev, kv', by rw [← hE]; exact he, h⟩
          clear hc hgd hD1 hD2 hD3 hE
          go_wp2_with (first
            | (go_at_call 11; refine HAd.out.mono ?_; rintro x w8 ⟨d8, D8, e8, k8, rfl, h8⟩)
            | (go_at_call 12; refine (same_yes (h7.out.told.below h8.out.2.2.2) h8.out.2.1 (told_few o)).mono ?_; rintro x w9 ⟨rfl, hb9⟩)
            | (go_at_call 13; refine (sameK_yes ((h7.out.keys.below h8.out.2.2.2).below hb9) (h8.out.2.2.1.below hb9) (toldK_few o)).mono ?_; rintro x w10 ⟨rfl, hb10⟩))
          refine ⟨⟨k + 1, s7, d8, D8, by omega, rfl, by simp, ?_⟩, by simp [intOf]; omega⟩
          rw [show (1099511627776 + ((k + 1 : Nat) : Int)) = 1099511627776 + (k : Int) + 1 by omega]
          exact h8.out.1.below (chainB hb9 hb10)
      · have hkn' : ¬ (k : Int) < (n : Int) := by omega
        go_wp2_with (first
          | (go_at_call 9; refine (like_p hI.out).mono ?_; rintro x w2 ⟨rfl, hb2⟩)
          | (go_at_call 8; refine (HAw.out _).mono ?_; rintro x w3 ⟨rfl, hb3⟩))
        go_ret
        exact ⟨rfl, chainB (chainB hI.out.one.bel hb2) hb3⟩
end
end Go.Proofs.Ytjelggpkeogebaa
