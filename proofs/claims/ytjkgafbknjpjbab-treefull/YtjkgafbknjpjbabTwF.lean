/- The walk of the law TreeFull: it returns true. -/
import Derived.Test.YtjkgafbknjpjbabTqG
import Derived.Test.YtjkgafbknjpjbabPuL
namespace Go.Proofs.Ytjkgafbknjpjbab
open Go.RowKit
attribute [local go_sem high] eqK' neqK' eqE neqE eqN neqN guardK guardE guardN

theorem and63 (n : Int) : ∃ m : Nat, m < 64 ∧ bits .and .i64 n 63 = (m : Int) := by
  have hle : (BitVec.ofInt 64 n).toNat &&& 63 ≤ 63 := Nat.and_le_right
  refine ⟨(BitVec.ofInt 64 n).toNat &&& 63, by omega, ?_⟩
  show IntKind.i64.wrap ((BitVec.ofInt 64 n &&& BitVec.ofInt 64 63).toNat : Int) = _
  rw [BitVec.toNat_and, show (BitVec.ofInt 64 63).toNat = 63 from rfl]
  exact IntWalk.i64_in _ (by omega)
theorem Law.no {w0 w : World} {t : Nat} {s : Tr} {k : Int} (h : Law w0 w t s k) (o : Opn) (hk : k ≤ 4000000000000000000) {E : Int} (hE : doesE Mn s o = E) (hz : E ≠ 0) : Calls Try.prog 11 #[.pointer (some ⟨t, 0, none⟩), .agg o.arr] w fun e w' => ∃ v kv s', e = .returned (.tuple #[v, kv, .int .i64 E]) ∧ Hid (Law w0 w' t s' (k + 1) ∧ s'.es = s.es ∧ s'.next = s.next) := (h.apply o hk).mono fun e w' hh => by
  obtain ⟨v, kv, s', he, hd, -⟩ := h.did hh
  have hn := hd.step.no (by rw [hE]; exact hz)
  exact ⟨v, kv, s', by rw [← hE]; exact he, hd.law, hn.1, hn.2.2⟩
theorem Law.yes {w0 w : World} {t : Nat} {s : Tr} {k : Int} (h : Law w0 w t s k) (o : Opn) (hk : k ≤ 4000000000000000000) (hE : doesE Mn s o = 0) : Calls Try.prog 11 #[.pointer (some ⟨t, 0, none⟩), .agg o.arr] w fun e w' => ∃ v kv s', e = .returned (.tuple #[v, kv, .int .i64 0]) ∧ Hid (Law w0 w' t s' (k + 1) ∧ s'.es = srt (doesL s o) ∧ s'.next = doesN s o ∧ Row7 w' w0.heap.size v (tellL s o)) := (h.apply o hk).mono fun e w' hh => by
  obtain ⟨v, kv, s', he, hd, -⟩ := h.did hh
  have hn := hd.step.yes hE
  have hr := hd.told.row
  unfold toldE at hr
  rw [hE, if_pos rfl] at hr
  exact ⟨v, kv, s', by rw [← hE]; exact he, hd.law, hn.1, hn.2.2, hr⟩
theorem Full.alike {i : Nat} {s s' : Tr} (h : Full i s) (h1 : s'.es = s.es) (h2 : s'.next = s.next) : Full i s' := ⟨by rw [h2]; exact h.next, by rw [h1]; exact h.len, by rw [h1]; exact h.all, by rw [h1]; exact h.has⟩
set_option maxRecDepth 20000 in
set_option maxHeartbeats 16000000 in
theorem walk_TreeFull (a : Option Addr) (len cap : Nat) (A : Nat → Int) (n : Int) (w : World) (row : RowI w a len A) (hlen : len * 8 ≤ 140737488351232) (_ : (Lit.int .i64 n).wf = true) :
    Calls Try.prog 8 #[.slice a len cap, .int .i64 n] w fun e w' => e = .returned (.bool true) ∧ Below w.heap.size w w' := by
  have HAw : Hid (∀ w, Calls Try.prog 13 #[] w fun e w' => e = .returned (.bool true) ∧ Below w.heap.size w w') := awake_p
  go_enter Try.func8, Try.ntmps8
  go_upto_region 1 with fail
  obtain ⟨W, hW⟩ : ∃ W, w.alloc (.cells #[.slice a len cap] 25) = W := ⟨_, rfl⟩
  have hbW : Below w.heap.size w W := by rw [← hW]; exact below_alloc _ _
  have m0 : W.heap[w.heap.size]? = some (.cells #[.slice a len cap] 25 (0, 0)) := by rw [← hW]; exact heap_new _ _
  rw [hW]
  have HW : Hid (Below w.heap.size w W ∧ W.heap[w.heap.size]? = some (.cells #[.slice a len cap] 25 (0, 0)) ∧ RowI W a len A ∧ len * 8 ≤ 140737488351232 ∧ w.heap.size < W.heap.size) := ⟨hbW, m0, row.below hbW, hlen, by rw [← hW]; simp⟩
  clear hW hbW m0 row hlen
  have HK : Hid (∀ (i : Nat) (W' : World), i < 1000 → Below W.heap.size W W' → Calls Try.prog 24 #[.int .i64 (i : Int), .pointer (some ⟨w.heap.size, 0, none⟩)] W' fun e w' => ∃ P : Int, e = .returned (.int .i64 (5 + P)) ∧ (0 ≤ P ∧ P < 3) ∧ Below W'.heap.size W' w') := fun i W' hi hb => kind_p _ a len cap A i W' (by rw [cell_of ((hb.block _ HW.out.2.2.2.2).trans HW.out.2.1)]; rfl) (HW.out.2.2.1.below hb) hi HW.out.2.2.2.1
  go_upto_region 6 with (go_at_call 9; refine (new_p _).mono ?_; rintro x w1 ⟨rfl, hi1, hb1⟩)
  have H1 : Hid (Law W w1 W.heap.size emptyT 0) := ⟨⟨hi1, Nat.le_refl _, fun q hq => by cases hq⟩, hb1, Good.new Mn⟩
  clear hi1 hb1
  go_wp2
  go_loopw [8] (fun i wr => ∃ (k : Nat) (s : Tr), k ≤ 47 ∧ i = .int .i64 k ∧ Hid (Law W wr W.heap.size s k ∧ Full k s)) (fun i _ => 47 - (intOf i).toNat)
  case atStart => exact ⟨0, emptyT, Nat.zero_le _, rfl, H1.out, Full.new⟩
  case round =>
    obtain ⟨k, s, hk, rfl, hI⟩ := hrel
    by_cases hk47 : k < 47
    · have hki : (k : Int) < 47 := by omega
      obtain ⟨r, hr⟩ : ∃ r, k % 26 = r := ⟨_, rfl⟩
      obtain ⟨d, hd⟩ : ∃ d, k / 26 = d := ⟨_, rfl⟩
      have hr26 : r < 26 := by rw [← hr]; exact Nat.mod_lt _ (by omega)
      have hd2 : d < 2 := by rw [← hd]; omega
      have htm : (k : Int).tmod 26 = (r : Int) := by rw [← hr]; exact (Int.ofNat_tmod k 26).symm
      have htd : (k : Int).tdiv 26 = (d : Int) := by rw [← hd]; exact (Int.ofNat_tdiv k 26).symm
      have hw1 : IntKind.i64.wrap ((k : Int).tmod 26) = (r : Int) := (IntWalk.i64_in _ (by rw [htm]; omega)).trans htm
      have hw2 : IntKind.i64.wrap ((k : Int).tdiv 26) = (d : Int) := (IntWalk.i64_in _ (by rw [htd]; omega)).trans htd
      have hw3 : IntKind.i64.wrap ((r : Int) + 1) = (r : Int) + 1 := IntWalk.i64_in _ (by omega)
      have hw4 : IntKind.i64.wrap ((d : Int) + 1) = (d : Int) + 1 := IntWalk.i64_in _ (by omega)
      have hr0 : (0 : Int) ≤ (r : Int) := by omega
      have hd0 : (0 : Int) ≤ (d : Int) := by omega
      have hr1 : (r : Int) + 1 ≤ 26 := by omega
      have hd1 : (d : Int) + 1 ≤ 26 := by omega
      have hr2 : (r : Int) ≤ (r : Int) + 1 := by omega
      have hd3 : (d : Int) ≤ (d : Int) + 1 := by omega
      have hrt : ((r : Int) + 1).toNat = r + 1 := by omega
      have hdt : ((d : Int) + 1).toNat = d + 1 := by omega
      go_upto_region 9 with fail
      go_quiet (fail)
      obtain ⟨S, hS⟩ : ∃ S, ((⟨#[97, 98, 99, 100, 101, 102, 103, 104, 105, 106, 107, 108, 109, 110, 111, 112, 113, 114, 115, 116, 117, 118, 119, 120, 121, 122]⟩ : ByteArray).extract r (r + 1) ++ (⟨#[97, 98, 99, 100, 101, 102, 103, 104, 105, 106, 107, 108, 109, 110, 111, 112, 113, 114, 115, 116, 117, 118, 119, 120, 121, 122]⟩ : ByteArray).extract d (d + 1)) = S := ⟨_, rfl⟩
      rw [hS]
      have HS : Hid (S = nmB k) := by
        have := abc_nmB k hk47
        rw [hr, hd] at this
        exact hS.symm.trans this
      obtain ⟨w9, hw9⟩ : ∃ x, wr.drewN nq = x := ⟨_, rfl⟩
      have hb9 : Below wr.heap.size wr w9 := by rw [← hw9]; exact below_drewN (Below.refl _ _) _
      rw [hw9]
      have H9 : Hid (Law W w9 W.heap.size s k) := hI.out.1.below hb9
      have HAp : Hid (∀ (P : Int) (W' : World), (0 ≤ P ∧ P < 3) → Law W W' W.heap.size s k → Calls Try.prog 11 #[.pointer (some ⟨W.heap.size, 0, none⟩), .agg #[.int .i64 (5 + P), .int .i64 1, .string S, .int .i64 0, .string ⟨#[]⟩, .int .i64 0, .string ⟨#[97]⟩]] W' fun e w' => ∃ v kv s', e = .returned (.tuple #[v, kv, .int .i64 0]) ∧ Hid (Law W w' W.heap.size s' ((k : Int) + 1) ∧ Full (k + 1) s')) := fun P W' hP hL => by
        have h1 := fun s' => Full.more (s' := s') (k := 5 + P) hL.good.wf hI.out.2 hk47 (by omega)
        have := hL.apply ⟨5 + P, 1, S, 0, ⟨#[]⟩, 0, ⟨#[97]⟩⟩ (by omega)
        rw [HS.out] at this ⊢
        refine this.mono fun e w' hh => ?_
        obtain ⟨v, kv, s', he, hd, -⟩ := hL.did hh
        have hE := (h1 s').1
        unfold tgA at hE
        rw [hE] at he
        have hy := hd.step.yes hE
        exact ⟨v, kv, s', he, hd.law, (h1 s').2 hy.1 hy.2.2⟩
      clear hw9 hb9 hS hr hd htm htd hw1 hw2 hw3 hw4 hr0 hd0 hr1 hd1 hr2 hd3 hrt hdt hr26 hd2
      go_wp2_with (first
        | (go_at_call 24; refine (HK.out k _ (by omega) H9.out.bel).mono ?_; rintro x w10 ⟨P, rfl, hP, hb10⟩)
        | (go_at_call 11; refine (HAp.out P _ hP (H9.out.below hb10)).mono ?_; rintro x w11 ⟨v11, k11, s11, rfl, h11⟩))
      exact ⟨⟨k + 1, s11, by omega, by simp, by rw [show ((k + 1 : Nat) : Int) = (k : Int) + 1 by omega]; exact h11.out.1, h11.out.2⟩, by simp [intOf]; omega⟩
    · have hk' : k = 47 := by omega
      subst hk'
      obtain ⟨m, hm, hbits⟩ := and63 n
      have HA1 : Hid (∀ (P : Int) (W' : World), (0 ≤ P ∧ P < 3) → Law W W' W.heap.size s 47 → Calls Try.prog 11 #[.pointer (some ⟨W.heap.size, 0, none⟩), .agg #[.int .i64 (5 + P), .int .i64 1, .string ⟨#[109, 111, 114, 101]⟩, .int .i64 0, .string ⟨#[]⟩, .int .i64 0, .string ⟨#[97]⟩]] W' fun e w' => ∃ v kv s', e = .returned (.tuple #[v, kv, .int .i64 47]) ∧ Hid (Law W w' W.heap.size s' (47 + 1) ∧ s'.es = s.es ∧ s'.next = s.next)) := fun P W' hP hL => hL.no ⟨5 + P, 1, nmMore, 0, ⟨#[]⟩, 0, tgA⟩ (by omega) (hI.out.2.room (by omega)) (by decide)
      go_upto_region 14 with (first
        | (go_at_call 24; refine (HK.out m _ (by omega) hI.out.1.bel).mono ?_; rintro x w10 ⟨P, rfl, hP, hb10⟩)
        | (go_at_call 11; refine (HA1.out P _ hP (hI.out.1.below hb10)).mono ?_; rintro x w11 ⟨v11, k11, s11, rfl, h11⟩))
      have H11 : Hid (Law W w11 W.heap.size s11 (47 + 1) ∧ Full 47 s11) := ⟨h11.out.1, hI.out.2.alike h11.out.2.1 h11.out.2.2⟩
      clear h11 HA1 hb10 hP
      have HA2 : Hid (∀ (P : Int) (W' : World), (0 ≤ P ∧ P < 3) → Law W W' W.heap.size s11 (47 + 1) → Calls Try.prog 11 #[.pointer (some ⟨W.heap.size, 0, none⟩), .agg #[.int .i64 (5 + P), .int .i64 1, .string ⟨#[97, 97]⟩, .int .i64 0, .string ⟨#[]⟩, .int .i64 0, .string ⟨#[97]⟩]] W' fun e w' => ∃ v kv s', e = .returned (.tuple #[v, kv, .int .i64 41]) ∧ Hid (Law W w' W.heap.size s' (47 + 1 + 1) ∧ s'.es = s11.es ∧ s'.next = s11.next)) := fun P W' hP hL => hL.no ⟨5 + P, 1, nmB 0, 0, ⟨#[]⟩, 0, tgA⟩ (by omega) (H11.out.2.there H11.out.1.good.wf (by omega)) (by decide)
      go_upto_region 15 with (first
        | (go_at_call 24; refine (HK.out m _ (by omega) H11.out.1.bel).mono ?_; rintro x w12 ⟨P2, rfl, hP2, hb12⟩)
        | (go_at_call 11; refine (HA2.out P2 _ hP2 (H11.out.1.below hb12)).mono ?_; rintro x w13 ⟨v13, k13, s13, rfl, h13⟩))
      have H13 : Hid (Law W w13 W.heap.size s13 (47 + 1 + 1) ∧ Full 47 s13) := ⟨h13.out.1, H11.out.2.alike h13.out.2.1 h13.out.2.2⟩
      clear h13 HA2 hb12 hP2 H11
      have HCt : Hid (Calls Try.prog 25 #[.pointer (some ⟨W.heap.size, 0, none⟩)] w13 fun e w' => e = .returned (.int .i64 48) ∧ w13 = w') := by
        have := count_p W.heap.size s13 w13 H13.out.1.own.is
        rw [H13.out.2.len] at this
        exact this.mono fun _ _ h => ⟨h.1, h.2.symm⟩
      have HRn : Hid (Calls Try.prog 11 #[.pointer (some ⟨W.heap.size, 0, none⟩), .agg #[.int .i64 10, .int .i64 1, .string ⟨#[97, 97]⟩, .int .i64 1, .string ⟨#[122, 122]⟩, .int .i64 0, .string ⟨#[]⟩]] w13 fun e w' => ∃ v kv s', e = .returned (.tuple #[v, kv, .int .i64 0]) ∧ Hid (Law W w' W.heap.size s' (47 + 1 + 1 + 1) ∧ Part 47 s' ∧ ∃ e ∈ s'.es, e.nm = nmB 1)) := (H13.out.1.yes ⟨10, 1, nmB 0, 1, nmZz, 0, ⟨#[]⟩⟩ (by omega) (H13.out.2.ren (s' := s13) H13.out.1.good.wf).1).mono fun e w' ⟨v, kv, s', he, h⟩ => ⟨v, kv, s', he, h.out.1, (H13.out.2.ren H13.out.1.good.wf).2 h.out.2.1 h.out.2.2.1⟩
      go_upto_region 18 with (first
        | (go_at_call 25; refine HCt.out.mono ?_; rintro x w14 ⟨rfl, rfl⟩)
        | (go_at_call 11; refine HRn.out.mono ?_; rintro x w15 ⟨v15, k15, s15, rfl, h15⟩))
      obtain ⟨e, hem, hen⟩ := h15.out.2.2
      have hd1 := (h15.out.2.1.all e hem).1
      obtain ⟨f, F, hF, hf, HLo⟩ := Look_q Mn nmsP W.heap.size s15 1 (nmB 1)
      rw [named_one _ _ (nmB_chk (by omega))] at hF
      subst hF
      have hfe : f = e := by
        rw [hf rfl, nowE_at, (atE_iff h15.out.1.good.wf.keyed _ _ e).2 ⟨hem, hd1, hen⟩]
      subst hfe
      have H15 : Hid (Law W w15 W.heap.size s15 (47 + 1 + 1 + 1) ∧ Part 47 s15 ∧ f ∈ s15.es ∧ f.nm = nmB 1) := ⟨h15.out.1, h15.out.2.1, hem, hen⟩
      clear h15 hem hen hd1 hf HCt HRn H13
      unfold nmB at HLo
      go_upto_region 20 with (go_at_call 19; refine (HLo.out _ H15.out.1.own.is).mono ?_; rintro x w16 ⟨rfl, hb16⟩)
      obtain ⟨w17, hw17⟩ : ∃ x, w16.alloc (.cells #[.int .i64 f.d, .string f.nm, .bool f.neg, .int .i64 f.id, .int .i64 f.kind, .int .i64 f.mode, .string f.tg] 39) = x := ⟨_, rfl⟩
      have hb17 : Below w15.heap.size w15 w17 := by rw [← hw17]; exact chainB hb16 (below_alloc _ _)
      have hx17 : w17.heap[w16.heap.size]? = some (.cells #[.int .i64 f.d, .string f.nm, .bool f.neg, .int .i64 f.id, .int .i64 f.kind, .int .i64 f.mode, .string f.tg] 39 (0, 0)) := by rw [← hw17]; exact heap_new _ _
      rw [hw17]
      have d4 := cell_of hx17 4
      simp at d4
      have H17 : Hid (Law W w17 W.heap.size s15 (47 + 1 + 1 + 1)) := H15.out.1.below hb17
      clear hw17 hb17 hx17 hb16 HLo
      by_cases hk1 : f.kind = 1
      · have hkb : (f.kind == 1) = true := by simpa using hk1
        have HRm : Hid (∀ W', Law W W' W.heap.size s15 (47 + 1 + 1 + 1) → Calls Try.prog 11 #[.pointer (some ⟨W.heap.size, 0, none⟩), .agg #[.int .i64 9, .int .i64 1, .string ⟨#[98, 97]⟩, .int .i64 0, .string ⟨#[]⟩, .int .i64 0, .string ⟨#[]⟩]] W' fun e w' => ∃ v kv s', e = .returned (.tuple #[v, kv, .int .i64 0]) ∧ Hid (Law W w' W.heap.size s' (47 + 1 + 1 + 1 + 1) ∧ Part 46 s')) := fun W' hL => (hL.yes ⟨9, 1, nmB 1, 0, ⟨#[]⟩, 0, ⟨#[]⟩⟩ (by omega) (H15.out.2.1.rm (s' := s15) (K := 9) hL.good.wf H15.out.2.2.1 H15.out.2.2.2 (by simp [hk1])).1).mono fun e w' ⟨v, kv, s', he, h⟩ => ⟨v, kv, s', he, h.out.1, (H15.out.2.1.rm (K := 9) hL.good.wf H15.out.2.2.1 H15.out.2.2.2 (by simp [hk1])).2 h.out.2.1 h.out.2.2.1⟩
        clear hk1
        go_upto_region 23 with (go_at_call 11; refine (HRm.out _ H17.out).mono ?_; rintro x w18 ⟨v18, k18, s18, rfl, h18⟩)
        have HMk : Hid (Calls Try.prog 11 #[.pointer (some ⟨W.heap.size, 0, none⟩), .agg #[.int .i64 6, .int .i64 1, .string ⟨#[109, 111, 114, 101]⟩, .int .i64 0, .string ⟨#[]⟩, .int .i64 0, .string ⟨#[]⟩]] w18 fun e w' => ∃ g c kv s', e = .returned (.tuple #[.slice (some ⟨g, 0, none⟩) 1 c, kv, .int .i64 0]) ∧ Hid (Law W w' W.heap.size s' (47 + 1 + 1 + 1 + 1 + 1) ∧ w'.cell? ⟨g, 3, none⟩ = some (.int .i64 49))) := (h18.out.1.yes ⟨6, 1, nmMore, 0, ⟨#[]⟩, 0, ⟨#[]⟩⟩ (by omega) h18.out.2.mk'.1).mono fun e w' ⟨v, kv, s', he, h⟩ => by
          have hr := h.out.2.2.2
          rw [h18.out.2.mk'.2] at hr
          obtain ⟨a9, c9, hv⟩ := owns_len hr
          subst hv
          obtain ⟨g, hg, -, -, -, hc, -⟩ := owns_entry (i := 0) hr rfl
          subst hg
          exact ⟨g, c9, kv, s', he, h.out.1, by have := hc.c3; simpa using this⟩
        go_upto_region 24 with (go_at_call 11; refine HMk.out.mono ?_; rintro x w19 ⟨g19, c19, k19, s19, rfl, h19⟩)
        have x3 := h19.out.2
        have H19 : Hid (Below w.heap.size w w19) := chainB HW.out.1 h19.out.1.bel
        go_wp2_with (go_at_call 13; refine (HAw.out _).mono ?_; rintro x w20 ⟨rfl, hb20⟩)
        go_ret
        exact ⟨rfl, chainB H19.out hb20⟩
      · have hkb : (f.kind == 1) = false := by simpa using hk1
        have HRm : Hid (∀ W', Law W W' W.heap.size s15 (47 + 1 + 1 + 1) → Calls Try.prog 11 #[.pointer (some ⟨W.heap.size, 0, none⟩), .agg #[.int .i64 8, .int .i64 1, .string ⟨#[98, 97]⟩, .int .i64 0, .string ⟨#[]⟩, .int .i64 0, .string ⟨#[]⟩]] W' fun e w' => ∃ v kv s', e = .returned (.tuple #[v, kv, .int .i64 0]) ∧ Hid (Law W w' W.heap.size s' (47 + 1 + 1 + 1 + 1) ∧ Part 46 s')) := fun W' hL => (hL.yes ⟨8, 1, nmB 1, 0, ⟨#[]⟩, 0, ⟨#[]⟩⟩ (by omega) (H15.out.2.1.rm (s' := s15) (K := 8) hL.good.wf H15.out.2.2.1 H15.out.2.2.2 (by simp [hk1])).1).mono fun e w' ⟨v, kv, s', he, h⟩ => ⟨v, kv, s', he, h.out.1, (H15.out.2.1.rm (K := 8) hL.good.wf H15.out.2.2.1 H15.out.2.2.2 (by simp [hk1])).2 h.out.2.1 h.out.2.2.1⟩
        clear hk1
        go_upto_region 23 with (go_at_call 11; refine (HRm.out _ H17.out).mono ?_; rintro x w18 ⟨v18, k18, s18, rfl, h18⟩)
        have HMk : Hid (Calls Try.prog 11 #[.pointer (some ⟨W.heap.size, 0, none⟩), .agg #[.int .i64 6, .int .i64 1, .string ⟨#[109, 111, 114, 101]⟩, .int .i64 0, .string ⟨#[]⟩, .int .i64 0, .string ⟨#[]⟩]] w18 fun e w' => ∃ g c kv s', e = .returned (.tuple #[.slice (some ⟨g, 0, none⟩) 1 c, kv, .int .i64 0]) ∧ Hid (Law W w' W.heap.size s' (47 + 1 + 1 + 1 + 1 + 1) ∧ w'.cell? ⟨g, 3, none⟩ = some (.int .i64 49))) := (h18.out.1.yes ⟨6, 1, nmMore, 0, ⟨#[]⟩, 0, ⟨#[]⟩⟩ (by omega) h18.out.2.mk'.1).mono fun e w' ⟨v, kv, s', he, h⟩ => by
          have hr := h.out.2.2.2
          rw [h18.out.2.mk'.2] at hr
          obtain ⟨a9, c9, hv⟩ := owns_len hr
          subst hv
          obtain ⟨g, hg, -, -, -, hc, -⟩ := owns_entry (i := 0) hr rfl
          subst hg
          exact ⟨g, c9, kv, s', he, h.out.1, by have := hc.c3; simpa using this⟩
        go_upto_region 24 with (go_at_call 11; refine HMk.out.mono ?_; rintro x w19 ⟨g19, c19, k19, s19, rfl, h19⟩)
        have x3 := h19.out.2
        have H19 : Hid (Below w.heap.size w w19) := chainB HW.out.1 h19.out.1.bel
        go_wp2_with (go_at_call 13; refine (HAw.out _).mono ?_; rintro x w20 ⟨rfl, hb20⟩)
        go_ret
        exact ⟨rfl, chainB H19.out hb20⟩
end Go.Proofs.Ytjkgafbknjpjbab
