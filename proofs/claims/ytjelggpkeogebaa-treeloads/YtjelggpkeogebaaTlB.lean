/- The document's tree: Load. -/
import Derived.Test.YtjelggpkeogebaaTlA
namespace Go.Proofs.Ytjelggpkeogebaa
open Go.RowKit
attribute [local go_sem high] eqK neqK eqE neqE eqN neqN guardK guardE guardN

def DocAll (M : Nms) (es : List En) (vers next : Int) : Prop := es.length < 48 ∧ 0 ≤ vers ∧ 1 < next ∧ ∀ i e, es[i]? = some e → DocE M es next i e
/-- what the document's Load answers -/
def LoadD (M : Nms) (es : List En) (vers next : Int) (w w' : World) (x : Ending) : Prop :=
  (∃ t v, x = .returned (.tuple #[.pointer (some ⟨t, 0, none⟩), .int .i64 0]) ∧ DocAll M es vers next ∧ IsT w' t ⟨v, es, vers, next⟩ ∧ w.heap.size ≤ t ∧ (∀ q, v.ownBlock = some q → w.heap.size ≤ q) ∧ Below w.heap.size w w') ∨
  (x = .returned (.tuple #[.pointer none, .int .i64 1]) ∧ ¬ DocAll M es vers next ∧ Below w.heap.size w w')
/-- the document's tree behind its first row -/
structure LdD (w W : World) (t : Nat) (v : Value) (es : List En) (vers next : Int) : Prop where
  is : IsT W t ⟨v, es, vers, next⟩
  t0 : w.heap.size ≤ t
  v0 : ∀ q, v.ownBlock = some q → w.heap.size ≤ q
  bel : Below w.heap.size w W
theorem LdD.below {w W W' : World} {t : Nat} {v : Value} {es : List En} {vers next : Int} (h : LdD w W t v es vers next) (hb : Below W.heap.size W W') : LdD w W' t v es vers next := ⟨h.is.below hb, h.t0, h.v0, chainB h.bel hb⟩
set_option maxRecDepth 20000 in
set_option maxHeartbeats 16000000 in
theorem loadD_bad (M : Nms) (a : Option Addr) (n cap : Nat) (es : List En) (vers next : Int) (w : World) (hn : es.length = n) (hl : n * 72 ≤ 140737488351232) (hb : ¬ (n < 48 ∧ 0 ≤ vers ∧ 1 < next)) : Calls Try.prog 7 #[.slice a n cap, .int .i64 vers, .int .i64 next] w fun x w' => LoadD M es vers next w w' x := by
  have HN : Hid (¬ DocAll M es vers next) := fun h => hb ⟨by have := h.1; omega, h.2.1, h.2.2.1⟩
  have hw1 : IntKind.i64.wrap ((n : Int) + 1) = (n : Int) + 1 := IntWalk.i64_in _ (by omega)
  by_cases h1 : vers < 0
  · clear hb hl
    go_enter Try.func7, Try.ntmps7
    go_wp2
    go_ret2
    exact .inr ⟨rfl, HN.out, Below.refl _ _⟩
  · by_cases h2 : next ≤ 1
    · clear hb hl
      go_enter Try.func7, Try.ntmps7
      go_wp2
      go_ret2
      exact .inr ⟨rfl, HN.out, Below.refl _ _⟩
    · have h3 : (48 : Int) < (n : Int) + 1 := by omega
      clear hb hl
      go_enter Try.func7, Try.ntmps7
      go_wp2
      go_ret2
      exact .inr ⟨rfl, HN.out, Below.refl _ _⟩
set_option maxRecDepth 20000 in
set_option maxHeartbeats 16000000 in
theorem loadD_nil (M : Nms) (cap : Nat) (vers next : Int) (w : World) (h1 : ¬ vers < 0) (h2 : ¬ next ≤ 1) : Calls Try.prog 7 #[.slice none 0 cap, .int .i64 vers, .int .i64 next] w fun x w' => LoadD M [] vers next w w' x := by
  have HD : Hid (DocAll M [] vers next) := ⟨by simp, by omega, by omega, fun i e he => by simp at he⟩
  go_enter Try.func7, Try.ntmps7
  go_upto_region 4 with fail
  obtain ⟨W, hW⟩ : ∃ x, w.alloc (.cells #[.slice none 0 0, .int .i64 vers, .int .i64 next] 60) = x := ⟨_, rfl⟩
  have HI : Hid (LdD w W w.heap.size (.slice none 0 0) [] vers next) := by
    show LdD _ _ _ _ _ _ _
    rw [← hW]
    exact ⟨⟨heap_new _ _, World.ownsRow_nil _ _ _ _, Nat.zero_le _⟩, Nat.le_refl _, (fun q hq => by cases hq), below_alloc _ _⟩
  rw [hW]
  clear hW
  go_wp2
  go_loopw [9] (fun i wr => i = .int .i64 0 ∧ wr = W) (fun _ _ => 0)
  case atStart => exact ⟨rfl, rfl⟩
  case round =>
    obtain ⟨rfl, rfl⟩ := hrel
    go_wp2
    go_ret2
    exact .inl ⟨_, _, rfl, HD.out, HI.out.is, HI.out.t0, HI.out.v0, HI.out.bel⟩
set_option maxRecDepth 20000 in
set_option maxHeartbeats 64000000 in
theorem loadD_some (M : Nms) (hM : NmsOK M) (ad : Addr) (n cap : Nat) (es : List En) (vers next : Int) (w : World) (h : ArgE w (.slice (some ad) n cap) es) (h0 : n < 48) (h1 : ¬ vers < 0) (h2 : ¬ next ≤ 1) : Calls Try.prog 7 #[.slice (some ad) n cap, .int .i64 vers, .int .i64 next] w fun x w' => LoadD M es vers next w w' x := by
  obtain ⟨i1, hi1, hw0, hw1, hw2⟩ := info_parts Try.infoE
  obtain ⟨hn, hl, hC, hK⟩ := argE_cells h
  have HC : Hid (∀ j u, (ec es)[j]? = some u → w.cell? (ad.add j) = some u) := hC
  have HK : Hid (∀ k e, es[k]? = some e → ∃ b off, ad = ⟨b, off, none⟩ ∧ b < w.heap.size ∧ Cells7 w b (off + k * 7) e) := hK
  have HL : Hid (es.length = n ∧ (ec es).length = n * 7 ∧ n < 48 ∧ 0 ≤ vers ∧ 1 < next) := ⟨hn, by rw [ec_len, hn], h0, by omega, by omega⟩
  have hlen : ¬ (48 : Int) < (n : Int) + 1 := by omega
  have hwn : IntKind.i64.wrap ((n : Int) + 1) = (n : Int) + 1 := IntWalk.i64_in _ (by omega)
  have HM : Hid (NmsOK M) := hM
  clear h hC hK hl hn hM
  go_enter Try.func7, Try.ntmps7
  go_upto_region 4 with (at_builtin; refine wpList_append_own _ rfl _ _ 22 rfl w.heap.size 56 i1 _ 7 72 Try.underlying22 hi1 hw0 hw1 hw2 rfl (by decide) _ 0 [] rfl (World.ownsRow_nil _ _ _ _) ad n cap (ec es) rfl HL.out.2.1 HC.out (ec_one es) (by unfold maxLen; omega) (by omega) (Nat.le_refl _) ?_; intro v' w1 hown hgrow hxx; clear hxx; obtain ⟨av, cv, hv⟩ := owns_len hown; subst hv)
  rw [Nat.zero_add, List.nil_append] at hown
  have hb1 := below_grown hgrow
  obtain ⟨W, hW⟩ : ∃ x, w1.alloc (.cells #[.slice av n cv, .int .i64 vers, .int .i64 next] 60) = x := ⟨_, rfl⟩
  obtain ⟨t, ht⟩ : ∃ t, w1.heap.size = t := ⟨_, rfl⟩
  have HI : Hid (LdD w W t (.slice av n cv) es vers next) := by
    show LdD _ _ _ _ _ _ _
    rw [← hW, ← ht]
    refine ⟨⟨heap_new _ _, ?_, by show es.length ≤ 47; have := HL.out; omega⟩, hb1.size, fun q hq => (World.ownsRow.lt hown q hq).1, chainB hb1 (below_alloc _ _)⟩
    show World.ownsRow _ _ _ _ _ es.length _
    rw [HL.out.1]
    exact owns_le (owns_moved hown fun q hq => (below_alloc _ _).block q (World.ownsRow.lt hown q hq).2) (Nat.zero_le _)
  rw [hW, ht]
  clear hW ht hown hgrow hb1 HC hi1 hw0 hw1 hw2 hwn h0 i1
  go_wp2
  go_loopw [9] (fun i wr => ∃ k : Nat, k ≤ n ∧ i = .int .i64 k ∧ Hid (∀ i e, i < k → es[i]? = some e → DocE M es next i e) ∧ Hid (Below W.heap.size W wr)) (fun i _ => n - (intOf i).toNat)
  case atStart => exact ⟨0, Nat.zero_le _, rfl, fun i e hi => (by omega), Below.refl _ _⟩
  case round =>
    obtain ⟨k, hk, rfl, hR, hB⟩ := hrel
    by_cases hkn : k < n
    · obtain ⟨e, he⟩ : ∃ e, es[k]? = some e := ⟨_, List.getElem?_eq_getElem (by rw [HL.out.1]; exact hkn)⟩
      obtain ⟨b, off, rfl, hbl, hc⟩ := HK.out k e he
      obtain ⟨d, nm, N, id, kind, mode, tg⟩ := e
      have HBw : Hid (b < w.heap.size ∧ Below w.heap.size w wr ∧ Cells7 w b (off + k * 7) ⟨d, nm, N, id, kind, mode, tg⟩) := ⟨hbl, chainB HI.out.bel hB.out, hc⟩
      have hki : (k : Int) < (n : Int) := by omega
      have HF : Hid (DocAll M es vers next → DocE M es next k ⟨d, nm, N, id, kind, mode, tg⟩) := fun h => h.2.2.2 k _ he
      have HE : Hid (es[k]? = some ⟨d, nm, N, id, kind, mode, tg⟩) := he
      have hcw := (HBw.out.2.2).below HBw.out.2.1
      have x3 : wr.cell? ⟨b, off + k * 7 + 3, none⟩ = some (.int .i64 id) := hcw.c3
      have x4 : wr.cell? ⟨b, off + k * 7 + 4, none⟩ = some (.int .i64 kind) := hcw.c4
      have x5 : wr.cell? ⟨b, off + k * 7 + 5, none⟩ = some (.int .i64 mode) := hcw.c5
      have x6 : wr.cell? ⟨b, off + k * 7 + 6, none⟩ = some (.string tg) := hcw.c6
      clear hc he hcw hbl
      go_upto_region 8 with fail
      obtain ⟨w1, hw1⟩ : ∃ x, wr.alloc (.cells #[.int .i64 id, .int .i64 kind, .int .i64 mode, .string tg] 54) = x := ⟨_, rfl⟩
      obtain ⟨g, hg⟩ : ∃ g, wr.heap.size = g := ⟨_, rfl⟩
      rw [hw1, hg]
      have H1 : Hid (w1.heap[g]? = some (.cells #[.int .i64 id, .int .i64 kind, .int .i64 mode, .string tg] 54 (0, 0)) ∧ Below wr.heap.size wr w1) := by
        rw [← hw1, ← hg]; exact ⟨heap_new _ _, below_alloc _ _⟩
      clear hw1 hg x3 x4 x5 x6
      have z3 : w1.cell? ⟨g, 3, none⟩ = some (.string tg) := by rw [cell_of H1.out.1]; rfl
      have z1 : w1.cell? ⟨g, 1, none⟩ = some (.int .i64 kind) := by rw [cell_of H1.out.1]; rfl
      obtain ⟨T, hT⟩ : ∃ T, M.tgt tg = T := ⟨_, rfl⟩
      have HT : Hid (M.tgt tg = T) := hT
      have HTg : Hid (Calls Try.prog 24 #[.string tg] w1 fun e w' => ∃ v a b, e = .returned (.tuple #[v, .bool a, .bool b, .int .i64 T]) ∧ Below w1.heap.size w1 w') := by rw [← hT]; exact HM.out.target tg w1
      clear hT
      go_upto_region 9 with (go_at_call 24; refine HTg.out.mono ?_; rintro x w2 ⟨v2, a2, b2, rfl, hb2⟩)
      have H2 : Hid (w2.heap[g]? = some (.cells #[.int .i64 id, .int .i64 kind, .int .i64 mode, .string tg] 54 (0, 0)) ∧ Below wr.heap.size wr w2) := ⟨hkeep H1.out.1 hb2, chainB H1.out.2 hb2⟩
      have HB2 : Hid (Below W.heap.size W w2 ∧ Below w.heap.size w w2) := ⟨chainB hB.out H2.out.2, chainB HBw.out.2.1 H2.out.2⟩
      clear hb2 HTg z3 z1 H1
      have z0 : w2.cell? ⟨g, 0, none⟩ = some (.int .i64 id) := by rw [cell_of H2.out.1]; rfl
      have z1 : w2.cell? ⟨g, 1, none⟩ = some (.int .i64 kind) := by rw [cell_of H2.out.1]; rfl
      have z2 : w2.cell? ⟨g, 2, none⟩ = some (.int .i64 mode) := by rw [cell_of H2.out.1]; rfl
      have z3 : w2.cell? ⟨g, 3, none⟩ = some (.string tg) := by rw [cell_of H2.out.1]; rfl
      have hcw := (HBw.out.2.2).below HB2.out.2
      have x2 : w2.cell? ⟨b, off + k * 7 + 2, none⟩ = some (.bool N) := hcw.c2
      have x0 : w2.cell? ⟨b, off + k * 7, none⟩ = some (.int .i64 d) := hcw.c0
      have x1 : w2.cell? ⟨b, off + k * 7 + 1, none⟩ = some (.string nm) := hcw.c1
      clear hcw
      cases N with
      | true =>
        have HZ : Hid (¬ DocE M es next k ⟨d, nm, true, id, kind, mode, tg⟩) := fun h => (by have := h.neg; cases this)
        go_wp2
        go_ret2
        exact .inr ⟨rfl, fun h => HZ.out (HF.out h), HB2.out.2⟩
      | false =>
        by_cases c1 : id ≤ 1
        · have HZ : Hid (¬ DocE M es next k ⟨d, nm, false, id, kind, mode, tg⟩) := fun h => absurd h.lo (by show ¬ 1 < id; omega)
          go_wp2
          go_ret2
          exact .inr ⟨rfl, fun h => HZ.out (HF.out h), HB2.out.2⟩
        by_cases c2 : next ≤ id
        · have HZ : Hid (¬ DocE M es next k ⟨d, nm, false, id, kind, mode, tg⟩) := fun h => absurd h.hi (by show ¬ id < next; omega)
          go_wp2
          go_ret2
          exact .inr ⟨rfl, fun h => HZ.out (HF.out h), HB2.out.2⟩
        by_cases c3 : kind < 1
        · have hk3 : (kind == 3) = false := by rw [beq_eq_false_iff_ne]; omega
          have HZ : Hid (¬ DocE M es next k ⟨d, nm, false, id, kind, mode, tg⟩) := fun h => absurd h.k1 (by show ¬ 1 ≤ kind; omega)
          go_wp2
          go_ret2
          exact .inr ⟨rfl, fun h => HZ.out (HF.out h), HB2.out.2⟩
        by_cases c4 : 3 < kind
        · have hk3 : (kind == 3) = false := by rw [beq_eq_false_iff_ne]; omega
          have HZ : Hid (¬ DocE M es next k ⟨d, nm, false, id, kind, mode, tg⟩) := fun h => absurd h.k3 (by show ¬ kind ≤ 3; omega)
          go_wp2
          go_ret2
          exact .inr ⟨rfl, fun h => HZ.out (HF.out h), HB2.out.2⟩
        by_cases c5 : mode < 0
        · have HZ : Hid (¬ DocE M es next k ⟨d, nm, false, id, kind, mode, tg⟩) := fun h => absurd h.m0 (by show ¬ 0 ≤ mode; omega)
          go_wp2
          go_ret2
          exact .inr ⟨rfl, fun h => HZ.out (HF.out h), HB2.out.2⟩
        by_cases c6 : 511 < mode
        · have HZ : Hid (¬ DocE M es next k ⟨d, nm, false, id, kind, mode, tg⟩) := fun h => absurd h.m1 (by show ¬ mode ≤ 511; omega)
          go_wp2
          go_ret2
          exact .inr ⟨rfl, fun h => HZ.out (HF.out h), HB2.out.2⟩
        by_cases cl : kind = 3 ∧ T ≠ 0
        · obtain ⟨hk3, hT0⟩ := cl
          subst hk3
          have hTb : (T != 0) = true := by simpa using hT0
          have HZ : Hid (¬ DocE M es next k ⟨d, nm, false, id, 3, mode, tg⟩) := fun h => hT0 (HT.out.symm.trans (h.lnk rfl))
          clear hT0
          go_wp2
          go_ret2
          exact .inr ⟨rfl, fun h => HZ.out (HF.out h), HB2.out.2⟩
        by_cases cp : kind ≠ 3 ∧ tg ≠ ⟨#[]⟩
        · obtain ⟨hk3, htg⟩ := cp
          have hkb : (kind == 3) = false := by simpa using hk3
          have htl : (tg.toList == []) = false := by
            rw [beq_eq_false_iff_ne]
            intro e
            exact htg (bytes_eq.1 (by rw [e]; unfold ByteArray.toList; unfold ByteArray.toList.loop; rfl))
          have HZ : Hid (¬ DocE M es next k ⟨d, nm, false, id, kind, mode, tg⟩) := fun h => htg (h.plain hk3)
          clear htg hk3
          go_wp2
          go_ret2
          exact .inr ⟨rfl, fun h => HZ.out (HF.out h), HB2.out.2⟩
        have H9 : Hid (1 < id ∧ id < next ∧ 1 ≤ kind ∧ kind ≤ 3 ∧ 0 ≤ mode ∧ mode ≤ 511 ∧ (kind = 3 → M.tgt tg = 0) ∧ (kind ≠ 3 → tg = ⟨#[]⟩)) := ⟨by omega, by omega, by omega, by omega, by omega, by omega, fun h => Decidable.byContradiction fun hc => cl ⟨h, fun e => hc (HT.out.trans e)⟩, fun h => by
          by_cases e : tg = ⟨#[]⟩
          · exact e
          · exact absurd ⟨h, e⟩ cp⟩
        obtain ⟨LK, hLK⟩ : ∃ B, (kind == 3) = B := ⟨_, rfl⟩
        have HLK : Hid ((LK = true → T = 0) ∧ (LK = false → tg = ⟨#[]⟩)) := ⟨fun e => by
          have h3 : kind = 3 := by rw [e] at hLK; simpa using hLK
          exact HT.out.symm.trans (H9.out.2.2.2.2.2.2.1 h3), fun e => H9.out.2.2.2.2.2.2.2 (by rw [e] at hLK; simpa using hLK)⟩
        go_upto_region 10 with fail
        clear hLK
        go_cut [108] from 57 to 107 (fun x wx => x = .bool false ∧ w2 = wx)
        case first =>
          clear cl cp
          cases LK with
          | true =>
            obtain rfl := HLK.out.1 rfl
            go_wp2_with fail
            go_meet
            exact ⟨rfl, rfl⟩
          | false =>
            have htg := HLK.out.2 rfl
            subst htg
            go_wp2_with fail
            go_meet
            exact ⟨rfl, rfl⟩
        case rest =>
          obtain ⟨rfl, rfl⟩ := hcut
          clear cl cp c1 c2 c3 c4 c5 c6 z1 z2 z3 x2
          go_upto_region 12 with fail
          obtain ⟨C, hC⟩ : ∃ C, M.chk nm = C := ⟨_, rfl⟩
          obtain ⟨D, hD⟩ : ∃ D, dirE es d = D := ⟨_, rfl⟩
          have HCk : Hid (∀ W, Calls Try.prog 25 #[.string nm] W fun e w' => e = .returned (.int .i64 C) ∧ W = w') := fun W => by rw [← hC]; exact (HM.out.check nm W).mono fun _ _ h => ⟨h.1, h.2.symm⟩
          have HDr : Hid (∀ W', Below w2.heap.size w2 W' → Calls Try.prog 26 #[.pointer (some ⟨t, 0, none⟩), .int .i64 d] W' fun e w' => e = .returned (.int .i64 D) ∧ Below W'.heap.size W' w') := fun W' hb => by rw [← hD]; exact dir_any t _ d W' (HI.out.is.below (chainB HB2.out.1 hb))
          have HCD : Hid (M.chk nm = C ∧ dirE es d = D) := ⟨hC, hD⟩
          clear hC hD
          have k0 : w2.drew.cell? ⟨b, off + k * 7, none⟩ = some (.int .i64 d) ∧ w2.drew.cell? ⟨b, off + k * 7 + 1, none⟩ = some (.string nm) ∧ Below w2.heap.size w2 w2.drew := ⟨x0, x1, (Below.refl _ _).drew⟩
          by_cases hC0 : ¬ C = 0
          · have hCb : (C != 0) = true := by simpa using hC0
            have HZ : Hid (¬ DocE M es next k ⟨d, nm, false, id, kind, mode, tg⟩) := fun h => hC0 (HCD.out.1.symm.trans h.chk)
            clear hC0
            refine wp_region_held_drew (S := fun w' => w'.cell? ⟨b, off + k * 7, none⟩ = some (.int .i64 d) ∧ w'.cell? ⟨b, off + k * 7 + 1, none⟩ = some (.string nm) ∧ Below w2.heap.size w2 w') (by kernel_rfl) k0 (fun hHeld => ?_)
            refine tky 0 (some 109) rfl rfl ⟨?vA0, fun w hSw => ?aA0, fun _ _ _ h => h, ?bA0⟩
            case aA0 => (try dsimp only at hSw); go_simp; (try rfl)
            try simp only [Act.put, List.setIfInBounds_toArray, List.set_cons_zero, List.set_cons_succ]
            refine tky 1 (some 110) rfl rfl ⟨?vA1, fun w hSw => ?aA1, fun _ _ _ h => h, ?bA1⟩
            case aA1 => (try dsimp only at hSw); go_simp; (try rfl)
            try simp only [Act.put, List.setIfInBounds_toArray, List.set_cons_zero, List.set_cons_succ]
            refine tky 2 (some 111) rfl rfl ⟨?vA2, fun w hSw => ?aA2, fun _ _ _ h => h, ?bA2⟩
            case aA2 => (try dsimp only at hSw); go_simp; (try rfl)
            try simp only [Act.put, List.setIfInBounds_toArray, List.set_cons_zero, List.set_cons_succ]
            refine tky 3 (some 112) rfl rfl ⟨?vA3, fun w hSw => ?aA3, fun _ _ _ h => h, ?bA3⟩
            case aA3 => (try dsimp only at hSw); go_simp; (try rfl)
            try simp only [Act.put, List.setIfInBounds_toArray, List.set_cons_zero, List.set_cons_succ]
            refine tky 4 (some 113) rfl rfl ⟨?vA4, fun w hSw => ?aA4, fun _ _ _ h => h, ?bA4⟩
            case aA4 => (try dsimp only at hSw); go_simp; (try rfl)
            try simp only [Act.put, List.setIfInBounds_toArray, List.set_cons_zero, List.set_cons_succ]
            refine tky 5 (some 114) rfl rfl ⟨?vA5, fun w hSw => ?aA5, fun _ _ _ h => h, ?bA5⟩
            case aA5 => (try dsimp only at hSw); go_simp; (try rfl)
            try simp only [Act.put, List.setIfInBounds_toArray, List.set_cons_zero, List.set_cons_succ]
            refine wpAnyH_ready (rs := [6]) (by kernel_rfl) (by simp) ?_
            refine AllReadyH.cons rfl (fun K hK => ?_) AllReadyH.nil
            go_simp
            go_at_call 25
            refine (HCk.out _).mono ?_
            rintro e w5 ⟨rfl, rfl⟩
            refine hK.out _ _ k0 (fun hHeld => ?_)
            clear hK K
            try simp only [Act.put, List.setIfInBounds_toArray, List.set_cons_zero, List.set_cons_succ]
            refine tky 7 (some 116) rfl rfl ⟨.bool true, fun w hSw => ?aA7, fun _ _ _ h => h, ?bA7⟩
            case aA7 => (try dsimp only at hSw); go_simp; (try rfl)
            try simp only [Act.put, List.setIfInBounds_toArray, List.set_cons_zero, List.set_cons_succ]
            refine tky 8 (some 117) rfl rfl ⟨?vA8, fun w hSw => ?aA8, fun _ _ _ h => h, ?bA8⟩
            case aA8 => (try dsimp only at hSw); go_simp; (try rfl)
            try simp only [Act.put, List.setIfInBounds_toArray, List.set_cons_zero, List.set_cons_succ]
            refine tkn 9 (some 118) rfl rfl ?_
            try simp only [Act.put, List.setIfInBounds_toArray, List.set_cons_zero, List.set_cons_succ]
            refine tkn 10 (some 119) rfl rfl ?_
            try simp only [Act.put, List.setIfInBounds_toArray, List.set_cons_zero, List.set_cons_succ]
            refine tkn 11 (some 120) rfl rfl ?_
            try simp only [Act.put, List.setIfInBounds_toArray, List.set_cons_zero, List.set_cons_succ]
            refine tkn 12 (some 121) rfl rfl ?_
            try simp only [Act.put, List.setIfInBounds_toArray, List.set_cons_zero, List.set_cons_succ]
            refine tkn 13 (some 122) rfl rfl ?_
            try simp only [Act.put, List.setIfInBounds_toArray, List.set_cons_zero, List.set_cons_succ]
            refine tkn 14 (some 123) rfl rfl ?_
            try simp only [Act.put, List.setIfInBounds_toArray, List.set_cons_zero, List.set_cons_succ]
            refine tkn 15 (some 124) rfl rfl ?_
            try simp only [Act.put, List.setIfInBounds_toArray, List.set_cons_zero, List.set_cons_succ]
            refine tkn 16 (some 125) rfl rfl ?_
            try simp only [Act.put, List.setIfInBounds_toArray, List.set_cons_zero, List.set_cons_succ]
            refine tkn 17 (some 126) rfl rfl ?_
            try simp only [Act.put, List.setIfInBounds_toArray, List.set_cons_zero, List.set_cons_succ]
            refine tky 18 (some 127) rfl rfl ⟨?vA18, fun w hSw => ?aA18, fun _ _ _ h => h, ?bA18⟩
            case aA18 => (try dsimp only at hSw); go_simp; (try rfl)
            try simp only [Act.put, List.setIfInBounds_toArray, List.set_cons_zero, List.set_cons_succ]
            refine tky 19 (some 128) rfl rfl ⟨?vA19, fun w hSw => ?aA19, fun _ _ _ h => h, ?bA19⟩
            case aA19 => (try dsimp only at hSw); go_simp; (try rfl)
            try simp only [Act.put, List.setIfInBounds_toArray, List.set_cons_zero, List.set_cons_succ]
            refine tkn 20 (some 129) rfl rfl ?_
            try simp only [Act.put, List.setIfInBounds_toArray, List.set_cons_zero, List.set_cons_succ]
            refine tkn 21 (some 130) rfl rfl ?_
            try simp only [Act.put, List.setIfInBounds_toArray, List.set_cons_zero, List.set_cons_succ]
            refine tkn 22 (some 131) rfl rfl ?_
            try simp only [Act.put, List.setIfInBounds_toArray, List.set_cons_zero, List.set_cons_succ]
            refine tkn 23 (some 132) rfl rfl ?_
            try simp only [Act.put, List.setIfInBounds_toArray, List.set_cons_zero, List.set_cons_succ]
            refine tkn 24 (some 133) rfl rfl ?_
            try simp only [Act.put, List.setIfInBounds_toArray, List.set_cons_zero, List.set_cons_succ]
            refine tkn 25 (some 134) rfl rfl ?_
            try simp only [Act.put, List.setIfInBounds_toArray, List.set_cons_zero, List.set_cons_succ]
            refine tkn 26 (some 135) rfl rfl ?_
            try simp only [Act.put, List.setIfInBounds_toArray, List.set_cons_zero, List.set_cons_succ]
            refine tkn 27 (some 136) rfl rfl ?_
            try simp only [Act.put, List.setIfInBounds_toArray, List.set_cons_zero, List.set_cons_succ]
            refine tkn 28 (some 137) rfl rfl ?_
            try simp only [Act.put, List.setIfInBounds_toArray, List.set_cons_zero, List.set_cons_succ]
            refine tkn 29 (some 138) rfl rfl ?_
            try simp only [Act.put, List.setIfInBounds_toArray, List.set_cons_zero, List.set_cons_succ]
            refine tkn 30 (some 139) rfl rfl ?_
            try simp only [Act.put, List.setIfInBounds_toArray, List.set_cons_zero, List.set_cons_succ]
            refine tkn 31 (some 140) rfl rfl ?_
            try simp only [Act.put, List.setIfInBounds_toArray, List.set_cons_zero, List.set_cons_succ]
            refine tkn 32 (some 141) rfl rfl ?_
            try simp only [Act.put, List.setIfInBounds_toArray, List.set_cons_zero, List.set_cons_succ]
            refine tkn 33 (some 142) rfl rfl ?_
            try simp only [Act.put, List.setIfInBounds_toArray, List.set_cons_zero, List.set_cons_succ]
            refine tkn 34 (some 143) rfl rfl ?_
            try simp only [Act.put, List.setIfInBounds_toArray, List.set_cons_zero, List.set_cons_succ]
            refine tkn 35 (some 144) rfl rfl ?_
            try simp only [Act.put, List.setIfInBounds_toArray, List.set_cons_zero, List.set_cons_succ]
            refine tkn 36 (some 145) rfl rfl ?_
            try simp only [Act.put, List.setIfInBounds_toArray, List.set_cons_zero, List.set_cons_succ]
            refine tky 37 (some 146) rfl rfl ⟨?vA37, fun w hSw => ?aA37, fun _ _ _ h => h, ?bA37⟩
            case aA37 => (try dsimp only at hSw); go_simp; (try rfl)
            try simp only [Act.put, List.setIfInBounds_toArray, List.set_cons_zero, List.set_cons_succ]
            refine wpAnyH_done (by kernel_rfl) ?_ _
            go_wp2
            go_ret2
            exact .inr ⟨rfl, fun h => HZ.out (HF.out h), HB2.out.2.drew⟩
          obtain rfl := Decidable.not_not.1 hC0
          clear hC0
          by_cases hD0 : ¬ D = 0
          · have hDb : (D != 0) = true := by simpa using hD0
            have HZ : Hid (¬ DocE M es next k ⟨d, nm, false, id, kind, mode, tg⟩) := fun h => hD0 (HCD.out.2.symm.trans h.dir)
            clear hD0
            refine wp_region_held_drew (S := fun w' => w'.cell? ⟨b, off + k * 7, none⟩ = some (.int .i64 d) ∧ w'.cell? ⟨b, off + k * 7 + 1, none⟩ = some (.string nm) ∧ Below w2.heap.size w2 w') (by kernel_rfl) k0 (fun hHeld => ?_)
            refine tky 0 (some 109) rfl rfl ⟨?vB0, fun w hSw => ?aB0, fun _ _ _ h => h, ?bB0⟩
            case aB0 => (try dsimp only at hSw); go_simp; (try rfl)
            try simp only [Act.put, List.setIfInBounds_toArray, List.set_cons_zero, List.set_cons_succ]
            refine tky 1 (some 110) rfl rfl ⟨?vB1, fun w hSw => ?aB1, fun _ _ _ h => h, ?bB1⟩
            case aB1 => (try dsimp only at hSw); go_simp; (try rfl)
            try simp only [Act.put, List.setIfInBounds_toArray, List.set_cons_zero, List.set_cons_succ]
            refine tky 2 (some 111) rfl rfl ⟨?vB2, fun w hSw => ?aB2, fun _ _ _ h => h, ?bB2⟩
            case aB2 => (try dsimp only at hSw); go_simp; (try rfl)
            try simp only [Act.put, List.setIfInBounds_toArray, List.set_cons_zero, List.set_cons_succ]
            refine tky 3 (some 112) rfl rfl ⟨?vB3, fun w hSw => ?aB3, fun _ _ _ h => h, ?bB3⟩
            case aB3 => (try dsimp only at hSw); go_simp; (try rfl)
            try simp only [Act.put, List.setIfInBounds_toArray, List.set_cons_zero, List.set_cons_succ]
            refine tky 4 (some 113) rfl rfl ⟨?vB4, fun w hSw => ?aB4, fun _ _ _ h => h, ?bB4⟩
            case aB4 => (try dsimp only at hSw); go_simp; (try rfl)
            try simp only [Act.put, List.setIfInBounds_toArray, List.set_cons_zero, List.set_cons_succ]
            refine tky 5 (some 114) rfl rfl ⟨?vB5, fun w hSw => ?aB5, fun _ _ _ h => h, ?bB5⟩
            case aB5 => (try dsimp only at hSw); go_simp; (try rfl)
            try simp only [Act.put, List.setIfInBounds_toArray, List.set_cons_zero, List.set_cons_succ]
            refine wpAnyH_ready (rs := [6]) (by kernel_rfl) (by simp) ?_
            refine AllReadyH.cons rfl (fun K hK => ?_) AllReadyH.nil
            go_simp
            go_at_call 25
            refine (HCk.out _).mono ?_
            rintro e w5 ⟨rfl, rfl⟩
            refine hK.out _ _ k0 (fun hHeld => ?_)
            clear hK K
            try simp only [Act.put, List.setIfInBounds_toArray, List.set_cons_zero, List.set_cons_succ]
            refine tky 7 (some 116) rfl rfl ⟨.bool false, fun w hSw => ?aB7, fun _ _ _ h => h, ?bB7⟩
            case aB7 => (try dsimp only at hSw); go_simp; (try rfl)
            try simp only [Act.put, List.setIfInBounds_toArray, List.set_cons_zero, List.set_cons_succ]
            refine tky 8 (some 117) rfl rfl ⟨?vB8, fun w hSw => ?aB8, fun _ _ _ h => h, ?bB8⟩
            case aB8 => (try dsimp only at hSw); go_simp; (try rfl)
            try simp only [Act.put, List.setIfInBounds_toArray, List.set_cons_zero, List.set_cons_succ]
            refine tky 9 (some 118) rfl rfl ⟨?vB9, fun w hSw => ?aB9, fun _ _ _ h => h, ?bB9⟩
            case aB9 => (try dsimp only at hSw); go_simp; (try rfl)
            try simp only [Act.put, List.setIfInBounds_toArray, List.set_cons_zero, List.set_cons_succ]
            refine tky 10 (some 119) rfl rfl ⟨?vB10, fun w hSw => ?aB10, fun _ _ _ h => h, ?bB10⟩
            case aB10 => (try dsimp only at hSw); go_simp; (try rfl)
            try simp only [Act.put, List.setIfInBounds_toArray, List.set_cons_zero, List.set_cons_succ]
            refine tky 11 (some 120) rfl rfl ⟨?vB11, fun w hSw => ?aB11, fun _ _ _ h => h, ?bB11⟩
            case aB11 => (try dsimp only at hSw); go_simp; (try rfl)
            try simp only [Act.put, List.setIfInBounds_toArray, List.set_cons_zero, List.set_cons_succ]
            refine tky 12 (some 121) rfl rfl ⟨?vB12, fun w hSw => ?aB12, fun _ _ _ h => h, ?bB12⟩
            case aB12 => (try dsimp only at hSw); go_simp; (try rfl)
            try simp only [Act.put, List.setIfInBounds_toArray, List.set_cons_zero, List.set_cons_succ]
            refine tky 13 (some 122) rfl rfl ⟨?vB13, fun w hSw => ?aB13, fun _ _ _ h => h, ?bB13⟩
            case aB13 => (try dsimp only at hSw); go_simp; (try rfl)
            try simp only [Act.put, List.setIfInBounds_toArray, List.set_cons_zero, List.set_cons_succ]
            refine tky 14 (some 123) rfl rfl ⟨?vB14, fun w hSw => ?aB14, fun _ _ _ h => h, ?bB14⟩
            case aB14 => (try dsimp only at hSw); go_simp; (try rfl)
            try simp only [Act.put, List.setIfInBounds_toArray, List.set_cons_zero, List.set_cons_succ]
            refine tky 15 (some 124) rfl rfl ⟨?vB15, fun w hSw => ?aB15, fun _ _ _ h => h, ?bB15⟩
            case aB15 => (try dsimp only at hSw); go_simp; (try rfl)
            try simp only [Act.put, List.setIfInBounds_toArray, List.set_cons_zero, List.set_cons_succ]
            refine wpAnyH_ready (rs := [16]) (by kernel_rfl) (by simp) ?_
            refine AllReadyH.cons rfl (fun K hK => ?_) AllReadyH.nil
            go_simp
            go_at_call 26
            refine (HDr.out _ k0.2.2).mono ?_
            rintro e w6 ⟨rfl, hb6⟩
            have k6 : w6.cell? ⟨b, off + k * 7, none⟩ = some (.int .i64 d) ∧ w6.cell? ⟨b, off + k * 7 + 1, none⟩ = some (.string nm) ∧ Below w2.heap.size w2 w6 := ⟨(hb6.cell (cellLt k0.1)).trans k0.1, (hb6.cell (cellLt k0.2.1)).trans k0.2.1, chainB k0.2.2 hb6⟩
            refine hK.out _ _ k6 (fun hHeld => ?_)
            clear hK K
            try simp only [Act.put, List.setIfInBounds_toArray, List.set_cons_zero, List.set_cons_succ]
            refine tky 17 (some 126) rfl rfl ⟨.bool true, fun w hSw => ?aB17, fun _ _ _ h => h, ?bB17⟩
            case aB17 => (try dsimp only at hSw); go_simp; (try rfl)
            try simp only [Act.put, List.setIfInBounds_toArray, List.set_cons_zero, List.set_cons_succ]
            refine tky 18 (some 127) rfl rfl ⟨?vB18, fun w hSw => ?aB18, fun _ _ _ h => h, ?bB18⟩
            case aB18 => (try dsimp only at hSw); go_simp; (try rfl)
            try simp only [Act.put, List.setIfInBounds_toArray, List.set_cons_zero, List.set_cons_succ]
            refine tky 19 (some 128) rfl rfl ⟨?vB19, fun w hSw => ?aB19, fun _ _ _ h => h, ?bB19⟩
            case aB19 => (try dsimp only at hSw); go_simp; (try rfl)
            try simp only [Act.put, List.setIfInBounds_toArray, List.set_cons_zero, List.set_cons_succ]
            refine tkn 20 (some 129) rfl rfl ?_
            try simp only [Act.put, List.setIfInBounds_toArray, List.set_cons_zero, List.set_cons_succ]
            refine tkn 21 (some 130) rfl rfl ?_
            try simp only [Act.put, List.setIfInBounds_toArray, List.set_cons_zero, List.set_cons_succ]
            refine tkn 22 (some 131) rfl rfl ?_
            try simp only [Act.put, List.setIfInBounds_toArray, List.set_cons_zero, List.set_cons_succ]
            refine tkn 23 (some 132) rfl rfl ?_
            try simp only [Act.put, List.setIfInBounds_toArray, List.set_cons_zero, List.set_cons_succ]
            refine tkn 24 (some 133) rfl rfl ?_
            try simp only [Act.put, List.setIfInBounds_toArray, List.set_cons_zero, List.set_cons_succ]
            refine tkn 25 (some 134) rfl rfl ?_
            try simp only [Act.put, List.setIfInBounds_toArray, List.set_cons_zero, List.set_cons_succ]
            refine tkn 26 (some 135) rfl rfl ?_
            try simp only [Act.put, List.setIfInBounds_toArray, List.set_cons_zero, List.set_cons_succ]
            refine tkn 27 (some 136) rfl rfl ?_
            try simp only [Act.put, List.setIfInBounds_toArray, List.set_cons_zero, List.set_cons_succ]
            refine tkn 28 (some 137) rfl rfl ?_
            try simp only [Act.put, List.setIfInBounds_toArray, List.set_cons_zero, List.set_cons_succ]
            refine tkn 29 (some 138) rfl rfl ?_
            try simp only [Act.put, List.setIfInBounds_toArray, List.set_cons_zero, List.set_cons_succ]
            refine tkn 30 (some 139) rfl rfl ?_
            try simp only [Act.put, List.setIfInBounds_toArray, List.set_cons_zero, List.set_cons_succ]
            refine tkn 31 (some 140) rfl rfl ?_
            try simp only [Act.put, List.setIfInBounds_toArray, List.set_cons_zero, List.set_cons_succ]
            refine tkn 32 (some 141) rfl rfl ?_
            try simp only [Act.put, List.setIfInBounds_toArray, List.set_cons_zero, List.set_cons_succ]
            refine tkn 33 (some 142) rfl rfl ?_
            try simp only [Act.put, List.setIfInBounds_toArray, List.set_cons_zero, List.set_cons_succ]
            refine tkn 34 (some 143) rfl rfl ?_
            try simp only [Act.put, List.setIfInBounds_toArray, List.set_cons_zero, List.set_cons_succ]
            refine tkn 35 (some 144) rfl rfl ?_
            try simp only [Act.put, List.setIfInBounds_toArray, List.set_cons_zero, List.set_cons_succ]
            refine tkn 36 (some 145) rfl rfl ?_
            try simp only [Act.put, List.setIfInBounds_toArray, List.set_cons_zero, List.set_cons_succ]
            refine tky 37 (some 146) rfl rfl ⟨?vB37, fun w hSw => ?aB37, fun _ _ _ h => h, ?bB37⟩
            case aB37 => (try dsimp only at hSw); go_simp; (try rfl)
            try simp only [Act.put, List.setIfInBounds_toArray, List.set_cons_zero, List.set_cons_succ]
            refine wpAnyH_done (by kernel_rfl) ?_ _
            go_wp2
            go_ret2
            exact .inr ⟨rfl, fun h => HZ.out (HF.out h), chainB HB2.out.2 k6.2.2⟩
          obtain rfl := Decidable.not_not.1 hD0
          clear hD0
          by_cases hLs : ∃ p f, k = p + 1 ∧ es[p]? = some f ∧ lessK f.d f.nm d nm = false
          · obtain ⟨p, f0, hkp, hf0, hLs⟩ := hLs
            have HZ : Hid (¬ DocE M es next k ⟨d, nm, false, id, kind, mode, tg⟩) := fun h => by
              have := h.less p f0 hkp.symm hf0
              unfold lessE at this
              rw [hLs] at this
              cases this
            obtain ⟨f, hf⟩ : ∃ f, es[p]? = some f := ⟨_, List.getElem?_eq_getElem (by rw [HL.out.1]; omega)⟩
            obtain rfl : f0 = f := Option.some.inj (hf0.symm.trans hf)
            obtain ⟨b', off', hbe, hbl, hc⟩ := HK.out p f0 hf
            cases hbe
            have hcw := hc.below HB2.out.2
            have hk0 : (0 : Int) < (k : Int) := by omega
            have hwp : IntKind.i64.wrap ((k : Int) - 1) = (p : Int) := (IntWalk.i64_in _ (by omega)).trans (by omega)
            have hp0 : (0 : Int) ≤ (p : Int) := by omega
            have hs0 : (0 : Int) ≤ (k : Int) - 1 := by omega
            have hs1 : ((k : Int) - 1).toNat = p := by omega
            have hs2 : (k : Int) - 1 < (n : Int) := by omega
            have hpn : (p : Int) < (n : Int) := by omega
            have HKp : Hid (k = p + 1) := hkp
            clear hkp
            have k0 : w2.drew.cell? ⟨b, off + k * 7, none⟩ = some (.int .i64 d) ∧ w2.drew.cell? ⟨b, off + k * 7 + 1, none⟩ = some (.string nm) ∧ w2.drew.cell? ⟨b, off + p * 7, none⟩ = some (.int .i64 f0.d) ∧ w2.drew.cell? ⟨b, off + p * 7 + 1, none⟩ = some (.string f0.nm) ∧ Below w2.heap.size w2 w2.drew := ⟨k0.1, k0.2.1, hcw.c0, hcw.c1, k0.2.2⟩
            have HFf : Hid (es[p]? = some f0) := hf
            have HLs : Hid (∀ W', Calls Try.prog 27 #[.agg #[.int .i64 f0.d, .string f0.nm], .agg #[.int .i64 d, .string nm]] W' fun e w' => e = .returned (.bool false) ∧ Below W'.heap.size W' w') := fun W' => by rw [← hLs]; exact less_any f0.d f0.nm d nm W'
            clear hf hf0 hLs hbl hc hcw
            refine wp_region_held_drew (S := fun w' => w'.cell? ⟨b, off + k * 7, none⟩ = some (.int .i64 d) ∧ w'.cell? ⟨b, off + k * 7 + 1, none⟩ = some (.string nm) ∧ w'.cell? ⟨b, off + p * 7, none⟩ = some (.int .i64 f0.d) ∧ w'.cell? ⟨b, off + p * 7 + 1, none⟩ = some (.string f0.nm) ∧ Below w2.heap.size w2 w') (by kernel_rfl) k0 (fun hHeld => ?_)
            refine tky 0 (some 109) rfl rfl ⟨?vC0, fun w hSw => ?aC0, fun _ _ _ h => h, ?bC0⟩
            case aC0 => (try dsimp only at hSw); go_simp; (try rfl)
            try simp only [Act.put, List.setIfInBounds_toArray, List.set_cons_zero, List.set_cons_succ]
            refine tky 1 (some 110) rfl rfl ⟨?vC1, fun w hSw => ?aC1, fun _ _ _ h => h, ?bC1⟩
            case aC1 => (try dsimp only at hSw); go_simp; (try rfl)
            try simp only [Act.put, List.setIfInBounds_toArray, List.set_cons_zero, List.set_cons_succ]
            refine tky 2 (some 111) rfl rfl ⟨?vC2, fun w hSw => ?aC2, fun _ _ _ h => h, ?bC2⟩
            case aC2 => (try dsimp only at hSw); go_simp; (try rfl)
            try simp only [Act.put, List.setIfInBounds_toArray, List.set_cons_zero, List.set_cons_succ]
            refine tky 3 (some 112) rfl rfl ⟨?vC3, fun w hSw => ?aC3, fun _ _ _ h => h, ?bC3⟩
            case aC3 => (try dsimp only at hSw); go_simp; (try rfl)
            try simp only [Act.put, List.setIfInBounds_toArray, List.set_cons_zero, List.set_cons_succ]
            refine tky 4 (some 113) rfl rfl ⟨?vC4, fun w hSw => ?aC4, fun _ _ _ h => h, ?bC4⟩
            case aC4 => (try dsimp only at hSw); go_simp; (try rfl)
            try simp only [Act.put, List.setIfInBounds_toArray, List.set_cons_zero, List.set_cons_succ]
            refine tky 5 (some 114) rfl rfl ⟨?vC5, fun w hSw => ?aC5, fun _ _ _ h => h, ?bC5⟩
            case aC5 => (try dsimp only at hSw); go_simp; (try rfl)
            try simp only [Act.put, List.setIfInBounds_toArray, List.set_cons_zero, List.set_cons_succ]
            refine wpAnyH_ready (rs := [6]) (by kernel_rfl) (by simp) ?_
            refine AllReadyH.cons rfl (fun K hK => ?_) AllReadyH.nil
            go_simp
            go_at_call 25
            refine (HCk.out _).mono ?_
            rintro e w5 ⟨rfl, rfl⟩
            refine hK.out _ _ k0 (fun hHeld => ?_)
            clear hK K
            try simp only [Act.put, List.setIfInBounds_toArray, List.set_cons_zero, List.set_cons_succ]
            refine tky 7 (some 116) rfl rfl ⟨.bool false, fun w hSw => ?aC7, fun _ _ _ h => h, ?bC7⟩
            case aC7 => (try dsimp only at hSw); go_simp; (try rfl)
            try simp only [Act.put, List.setIfInBounds_toArray, List.set_cons_zero, List.set_cons_succ]
            refine tky 8 (some 117) rfl rfl ⟨?vC8, fun w hSw => ?aC8, fun _ _ _ h => h, ?bC8⟩
            case aC8 => (try dsimp only at hSw); go_simp; (try rfl)
            try simp only [Act.put, List.setIfInBounds_toArray, List.set_cons_zero, List.set_cons_succ]
            refine tky 9 (some 118) rfl rfl ⟨?vC9, fun w hSw => ?aC9, fun _ _ _ h => h, ?bC9⟩
            case aC9 => (try dsimp only at hSw); go_simp; (try rfl)
            try simp only [Act.put, List.setIfInBounds_toArray, List.set_cons_zero, List.set_cons_succ]
            refine tky 10 (some 119) rfl rfl ⟨?vC10, fun w hSw => ?aC10, fun _ _ _ h => h, ?bC10⟩
            case aC10 => (try dsimp only at hSw); go_simp; (try rfl)
            try simp only [Act.put, List.setIfInBounds_toArray, List.set_cons_zero, List.set_cons_succ]
            refine tky 11 (some 120) rfl rfl ⟨?vC11, fun w hSw => ?aC11, fun _ _ _ h => h, ?bC11⟩
            case aC11 => (try dsimp only at hSw); go_simp; (try rfl)
            try simp only [Act.put, List.setIfInBounds_toArray, List.set_cons_zero, List.set_cons_succ]
            refine tky 12 (some 121) rfl rfl ⟨?vC12, fun w hSw => ?aC12, fun _ _ _ h => h, ?bC12⟩
            case aC12 => (try dsimp only at hSw); go_simp; (try rfl)
            try simp only [Act.put, List.setIfInBounds_toArray, List.set_cons_zero, List.set_cons_succ]
            refine tky 13 (some 122) rfl rfl ⟨?vC13, fun w hSw => ?aC13, fun _ _ _ h => h, ?bC13⟩
            case aC13 => (try dsimp only at hSw); go_simp; (try rfl)
            try simp only [Act.put, List.setIfInBounds_toArray, List.set_cons_zero, List.set_cons_succ]
            refine tky 14 (some 123) rfl rfl ⟨?vC14, fun w hSw => ?aC14, fun _ _ _ h => h, ?bC14⟩
            case aC14 => (try dsimp only at hSw); go_simp; (try rfl)
            try simp only [Act.put, List.setIfInBounds_toArray, List.set_cons_zero, List.set_cons_succ]
            refine tky 15 (some 124) rfl rfl ⟨?vC15, fun w hSw => ?aC15, fun _ _ _ h => h, ?bC15⟩
            case aC15 => (try dsimp only at hSw); go_simp; (try rfl)
            try simp only [Act.put, List.setIfInBounds_toArray, List.set_cons_zero, List.set_cons_succ]
            refine wpAnyH_ready (rs := [16]) (by kernel_rfl) (by simp) ?_
            refine AllReadyH.cons rfl (fun K hK => ?_) AllReadyH.nil
            go_simp
            go_at_call 26
            refine (HDr.out _ k0.2.2.2.2).mono ?_
            rintro e w6 ⟨rfl, hb6⟩
            have k6 : w6.cell? ⟨b, off + k * 7, none⟩ = some (.int .i64 d) ∧ w6.cell? ⟨b, off + k * 7 + 1, none⟩ = some (.string nm) ∧ w6.cell? ⟨b, off + p * 7, none⟩ = some (.int .i64 f0.d) ∧ w6.cell? ⟨b, off + p * 7 + 1, none⟩ = some (.string f0.nm) ∧ Below w2.heap.size w2 w6 := ⟨(hb6.cell (cellLt k0.1)).trans k0.1, (hb6.cell (cellLt k0.2.1)).trans k0.2.1, (hb6.cell (cellLt k0.2.2.1)).trans k0.2.2.1, (hb6.cell (cellLt k0.2.2.2.1)).trans k0.2.2.2.1, chainB k0.2.2.2.2 hb6⟩
            refine hK.out _ _ k6 (fun hHeld => ?_)
            clear hK K
            try simp only [Act.put, List.setIfInBounds_toArray, List.set_cons_zero, List.set_cons_succ]
            refine tky 17 (some 126) rfl rfl ⟨.bool false, fun w hSw => ?aC17, fun _ _ _ h => h, ?bC17⟩
            case aC17 => (try dsimp only at hSw); go_simp; (try rfl)
            try simp only [Act.put, List.setIfInBounds_toArray, List.set_cons_zero, List.set_cons_succ]
            refine tky 18 (some 127) rfl rfl ⟨?vC18, fun w hSw => ?aC18, fun _ _ _ h => h, ?bC18⟩
            case aC18 => (try dsimp only at hSw); go_simp; (try rfl)
            try simp only [Act.put, List.setIfInBounds_toArray, List.set_cons_zero, List.set_cons_succ]
            refine tky 19 (some 128) rfl rfl ⟨?vC19, fun w hSw => ?aC19, fun _ _ _ h => h, ?bC19⟩
            case aC19 => (try dsimp only at hSw); go_simp; (try rfl)
            try simp only [Act.put, List.setIfInBounds_toArray, List.set_cons_zero, List.set_cons_succ]
            refine tky 20 (some 129) rfl rfl ⟨?vC20, fun w hSw => ?aC20, fun _ _ _ h => h, ?bC20⟩
            case aC20 => (try dsimp only at hSw); go_simp; (try rfl)
            try simp only [Act.put, List.setIfInBounds_toArray, List.set_cons_zero, List.set_cons_succ]
            refine tky 21 (some 130) rfl rfl ⟨.bool true, fun w hSw => ?aC21, fun _ _ _ h => h, ?bC21⟩
            case aC21 => (try dsimp only at hSw); go_simp; omega
            try simp only [Act.put, List.setIfInBounds_toArray, List.set_cons_zero, List.set_cons_succ]
            refine tky 22 (some 131) rfl rfl ⟨?vC22, fun w hSw => ?aC22, fun _ _ _ h => h, ?bC22⟩
            case aC22 => (try dsimp only at hSw); go_simp; (try rfl)
            try simp only [Act.put, List.setIfInBounds_toArray, List.set_cons_zero, List.set_cons_succ]
            refine tky 23 (some 132) rfl rfl ⟨?vC23, fun w hSw => ?aC23, fun _ _ _ h => h, ?bC23⟩
            case aC23 => (try dsimp only at hSw); go_simp; (try rfl)
            try simp only [Act.put, List.setIfInBounds_toArray, List.set_cons_zero, List.set_cons_succ]
            refine tky 24 (some 133) rfl rfl ⟨?vC24, fun w hSw => ?aC24, fun _ _ _ h => h, ?bC24⟩
            case aC24 => (try dsimp only at hSw); go_simp; (try rfl)
            try simp only [Act.put, List.setIfInBounds_toArray, List.set_cons_zero, List.set_cons_succ]
            refine tky 25 (some 134) rfl rfl ⟨?vC25, fun w hSw => ?aC25, fun _ _ _ h => h, ?bC25⟩
            case aC25 => (try dsimp only at hSw); go_simp; (try rfl)
            try simp only [Act.put, List.setIfInBounds_toArray, List.set_cons_zero, List.set_cons_succ]
            refine tky 26 (some 135) rfl rfl ⟨?vC26, fun w hSw => ?aC26, fun _ _ _ h => h, ?bC26⟩
            case aC26 => (try dsimp only at hSw); go_simp; (try rfl)
            try simp only [Act.put, List.setIfInBounds_toArray, List.set_cons_zero, List.set_cons_succ]
            refine tky 27 (some 136) rfl rfl ⟨?vC27, fun w hSw => ?aC27, fun _ _ _ h => h, ?bC27⟩
            case aC27 => (try dsimp only at hSw); go_simp; (try rfl)
            try simp only [Act.put, List.setIfInBounds_toArray, List.set_cons_zero, List.set_cons_succ]
            refine tky 28 (some 137) rfl rfl ⟨?vC28, fun w hSw => ?aC28, fun _ _ _ h => h, ?bC28⟩
            case aC28 => (try dsimp only at hSw); go_simp; (try rfl)
            try simp only [Act.put, List.setIfInBounds_toArray, List.set_cons_zero, List.set_cons_succ]
            refine tky 29 (some 138) rfl rfl ⟨?vC29, fun w hSw => ?aC29, fun _ _ _ h => h, ?bC29⟩
            case aC29 => (try dsimp only at hSw); go_simp; (try rfl)
            try simp only [Act.put, List.setIfInBounds_toArray, List.set_cons_zero, List.set_cons_succ]
            refine tky 30 (some 139) rfl rfl ⟨?vC30, fun w hSw => ?aC30, fun _ _ _ h => h, ?bC30⟩
            case aC30 => (try dsimp only at hSw); go_simp; (try rfl)
            try simp only [Act.put, List.setIfInBounds_toArray, List.set_cons_zero, List.set_cons_succ]
            refine tky 31 (some 140) rfl rfl ⟨?vC31, fun w hSw => ?aC31, fun _ _ _ h => h, ?bC31⟩
            case aC31 => (try dsimp only at hSw); go_simp; (try rfl)
            try simp only [Act.put, List.setIfInBounds_toArray, List.set_cons_zero, List.set_cons_succ]
            refine tky 32 (some 141) rfl rfl ⟨?vC32, fun w hSw => ?aC32, fun _ _ _ h => h, ?bC32⟩
            case aC32 => (try dsimp only at hSw); go_simp; (try rfl)
            try simp only [Act.put, List.setIfInBounds_toArray, List.set_cons_zero, List.set_cons_succ]
            refine tky 33 (some 142) rfl rfl ⟨?vC33, fun w hSw => ?aC33, fun _ _ _ h => h, ?bC33⟩
            case aC33 => (try dsimp only at hSw); go_simp; (try rfl)
            try simp only [Act.put, List.setIfInBounds_toArray, List.set_cons_zero, List.set_cons_succ]
            refine wpAnyH_ready (rs := [34]) (by kernel_rfl) (by simp) ?_
            refine AllReadyH.cons rfl (fun K hK => ?_) AllReadyH.nil
            go_simp
            go_at_call 27
            refine (HLs.out _).mono ?_
            rintro e w7 ⟨rfl, hb7⟩
            have k7 : w7.cell? ⟨b, off + k * 7, none⟩ = some (.int .i64 d) ∧ w7.cell? ⟨b, off + k * 7 + 1, none⟩ = some (.string nm) ∧ w7.cell? ⟨b, off + p * 7, none⟩ = some (.int .i64 f0.d) ∧ w7.cell? ⟨b, off + p * 7 + 1, none⟩ = some (.string f0.nm) ∧ Below w2.heap.size w2 w7 := ⟨(hb7.cell (cellLt k6.1)).trans k6.1, (hb7.cell (cellLt k6.2.1)).trans k6.2.1, (hb7.cell (cellLt k6.2.2.1)).trans k6.2.2.1, (hb7.cell (cellLt k6.2.2.2.1)).trans k6.2.2.2.1, chainB k6.2.2.2.2 hb7⟩
            refine hK.out _ _ k7 (fun hHeld => ?_)
            clear hK K
            try simp only [Act.put, List.setIfInBounds_toArray, List.set_cons_zero, List.set_cons_succ]
            refine tky 35 (some 144) rfl rfl ⟨?vC35, fun w hSw => ?aC35, fun _ _ _ h => h, ?bC35⟩
            case aC35 => (try dsimp only at hSw); go_simp; (try rfl)
            try simp only [Act.put, List.setIfInBounds_toArray, List.set_cons_zero, List.set_cons_succ]
            refine tky 36 (some 145) rfl rfl ⟨?vC36, fun w hSw => ?aC36, fun _ _ _ h => h, ?bC36⟩
            case aC36 => (try dsimp only at hSw); go_simp; (try rfl)
            try simp only [Act.put, List.setIfInBounds_toArray, List.set_cons_zero, List.set_cons_succ]
            refine tky 37 (some 146) rfl rfl ⟨?vC37, fun w hSw => ?aC37, fun _ _ _ h => h, ?bC37⟩
            case aC37 => (try dsimp only at hSw); go_simp; (try rfl)
            try simp only [Act.put, List.setIfInBounds_toArray, List.set_cons_zero, List.set_cons_succ]
            refine wpAnyH_done (by kernel_rfl) ?_ _
            go_wp2
            go_ret2
            exact .inr ⟨rfl, fun h => HZ.out (HF.out h), chainB HB2.out.2 k7.2.2.2.2⟩
          go_cut [146] from 109 to 145 (fun x wx => x = .bool false ∧ Below w2.heap.size w2 wx)
          case first =>
            by_cases hk0 : k = 0
            · have hk0i : ¬ (0 : Int) < (k : Int) := by omega
              clear hLs hk0
              refine wp_region_held_drew (S := fun w' => w'.cell? ⟨b, off + k * 7, none⟩ = some (.int .i64 d) ∧ w'.cell? ⟨b, off + k * 7 + 1, none⟩ = some (.string nm) ∧ Below w2.heap.size w2 w') (by kernel_rfl) k0 (fun hHeld => ?_)
              refine tky 0 (some 109) rfl rfl ⟨?vD0, fun w hSw => ?aD0, fun _ _ _ h => h, ?bD0⟩
              case aD0 => (try dsimp only at hSw); go_simp; (try rfl)
              try simp only [Act.put, List.setIfInBounds_toArray, List.set_cons_zero, List.set_cons_succ]
              refine tky 1 (some 110) rfl rfl ⟨?vD1, fun w hSw => ?aD1, fun _ _ _ h => h, ?bD1⟩
              case aD1 => (try dsimp only at hSw); go_simp; (try rfl)
              try simp only [Act.put, List.setIfInBounds_toArray, List.set_cons_zero, List.set_cons_succ]
              refine tky 2 (some 111) rfl rfl ⟨?vD2, fun w hSw => ?aD2, fun _ _ _ h => h, ?bD2⟩
              case aD2 => (try dsimp only at hSw); go_simp; (try rfl)
              try simp only [Act.put, List.setIfInBounds_toArray, List.set_cons_zero, List.set_cons_succ]
              refine tky 3 (some 112) rfl rfl ⟨?vD3, fun w hSw => ?aD3, fun _ _ _ h => h, ?bD3⟩
              case aD3 => (try dsimp only at hSw); go_simp; (try rfl)
              try simp only [Act.put, List.setIfInBounds_toArray, List.set_cons_zero, List.set_cons_succ]
              refine tky 4 (some 113) rfl rfl ⟨?vD4, fun w hSw => ?aD4, fun _ _ _ h => h, ?bD4⟩
              case aD4 => (try dsimp only at hSw); go_simp; (try rfl)
              try simp only [Act.put, List.setIfInBounds_toArray, List.set_cons_zero, List.set_cons_succ]
              refine tky 5 (some 114) rfl rfl ⟨?vD5, fun w hSw => ?aD5, fun _ _ _ h => h, ?bD5⟩
              case aD5 => (try dsimp only at hSw); go_simp; (try rfl)
              try simp only [Act.put, List.setIfInBounds_toArray, List.set_cons_zero, List.set_cons_succ]
              refine wpAnyH_ready (rs := [6]) (by kernel_rfl) (by simp) ?_
              refine AllReadyH.cons rfl (fun K hK => ?_) AllReadyH.nil
              go_simp
              go_at_call 25
              refine (HCk.out _).mono ?_
              rintro e w5 ⟨rfl, rfl⟩
              refine hK.out _ _ k0 (fun hHeld => ?_)
              clear hK K
              try simp only [Act.put, List.setIfInBounds_toArray, List.set_cons_zero, List.set_cons_succ]
              refine tky 7 (some 116) rfl rfl ⟨.bool false, fun w hSw => ?aD7, fun _ _ _ h => h, ?bD7⟩
              case aD7 => (try dsimp only at hSw); go_simp; (try rfl)
              try simp only [Act.put, List.setIfInBounds_toArray, List.set_cons_zero, List.set_cons_succ]
              refine tky 8 (some 117) rfl rfl ⟨?vD8, fun w hSw => ?aD8, fun _ _ _ h => h, ?bD8⟩
              case aD8 => (try dsimp only at hSw); go_simp; (try rfl)
              try simp only [Act.put, List.setIfInBounds_toArray, List.set_cons_zero, List.set_cons_succ]
              refine tky 9 (some 118) rfl rfl ⟨?vD9, fun w hSw => ?aD9, fun _ _ _ h => h, ?bD9⟩
              case aD9 => (try dsimp only at hSw); go_simp; (try rfl)
              try simp only [Act.put, List.setIfInBounds_toArray, List.set_cons_zero, List.set_cons_succ]
              refine tky 10 (some 119) rfl rfl ⟨?vD10, fun w hSw => ?aD10, fun _ _ _ h => h, ?bD10⟩
              case aD10 => (try dsimp only at hSw); go_simp; (try rfl)
              try simp only [Act.put, List.setIfInBounds_toArray, List.set_cons_zero, List.set_cons_succ]
              refine tky 11 (some 120) rfl rfl ⟨?vD11, fun w hSw => ?aD11, fun _ _ _ h => h, ?bD11⟩
              case aD11 => (try dsimp only at hSw); go_simp; (try rfl)
              try simp only [Act.put, List.setIfInBounds_toArray, List.set_cons_zero, List.set_cons_succ]
              refine tky 12 (some 121) rfl rfl ⟨?vD12, fun w hSw => ?aD12, fun _ _ _ h => h, ?bD12⟩
              case aD12 => (try dsimp only at hSw); go_simp; (try rfl)
              try simp only [Act.put, List.setIfInBounds_toArray, List.set_cons_zero, List.set_cons_succ]
              refine tky 13 (some 122) rfl rfl ⟨?vD13, fun w hSw => ?aD13, fun _ _ _ h => h, ?bD13⟩
              case aD13 => (try dsimp only at hSw); go_simp; (try rfl)
              try simp only [Act.put, List.setIfInBounds_toArray, List.set_cons_zero, List.set_cons_succ]
              refine tky 14 (some 123) rfl rfl ⟨?vD14, fun w hSw => ?aD14, fun _ _ _ h => h, ?bD14⟩
              case aD14 => (try dsimp only at hSw); go_simp; (try rfl)
              try simp only [Act.put, List.setIfInBounds_toArray, List.set_cons_zero, List.set_cons_succ]
              refine tky 15 (some 124) rfl rfl ⟨?vD15, fun w hSw => ?aD15, fun _ _ _ h => h, ?bD15⟩
              case aD15 => (try dsimp only at hSw); go_simp; (try rfl)
              try simp only [Act.put, List.setIfInBounds_toArray, List.set_cons_zero, List.set_cons_succ]
              refine wpAnyH_ready (rs := [16]) (by kernel_rfl) (by simp) ?_
              refine AllReadyH.cons rfl (fun K hK => ?_) AllReadyH.nil
              go_simp
              go_at_call 26
              refine (HDr.out _ k0.2.2).mono ?_
              rintro e w6 ⟨rfl, hb6⟩
              have k6 : w6.cell? ⟨b, off + k * 7, none⟩ = some (.int .i64 d) ∧ w6.cell? ⟨b, off + k * 7 + 1, none⟩ = some (.string nm) ∧ Below w2.heap.size w2 w6 := ⟨(hb6.cell (cellLt k0.1)).trans k0.1, (hb6.cell (cellLt k0.2.1)).trans k0.2.1, chainB k0.2.2 hb6⟩
              refine hK.out _ _ k6 (fun hHeld => ?_)
              clear hK K
              try simp only [Act.put, List.setIfInBounds_toArray, List.set_cons_zero, List.set_cons_succ]
              refine tky 17 (some 126) rfl rfl ⟨.bool false, fun w hSw => ?aD17, fun _ _ _ h => h, ?bD17⟩
              case aD17 => (try dsimp only at hSw); go_simp; (try rfl)
              try simp only [Act.put, List.setIfInBounds_toArray, List.set_cons_zero, List.set_cons_succ]
              refine tky 18 (some 127) rfl rfl ⟨?vD18, fun w hSw => ?aD18, fun _ _ _ h => h, ?bD18⟩
              case aD18 => (try dsimp only at hSw); go_simp; (try rfl)
              try simp only [Act.put, List.setIfInBounds_toArray, List.set_cons_zero, List.set_cons_succ]
              refine tky 19 (some 128) rfl rfl ⟨?vD19, fun w hSw => ?aD19, fun _ _ _ h => h, ?bD19⟩
              case aD19 => (try dsimp only at hSw); go_simp; (try rfl)
              try simp only [Act.put, List.setIfInBounds_toArray, List.set_cons_zero, List.set_cons_succ]
              refine tky 20 (some 129) rfl rfl ⟨?vD20, fun w hSw => ?aD20, fun _ _ _ h => h, ?bD20⟩
              case aD20 => (try dsimp only at hSw); go_simp; (try rfl)
              try simp only [Act.put, List.setIfInBounds_toArray, List.set_cons_zero, List.set_cons_succ]
              refine tky 21 (some 130) rfl rfl ⟨.bool false, fun w hSw => ?aD21, fun _ _ _ h => h, ?bD21⟩
              case aD21 => (try dsimp only at hSw); go_simp; omega
              try simp only [Act.put, List.setIfInBounds_toArray, List.set_cons_zero, List.set_cons_succ]
              refine tky 22 (some 131) rfl rfl ⟨?vD22, fun w hSw => ?aD22, fun _ _ _ h => h, ?bD22⟩
              case aD22 => (try dsimp only at hSw); go_simp; (try rfl)
              try simp only [Act.put, List.setIfInBounds_toArray, List.set_cons_zero, List.set_cons_succ]
              refine tkn 23 (some 132) rfl rfl ?_
              try simp only [Act.put, List.setIfInBounds_toArray, List.set_cons_zero, List.set_cons_succ]
              refine tkn 24 (some 133) rfl rfl ?_
              try simp only [Act.put, List.setIfInBounds_toArray, List.set_cons_zero, List.set_cons_succ]
              refine tkn 25 (some 134) rfl rfl ?_
              try simp only [Act.put, List.setIfInBounds_toArray, List.set_cons_zero, List.set_cons_succ]
              refine tkn 26 (some 135) rfl rfl ?_
              try simp only [Act.put, List.setIfInBounds_toArray, List.set_cons_zero, List.set_cons_succ]
              refine tkn 27 (some 136) rfl rfl ?_
              try simp only [Act.put, List.setIfInBounds_toArray, List.set_cons_zero, List.set_cons_succ]
              refine tkn 28 (some 137) rfl rfl ?_
              try simp only [Act.put, List.setIfInBounds_toArray, List.set_cons_zero, List.set_cons_succ]
              refine tkn 29 (some 138) rfl rfl ?_
              try simp only [Act.put, List.setIfInBounds_toArray, List.set_cons_zero, List.set_cons_succ]
              refine tkn 30 (some 139) rfl rfl ?_
              try simp only [Act.put, List.setIfInBounds_toArray, List.set_cons_zero, List.set_cons_succ]
              refine tkn 31 (some 140) rfl rfl ?_
              try simp only [Act.put, List.setIfInBounds_toArray, List.set_cons_zero, List.set_cons_succ]
              refine tkn 32 (some 141) rfl rfl ?_
              try simp only [Act.put, List.setIfInBounds_toArray, List.set_cons_zero, List.set_cons_succ]
              refine tkn 33 (some 142) rfl rfl ?_
              try simp only [Act.put, List.setIfInBounds_toArray, List.set_cons_zero, List.set_cons_succ]
              refine tkn 34 (some 143) rfl rfl ?_
              try simp only [Act.put, List.setIfInBounds_toArray, List.set_cons_zero, List.set_cons_succ]
              refine tkn 35 (some 144) rfl rfl ?_
              try simp only [Act.put, List.setIfInBounds_toArray, List.set_cons_zero, List.set_cons_succ]
              refine tky 36 (some 145) rfl rfl ⟨?vD36, fun w hSw => ?aD36, fun _ _ _ h => h, ?bD36⟩
              case aD36 => (try dsimp only at hSw); go_simp; (try rfl)
              try simp only [Act.put, List.setIfInBounds_toArray, List.set_cons_zero, List.set_cons_succ]
              refine tky 37 (some 146) rfl rfl ⟨?vD37, fun w hSw => ?aD37, fun _ _ _ h => h, ?bD37⟩
              case aD37 => (try dsimp only at hSw); go_simp; (try rfl)
              try simp only [Act.put, List.setIfInBounds_toArray, List.set_cons_zero, List.set_cons_succ]
              refine wpAnyH_done (by kernel_rfl) ?_ _
              go_wp2_with fail
              go_meet
              exact ⟨rfl, k6.2.2⟩
            obtain ⟨p, hkp⟩ : ∃ p, k = p + 1 := ⟨k - 1, by omega⟩
            clear hk0
            have hLe : ∀ f, es[p]? = some f → lessK f.d f.nm d nm = true := fun f hf => by
              cases hq : lessK f.d f.nm d nm with
              | true => rfl
              | false => exact absurd ⟨p, f, hkp, hf, hq⟩ hLs
            clear hLs
            obtain ⟨f, hf⟩ : ∃ f, es[p]? = some f := ⟨_, List.getElem?_eq_getElem (by rw [HL.out.1]; omega)⟩
            have hLs := hLe f hf
            obtain ⟨b', off', hbe, hbl, hc⟩ := HK.out p f hf
            cases hbe
            have hcw := hc.below HB2.out.2
            have hk0 : (0 : Int) < (k : Int) := by omega
            have hwp : IntKind.i64.wrap ((k : Int) - 1) = (p : Int) := (IntWalk.i64_in _ (by omega)).trans (by omega)
            have hp0 : (0 : Int) ≤ (p : Int) := by omega
            have hs0 : (0 : Int) ≤ (k : Int) - 1 := by omega
            have hs1 : ((k : Int) - 1).toNat = p := by omega
            have hs2 : (k : Int) - 1 < (n : Int) := by omega
            have hpn : (p : Int) < (n : Int) := by omega
            have HKp : Hid (k = p + 1) := hkp
            clear hkp
            have k0 : w2.drew.cell? ⟨b, off + k * 7, none⟩ = some (.int .i64 d) ∧ w2.drew.cell? ⟨b, off + k * 7 + 1, none⟩ = some (.string nm) ∧ w2.drew.cell? ⟨b, off + p * 7, none⟩ = some (.int .i64 f.d) ∧ w2.drew.cell? ⟨b, off + p * 7 + 1, none⟩ = some (.string f.nm) ∧ Below w2.heap.size w2 w2.drew := ⟨k0.1, k0.2.1, hcw.c0, hcw.c1, k0.2.2⟩
            have HFf : Hid (es[p]? = some f) := hf
            have HLs : Hid (∀ W', Calls Try.prog 27 #[.agg #[.int .i64 f.d, .string f.nm], .agg #[.int .i64 d, .string nm]] W' fun e w' => e = .returned (.bool true) ∧ Below W'.heap.size W' w') := fun W' => by rw [← hLs]; exact less_any f.d f.nm d nm W'
            clear hf hLe hLs hbl hc hcw
            refine wp_region_held_drew (S := fun w' => w'.cell? ⟨b, off + k * 7, none⟩ = some (.int .i64 d) ∧ w'.cell? ⟨b, off + k * 7 + 1, none⟩ = some (.string nm) ∧ w'.cell? ⟨b, off + p * 7, none⟩ = some (.int .i64 f.d) ∧ w'.cell? ⟨b, off + p * 7 + 1, none⟩ = some (.string f.nm) ∧ Below w2.heap.size w2 w') (by kernel_rfl) k0 (fun hHeld => ?_)
            refine tky 0 (some 109) rfl rfl ⟨?vE0, fun w hSw => ?aE0, fun _ _ _ h => h, ?bE0⟩
            case aE0 => (try dsimp only at hSw); go_simp; (try rfl)
            try simp only [Act.put, List.setIfInBounds_toArray, List.set_cons_zero, List.set_cons_succ]
            refine tky 1 (some 110) rfl rfl ⟨?vE1, fun w hSw => ?aE1, fun _ _ _ h => h, ?bE1⟩
            case aE1 => (try dsimp only at hSw); go_simp; (try rfl)
            try simp only [Act.put, List.setIfInBounds_toArray, List.set_cons_zero, List.set_cons_succ]
            refine tky 2 (some 111) rfl rfl ⟨?vE2, fun w hSw => ?aE2, fun _ _ _ h => h, ?bE2⟩
            case aE2 => (try dsimp only at hSw); go_simp; (try rfl)
            try simp only [Act.put, List.setIfInBounds_toArray, List.set_cons_zero, List.set_cons_succ]
            refine tky 3 (some 112) rfl rfl ⟨?vE3, fun w hSw => ?aE3, fun _ _ _ h => h, ?bE3⟩
            case aE3 => (try dsimp only at hSw); go_simp; (try rfl)
            try simp only [Act.put, List.setIfInBounds_toArray, List.set_cons_zero, List.set_cons_succ]
            refine tky 4 (some 113) rfl rfl ⟨?vE4, fun w hSw => ?aE4, fun _ _ _ h => h, ?bE4⟩
            case aE4 => (try dsimp only at hSw); go_simp; (try rfl)
            try simp only [Act.put, List.setIfInBounds_toArray, List.set_cons_zero, List.set_cons_succ]
            refine tky 5 (some 114) rfl rfl ⟨?vE5, fun w hSw => ?aE5, fun _ _ _ h => h, ?bE5⟩
            case aE5 => (try dsimp only at hSw); go_simp; (try rfl)
            try simp only [Act.put, List.setIfInBounds_toArray, List.set_cons_zero, List.set_cons_succ]
            refine wpAnyH_ready (rs := [6]) (by kernel_rfl) (by simp) ?_
            refine AllReadyH.cons rfl (fun K hK => ?_) AllReadyH.nil
            go_simp
            go_at_call 25
            refine (HCk.out _).mono ?_
            rintro e w5 ⟨rfl, rfl⟩
            refine hK.out _ _ k0 (fun hHeld => ?_)
            clear hK K
            try simp only [Act.put, List.setIfInBounds_toArray, List.set_cons_zero, List.set_cons_succ]
            refine tky 7 (some 116) rfl rfl ⟨.bool false, fun w hSw => ?aE7, fun _ _ _ h => h, ?bE7⟩
            case aE7 => (try dsimp only at hSw); go_simp; (try rfl)
            try simp only [Act.put, List.setIfInBounds_toArray, List.set_cons_zero, List.set_cons_succ]
            refine tky 8 (some 117) rfl rfl ⟨?vE8, fun w hSw => ?aE8, fun _ _ _ h => h, ?bE8⟩
            case aE8 => (try dsimp only at hSw); go_simp; (try rfl)
            try simp only [Act.put, List.setIfInBounds_toArray, List.set_cons_zero, List.set_cons_succ]
            refine tky 9 (some 118) rfl rfl ⟨?vE9, fun w hSw => ?aE9, fun _ _ _ h => h, ?bE9⟩
            case aE9 => (try dsimp only at hSw); go_simp; (try rfl)
            try simp only [Act.put, List.setIfInBounds_toArray, List.set_cons_zero, List.set_cons_succ]
            refine tky 10 (some 119) rfl rfl ⟨?vE10, fun w hSw => ?aE10, fun _ _ _ h => h, ?bE10⟩
            case aE10 => (try dsimp only at hSw); go_simp; (try rfl)
            try simp only [Act.put, List.setIfInBounds_toArray, List.set_cons_zero, List.set_cons_succ]
            refine tky 11 (some 120) rfl rfl ⟨?vE11, fun w hSw => ?aE11, fun _ _ _ h => h, ?bE11⟩
            case aE11 => (try dsimp only at hSw); go_simp; (try rfl)
            try simp only [Act.put, List.setIfInBounds_toArray, List.set_cons_zero, List.set_cons_succ]
            refine tky 12 (some 121) rfl rfl ⟨?vE12, fun w hSw => ?aE12, fun _ _ _ h => h, ?bE12⟩
            case aE12 => (try dsimp only at hSw); go_simp; (try rfl)
            try simp only [Act.put, List.setIfInBounds_toArray, List.set_cons_zero, List.set_cons_succ]
            refine tky 13 (some 122) rfl rfl ⟨?vE13, fun w hSw => ?aE13, fun _ _ _ h => h, ?bE13⟩
            case aE13 => (try dsimp only at hSw); go_simp; (try rfl)
            try simp only [Act.put, List.setIfInBounds_toArray, List.set_cons_zero, List.set_cons_succ]
            refine tky 14 (some 123) rfl rfl ⟨?vE14, fun w hSw => ?aE14, fun _ _ _ h => h, ?bE14⟩
            case aE14 => (try dsimp only at hSw); go_simp; (try rfl)
            try simp only [Act.put, List.setIfInBounds_toArray, List.set_cons_zero, List.set_cons_succ]
            refine tky 15 (some 124) rfl rfl ⟨?vE15, fun w hSw => ?aE15, fun _ _ _ h => h, ?bE15⟩
            case aE15 => (try dsimp only at hSw); go_simp; (try rfl)
            try simp only [Act.put, List.setIfInBounds_toArray, List.set_cons_zero, List.set_cons_succ]
            refine wpAnyH_ready (rs := [16]) (by kernel_rfl) (by simp) ?_
            refine AllReadyH.cons rfl (fun K hK => ?_) AllReadyH.nil
            go_simp
            go_at_call 26
            refine (HDr.out _ k0.2.2.2.2).mono ?_
            rintro e w6 ⟨rfl, hb6⟩
            have k6 : w6.cell? ⟨b, off + k * 7, none⟩ = some (.int .i64 d) ∧ w6.cell? ⟨b, off + k * 7 + 1, none⟩ = some (.string nm) ∧ w6.cell? ⟨b, off + p * 7, none⟩ = some (.int .i64 f.d) ∧ w6.cell? ⟨b, off + p * 7 + 1, none⟩ = some (.string f.nm) ∧ Below w2.heap.size w2 w6 := ⟨(hb6.cell (cellLt k0.1)).trans k0.1, (hb6.cell (cellLt k0.2.1)).trans k0.2.1, (hb6.cell (cellLt k0.2.2.1)).trans k0.2.2.1, (hb6.cell (cellLt k0.2.2.2.1)).trans k0.2.2.2.1, chainB k0.2.2.2.2 hb6⟩
            refine hK.out _ _ k6 (fun hHeld => ?_)
            clear hK K
            try simp only [Act.put, List.setIfInBounds_toArray, List.set_cons_zero, List.set_cons_succ]
            refine tky 17 (some 126) rfl rfl ⟨.bool false, fun w hSw => ?aE17, fun _ _ _ h => h, ?bE17⟩
            case aE17 => (try dsimp only at hSw); go_simp; (try rfl)
            try simp only [Act.put, List.setIfInBounds_toArray, List.set_cons_zero, List.set_cons_succ]
            refine tky 18 (some 127) rfl rfl ⟨?vE18, fun w hSw => ?aE18, fun _ _ _ h => h, ?bE18⟩
            case aE18 => (try dsimp only at hSw); go_simp; (try rfl)
            try simp only [Act.put, List.setIfInBounds_toArray, List.set_cons_zero, List.set_cons_succ]
            refine tky 19 (some 128) rfl rfl ⟨?vE19, fun w hSw => ?aE19, fun _ _ _ h => h, ?bE19⟩
            case aE19 => (try dsimp only at hSw); go_simp; (try rfl)
            try simp only [Act.put, List.setIfInBounds_toArray, List.set_cons_zero, List.set_cons_succ]
            refine tky 20 (some 129) rfl rfl ⟨?vE20, fun w hSw => ?aE20, fun _ _ _ h => h, ?bE20⟩
            case aE20 => (try dsimp only at hSw); go_simp; (try rfl)
            try simp only [Act.put, List.setIfInBounds_toArray, List.set_cons_zero, List.set_cons_succ]
            refine tky 21 (some 130) rfl rfl ⟨.bool true, fun w hSw => ?aE21, fun _ _ _ h => h, ?bE21⟩
            case aE21 => (try dsimp only at hSw); go_simp; omega
            try simp only [Act.put, List.setIfInBounds_toArray, List.set_cons_zero, List.set_cons_succ]
            refine tky 22 (some 131) rfl rfl ⟨?vE22, fun w hSw => ?aE22, fun _ _ _ h => h, ?bE22⟩
            case aE22 => (try dsimp only at hSw); go_simp; (try rfl)
            try simp only [Act.put, List.setIfInBounds_toArray, List.set_cons_zero, List.set_cons_succ]
            refine tky 23 (some 132) rfl rfl ⟨?vE23, fun w hSw => ?aE23, fun _ _ _ h => h, ?bE23⟩
            case aE23 => (try dsimp only at hSw); go_simp; (try rfl)
            try simp only [Act.put, List.setIfInBounds_toArray, List.set_cons_zero, List.set_cons_succ]
            refine tky 24 (some 133) rfl rfl ⟨?vE24, fun w hSw => ?aE24, fun _ _ _ h => h, ?bE24⟩
            case aE24 => (try dsimp only at hSw); go_simp; (try rfl)
            try simp only [Act.put, List.setIfInBounds_toArray, List.set_cons_zero, List.set_cons_succ]
            refine tky 25 (some 134) rfl rfl ⟨?vE25, fun w hSw => ?aE25, fun _ _ _ h => h, ?bE25⟩
            case aE25 => (try dsimp only at hSw); go_simp; (try rfl)
            try simp only [Act.put, List.setIfInBounds_toArray, List.set_cons_zero, List.set_cons_succ]
            refine tky 26 (some 135) rfl rfl ⟨?vE26, fun w hSw => ?aE26, fun _ _ _ h => h, ?bE26⟩
            case aE26 => (try dsimp only at hSw); go_simp; (try rfl)
            try simp only [Act.put, List.setIfInBounds_toArray, List.set_cons_zero, List.set_cons_succ]
            refine tky 27 (some 136) rfl rfl ⟨?vE27, fun w hSw => ?aE27, fun _ _ _ h => h, ?bE27⟩
            case aE27 => (try dsimp only at hSw); go_simp; (try rfl)
            try simp only [Act.put, List.setIfInBounds_toArray, List.set_cons_zero, List.set_cons_succ]
            refine tky 28 (some 137) rfl rfl ⟨?vE28, fun w hSw => ?aE28, fun _ _ _ h => h, ?bE28⟩
            case aE28 => (try dsimp only at hSw); go_simp; (try rfl)
            try simp only [Act.put, List.setIfInBounds_toArray, List.set_cons_zero, List.set_cons_succ]
            refine tky 29 (some 138) rfl rfl ⟨?vE29, fun w hSw => ?aE29, fun _ _ _ h => h, ?bE29⟩
            case aE29 => (try dsimp only at hSw); go_simp; (try rfl)
            try simp only [Act.put, List.setIfInBounds_toArray, List.set_cons_zero, List.set_cons_succ]
            refine tky 30 (some 139) rfl rfl ⟨?vE30, fun w hSw => ?aE30, fun _ _ _ h => h, ?bE30⟩
            case aE30 => (try dsimp only at hSw); go_simp; (try rfl)
            try simp only [Act.put, List.setIfInBounds_toArray, List.set_cons_zero, List.set_cons_succ]
            refine tky 31 (some 140) rfl rfl ⟨?vE31, fun w hSw => ?aE31, fun _ _ _ h => h, ?bE31⟩
            case aE31 => (try dsimp only at hSw); go_simp; (try rfl)
            try simp only [Act.put, List.setIfInBounds_toArray, List.set_cons_zero, List.set_cons_succ]
            refine tky 32 (some 141) rfl rfl ⟨?vE32, fun w hSw => ?aE32, fun _ _ _ h => h, ?bE32⟩
            case aE32 => (try dsimp only at hSw); go_simp; (try rfl)
            try simp only [Act.put, List.setIfInBounds_toArray, List.set_cons_zero, List.set_cons_succ]
            refine tky 33 (some 142) rfl rfl ⟨?vE33, fun w hSw => ?aE33, fun _ _ _ h => h, ?bE33⟩
            case aE33 => (try dsimp only at hSw); go_simp; (try rfl)
            try simp only [Act.put, List.setIfInBounds_toArray, List.set_cons_zero, List.set_cons_succ]
            refine wpAnyH_ready (rs := [34]) (by kernel_rfl) (by simp) ?_
            refine AllReadyH.cons rfl (fun K hK => ?_) AllReadyH.nil
            go_simp
            go_at_call 27
            refine (HLs.out _).mono ?_
            rintro e w7 ⟨rfl, hb7⟩
            have k7 : w7.cell? ⟨b, off + k * 7, none⟩ = some (.int .i64 d) ∧ w7.cell? ⟨b, off + k * 7 + 1, none⟩ = some (.string nm) ∧ w7.cell? ⟨b, off + p * 7, none⟩ = some (.int .i64 f.d) ∧ w7.cell? ⟨b, off + p * 7 + 1, none⟩ = some (.string f.nm) ∧ Below w2.heap.size w2 w7 := ⟨(hb7.cell (cellLt k6.1)).trans k6.1, (hb7.cell (cellLt k6.2.1)).trans k6.2.1, (hb7.cell (cellLt k6.2.2.1)).trans k6.2.2.1, (hb7.cell (cellLt k6.2.2.2.1)).trans k6.2.2.2.1, chainB k6.2.2.2.2 hb7⟩
            refine hK.out _ _ k7 (fun hHeld => ?_)
            clear hK K
            try simp only [Act.put, List.setIfInBounds_toArray, List.set_cons_zero, List.set_cons_succ]
            refine tky 35 (some 144) rfl rfl ⟨?vE35, fun w hSw => ?aE35, fun _ _ _ h => h, ?bE35⟩
            case aE35 => (try dsimp only at hSw); go_simp; (try rfl)
            try simp only [Act.put, List.setIfInBounds_toArray, List.set_cons_zero, List.set_cons_succ]
            refine tky 36 (some 145) rfl rfl ⟨?vE36, fun w hSw => ?aE36, fun _ _ _ h => h, ?bE36⟩
            case aE36 => (try dsimp only at hSw); go_simp; (try rfl)
            try simp only [Act.put, List.setIfInBounds_toArray, List.set_cons_zero, List.set_cons_succ]
            refine tky 37 (some 146) rfl rfl ⟨?vE37, fun w hSw => ?aE37, fun _ _ _ h => h, ?bE37⟩
            case aE37 => (try dsimp only at hSw); go_simp; (try rfl)
            try simp only [Act.put, List.setIfInBounds_toArray, List.set_cons_zero, List.set_cons_succ]
            refine wpAnyH_done (by kernel_rfl) ?_ _
            go_wp2_with fail
            go_meet
            exact ⟨rfl, k7.2.2.2.2⟩
          case rest =>
            obtain ⟨rfl, hbc⟩ := hcut
            have HB3 : Hid (Below w2.heap.size w2 wc ∧ ∀ p f, k = p + 1 → es[p]? = some f → lessE f ⟨d, nm, false, id, kind, mode, tg⟩) := ⟨hbc, fun p f hp hf => by
              show lessK f.d f.nm d nm = true
              cases hq : lessK f.d f.nm d nm with
              | true => rfl
              | false => exact absurd ⟨p, f, hp, hf, hq⟩ hLs⟩
            have HG : Hid (wc.heap[g]? = some (.cells #[.int .i64 id, .int .i64 kind, .int .i64 mode, .string tg] 54 (0, 0))) := hkeep H2.out.1 hbc
            clear hbc hLs k0 HCk HDr x0 x1 z0
            go_wp2
            go_loopw [16] (fun i wr => ∃ j : Nat, j ≤ k ∧ i = .int .i64 j ∧ Hid (∀ i f, i < j → es[i]? = some f → f.id ≠ id) ∧ Hid (Below wc.heap.size wc wr)) (fun i _ => k - (intOf i).toNat)
            case atStart => exact ⟨0, Nat.zero_le _, rfl, fun i f hi => (by omega), Below.refl _ _⟩
            case round =>
              obtain ⟨j, hj, rfl, hJ, hBj⟩ := hrel
              have HBJ : Hid (Below w.heap.size w wr ∧ Below W.heap.size W wr) := ⟨chainB (chainB HB2.out.2 HB3.out.1) hBj.out, chainB (chainB HB2.out.1 HB3.out.1) hBj.out⟩
              by_cases hjk : j < k
              · obtain ⟨f, hf⟩ : ∃ f, es[j]? = some f := ⟨_, List.getElem?_eq_getElem (by rw [HL.out.1]; omega)⟩
                obtain ⟨b', off', hbe, hbl, hc⟩ := HK.out j f hf
                cases hbe
                have y3 := (hc.below HBJ.out.1).c3
                have z0 : wr.cell? ⟨g, 0, none⟩ = some (.int .i64 id) := by rw [cell_of (hkeep HG.out hBj.out)]; rfl
                have hji : (j : Int) < (k : Int) := by omega
                have hjn : (j : Int) < (n : Int) := by omega
                have HFf : Hid (es[j]? = some f) := hf
                clear hf hc hbl
                by_cases hq : f.id = id
                · have hqb : (f.id == id) = true := by simpa using hq
                  have HZ : Hid (¬ DocE M es next k ⟨d, nm, false, id, kind, mode, tg⟩) := fun h => h.ids j f hjk HFf.out hq
                  clear hq
                  go_upto_region 17 with fail
                  go_quiet (fail)
                  go_wp2
                  go_ret2
                  exact .inr ⟨rfl, fun h => HZ.out (HF.out h), below_drewN HBJ.out.1 _⟩
                · have hqb : (f.id == id) = false := by simpa using hq
                  have HQ : Hid (¬ f.id = id) := hq
                  clear hq
                  go_upto_region 17 with fail
                  go_quiet (fail)
                  go_wp2
                  refine ⟨⟨j + 1, by omega, by simp, fun i f' hi hf' => ?_, below_drewN hBj.out _⟩, by simp [intOf]; omega⟩
                  by_cases hij : i < j
                  · exact hJ.out i f' hij hf'
                  · obtain rfl : i = j := by omega
                    rw [HFf.out] at hf'
                    cases hf'
                    exact HQ.out
              · have hji : ¬ (j : Int) < (k : Int) := by omega
                obtain ⟨V, hV⟩ : ∃ V, withinF es (es.length + 1) d 1 = V := ⟨_, rfl⟩
                have HWi : Hid (Calls Try.prog 28 #[.pointer (some ⟨t, 0, none⟩), .int .i64 d, .int .i64 1] wr fun e w' => e = .returned (.bool V) ∧ Below wr.heap.size wr w') := by rw [← hV]; exact within_any t _ d 1 wr (HI.out.is.below HBJ.out.2)
                have HV : Hid (withinF es (es.length + 1) d 1 = V) := hV
                have HIds : Hid (∀ i f, i < k → es[i]? = some f → f.id ≠ id) := fun i f hi hf => hJ.out i f (by omega) hf
                have y0 : wr.cell? ⟨b, off + k * 7, none⟩ = some (.int .i64 d) := (HBw.out.2.2.below HBJ.out.1).c0
                clear hV
                cases V with
                | true =>
                  have HNx : Hid (∀ i e, i < k + 1 → es[i]? = some e → DocE M es next i e) := fun i e hi he => by
                    by_cases hik : i < k
                    · exact hR.out i e hik he
                    · obtain rfl : i = k := by omega
                      rw [HE.out] at he
                      cases he
                      exact ⟨rfl, H9.out.1, H9.out.2.1, H9.out.2.2.1, H9.out.2.2.2.1, H9.out.2.2.2.2.1, H9.out.2.2.2.2.2.1, H9.out.2.2.2.2.2.2.1, H9.out.2.2.2.2.2.2.2, HCD.out.1, HCD.out.2, fun j f hj hf => HB3.out.2 j f hj.symm hf, HIds.out, HV.out⟩
                  go_wp2_with (go_at_call 28; refine HWi.out.mono ?_; rintro x w9 ⟨rfl, hb9⟩)
                  exact ⟨⟨k + 1, by omega, by simp, HNx.out, chainB HBJ.out.2 hb9⟩, by simp [intOf]; omega⟩
                | false =>
                  have HZ : Hid (¬ DocE M es next k ⟨d, nm, false, id, kind, mode, tg⟩) := fun h => (by have := h.root; rw [HV.out] at this; cases this)
                  go_wp2_with (go_at_call 28; refine HWi.out.mono ?_; rintro x w9 ⟨rfl, hb9⟩)
                  go_ret2
                  exact .inr ⟨rfl, fun h => HZ.out (HF.out h), chainB HBJ.out.1 hb9⟩
    · have hki : ¬ (k : Int) < (n : Int) := by omega
      have HD : Hid (DocAll M es vers next) := ⟨by rw [HL.out.1]; exact HL.out.2.2.1, HL.out.2.2.2.1, HL.out.2.2.2.2, fun i e he => hR.out i e (by have := (List.getElem?_eq_some_iff.1 he).1; rw [HL.out.1] at this; omega) he⟩
      go_wp2
      go_ret2
      exact .inl ⟨_, _, rfl, HD.out, (HI.out.below hB.out).is, HI.out.t0, HI.out.v0, chainB HI.out.bel hB.out⟩
theorem loadD_any (M : Nms) (hM : NmsOK M) (v : Value) (es : List En) (vers next : Int) (w : World) (h : ArgE w v es) : Calls Try.prog 7 #[v, .int .i64 vers, .int .i64 next] w fun x w' => LoadD M es vers next w w' x := by
  obtain ⟨a, cap, rfl, hl, hc⟩ := id h
  by_cases hb : es.length < 48 ∧ 0 ≤ vers ∧ 1 < next
  · cases a with
    | some ad => exact loadD_some M hM ad _ cap es vers next w h hb.1 (by omega) (by omega)
    | none =>
      have he : es = [] := by
        rcases hc with h | ⟨b, off, e, _⟩
        · exact h
        · cases e
      subst he
      exact loadD_nil M cap vers next w (by omega) (by omega)
  · exact loadD_bad M a _ cap es vers next w rfl hl hb
end Go.Proofs.Ytjelggpkeogebaa
