/- The document's walk: Steps. -/
import Derived.Test.YtmndnjgbbpkidaaGreatJWLks37
namespace Go.Proofs.YtmndnjgbbpkidaaGreat
section
open Go.RowKit
attribute [local go_sem ↓ high] loadEn storeEn loadNd storeNd storeOu buildNd
attribute [local go_sem high] eqK neqK guardK

/-- the outcome is told -/
theorem Dm.ret {w wr : World} {kc : Array Value} {gA n c g1 : Nat} {a : Option Addr} {lv wv : Value} {L : List ByteArray} {way : List Nd} {pl : Nd} {used : List Ky} (h : Dm w wr kc gA lv wv (.slice a n c) L way pl used) (e1 : w.heap.size + 1 = g1) (o : Ou) (ho : o.used = used) :
    (ouSt (.pointer (some ⟨g1, 0, none⟩)) (ouAgg o (.slice a n c))).run Tryz.prog wr = .ok () (wr.setRow g1 (ouVals o (.slice a n c)).toArray) ∧ (wr.setRow g1 (ouVals o (.slice a n c)).toArray).heap[g1]? = some (.cells (ouVals o (.slice a n c)).toArray 35 (0, 0)) ∧ RowK (wr.setRow g1 (ouVals o (.slice a n c)).toArray) w.heap.size (.slice a n c) o.used ∧ Below w.heap.size w (wr.setRow g1 (ouVals o (.slice a n c)).toArray) := by
  subst e1
  have hO := onlyR wr (w.heap.size + 1) (ouVals o (.slice a n c)).toArray
  have hg := h.hgA
  refine ⟨ouSt_of h.out rfl rfl, setRow_heap _ _ _ _ _ _ h.out, ?_, hO.below h.below h.below.size fun b hb => by omega⟩
  rw [ho]
  exact owns_le (owns_moved h.used fun b hb => hO.block b (World.ownsRow.lt h.used b hb).2 (by have := (World.ownsRow.lt h.used b hb).1; omega)) (by omega)
/-- where it stands, in memory -/
theorem Dm.at_ {w wr : World} {kc : Array Value} {gA : Nat} {lv wv uv : Value} {L : List ByteArray} {way : List Nd} {pl : Nd} {used : List Ky} (h : Dm w wr kc gA lv wv uv L way pl used) : wr.cell? ⟨gA, 0, none⟩ = some (.int .i64 pl.id) ∧ wr.cell? ⟨gA, 1, none⟩ = some (.int .i64 pl.kind) ∧ (ndLd (.pointer (some ⟨gA, 0, none⟩))).run Tryz.prog wr = .ok (.agg #[.int .i64 pl.id, .int .i64 pl.kind, .int .i64 pl.mode, .string pl.tg]) wr := by
  have c := cells4_of h.box
  have c0 := c.c0
  have c1 := c.c1
  simp only [Nat.zero_add] at c0 c1
  exact ⟨c0, c1, ndLd_at c⟩
set_option maxRecDepth 100000 in
set_option maxHeartbeats 16000000 in
theorem rsteps_d (B q : Nat) (kc : Kc) (s : Cs) (es : List En) (fv : Value) (w : World) (h : IsK w B q kc s) (hf : RdE w fv es) (hl : s.L.length ≤ 1400000000000) (hlw : s.W.length ≤ 1400000000000) (aS : Option Addr) (cS : Nat) (steps : List ByteArray) (hs : RowS w aS steps) (hn : steps.length ≤ 1100000) (dir fol : Bool) (links : Int) (O : Ou) (hO : stepsO (knF (firstsL es) s) steps dir fol links = O) :
    Calls Tryz.prog 15 #[.agg #[.pointer (some ⟨q, 0, none⟩), fv, .pointer none], .slice aS steps.length cS, .bool dir, .bool fol, .int .i64 links] w fun r w' => ∃ uv, r = .returned (ouAgg O uv) ∧ RowK w' w.heap.size uv O.used ∧ Below w.heap.size w w' := by
  have HLk : Hid (∀ W, Below w.heap.size w W → ∀ ky : Ky, Calls Tryz.prog 52 #[.agg #[.pointer (some ⟨q, 0, none⟩), fv, .pointer none], .agg #[.int .i64 ky.d, .string ky.nm]] W fun x w' => x = .returned (look14 (knF (firstsL es) s ky) ky) ∧ Below W.heap.size W w') := fun W hW ky => look_d B q kc s es fv ky W (h.below hW) (hf.below hW) hl hlw
  obtain ⟨kn, hkn⟩ : ∃ kn, knF (firstsL es) s = kn := ⟨_, rfl⟩
  rw [hkn] at hO HLk
  have HD := Dw.start kn steps dir fol links
  rw [hO] at HD
  obtain ⟨l1, hl1⟩ : ∃ l : Int, max links 0 = l := ⟨_, rfl⟩
  obtain ⟨lk, hlk⟩ : ∃ l : Nat, linksN links = l := ⟨_, rfl⟩
  have hl2 : min l1 8 = (lk : Int) := by rw [← hlk, ← hl1]; unfold linksN; omega
  have hlk8 : lk ≤ 8 := by omega
  rw [hlk] at HD
  have HD0 : Hid (Dw kn fol O lk steps [rootN] rootN [] 0 dir) := HD
  obtain ⟨k, hk⟩ : ∃ k, steps.length = k := ⟨_, rfl⟩
  rw [hk] at hn ⊢
  obtain ⟨W1, hW1⟩ : ∃ W, w.alloc (.cells #[.pointer (some ⟨q, 0, none⟩), fv, .pointer none] 41) = W := ⟨_, rfl⟩
  obtain ⟨W2, hW2⟩ : ∃ W, W1.alloc (.cells #[.bool false, .int .i64 0, .string ⟨#[]⟩, .int .i64 0, .int .i64 0, .int .i64 0, .int .i64 0, .string ⟨#[]⟩, .slice none 0 0] 35) = W := ⟨_, rfl⟩
  have b1 := boxO hW1
  have b2 := boxO hW2
  have e1 : w.heap.size + 1 = W1.heap.size := b1.2.2.symm
  have B02 : Below w.heap.size w W2 := chainB b1.2.1 b2.2.1
  obtain ⟨a3, N3, c3, W3, r3, o3, k3⟩ := appS_any (w := W2) (c := cS) (Own.nil W2 W2.heap.size) (hs.below B02) (Nat.le_refl _) (by simp only [List.length_nil]; omega)
  rw [hk] at r3
  rw [List.nil_append] at o3
  have hB3 : Below W2.heap.size W2 W3 := Only.below (Below.refl _ _) k3 (Nat.le_refl _) fun b hb => by simp [Value.ownBlock] at hb
  have HK : Hid (Below w.heap.size w W3 ∧ W3.heap[w.heap.size]? = some (.cells #[.pointer (some ⟨q, 0, none⟩), fv, .pointer none] 41 (0, 0)) ∧ W3.heap[w.heap.size + 1]? = some (.cells zeroes9 35 (0, 0)) ∧ Own W3 W2.heap.size (.slice a3 N3 c3) steps ∧ w.heap.size + 1 < W2.heap.size) := ⟨chainB B02 hB3, hkeep (hkeep b1.1 b2.2.1) hB3, by rw [e1]; exact hkeep b2.1 hB3, o3, by have := b2.2.2; omega⟩
  have hN3 : N3 = k := by
    obtain ⟨_, _, e⟩ := owns_len o3
    injection e with _ e2 _
    rw [e2, hk]
  subst hN3
  have hkk : steps.length = N3 := hk
  have s23 : W2.heap.size ≤ W3.heap.size := hB3.size
  have bx := box4
  have on1 := ndOne_of
  have HR : Hid (∀ W, Calls Tryz.prog 51 #[] W fun x w' => x = .returned rootN.agg ∧ Below W.heap.size W w') := root_d
  clear h hf hs HD b1 b2 B02 o3 k3 hB3 hO hlk hkn
  go_enter Tryz.func15, Tryz.ntmps15
  go_upto_if 25 with fail
  go_cut [4] from 24 to 25 (fun x wx => x = .int .i64 l1 ∧ W2 = wx)
  case first =>
    by_cases hneg : links < 0
    · have h0 : l1 = 0 := by omega
      subst h0
      go_wp2_with fail
      go_meet
      exact ⟨rfl, rfl⟩
    · have h0 : l1 = links := by omega
      subst h0
      go_wp2_with fail
      go_meet
      exact ⟨rfl, rfl⟩
  case rest =>
    obtain ⟨rfl, rfl⟩ := hcut
    go_upto_if 27 with fail
    go_cut [4] from 26 to 27 (fun x wx => x = .int .i64 (lk : Nat) ∧ W2 = wx)
    case first =>
      by_cases h8 : 8 < l1
      · have h0 : lk = 8 := by omega
        subst h0
        go_wp2_with fail
        go_meet
        exact ⟨rfl, rfl⟩
      · have h0 : l1 = (lk : Int) := by omega
        subst h0
        go_wp2_with fail
        go_meet
        exact ⟨rfl, rfl⟩
    case rest =>
      obtain ⟨rfl, rfl⟩ := hcut
      go_wp2_with (first
        | (at_builtin; refine wpList_apR rfl (.const (.slice none 0 0)) (.tmp 28) 46 rfl _ _ (.slice a3 N3 c3) W3 (by simp [Act.eval]) (by simp [Act.eval]) r3 ?_)
        | (go_at_call 51; first
          | (refine (HR.out (W4.alloc (.cells rootN.vals.toArray 32))).mono ?_; rintro r W6 ⟨rfl, hb⟩; have H6 : Hid (Below W4.heap.size W4 W6 ∧ W6.heap[W4.heap.size]? = some (.cells rootN.vals.toArray 32 (0, 0))) := ⟨chainB (below_alloc _ _) hb, hkeep (heap_new W4 _) hb⟩; clear hb)
          | (refine (HR.out W3).mono ?_; rintro r W4 ⟨rfl, hb⟩; have H4 : Hid (Below W3.heap.size W3 W4) := hb; clear hb)))
      obtain ⟨W7, hW7⟩ : ∃ W, W6.alloc (.cells rootN.vals.toArray 32) = W := ⟨_, rfl⟩
      have b7 := boxO hW7
      have B37 : Below W3.heap.size W3 W7 := chainB H4.out (chainB H6.out.1 b7.2.1)
      have s4 := H4.out.size
      have s6 : W4.heap.size < W6.heap.size := cellLt (p := ⟨W4.heap.size, 0, none⟩) (by rw [cell_of H6.out.2]; rfl)
      obtain ⟨g1, g2⟩ := leftOf HK.out.2.2.2.1
      have s3 : W2.heap.size ≤ W3.heap.size := s23
      have HM : Hid (Dm w W7 #[.pointer (some ⟨q, 0, none⟩), fv, .pointer none] W6.heap.size (.slice a3 N3 c3) (.slice (some ⟨W4.heap.size, 0, none⟩) 1 1) (.slice none 0 0) steps [rootN] rootN []) := by
        refine ⟨chainB HK.out.1 B37, hkeep HK.out.2.1 B37, hkeep HK.out.2.2.1 B37, b7.1, by have := HK.out.2.2.2.2; omega, g1.kept B37.size fun b e => B37.block b (g2 b e).2, ?_, World.ownsRow_nil _ _ _ _, fun b e => ⟨Nat.lt_of_lt_of_le (g2 b e).2 B37.size, by have := (g2 b e).2; omega, by simp [Value.ownBlock]⟩, ?_⟩
        · refine (way_new W4 rootN).kept fun b e => ?_
          obtain ⟨o, n, c, e⟩ := e
          injection e with e1 _ _
          injection e1 with e1
          injection e1 with e1 _ _
          subst e1
          exact (hkeep H6.out.2 b7.2.1).trans (heap_new W4 _).symm
        · rintro b ⟨o, n, c, e⟩
          injection e with e1 _ _
          injection e1 with e1
          injection e1 with e1 _ _
          subst e1
          exact ⟨by have := b7.2.2; omega, by omega, by simp [Value.ownBlock]⟩
      rw [hW7]
      clear hW7 b7 B37 s4 s6 g1 g2 H4 H6
      have hK8 : lk * 49 ≤ 392 := by omega
      go_loopw [2, 11, 12, 14, 15, 16, 17, 18, 19, 20, 21, 22, 23] (fun s2 s11 s12 s14 s15 _ _ _ _ _ _ _ _ wr => ∃ dr, s2 = .bool dr ∧ ∃ aL nL cL, s11 = .slice aL nL cL ∧ ∃ gW nW cW, s12 = .slice (some ⟨gW, 0, none⟩) nW cW ∧ ∃ aU nU cU, s14 = .slice aU nU cU ∧ ∃ mt : Nat, s15 = .int .i64 mt ∧ mt ≤ lk ∧ nL ≤ 1100400 ∧ nL ≤ cL ∧ Hid (∃ L way pl used, L.length = nL ∧ way.length = nW ∧ used.length = nU ∧ nU + nL + (lk - mt) * 49 ≤ 1100400 ∧ nW + nL + (lk - mt) * 49 ≤ 1100401 ∧ Dm w wr #[.pointer (some ⟨q, 0, none⟩), fv, .pointer none] W6.heap.size (.slice aL nL cL) (.slice (some ⟨gW, 0, none⟩) nW cW) (.slice aU nU cU) L way pl used ∧ Dw kn fol O lk L way pl used mt dr)) (fun _ s11 _ _ s15 _ _ _ _ _ _ _ _ _ => (lk - (intOf s15).toNat) * 49 + lenV s11)
      case atStart => exact ⟨dir, rfl, _, _, _, rfl, _, _, _, rfl, _, _, _, rfl, 0, rfl, Nat.zero_le _, by omega, by
        obtain ⟨a, c, e, h1, -⟩ := HM.out.left
        injection e with _ e1 e2
        omega, steps, [rootN], rootN, [], hkk, rfl, rfl, by omega, by omega, HM.out, HD0.out⟩
      case round =>
        obtain ⟨dr, rfl, aL, nL, cL, rfl, gW, nW, cW, rfl, aU, nU, cU, rfl, mt, rfl, hmt, hnL, hcL, HJ⟩ := hrel
        clear HM HD0
        obtain ⟨L, way, pl, used, hLn, hWn, hUn, hb1, hb2, hm, hd⟩ := HJ.out
        cases L with
        | nil =>
          obtain rfl : nL = 0 := hLn.symm
          obtain ⟨y0, y1, y4⟩ := hm.at_
          have hF := hd.fin
          by_cases hkd : pl.kind = 1
          · have hkb : (pl.kind != 1) = false := by simp [hkd]
            rw [if_neg (fun hc => hc.2 hkd)] at hF
            obtain ⟨st, hh⟩ := hm.ret e1 O (by rw [hF])
            have HE : Hid (_ ∧ _) := hh
            have st2 : (ouSt (.pointer (some ⟨W1.heap.size, 0, none⟩)) (.agg #[.bool false, .int .i64 0, .string ⟨#[]⟩, .int .i64 0, .int .i64 pl.id, .int .i64 pl.kind, .int .i64 pl.mode, .string pl.tg, .slice aU nU cU])).run Tryz.prog wr = .ok () (wr.setRow W1.heap.size (ouVals O (.slice aU nU cU)).toArray) := by
              rw [hF] at st ⊢; exact st
            clear HJ hm hd hF st hh hLn hWn hUn hkd
            cases dr <;> (
              go_wp2
              refine bodyPost_ret (ret_out rfl _ _ W1.heap.size rfl HE.out.1) rfl ?_
              exact ⟨_, rfl, HE.out.2⟩)
          · have hkb : (pl.kind != 1) = true := by simpa using hkd
            cases dr with
            | true =>
              rw [if_pos ⟨rfl, hkd⟩] at hF
              obtain ⟨st, hh⟩ := hm.ret e1 O (by rw [hF])
              have HE : Hid (_ ∧ _) := hh
              have st2 : (ouSt (.pointer (some ⟨W1.heap.size, 0, none⟩)) (.agg #[.bool false, .int .i64 0, .string ⟨#[]⟩, .int .i64 42, .int .i64 0, .int .i64 0, .int .i64 0, .string ⟨#[]⟩, .slice aU nU cU])).run Tryz.prog wr = .ok () (wr.setRow W1.heap.size (ouVals O (.slice aU nU cU)).toArray) := by
                rw [hF] at st ⊢; exact st
              clear HJ hm hd hF st hh hLn hWn hUn
              go_wp2
              refine bodyPost_ret (ret_out rfl _ _ W1.heap.size rfl HE.out.1) rfl ?_
              exact ⟨_, rfl, HE.out.2⟩
            | false =>
              rw [if_neg (fun hc => by cases hc.1)] at hF
              obtain ⟨st, hh⟩ := hm.ret e1 O (by rw [hF])
              have HE : Hid (_ ∧ _) := hh
              have st2 : (ouSt (.pointer (some ⟨W1.heap.size, 0, none⟩)) (.agg #[.bool false, .int .i64 0, .string ⟨#[]⟩, .int .i64 0, .int .i64 pl.id, .int .i64 pl.kind, .int .i64 pl.mode, .string pl.tg, .slice aU nU cU])).run Tryz.prog wr = .ok () (wr.setRow W1.heap.size (ouVals O (.slice aU nU cU)).toArray) := by
                rw [hF] at st ⊢; exact st
              clear HJ hm hd hF st hh hLn hWn hUn
              go_wp2
              refine bodyPost_ret (ret_out rfl _ _ W1.heap.size rfl HE.out.1) rfl ?_
              exact ⟨_, rfl, HE.out.2⟩
        | cons x rest =>
          have hLn2 : rest.length + 1 = nL := hLn
          obtain ⟨nR, hnR⟩ : ∃ n, nL - 1 = n := ⟨_, rfl⟩
          obtain ⟨cR, hcR⟩ : ∃ n, cL - 1 = n := ⟨_, rfl⟩
          have hRn : rest.length = nR := by omega
          have hlv := hm.left
          obtain ⟨a', c', e', hc', hr'⟩ := hlv
          injection e' with e'1 e'2 e'3
          subst e'1 e'3
          clear e'2
          rcases hr' with hr' | ⟨gL, oL, rfl, hgL, hcell⟩
          · cases hr'
          have xc := hcell 0 x rfl
          rw [Nat.add_zero] at xc
          obtain ⟨y0, y1, y4⟩ := hm.at_
          have hpos : (0 : Int) < (nL : Int) := by omega
          have hone : (1 : Int) ≤ (nL : Int) := by omega
          have hm1 : Dm w wr #[.pointer (some ⟨q, 0, none⟩), fv, .pointer none] W6.heap.size (.slice (if cL = 1 then some ⟨gL, oL, none⟩ else some ⟨gL, oL + 1, none⟩) nR cR) (.slice (some ⟨gW, 0, none⟩) nW cW) (.slice aU nU cU) rest way pl used := by
            by_cases hc1 : cL = 1
            · have hr0 : rest = [] := List.length_eq_zero_iff.1 (by omega)
              rw [if_pos hc1]
              exact hm.setL ⟨_, _, by rw [hRn], by rw [hRn]; omega, .inl hr0⟩ fun b hb => inBlk_to hb
            · rw [if_neg hc1]
              exact hm.setL ⟨_, _, by rw [hRn], by rw [hRn]; omega, .inr ⟨gL, oL + 1, rfl, hgL, fun j y hy => by
                have := hcell (j + 1) y hy
                rw [show oL + 1 + j = oL + (j + 1) by omega]; exact this⟩⟩ fun b hb => inBlk_to hb
          go_upto_region 13 with fail
          generalize (if cL = 1 then some (⟨gL, oL, none⟩ : Addr) else some ⟨gL, oL + 1, none⟩) = aR at hm1 ⊢
          by_cases hkd : pl.kind = 1
          · have hkb : (pl.kind != 1) = false := by simp [hkd]
            have t1 := str_eq x [46] dot1 dot1_list
            have t2 := str_eq x [46, 46] dot2 dot2_list
            by_cases d1 : x = dot1
            · rw [decide_eq_true d1] at t1
              rw [d1] at hd
              have HR2 : Hid (Dm w wr #[.pointer (some ⟨q, 0, none⟩), fv, .pointer none] W6.heap.size (.slice aR nR cR) (.slice (some ⟨gW, 0, none⟩) nW cW) (.slice aU nU cU) rest way pl used ∧ Dw kn fol O lk rest way pl used mt dr) := ⟨hm1, hd.dot hkd⟩
              have HNu : Hid (rest.length = nR ∧ way.length = nW ∧ used.length = nU ∧ nU + nL + (lk - mt) * 49 ≤ 1100400 ∧ nW + nL + (lk - mt) * 49 ≤ 1100401 ∧ nR + 1 = nL ∧ nR ≤ cR) := ⟨hRn, hWn, hUn, hb1, hb2, by omega, by omega⟩
              clear HJ hm hm1 hd hLn hLn2 hWn hUn hcell hkd t2 d1 hRn y4 hb1 hb2 hnL hc'
              go_wp2
              go_roundw
              case rel => exact ⟨dr, rfl, _, nR, cR, rfl, gW, nW, cW, rfl, aU, nU, cU, rfl, mt, rfl, hmt, by have := HNu.out; omega, HNu.out.2.2.2.2.2.2, rest, way, pl, used, HNu.out.1, HNu.out.2.1, HNu.out.2.2.1, by have := HNu.out; omega, by have := HNu.out; omega, HR2.out.1, HR2.out.2⟩
              case measure => simp only [intOf, lenV, Int.toNat_natCast]; have := HNu.out; omega
            · rw [decide_eq_false d1] at t1
              by_cases d2 : x = dot2
              · rw [decide_eq_true d2] at t2
                rw [d2] at hd
                obtain ⟨pl', hp, hd'⟩ := hd.up hkd
                have hml := upW_len way
                have hw0 := hm1.way.cap
                have hwp := hm1.way.pre (upW_pre way) rfl
                obtain ⟨v, hv⟩ : ∃ v, (upW way).length = v + 1 := ⟨(upW way).length - 1, by have := List.length_pos_iff.2 (upW_ne hd.ne); omega⟩
                rw [hv] at hwp hml
                have hy : (upW way)[v]? = some pl' := by rw [List.getLast?_eq_getElem?, hv] at hp; simpa using hp
                have ly : (ndLd (.pointer (some ⟨gW, v * 4, none⟩))).run Tryz.prog wr = .ok (.agg #[.int .i64 pl'.id, .int .i64 pl'.kind, .int .i64 pl'.mode, .string pl'.tg]) wr := ndLd_at (hwp.get hy)
                have st := hm1.at_st pl'
                have HR2 : Hid (Dm w (wr.setRow W6.heap.size pl'.vals.toArray) #[.pointer (some ⟨q, 0, none⟩), fv, .pointer none] W6.heap.size (.slice aR nR cR) (.slice (some ⟨gW, 0, none⟩) (v + 1) cW) (.slice aU nU cU) rest (upW way) pl' used ∧ Dw kn fol O lk rest (upW way) pl' used mt dr) := ⟨(hm1.setW hwp fun b hb => inBlk_to hb).setAt pl', hd'⟩
                have HNu : Hid (rest.length = nR ∧ (upW way).length = v + 1 ∧ used.length = nU ∧ nU + nL + (lk - mt) * 49 ≤ 1100400 ∧ v + 1 + nL + (lk - mt) * 49 ≤ 1100401 ∧ nR + 1 = nL ∧ nR ≤ cR) := ⟨hRn, hv, hUn, hb1, by rw [hWn] at hml; split at hml <;> omega, by omega, by omega⟩
                rw [hWn] at hml
                have hW1 : nW ≤ 1100401 := by omega
                have hv0 : (0 : Int) ≤ (v : Int) := by omega
                by_cases g1 : 1 < nW
                · rw [if_pos g1] at hml
                  have g1z : (1 : Int) < (nW : Int) := by omega
                  have hwv : IntKind.i64.wrap ((nW : Int) - 1) = ((v + 1 : Nat) : Int) := by
                    rw [show (nW : Int) - 1 = ((v + 1 : Nat) : Int) by omega]; exact IntWalk.i64_in _ (by omega)
                  have hwv2 : IntKind.i64.wrap (((v + 1 : Nat) : Int) - 1) = (v : Int) := by
                    rw [show ((v + 1 : Nat) : Int) - 1 = (v : Int) by omega]; exact IntWalk.i64_in _ (by omega)
                  have hvc : ((v + 1 : Nat) : Int) ≤ (cW : Int) := by omega
                  have hv1 : (0 : Int) ≤ ((v + 1 : Nat) : Int) := by omega
                  have hv2 : (v : Int) < ((v + 1 : Nat) : Int) := by omega
                  obtain ⟨m, hm_⟩ : ∃ m, v + 1 = m := ⟨_, rfl⟩
                  rw [hm_] at hwv hwv2 hvc hv1 hv2 HR2 HNu
                  clear HJ hm hm1 hd hd' hLn hLn2 hWn hUn hcell hkd d1 d2 hRn y4 hb1 hb2 hnL hc' hwp hy hp hml hv hw0 hm_ g1
                  go_wp2
                  go_roundw
                  case rel => exact ⟨dr, rfl, _, nR, cR, rfl, gW, m, cW, rfl, aU, nU, cU, rfl, mt, rfl, hmt, by have := HNu.out; omega, HNu.out.2.2.2.2.2.2, rest, upW way, pl', used, HNu.out.1, HNu.out.2.1, HNu.out.2.2.1, by have := HNu.out; omega, by have := HNu.out; omega, HR2.out.1, HR2.out.2⟩
                  case measure => simp only [intOf, lenV, Int.toNat_natCast]; have := HNu.out; omega
                · rw [if_neg g1] at hml
                  obtain rfl : nW = v + 1 := hml.symm
                  obtain rfl : v = 0 := by omega
                  clear HJ hm hm1 hd hd' hLn hLn2 hWn hUn hcell hkd d1 d2 hRn y4 hb1 hb2 hnL hc' hwp hy hp hml hv hw0 g1
                  go_wp2
                  go_roundw
                  case rel => exact ⟨dr, rfl, _, nR, cR, rfl, gW, _, cW, rfl, aU, nU, cU, rfl, mt, rfl, hmt, by have := HNu.out; omega, HNu.out.2.2.2.2.2.2, rest, upW way, pl', used, HNu.out.1, HNu.out.2.1, HNu.out.2.2.1, by have := HNu.out; omega, by have := HNu.out; omega, HR2.out.1, HR2.out.2⟩
                  case measure => simp only [intOf, lenV, Int.toNat_natCast]; have := HNu.out; omega
              · rw [decide_eq_false d2] at t2
                have bK := below_alloc wr (.cells #[.int .i64 pl.id, .string x] 29)
                have hmK := hm1.on bK
                have z0 : (wr.alloc (.cells #[.int .i64 pl.id, .string x] 29)).cell? ⟨w.heap.size, 0, none⟩ = some (.pointer (some ⟨q, 0, none⟩)) := by rw [cell_of hmK.kn]; rfl
                have z1 : (wr.alloc (.cells #[.int .i64 pl.id, .string x] 29)).cell? ⟨w.heap.size, 1, none⟩ = some fv := by rw [cell_of hmK.kn]; rfl
                have z2 : (wr.alloc (.cells #[.int .i64 pl.id, .string x] 29)).cell? ⟨w.heap.size, 2, none⟩ = some (.pointer none) := by rw [cell_of hmK.kn]; rfl
                have k0 : (wr.alloc (.cells #[.int .i64 pl.id, .string x] 29)).cell? ⟨wr.heap.size, 0, none⟩ = some (.int .i64 pl.id) := by rw [cell_of (heap_new wr _)]; rfl
                have k1 : (wr.alloc (.cells #[.int .i64 pl.id, .string x] 29)).cell? ⟨wr.heap.size, 1, none⟩ = some (.string x) := by rw [cell_of (heap_new wr _)]; rfl
                have HL2 := HLk.out _ hmK.below ⟨pl.id, x⟩
                have HM7 : Hid (∀ w6 (e : En), Below (wr.alloc (.cells #[.int .i64 pl.id, .string x] 29)).heap.size (wr.alloc (.cells #[.int .i64 pl.id, .string x] 29)) w6 → De w (w6.alloc (.cells e.vals.toArray 52)) #[.pointer (some ⟨q, 0, none⟩), fv, .pointer none] W6.heap.size (.slice aR nR cR) (.slice (some ⟨gW, 0, none⟩) nW cW) (.slice aU nU cU) rest way pl used w6.heap.size e ∧ (w6.alloc (.cells e.vals.toArray 52)).cell? ⟨wr.heap.size, 0, none⟩ = some (.int .i64 pl.id) ∧ (w6.alloc (.cells e.vals.toArray 52)).cell? ⟨wr.heap.size, 1, none⟩ = some (.string x)) := fun w6 e hb => by
                  have bb := chainB hb (below_alloc w6 (.cells e.vals.toArray 52))
                  refine ⟨⟨hmK.on bb, heap_new _ _, Nat.lt_of_lt_of_le hmK.lt hb.size, fun e' => ?_⟩, (bb.cell (cellLt k0)).trans k0, (bb.cell (cellLt k1)).trans k1⟩
                  have := (World.ownsRow.lt hmK.used _ e').2
                  have := hb.size
                  omega
                have HDw : Hid (Dw kn fol O lk (x :: rest) way pl used mt dr ∧ pl.kind = 1 ∧ x ≠ dot1 ∧ x ≠ dot2) := ⟨hd, hkd, d1, d2⟩
                have HNu : Hid (rest.length = nR ∧ way.length = nW ∧ used.length = nU ∧ nU + nL + (lk - mt) * 49 ≤ 1100400 ∧ nW + nL + (lk - mt) * 49 ≤ 1100401 ∧ nR + 1 = nL ∧ nR ≤ cR) := ⟨hRn, hWn, hUn, hb1, hb2, by omega, by omega⟩
                have hNW : nW ≤ 1100401 := by omega
                have hNR : nR ≤ 1100400 := by omega
                have hNU : nU ≤ 1100400 := by omega
                have bx7 := box7
                have bxt := x
                clear HJ hm hm1 hd hLn hLn2 hWn hUn hcell hkd d1 d2 hRn y4 hb1 hb2 hnL hc' bK hmK
                cases hkx : kn ⟨pl.id, x⟩ with
                | none =>
                  have HL3 : Hid (Calls Tryz.prog 52 #[.agg #[.pointer (some ⟨q, 0, none⟩), fv, .pointer none], .agg #[.int .i64 pl.id, .string x]] (wr.alloc (.cells #[.int .i64 pl.id, .string x] 29)) fun r w' => r = .returned (.tuple #[.agg #[.int .i64 pl.id, .string x, .bool true, .int .i64 0, .int .i64 0, .int .i64 0, .string ⟨#[]⟩], .bool false]) ∧ Below (wr.alloc (.cells #[.int .i64 pl.id, .string x] 29)).heap.size (wr.alloc (.cells #[.int .i64 pl.id, .string x] 29)) w') := HL2.mono fun r w' ⟨h1, h2⟩ => ⟨by rw [h1, hkx]; rfl, h2⟩
                  have hF := HDw.out.1.none HDw.out.2.1 HDw.out.2.2.1 HDw.out.2.2.2 hkx
                  have HF : Hid (O = _) := hF
                  clear hF HL2 hkx
                  go_upto_region 23 with (go_at_call 52; refine HL3.out.mono ?_; rintro r w6 ⟨rfl, hb⟩; obtain ⟨h7, j0, j1⟩ := HM7.out w6 (negK ⟨pl.id, x⟩) hb; have st7 : (enSt (.pointer (some ⟨w6.heap.size, 0, none⟩)) (.agg #[.int .i64 pl.id, .string x, .bool true, .int .i64 0, .int .i64 0, .int .i64 0, .string ⟨#[]⟩])).run Tryz.prog (w6.alloc (.cells #[.int .i64 0, .string ⟨#[]⟩, .bool false, .int .i64 0, .int .i64 0, .int .i64 0, .string ⟨#[]⟩] 52)) = .ok () (w6.alloc (.cells (negK ⟨pl.id, x⟩).vals.toArray 52)) := bx7 w6 (negK ⟨pl.id, x⟩); have HH := h7.m.ret e1 O (by rw [HF.out]); obtain ⟨st, hh⟩ := HH; have HE : Hid (_ ∧ _) := hh; have st2 : (ouSt (.pointer (some ⟨W1.heap.size, 0, none⟩)) (.agg #[.bool true, .int .i64 pl.id, .string x, .int .i64 0, .int .i64 0, .int .i64 0, .int .i64 0, .string ⟨#[]⟩, .slice aU nU cU])).run Tryz.prog (w6.alloc (.cells (negK ⟨pl.id, x⟩).vals.toArray 52)) = .ok () ((w6.alloc (.cells (negK ⟨pl.id, x⟩).vals.toArray 52)).setRow W1.heap.size (ouVals O (.slice aU nU cU)).toArray) := (by rw [HF.out] at st ⊢; exact st); clear h7 hb hh st)
                  go_wp2
                  refine bodyPost_ret (ret_out rfl _ _ W1.heap.size rfl HE.out.1) rfl ?_
                  exact ⟨_, rfl, HE.out.2⟩
                | some e =>
                  have HL3 : Hid (Calls Tryz.prog 52 #[.agg #[.pointer (some ⟨q, 0, none⟩), fv, .pointer none], .agg #[.int .i64 pl.id, .string x]] (wr.alloc (.cells #[.int .i64 pl.id, .string x] 29)) fun r w' => r = .returned (.tuple #[.agg #[.int .i64 e.d, .string e.nm, .bool e.neg, .int .i64 e.id, .int .i64 e.kind, .int .i64 e.mode, .string e.tg], .bool true]) ∧ Below (wr.alloc (.cells #[.int .i64 pl.id, .string x] 29)).heap.size (wr.alloc (.cells #[.int .i64 pl.id, .string x] 29)) w') := HL2.mono fun r w' ⟨h1, h2⟩ => ⟨by rw [h1, hkx]; rfl, h2⟩
                  have HKx : Hid (kn ⟨pl.id, x⟩ = some e) := hkx
                  clear HL2 hkx
                  go_upto_region 24 with (go_at_call 52; refine HL3.out.mono ?_; rintro r w6 ⟨rfl, hb⟩; obtain ⟨h7, j0, j1⟩ := HM7.out w6 e hb; obtain ⟨W7, hW7⟩ : ∃ W, w6.alloc (.cells e.vals.toArray 52) = W := ⟨_, rfl⟩; rw [hW7] at h7 j0 j1; have st7 : (enSt (.pointer (some ⟨w6.heap.size, 0, none⟩)) (.agg #[.int .i64 e.d, .string e.nm, .bool e.neg, .int .i64 e.id, .int .i64 e.kind, .int .i64 e.mode, .string e.tg])).run Tryz.prog (w6.alloc (.cells #[.int .i64 0, .string ⟨#[]⟩, .bool false, .int .i64 0, .int .i64 0, .int .i64 0, .string ⟨#[]⟩] 52)) = .ok () W7 := (by rw [← hW7]; exact bx7 w6 e); have H7 : Hid (De w W7 #[.pointer (some ⟨q, 0, none⟩), fv, .pointer none] W6.heap.size (.slice aR nR cR) (.slice (some ⟨gW, 0, none⟩) nW cW) (.slice aU nU cU) rest way pl used w6.heap.size e) := h7; clear h7 hb hW7)
                  obtain ⟨a6, N6, c6, Z, pap, row6, o6, p6⟩ := keep_ky (X := W7) ⟨pl.id, x⟩ H7.out.m.used (by have := H7.out.m.lt; omega) (by rw [HNu.out.2.2.1]; omega)
                  have hz := H7.out.use row6 o6 p6
                  have hN6 : N6 = nU + 1 := by
                    obtain ⟨_, _, ee⟩ := owns_len row6
                    injection ee with _ e2 _
                    rw [e2, List.length_append, HNu.out.2.2.1]; rfl
                  have HN6 : Hid (N6 = nU + 1 ∧ (used ++ [(⟨pl.id, x⟩ : Ky)]).length = N6) := ⟨hN6, by rw [List.length_append, HNu.out.2.2.1, hN6]; rfl⟩
                  obtain ⟨c2, c4, c6', cn⟩ := hz.cells
                  have HZ : Hid (De w Z #[.pointer (some ⟨q, 0, none⟩), fv, .pointer none] W6.heap.size (.slice aR nR cR) (.slice (some ⟨gW, 0, none⟩) nW cW) (.slice a6 N6 c6) rest way pl (used ++ [⟨pl.id, x⟩]) w6.heap.size e) := hz
                  obtain ⟨ng, hng⟩ : ∃ b, e.neg = b := ⟨_, rfl⟩
                  rw [hng] at c2
                  clear row6 o6 p6 hz hN6 st7 z0 z1 z2 k0 k1 bx7 HL3 HM7
                  cases ng with
                  | true =>
                    have hF := HDw.out.1.neg HDw.out.2.1 HDw.out.2.2.1 HDw.out.2.2.2 HKx.out hng
                    obtain ⟨st, hh⟩ := HZ.out.m.ret e1 O (by rw [hF])
                    have HE : Hid (_ ∧ _) := hh
                    have st2 : (ouSt (.pointer (some ⟨W1.heap.size, 0, none⟩)) (.agg #[.bool false, .int .i64 0, .string ⟨#[]⟩, .int .i64 40, .int .i64 0, .int .i64 0, .int .i64 0, .string ⟨#[]⟩, .slice a6 N6 c6])).run Tryz.prog Z = .ok () (Z.setRow W1.heap.size (ouVals O (.slice a6 N6 c6)).toArray) := by
                      rw [hF] at st ⊢; exact st
                    clear hF st hh c4 c6' cn hng
                    go_wp2_with (at_builtin; refine wpList_apR rfl (.tmp 79) (.tmp 81) 33 rfl _ _ (.slice a6 N6 c6) Z (by simp [Act.eval]) (by simp [Act.eval]) pap ?_)
                    refine bodyPost_ret (ret_out rfl _ _ W1.heap.size rfl HE.out.1) rfl ?_
                    exact ⟨_, rfl, HE.out.2⟩
                  | false =>
                    obtain ⟨mB, hmB⟩ : ∃ b, metB fol dr e rest = b := ⟨_, rfl⟩
                    obtain ⟨nb, hnb⟩ : ∃ b, (!mB) = b := ⟨_, rfl⟩
                    have hmB2 : (decide (e.kind = 3) && (decide (0 < nR) || dr || fol)) = mB := by rw [← hmB, ← HNu.out.1]; rfl
                    have HMb : Hid (metB fol dr e rest = mB ∧ e.neg = false) := ⟨hmB, hng⟩
                    clear hmB hng
                    go_upto_region 27 with (at_builtin; refine wpList_apR rfl (.tmp 79) (.tmp 81) 33 rfl _ _ (.slice a6 N6 c6) Z (by simp [Act.eval]) (by simp [Act.eval]) pap ?_)
                    clear pap j0 j1 c2
                    go_cut [103] from 87 to 102 (fun x wx => x = .bool nb ∧ Z = wx)
                    case first =>
                      clear c6' cn
                      by_cases h3 : e.kind = 3
                      · rw [h3] at c4
                        by_cases h0 : nR = 0
                        · have h0z : (nR : Int) = 0 := by omega
                          have hm3 : (dr || fol) = mB := by rw [← hmB2, h3, h0]; simp
                          clear hmB2 h3 h0
                          cases dr <;> cases fol <;> (
                            simp at hm3
                            subst hm3
                            subst hnb
                            go_wp2
                            go_meet
                            exact ⟨rfl, rfl⟩)
                        · have h0z : ¬ (nR : Int) = 0 := by omega
                          have hm3 : true = mB := by rw [← hmB2, h3]; simp; left; left; omega
                          subst hm3
                          subst hnb
                          clear hmB2 h3 h0
                          go_wp2
                          go_meet
                          exact ⟨rfl, rfl⟩
                      · have hm3 : false = mB := by rw [← hmB2]; simp [h3]
                        have h3b : (e.kind != 3) = true := by simpa using h3
                        subst hm3
                        subst hnb
                        clear hmB2 h3
                        go_wp2
                        go_meet
                        exact ⟨rfl, rfl⟩
                    case rest =>
                      obtain ⟨rfl, rfl⟩ := hcut
                      clear hmB2
                      cases mB with
                      | false =>
                        obtain rfl : true = nb := hnb
                        have hd2 := HDw.out.1.plain HDw.out.2.1 HDw.out.2.2.1 HDw.out.2.2.2 HKx.out HMb.out.2 HMb.out.1
                        obtain ⟨ZA, hZA⟩ : ∃ W, Z.setRow W6.heap.size e.nd.vals.toArray = W := ⟨_, rfl⟩
                        have st3 : (ndSt (.pointer (some ⟨W6.heap.size, 0, none⟩)) (.agg #[.int .i64 e.id, .int .i64 e.kind, .int .i64 e.mode, .string e.tg])).run Tryz.prog Z = .ok () ZA := by rw [← hZA]; exact HZ.out.m.at_st e.nd
                        have hmA : Dm w ZA #[.pointer (some ⟨q, 0, none⟩), fv, .pointer none] W6.heap.size (.slice aR nR cR) (.slice (some ⟨gW, 0, none⟩) nW cW) (.slice a6 N6 c6) rest way e.nd (used ++ [⟨pl.id, x⟩]) := by rw [← hZA]; exact HZ.out.m.setAt e.nd
                        have y1 : ZA.cell? ⟨W6.heap.size, 1, none⟩ = some (.int .i64 e.kind) := hmA.at_.2.1
                        have HMA : Hid (Dm w ZA #[.pointer (some ⟨q, 0, none⟩), fv, .pointer none] W6.heap.size (.slice aR nR cR) (.slice (some ⟨gW, 0, none⟩) nW cW) (.slice a6 N6 c6) rest way e.nd (used ++ [⟨pl.id, x⟩])) := hmA
                        clear hmA hZA c4 c6'
                        by_cases h1 : e.kind = 1
                        · have h1b : (e.kind == 1) = true := by simpa using h1
                          rw [if_pos h1] at hd2
                          have HD2 : Hid (Dw kn fol O lk rest (way ++ [e.nd]) e.nd (used ++ [⟨pl.id, x⟩]) mt dr) := hd2
                          have HMD : Hid (Dm w ZA.drew #[.pointer (some ⟨q, 0, none⟩), fv, .pointer none] W6.heap.size (.slice aR nR cR) (.slice (some ⟨gW, 0, none⟩) nW cW) (.slice a6 N6 c6) rest way e.nd (used ++ [⟨pl.id, x⟩])) := HMA.out.on (below_drewN (Below.refl _ _) 1)
                          obtain ⟨aA, cA, XA, aB, cB, ZB, r1, r2, hw2, g1, g2, bA, bB⟩ := way_app (X := ZA.drew) e.nd HMD.out.way HNu.out.2.1 (by omega)
                          obtain ⟨aC, cC, XC, aD, cD, ZD, r3, r4, hw4, g3, g4, bC, bD⟩ := way_app2 (X := ZA) e.nd HMA.out.way HNu.out.2.1 (by omega)
                          have HB : Hid (Dm w ZB #[.pointer (some ⟨q, 0, none⟩), fv, .pointer none] W6.heap.size (.slice aR nR cR) (.slice (some ⟨aB, 0, none⟩) (nW + 1) cB) (.slice a6 N6 c6) rest (way ++ [e.nd]) e.nd (used ++ [⟨pl.id, x⟩])) := HMD.out.newW bB hw2 fun b hb => by rw [inBlk_is hb]; exact ⟨g1, g2⟩
                          have HDD : Hid (Dm w ZD #[.pointer (some ⟨q, 0, none⟩), fv, .pointer none] W6.heap.size (.slice aR nR cR) (.slice (some ⟨aD, 0, none⟩) (nW + 1) cD) (.slice a6 N6 c6) rest (way ++ [e.nd]) e.nd (used ++ [⟨pl.id, x⟩])) := HMA.out.newW bD hw4 fun b hb => by rw [inBlk_is hb]; exact ⟨g3, g4⟩
                          have HY : Hid (∀ W, Below ZA.heap.size ZA W → (ndLd (.pointer (some ⟨W6.heap.size, 0, none⟩))).run Tryz.prog W = .ok (.agg #[.int .i64 e.id, .int .i64 e.kind, .int .i64 e.mode, .string e.tg]) W) := fun W hb => (HMA.out.on hb).at_.2.2
                          have bDr : Below ZA.heap.size ZA ZA.drew := below_drewN (Below.refl _ _) 1
                          have y0 := HY.out _ bDr
                          have y2 := HY.out XA (chainB bDr bA)
                          have y3 := HY.out _ (chainB (chainB bDr bA) (below_alloc XA (.cells e.nd.vals.toArray 32)))
                          have y5 := HY.out ZB (chainB bDr bB)
                          have y6 : (ndLd (.pointer (some ⟨W6.heap.size, 0, none⟩))).run Tryz.prog (ZA.alloc (.cells e.nd.vals.toArray 32)).drew = .ok (.agg #[.int .i64 e.id, .int .i64 e.kind, .int .i64 e.mode, .string e.tg]) (ZA.alloc (.cells e.nd.vals.toArray 32)).drew := HY.out _ (below_drewN (below_alloc ZA (.cells e.nd.vals.toArray 32)) 1)
                          have y7 := HY.out XC bC
                          have y8 := HY.out ZD bD
                          have n1 : ∀ W : World, (ndOne #[(0, .agg #[.int .i64 e.id, .int .i64 e.kind, .int .i64 e.mode, .string e.tg])]).run Tryz.prog W = .ok (.slice (some ⟨W.heap.size, 0, none⟩) 1 1) (W.alloc (.cells e.nd.vals.toArray 32)) := fun W => on1 e.nd W
                          clear bDr hw2 g1 g2 bA bB hw4 g3 g4 bC bD HY h1 hd2
                          go_upto_region 30 with fail
                          clear y1 st3 cn
                          go_region_held3 (fun W => (ndLd (.pointer (some ⟨W6.heap.size, 0, none⟩))).run Tryz.prog W = .ok (.agg #[.int .i64 e.id, .int .i64 e.kind, .int .i64 e.mode, .string e.tg]) W)
                            (with_reducible first | exact y0 | exact y2 | exact y3 | exact y5 | exact y6 | exact y7 | exact y8)
                            (first
                              | (with_reducible refine step_apR rfl (.const (.slice none 0 0)) (.tmp 109) 86 rfl _ _ (.slice aA nW cA) XA (by simp [Act.eval]) (by simp [Act.eval]) r1 ?_)
                              | (with_reducible refine step_apR rfl (.const (.slice none 0 0)) (.tmp 109) 86 rfl _ _ (.slice aC nW cC) XC (by simp [Act.eval]) (by simp [Act.eval]) r3 ?_)
                              | (with_reducible refine step_apR rfl (.tmp 110) (.tmp 112) 86 rfl _ _ (.slice (some ⟨aB, 0, none⟩) (nW + 1) cB) ZB (by simp [Act.eval]) (by simp [Act.eval]) r2 ?_)
                              | (with_reducible refine step_apR rfl (.tmp 110) (.tmp 112) 86 rfl _ _ (.slice (some ⟨aD, 0, none⟩) (nW + 1) cD) ZD (by simp [Act.eval]) (by simp [Act.eval]) r4 ?_))
                          all_goals (
                            go_wp2
                            go_roundw
                            case rel =>
                              first
                              | exact ⟨dr, rfl, _, nR, cR, rfl, aB, _, cB, rfl, _, _, _, rfl, mt, rfl, hmt, by omega, HNu.out.2.2.2.2.2.2, rest, way ++ [e.nd], e.nd, _, HNu.out.1, by rw [List.length_append, HNu.out.2.1]; rfl, HN6.out.2, by have := HNu.out; have := HN6.out.1; omega, by have := HNu.out; omega, HB.out, HD2.out⟩
                              | exact ⟨dr, rfl, _, nR, cR, rfl, aD, _, cD, rfl, _, _, _, rfl, mt, rfl, hmt, by omega, HNu.out.2.2.2.2.2.2, rest, way ++ [e.nd], e.nd, _, HNu.out.1, by rw [List.length_append, HNu.out.2.1]; rfl, HN6.out.2, by have := HNu.out; have := HN6.out.1; omega, by have := HNu.out; omega, HDD.out, HD2.out⟩
                            case measure => simp only [intOf, lenV, Int.toNat_natCast]; have := HNu.out; omega)
                        · have h1b : (e.kind == 1) = false := by simpa using h1
                          rw [if_neg h1] at hd2
                          have HD2 : Hid (Dw kn fol O lk rest way e.nd (used ++ [⟨pl.id, x⟩]) mt dr) := hd2
                          clear hd2 h1
                          go_wp2
                          go_roundw
                          case rel => exact ⟨dr, rfl, _, nR, cR, rfl, gW, nW, cW, rfl, _, _, _, rfl, mt, rfl, hmt, by omega, HNu.out.2.2.2.2.2.2, rest, way, e.nd, _, HNu.out.1, HNu.out.2.1, HN6.out.2, by have := HNu.out; have := HN6.out.1; omega, by have := HNu.out; omega, HMA.out, HD2.out⟩
                          case measure => simp only [intOf, lenV, Int.toNat_natCast]; have := HNu.out; omega
                      | true =>
                        obtain rfl : false = nb := hnb
                        clear cn c4
                        by_cases hl : lk ≤ mt
                        · have hlz : (lk : Int) ≤ (mt : Int) := by omega
                          have hF := HDw.out.1.loop HDw.out.2.1 HDw.out.2.2.1 HDw.out.2.2.2 HKx.out HMb.out.2 HMb.out.1 hl
                          obtain ⟨st, hh⟩ := HZ.out.m.ret e1 O (by rw [hF])
                          have HE : Hid (_ ∧ _) := hh
                          have st2 : (ouSt (.pointer (some ⟨W1.heap.size, 0, none⟩)) (.agg #[.bool false, .int .i64 0, .string ⟨#[]⟩, .int .i64 49, .int .i64 0, .int .i64 0, .int .i64 0, .string ⟨#[]⟩, (.slice a6 N6 c6)])).run Tryz.prog Z = .ok () (Z.setRow W1.heap.size (ouVals O (.slice a6 N6 c6)).toArray) := by
                            rw [hF] at st ⊢; exact st
                          clear hF st hh c6' hl
                          go_wp2
                          refine bodyPost_ret (ret_out rfl _ _ W1.heap.size rfl HE.out.1) rfl ?_
                          exact ⟨_, rfl, HE.out.2⟩
                        · have hlz : (mt : Int) < (lk : Int) := by omega
                          have hwm : IntKind.i64.wrap ((mt : Int) + 1) = ((mt + 1 : Nat) : Int) := by
                            rw [show ((mt + 1 : Nat) : Int) = (mt : Int) + 1 by omega]; exact IntWalk.i64_in _ (by omega)
                          obtain ⟨E, hE⟩ : ∃ E, cutE e.tg (fullB e.tg) = E := ⟨_, rfl⟩
                          obtain ⟨D, hD⟩ : ∃ D, cutD e.tg (fullB e.tg) = D := ⟨_, rfl⟩
                          obtain ⟨M, hM⟩ : ∃ M, cutL e.tg (fullB e.tg) = M := ⟨_, rfl⟩
                          obtain ⟨T, hT⟩ : ∃ T, tgtW e.tg = T := ⟨_, rfl⟩
                          obtain ⟨nM, hnM⟩ : ∃ n, M.length = n := ⟨_, rfl⟩
                          have hM48 : nM ≤ 48 := by rw [← hnM, ← hM]; exact cut48 _ _
                          have HTg : Hid (Calls Tryz.prog 53 #[.string e.tg] Z fun r w' => ∃ a c, r = .returned (.tuple #[.slice a nM c, .bool T, .bool D, .int .i64 E]) ∧ Own w' Z.heap.size (.slice a nM c) M ∧ Below Z.heap.size Z w') := by
                            refine (rtarget_any e.tg Z).mono ?_
                            rintro r w' ⟨v, rfl, ho, hb⟩
                            rw [hT, hD, hE]
                            rw [hM] at ho
                            obtain ⟨a, c, rfl⟩ := owns_len ho
                            rw [hnM] at ho ⊢
                            exact ⟨a, c, rfl, ho, hb⟩
                          by_cases hE0 : E = 0
                          · subst hE0
                            have hd2 := HDw.out.1.link HDw.out.2.1 HDw.out.2.2.1 HDw.out.2.2.2 HKx.out HMb.out.2 HMb.out.1 (by omega) hE
                            rw [hM, hD, hT] at hd2
                            obtain ⟨dr2, hdr2⟩ : ∃ b, (if rest = [] then dr || D else dr) = b := ⟨_, rfl⟩
                            rw [hdr2] at hd2
                            have hdr3 : (if nR = 0 then dr || D else dr) = dr2 := by
                              rw [← hdr2, ← HNu.out.1]
                              cases rest <;> simp
                            have HD2 : Hid (Dw kn fol O lk (M ++ rest) (if T then [rootN] else way) (if T then rootN else pl) (used ++ [⟨pl.id, x⟩]) (mt + 1) dr2) := hd2
                            have HMn : Hid (M.length = nM) := hnM
                            obtain ⟨mt2, hmt2⟩ : ∃ m, mt + 1 = m := ⟨_, rfl⟩
                            rw [hmt2] at hwm HD2
                            have HM2 : Hid (mt + 1 = mt2 ∧ mt < lk) := ⟨hmt2, by omega⟩
                            clear hd2 hdr2 hE hD hM hT hnM hl hmt2
                            go_upto_if 137 with (go_at_call 53; refine HTg.out.mono ?_; rintro r w8 ⟨a8, c8, rfl, ho, hb⟩; have H8 : Hid (Own w8 Z.heap.size (.slice a8 nM c8) M ∧ Below Z.heap.size Z w8) := ⟨ho, hb⟩; clear ho hb)
                            clear c6' hlz hwm
                            go_cut [2] from 135 to 141 (fun x wx => x = .bool dr2 ∧ w8 = wx)
                            case first =>
                              clear H8
                              by_cases h0 : nR = 0
                              · have h0z : (nR : Int) = 0 := by omega
                                rw [if_pos h0] at hdr3
                                clear h0
                                cases dr <;> cases D <;> (
                                  simp at hdr3
                                  subst hdr3
                                  go_wp2
                                  go_meet
                                  exact ⟨rfl, rfl⟩)
                              · have h0z : ¬ (nR : Int) = 0 := by omega
                                rw [if_neg h0] at hdr3
                                subst hdr3
                                clear h0
                                go_wp2
                                go_meet
                                exact ⟨rfl, rfl⟩
                            case rest =>
                              obtain ⟨rfl, rfl⟩ := hcut
                              clear hdr3
                              obtain ⟨a9, N9, c9, W9, r9, o9, k9⟩ := appS_any (w := w8) (c := c8) (Own.nil w8 w8.heap.size) (a := a8) (l2 := M) (by
                                obtain ⟨a, c, ee, hr⟩ := H8.out.1.row
                                injection ee with ee _ _
                                subst ee
                                exact hr) (Nat.le_refl _) (by rw [HMn.out]; simp only [List.length_nil]; omega)
                              rw [List.nil_append] at o9
                              have b9 : Below w8.heap.size w8 W9 := Only.below (Below.refl _ _) k9 (Nat.le_refl _) fun b hb => by simp [Value.ownBlock] at hb
                              have hm9 := HZ.out.m.on (chainB H8.out.2 b9)
                              obtain ⟨aT, NT, cT, WT, rT, oT, kT⟩ := appS_any (w := W9) (c := cR) o9 (a := aR) (l2 := rest) (by
                                obtain ⟨a, c, ee, -, hr⟩ := hm9.left
                                injection ee with ee _ _
                                subst ee
                                exact hr) b9.size (by rw [HMn.out, HNu.out.1]; omega)
                              have bT : Below w8.heap.size w8 WT := kT.below b9 b9.size fun b hb => (World.ownsRow.lt o9 b hb).1
                              have hN9 : N9 = nM := by
                                obtain ⟨_, _, ee⟩ := owns_len o9
                                injection ee with _ e2 _
                                rw [e2, HMn.out]
                              subst hN9
                              rw [HMn.out] at r9
                              rw [HNu.out.1] at rT
                              have hNT : (M ++ rest).length = NT := by
                                obtain ⟨_, _, ee⟩ := owns_len oT
                                injection ee with _ e2 _
                                exact e2.symm
                              obtain ⟨gl1, gl2⟩ := leftOf oT
                              have hmT := (HZ.out.m.on H8.out.2).newL bT gl1 gl2
                              have HMT : Hid (Dm w WT #[.pointer (some ⟨q, 0, none⟩), fv, .pointer none] W6.heap.size (.slice aT NT cT) (.slice (some ⟨gW, 0, none⟩) nW cW) (.slice a6 N6 c6) (M ++ rest) way pl (used ++ [⟨pl.id, x⟩])) := hmT
                              have hNT2 : NT = N9 + nR := by rw [← hNT, List.length_append, HMn.out, HNu.out.1]
                              have HNT : Hid ((M ++ rest).length = NT ∧ NT = N9 + nR ∧ NT ≤ cT ∧ N9 ≤ 48) := ⟨hNT, hNT2, by
                                obtain ⟨a, c, ee, h1, -⟩ := gl1
                                injection ee with _ e1 e2
                                omega, hM48⟩
                              have HWc : Hid (1 ≤ nW ∧ nW ≤ cW) := ⟨by rw [← HNu.out.2.1]; exact List.length_pos_iff.2 HDw.out.1.ne, HMT.out.way.cap⟩
                              clear o9 k9 b9 hm9 oT kT bT hNT gl1 gl2 hmT hNT2
                              cases T with
                              | false =>
                                have HD3 : Hid (Dw kn fol O lk (M ++ rest) way pl (used ++ [⟨pl.id, x⟩]) mt2 dr2) := HD2.out
                                clear HD2
                                go_wp2_with (first
                                  | (at_builtin; refine wpList_apR rfl (.const (.slice none 0 0)) (.tmp 142) 46 rfl _ _ (.slice a9 N9 c9) W9 (by simp [Act.eval]) (by simp [Act.eval]) r9 ?_)
                                  | (at_builtin; refine wpList_apR rfl (.tmp 143) (.tmp 144) 46 rfl _ _ (.slice aT NT cT) WT (by simp [Act.eval]) (by simp [Act.eval]) rT ?_))
                                go_roundw
                                case rel => exact ⟨dr2, rfl, _, NT, cT, rfl, gW, nW, cW, rfl, _, _, _, rfl, mt2, rfl, by have := HM2.out; omega, by have := HNT.out; have := HNu.out; omega, HNT.out.2.2.1, M ++ rest, way, pl, _, HNT.out.1, HNu.out.2.1, HN6.out.2, by have := HNT.out; have := HNu.out; have := HN6.out.1; have := HM2.out; omega, by have := HNT.out; have := HNu.out; have := HM2.out; omega, HMT.out, HD3.out⟩
                                case measure => simp only [intOf, lenV, Int.toNat_natCast]; have := HNT.out; have := HNu.out; have := HM2.out; omega
                              | true =>
                                have HD3 : Hid (Dw kn fol O lk (M ++ rest) [rootN] rootN (used ++ [⟨pl.id, x⟩]) mt2 dr2) := HD2.out
                                have h1c : (1 : Int) ≤ (cW : Int) := by have := HWc.out; omega
                                have hpre : [rootN] <+: way := by
                                  have := HDw.out.1.head
                                  cases way with
                                  | nil => cases this
                                  | cons y t => cases this; exact ⟨t, rfl⟩
                                have HR1 : Hid (∀ w', Below WT.heap.size WT w' → Dm w (w'.setRow W6.heap.size rootN.vals.toArray) #[.pointer (some ⟨q, 0, none⟩), fv, .pointer none] W6.heap.size (.slice aT NT cT) (.slice (some ⟨gW, 0, none⟩) 1 cW) (.slice a6 N6 c6) (M ++ rest) [rootN] rootN (used ++ [⟨pl.id, x⟩]) ∧ (ndSt (.pointer (some ⟨W6.heap.size, 0, none⟩)) rootN.agg).run Tryz.prog w' = .ok () (w'.setRow W6.heap.size rootN.vals.toArray)) := fun w' hb => by
                                  have h2 := HMT.out.on hb
                                  exact ⟨(h2.setW (h2.way.pre hpre rfl) fun b hb => inBlk_to hb).setAt rootN, h2.at_st rootN⟩
                                have HRt : Hid (Calls Tryz.prog 51 #[] WT fun x w' => x = .returned rootN.agg ∧ Below WT.heap.size WT w') := HR.out WT
                                clear HD2 hpre
                                go_wp2_with (first
                                  | (at_builtin; refine wpList_apR rfl (.const (.slice none 0 0)) (.tmp 142) 46 rfl _ _ (.slice a9 N9 c9) W9 (by simp [Act.eval]) (by simp [Act.eval]) r9 ?_)
                                  | (at_builtin; refine wpList_apR rfl (.tmp 143) (.tmp 144) 46 rfl _ _ (.slice aT NT cT) WT (by simp [Act.eval]) (by simp [Act.eval]) rT ?_)
                                  | (go_at_call 51; refine HRt.out.mono ?_; rintro r wR ⟨rfl, hb⟩; obtain ⟨hmR, stR⟩ := HR1.out wR hb; have HMR : Hid (Dm w (wR.setRow W6.heap.size rootN.vals.toArray) #[.pointer (some ⟨q, 0, none⟩), fv, .pointer none] W6.heap.size (.slice aT NT cT) (.slice (some ⟨gW, 0, none⟩) 1 cW) (.slice a6 N6 c6) (M ++ rest) [rootN] rootN (used ++ [⟨pl.id, x⟩])) := hmR; clear hb hmR))
                                go_roundw
                                case rel => exact ⟨dr2, rfl, _, NT, cT, rfl, gW, 1, cW, rfl, _, _, _, rfl, mt2, rfl, by have := HM2.out; omega, by have := HNT.out; have := HNu.out; omega, HNT.out.2.2.1, M ++ rest, [rootN], rootN, _, HNT.out.1, rfl, HN6.out.2, by have := HNT.out; have := HNu.out; have := HN6.out.1; have := HM2.out; omega, by have := HNT.out; have := HNu.out; have := HM2.out; have := HWc.out; omega, HMR.out, HD3.out⟩
                                case measure => simp only [intOf, lenV, Int.toNat_natCast]; have := HNT.out; have := HNu.out; have := HM2.out; omega
                          · have hEb : (E != 0) = true := by simpa using hE0
                            have hF := HDw.out.1.bad HDw.out.2.1 HDw.out.2.2.1 HDw.out.2.2.2 HKx.out HMb.out.2 HMb.out.1 (by omega) (by rw [hE]; exact hE0)
                            rw [hE] at hF
                            have HFO : Hid (O = _) := hF
                            have HRb : Hid (∀ W, Below Z.heap.size Z W → (ouSt (.pointer (some ⟨W1.heap.size, 0, none⟩)) (.agg #[.bool false, .int .i64 0, .string ⟨#[]⟩, .int .i64 E, .int .i64 0, .int .i64 0, .int .i64 0, .string ⟨#[]⟩, (.slice a6 N6 c6)])).run Tryz.prog W = .ok () (W.setRow W1.heap.size (ouVals O (.slice a6 N6 c6)).toArray) ∧ (W.setRow W1.heap.size (ouVals O (.slice a6 N6 c6)).toArray).heap[W1.heap.size]? = some (.cells (ouVals O (.slice a6 N6 c6)).toArray 35 (0, 0)) ∧ RowK (W.setRow W1.heap.size (ouVals O (.slice a6 N6 c6)).toArray) w.heap.size (.slice a6 N6 c6) O.used ∧ Below w.heap.size w (W.setRow W1.heap.size (ouVals O (.slice a6 N6 c6)).toArray)) := fun W hb => by
                              obtain ⟨st, hh⟩ := (HZ.out.m.on hb).ret e1 O (by rw [HFO.out])
                              refine ⟨?_, hh⟩
                              rw [HFO.out] at st ⊢; exact st
                            clear hF hE hD hM hT hnM hl hE0 hwm
                            have hwm2 : IntKind.i64.wrap ((mt : Int) + 1) = (mt : Int) + 1 := IntWalk.i64_in _ (by omega)
                            go_wp2_with (go_at_call 53; refine HTg.out.mono ?_; rintro r w8 ⟨a8, c8, rfl, ho, hb⟩; obtain ⟨st2, hh⟩ := HRb.out w8 hb; have HE : Hid (_ ∧ _) := hh; clear ho hb hh)
                            refine bodyPost_ret (ret_out rfl _ _ W1.heap.size rfl HE.out.1) rfl ?_
                            exact ⟨_, rfl, HE.out.2⟩
          · have hkb : (pl.kind != 1) = true := by simpa using hkd
            have hF := hd.noDir hkd
            obtain ⟨st, hh⟩ := hm.ret e1 O (by rw [hF])
            have HE : Hid (_ ∧ _) := hh
            have st2 : (ouSt (.pointer (some ⟨W1.heap.size, 0, none⟩)) (.agg #[.bool false, .int .i64 0, .string ⟨#[]⟩, .int .i64 42, .int .i64 0, .int .i64 0, .int .i64 0, .string ⟨#[]⟩, .slice aU nU cU])).run Tryz.prog wr = .ok () (wr.setRow W1.heap.size (ouVals O (.slice aU nU cU)).toArray) := by
              rw [hF] at st ⊢; exact st
            clear HJ hm hm1 hd hF st hh hLn hWn hUn hcell
            go_wp2
            refine bodyPost_ret (ret_out rfl _ _ W1.heap.size rfl HE.out.1) rfl ?_
            exact ⟨_, rfl, HE.out.2⟩
end
end Go.Proofs.YtmndnjgbbpkidaaGreat
