/- The walk of the law TreeUndone: it returns true. -/
import Derived.Test.YtjkgafbknjpjbabTqF
import Derived.Test.YtjkgafbknjpjbabTqP
import Derived.Test.YtjkgafbknjpjbabTpX
import Derived.Test.YtjkgafbknjpjbabPuG
namespace Go.Proofs.Ytjkgafbknjpjbab
open Go.RowKit
attribute [local go_sem high] eqK' neqK' eqE neqE eqN neqN guardK guardE guardN

set_option maxRecDepth 20000 in
set_option maxHeartbeats 16000000 in
theorem walk_TreeUndone (a : Option Addr) (cap : Nat) (ops : List Opn) (op : Opn) (w : World) (row : RowOps w a ops) (hlen : ops.length ≤ 3000000000000) :
    Calls Try.prog 7 #[.slice a ops.length cap, .agg op.arr] w fun e w' => e = .returned (.bool true) ∧ Below w.heap.size w w' := by
  obtain ⟨ok, od, onm, odst, onew, omode, otg⟩ := op
  have pk := placeV_bd ok 3 (by omega)
  obtain ⟨P, hP⟩ : ∃ x, placeV ok 3 = x := ⟨_, rfl⟩
  rw [hP] at pk
  have HP : Hid (∀ w, Calls Try.prog 22 #[.int .i64 ok, .int .i64 3] w fun e w' => e = .returned (.int .i64 P) ∧ w' = w) := fun w => by rw [← hP]; exact place_any ok 3 w (by omega) (by omega)
  clear hP
  have HBe : Hid (∀ w1, Below w.heap.size w w1 → Calls Try.prog 14 #[.slice a ops.length cap] w1 fun e w' => ∃ t s, e = .returned (.tuple #[.pointer (some ⟨t, 0, none⟩), .bool true]) ∧ Law w1 w' t s ops.length) := fun w1 hb => (behind_p a cap ops w1 (row.below hb) hlen).mono fun _ _ h => Law.of h
  have HAw : Hid (∀ w, Calls Try.prog 13 #[] w fun e w' => e = .returned (.bool true) ∧ Below w.heap.size w w') := awake_p
  clear row
  simp only [Opn.arr]
  go_enter Try.func7, Try.ntmps7
  go_upto_region 1 with fail
  obtain ⟨W, hW⟩ : ∃ W, w.alloc (.cells #[.int .i64 ok, .int .i64 od, .string onm, .int .i64 odst, .string onew, .int .i64 omode, .string otg] 33) = W := ⟨_, rfl⟩
  have hbW : Below w.heap.size w W := by rw [← hW]; exact below_alloc _ _
  have m0 : W.heap[w.heap.size]? = some (.cells #[.int .i64 ok, .int .i64 od, .string onm, .int .i64 odst, .string onew, .int .i64 omode, .string otg] 33 (0, 0)) := by rw [← hW]; exact heap_new _ _
  rw [hW]
  have HW : Hid (Below w.heap.size w W ∧ W.heap[w.heap.size]? = some (.cells #[.int .i64 ok, .int .i64 od, .string onm, .int .i64 odst, .string onew, .int .i64 omode, .string otg] 33 (0, 0)) ∧ W.heap.size = w.heap.size + 1) := ⟨hbW, m0, by rw [← hW]; simp⟩
  clear hW hbW m0
  go_upto_region 7 with (first
    | (go_at_call 14; refine (HBe.out _ HW.out.1).mono ?_; rintro x w1 ⟨t, s, rfl, hL⟩; have H1 : Hid (Law W w1 t s ops.length) := hL; clear hL)
    | (go_at_call 12; refine (dump_p t s _ H1.out.own.is).mono ?_; rintro x w2 ⟨v2, rfl, hr2, hb2⟩; have H2 : Hid (Law W w2 t s ops.length ∧ Lst W.heap.size w2 s v2 s.es) := ⟨H1.out.below hb2, Lst.of H1.out.own.is hr2 H1.out.bel.size⟩; clear hr2 hb2)
    | (go_at_call 17; refine (version_p t s _ H2.out.1.own.is).mono ?_; rintro x w3 ⟨rfl, rfl⟩)
    | (go_at_call 10; refine (next_p t s _ H2.out.1.own.is).mono ?_; rintro x w4 ⟨rfl, rfl⟩))
  have hop4 := (H2.out.1.bel.block w.heap.size (by have := HW.out.2.2; omega)).trans HW.out.2.1
  have hf4 := free_of hop4
  have o0 := cell_of hop4 0
  simp at o0
  clear hop4
  go_upto_region 8 with (go_at_call 22; refine (HP.out _).mono ?_; rintro x w5 ⟨rfl, rfl⟩)
  obtain ⟨W1, hW1⟩ : ∃ W1, W.setCell ⟨w.heap.size, 0, none⟩ (.int .i64 (5 + P)) = W1 := ⟨_, rfl⟩
  obtain ⟨w6, hw6⟩ : ∃ w6, w5.setCell ⟨w.heap.size, 0, none⟩ (.int .i64 (5 + P)) = w6 := ⟨_, rfl⟩
  have hL6 : Law W1 w6 t s ops.length := by rw [← hW1, ← hw6]; exact H2.out.1.turn HW.out.2.1
  have hz1 : W1.heap.size = W.heap.size := by rw [← hW1]; simp [World.setCell]
  have hS6 : Lst W1.heap.size w6 s v2 s.es := by rw [← hw6, hz1]; exact H2.out.2.turn (by have := HW.out.2.2; omega)
  have hm1 : W1.heap[w.heap.size]? = some (.cells #[.int .i64 (5 + P), .int .i64 od, .string onm, .int .i64 odst, .string onew, .int .i64 omode, .string otg] 33 (0, 0)) := by rw [← hW1]; exact (heap_set HW.out.2.1 0 _).trans rfl
  have hbW1 : Below w.heap.size w W1 := by rw [← hW1]; exact (only1 W w.heap.size 0 _).below HW.out.1 HW.out.1.size (fun k hk => by omega)
  rw [hw6]
  have hop6 := (hL6.bel.block w.heap.size (by have := HW.out.2.2; omega)).trans hm1
  have q0 := cell_of hop6 0
  have q1 := cell_of hop6 1
  have q2 := cell_of hop6 2
  have q3 := cell_of hop6 3
  have q4 := cell_of hop6 4
  have q5 := cell_of hop6 5
  have q6 := cell_of hop6 6
  simp at q0 q1 q2 q3 q4 q5 q6
  obtain ⟨o, hoq⟩ : ∃ o : Opn, (⟨5 + P, od, onm, odst, onew, omode, otg⟩ : Opn) = o := ⟨_, rfl⟩
  have ho1 : o.kind = 5 + P ∧ o.dir = od ∧ o.nm = onm := by rw [← hoq]; exact ⟨rfl, rfl, rfl⟩
  have H6 : Hid (Law W1 w6 t s ops.length ∧ Lst W1.heap.size w6 s v2 s.es ∧ W1.heap[w.heap.size]? = some (.cells #[.int .i64 (5 + P), .int .i64 od, .string onm, .int .i64 odst, .string onew, .int .i64 omode, .string otg] 33 (0, 0)) ∧ Below w.heap.size w W1 ∧ w.heap.size < W1.heap.size) := ⟨hL6, hS6, hm1, hbW1, by rw [hz1]; have := HW.out.2.2; omega⟩
  have hap := hL6.apply o (by omega)
  rw [← hoq] at hap
  simp only [Opn.arr] at hap
  obtain ⟨E, hE⟩ : ∃ x, doesE Mn s o = x := ⟨_, rfl⟩
  have HAp : Hid (Calls Try.prog 11 #[.pointer (some ⟨t, 0, none⟩), .agg #[.int .i64 (5 + P), .int .i64 od, .string onm, .int .i64 odst, .string onew, .int .i64 omode, .string otg]] w6 fun e w' => ∃ v kv s', e = .returned (.tuple #[v, kv, .int .i64 E]) ∧ Hid (Did W1 w' t s s' ops.length o v kv ∧ PS w6 w' t s s')) := hap.mono fun e w' h => by
    obtain ⟨v, kv, s', he, hd, hps⟩ := H6.out.1.did h
    rw [hoq] at he hd
    exact ⟨v, kv, s', by rw [← hE]; exact he, hd, hps⟩
  have HE : Hid (doesE Mn s o = E ∧ o.kind = 5 + P ∧ o.dir = od ∧ o.nm = onm) := ⟨hE, ho1⟩
  clear hW1 hw6 hL6 hz1 hS6 hm1 hbW1 hop6 hap hE ho1 o0 hf4 hoq
  by_cases hz : E = 0
  · subst hz
    have hkk : o.kind = 5 ∨ o.kind = 6 ∨ o.kind = 7 := by have := HE.out.2.1; omega
    go_upto_region 11 with (go_at_call 11; refine HAp.out.mono ?_; rintro x w7 ⟨v7, k7, s7, rfl, h7⟩)
    obtain ⟨⟨x, hT, hxi⟩, hN, hwr, hbk, hes, hTb, hKb, hno⟩ := undone H6.out.1.good.wf hkk HE.out.1 (h7.out.1.step.yes HE.out.1).1
    have hs7 := h7.out.1.step.yes HE.out.1
    rw [HE.out.2.1] at hwr hbk hes hTb hKb
    obtain ⟨WK, hWK⟩ : ∃ x : Int, (if 5 + P = 6 then 8 else 9) = x := ⟨_, rfl⟩
    obtain ⟨BK, hBK⟩ : ∃ x : Int, (if 5 + P = 6 then 9 else 8) = x := ⟨_, rfl⟩
    obtain ⟨BE, hBE⟩ : ∃ x : Int, (if 5 + P = 6 then 43 else 42) = x := ⟨_, rfl⟩
    rw [hWK, hBE] at hwr
    rw [hBK] at hbk hes hTb hKb
    have hop7 := (h7.out.1.law.bel.block w.heap.size H6.out.2.2.2.2).trans H6.out.2.2.1
    have r0 := cell_of hop7 0
    have r1 := cell_of hop7 1
    have r2 := cell_of hop7 2
    simp at r0 r1 r2
    have hz7 : w.heap.size < w7.heap.size := cellLt r0
    have HX : Hid (tellL s o = [x] ∧ x.id = s.next ∧ nodeE s.es s.next = none ∧ s7.vers = s.vers + 1 ∧ s7.next = s.next + 1) := ⟨hT, hxi, hno, hs7.2.1, by rw [hs7.2.2, hN]⟩
    have HOp : Hid (o.dir = od ∧ o.nm = onm) := HE.out.2.2
    have hrm : ∀ k : Int, (rmO k o) = ⟨k, od, onm, 0, ⟨#[]⟩, 0, ⟨#[]⟩⟩ := fun k => by unfold rmO; rw [HOp.out.1, HOp.out.2]
    rw [hrm] at hwr hbk hes hTb hKb
    rw [HOp.out.1, HOp.out.2] at hTb hKb
    have hpost : ∃ W8, (if 5 + P = 6 then (w7.alloc (.cells #[.int .i64 9, .int .i64 od, .string onm, .int .i64 0, .string ⟨#[]⟩, .int .i64 0, .string ⟨#[]⟩] 33)).alloc (.cells #[.int .i64 8, .int .i64 od, .string onm, .int .i64 0, .string ⟨#[]⟩, .int .i64 0, .string ⟨#[]⟩] 33) else (w7.alloc (.cells #[.int .i64 8, .int .i64 od, .string onm, .int .i64 0, .string ⟨#[]⟩, .int .i64 0, .string ⟨#[]⟩] 33)).alloc (.cells #[.int .i64 9, .int .i64 od, .string onm, .int .i64 0, .string ⟨#[]⟩, .int .i64 0, .string ⟨#[]⟩] 33)) = W8 := ⟨_, rfl⟩
    obtain ⟨W8, hW8⟩ := hpost
    have hW8' : (w7.alloc (.cells #[.int .i64 BK, .int .i64 od, .string onm, .int .i64 0, .string ⟨#[]⟩, .int .i64 0, .string ⟨#[]⟩] 33)).alloc (.cells #[.int .i64 WK, .int .i64 od, .string onm, .int .i64 0, .string ⟨#[]⟩, .int .i64 0, .string ⟨#[]⟩] 33) = W8 := by
      rw [← hW8, ← hWK, ← hBK]
      by_cases h6 : 5 + P = 6
      · rw [if_pos h6, if_pos h6, if_pos h6]
      · rw [if_neg h6, if_neg h6, if_neg h6]
    obtain ⟨m0, m1, hb8, hz8⟩ := boxes2 hW8'
    have b0 := cell_of m1 0
    have b1 := cell_of m1 1
    have b2 := cell_of m1 2
    have b3 := cell_of m1 3
    have b4 := cell_of m1 4
    have b5 := cell_of m1 5
    have b6 := cell_of m1 6
    simp at b0 b1 b2 b3 b4 b5 b6
    have hL8 : Law W1 W8 t s7 (ops.length + 1) := h7.out.1.law.below hb8
    -- the wrong one
    have HWr : Hid (Calls Try.prog 11 #[.pointer (some ⟨t, 0, none⟩), .agg #[.int .i64 WK, .int .i64 od, .string onm, .int .i64 0, .string ⟨#[]⟩, .int .i64 0, .string ⟨#[]⟩]] W8 fun e w' => ∃ v kv s9, e = .returned (.tuple #[v, kv, .int .i64 BE]) ∧ Hid (Law W1 w' t s9 (ops.length + 1 + 1) ∧ Alike s9 s7 ∧ PS W8 w' t s7 s9)) := (hL8.apply ⟨WK, od, onm, 0, ⟨#[]⟩, 0, ⟨#[]⟩⟩ (by omega)).mono fun e w' h => by
      obtain ⟨v, kv, s', he, hd, hps⟩ := hL8.did h
      rw [hwr] at he
      have := hd.step.no (by rw [hwr, ← hBE]; split <;> decide)
      exact ⟨v, kv, s', he, hd.law, ⟨this.1, this.2.1, this.2.2⟩, hps⟩
    have H8 : Hid (W8.heap[w7.heap.size]? = some (.cells #[.int .i64 BK, .int .i64 od, .string onm, .int .i64 0, .string ⟨#[]⟩, .int .i64 0, .string ⟨#[]⟩] 33 (0, 0)) ∧ Below w7.heap.size w7 W8 ∧ W8.heap.size = w7.heap.size + 1 + 1 ∧ Law W1 W8 t s7 (ops.length + 1)) := ⟨m0, hb8, hz8, hL8⟩
    have HBk : Hid (doesE Mn s7 ⟨BK, od, onm, 0, ⟨#[]⟩, 0, ⟨#[]⟩⟩ = 0 ∧ srt (doesL s7 ⟨BK, od, onm, 0, ⟨#[]⟩, 0, ⟨#[]⟩⟩) = s.es ∧ tellL s7 ⟨BK, od, onm, 0, ⟨#[]⟩, 0, ⟨#[]⟩⟩ = [goneEn od onm] ∧ keysL ⟨BK, od, onm, 0, ⟨#[]⟩, 0, ⟨#[]⟩⟩ = [⟨od, onm⟩] ∧ doesN s7 ⟨BK, od, onm, 0, ⟨#[]⟩, 0, ⟨#[]⟩⟩ = s7.next) := ⟨hbk, hes, hTb, hKb, by unfold doesN; rw [if_neg]; show ¬ (BK = 5 ∨ BK = 6 ∨ BK = 7); rw [← hBK]; split <;> decide⟩
    clear hT hxi hN hwr hbk hes hTb hKb hno hs7 hrm hW8' m0 m1 hop7 hL8 hkk
    have HK6 : Hid ((if 5 + P = 6 then (8 : Int) else 9) = WK ∧ (if 5 + P = 6 then (9 : Int) else 8) = BK ∧ (if 5 + P = 6 then (43 : Int) else 42) = BE) := ⟨hWK, hBK, hBE⟩
    clear hWK hBK hBE
    by_cases h6 : 5 + P = 6
    · rw [if_pos h6] at hW8
      have h6b : (5 + P == 6) = true := by simpa using h6
      have hBE : BE = 43 := by rw [← HK6.out.2.2, if_pos h6]
      subst hBE
      go_upto_region 17 with fail
      clear hW8
      go_upto_region 18 with (go_at_call 11; refine HWr.out.mono ?_; rintro y w9 ⟨v9, k9, s9, rfl, h9⟩)
      have ht7 := h7.out.1.law.own.is.tt.lt
      have hbox9 := (h9.out.2.2.keep (k := w7.heap.size) (by have := H8.out.2.2.1; omega) (by omega) (fun e => by have := (h7.out.1.law.own.is.tv e).lt; omega)).trans H8.out.1
      have c0 := cell_of hbox9 0
      have c1 := cell_of hbox9 1
      have c2 := cell_of hbox9 2
      have c3 := cell_of hbox9 3
      have c4 := cell_of hbox9 4
      have c5 := cell_of hbox9 5
      have c6 := cell_of hbox9 6
      simp at c0 c1 c2 c3 c4 c5 c6
      have HB9 : Hid (Calls Try.prog 11 #[.pointer (some ⟨t, 0, none⟩), .agg #[.int .i64 BK, .int .i64 od, .string onm, .int .i64 0, .string ⟨#[]⟩, .int .i64 0, .string ⟨#[]⟩]] w9 fun e w' => ∃ g c g' c' s10, e = .returned (.tuple #[.slice (some ⟨g, 0, none⟩) 1 c, .slice (some ⟨g', 0, none⟩) 1 c', .int .i64 0]) ∧ Hid (Law W1 w' t s10 (ops.length + 1 + 1 + 1) ∧ s10.es = s.es ∧ s10.vers = s.vers + 2 ∧ s10.next = s.next + 1 ∧ Cells7 w' g 0 (goneEn od onm) ∧ (w'.cell? ⟨g', 0, none⟩ = some (.int .i64 od) ∧ w'.cell? ⟨g', 1, none⟩ = some (.string onm)) ∧ PS w9 w' t s9 s10)) := (h9.out.1.apply ⟨BK, od, onm, 0, ⟨#[]⟩, 0, ⟨#[]⟩⟩ (by omega)).mono fun e w' h => by
        obtain ⟨v, kv, s', he, hd, hps⟩ := h9.out.1.did h
        have hal := h9.out.2.1
        have hE9 : doesE Mn s9 ⟨BK, od, onm, 0, ⟨#[]⟩, 0, ⟨#[]⟩⟩ = 0 := by rw [doesE_eq Mn hal.es]; exact HBk.out.1
        rw [hE9] at he
        have hst := hd.step.yes hE9
        have htold := hd.told.row
        unfold toldE at htold
        rw [hE9, if_pos rfl, tellL_eq hal, HBk.out.2.2.1] at htold
        have hkeys := hd.keys
        unfold toldK at hkeys
        rw [hE9, if_pos rfl, HBk.out.2.2.2.1] at hkeys
        obtain ⟨a1, c1, rfl⟩ := owns_len htold
        obtain ⟨g, rfl, _, _, _, hc, _⟩ := owns_entry htold (i := 0) (e := goneEn od onm) rfl
        obtain ⟨a2, c2, rfl⟩ := owns_len hkeys
        obtain ⟨g', rfl, _, _, k0, k1, _⟩ := RowK.key hkeys (i := 0) (p := ⟨od, onm⟩) rfl
        exact ⟨g, c1, g', c2, s', he, hd.law, by rw [hst.1, doesL_eq hal]; exact HBk.out.2.1, by rw [hst.2.1, hal.vers, HX.out.2.2.2.1]; omega, by rw [hst.2.2, doesN_eq hal, HBk.out.2.2.2.2, HX.out.2.2.2.2], hc, ⟨k0, k1⟩, hps⟩
      have ht7' := h7.out.1.told.row
      unfold toldE at ht7'
      rw [HE.out.1, if_pos rfl, HX.out.1] at ht7'
      obtain ⟨a7, c7, hv7⟩ := owns_len ht7'
      obtain ⟨g7, hg7, -⟩ := owns_entry (by rw [← hv7]; exact ht7') (i := 0) (e := x) rfl
      have hv7' : v7 = .slice (some ⟨g7, 0, none⟩) 1 c7 := by rw [hv7, hg7]; rfl
      subst hv7'
      have H9 : Hid (Lst W1.heap.size w9 s9 (.slice (some ⟨g7, 0, none⟩) 1 c7) [x] ∧ Lst W1.heap.size w9 s9 v2 s.es) := by
        have l7 : Lst W1.heap.size w7 s7 (.slice (some ⟨g7, 0, none⟩) 1 c7) [x] := ⟨ht7', h7.out.1.told.off⟩
        exact ⟨(l7.below H8.out.2.1).step H8.out.2.2.2.own.is h9.out.2.2, ((H6.out.2.1.step H6.out.1.own.is h7.out.2).below H8.out.2.1).step H8.out.2.2.2.own.is h9.out.2.2⟩
      clear hbox9 ht7' hv7 hg7
      go_upto_region 19 with (go_at_call 11; refine HB9.out.mono ?_; rintro y w10 ⟨g, c, g', c', s10, rfl, h10⟩)
      have hop10 := (h10.out.1.bel.block w.heap.size H6.out.2.2.2.2).trans H6.out.2.2.1
      have u1 := cell_of hop10 1
      have u2 := cell_of hop10 2
      simp at u1 u2
      have l10 := H9.out.1.step h9.out.1.own.is h10.out.2.2.2.2.2.2
      have w10r := (H9.out.2.step h9.out.1.own.is h10.out.2.2.2.2.2.2).row
      obtain ⟨g8, e8, -, -, -, hc10, -⟩ := owns_entry l10.row (i := 0) (e := x) rfl
      cases e8
      have d3 := hc10.c3
      simp only [Nat.zero_mul, Nat.zero_add] at d3
      rw [HX.out.2.1] at d3
      have e2 := h10.out.2.2.2.2.1.c2
      simp only [Nat.zero_add, goneEn] at e2
      obtain ⟨f0, f1⟩ := h10.out.2.2.2.2.2.1
      have hKq : eqKy od onm od onm = true := decide_eq_true ⟨rfl, rfl⟩
      have H10 : Hid (Law W1 w10 t s10 (ops.length + 1 + 1 + 1) ∧ s10.es = s.es ∧ s10.vers = s.vers + 2 ∧ s10.next = s.next + 1 ∧ Row7 w10 W1.heap.size v2 s.es) := ⟨h10.out.1, h10.out.2.1, h10.out.2.2.1, h10.out.2.2.2.1, w10r⟩
      have hF : ∀ w, IsP w t s10 → Calls Try.prog 23 #[.pointer (some ⟨t, 0, none⟩), .int .i64 s.next] w fun e w' => e = .returned (.tuple #[.agg #[.int .i64 0, .string ⟨#[]⟩, .bool false, .int .i64 0, .int .i64 0, .int .i64 0, .string ⟨#[]⟩], .int .i64 46]) ∧ Below w.heap.size w w' := fun w hw => by
        have := find_p t s10 s.next w hw
        unfold findV at this
        have hn := H6.out.1.good.wf.next2
        rw [if_neg (by omega), H10.out.2.1, HX.out.2.2.1] at this
        exact this
      have HF : Hid (∀ w, IsP w t s10 → Calls Try.prog 23 #[.pointer (some ⟨t, 0, none⟩), .int .i64 s.next] w fun e w' => e = .returned (.tuple #[.agg #[.int .i64 0, .string ⟨#[]⟩, .bool false, .int .i64 0, .int .i64 0, .int .i64 0, .string ⟨#[]⟩], .int .i64 46]) ∧ Below w.heap.size w w') := hF
      have hwv : IntKind.i64.wrap (s.vers + 2) = s.vers + 2 := IntWalk.i64_in _ (by have := H6.out.1.good.v0; have := H6.out.1.good.v1; omega)
      have hwn : IntKind.i64.wrap (s.next + 1) = s.next + 1 := IntWalk.i64_in _ (by have := H6.out.1.good.n1; have := H6.out.1.good.wf.next2; omega)
      clear hop10 l10 w10r hc10 hF
      go_quiet (fail)
      have HD : Hid (Law W1 (w10.drewN nq) t s10 (ops.length + 1 + 1 + 1) ∧ Row7 (w10.drewN nq) W1.heap.size v2 s.es ∧ (w10.drewN nq).cell? ⟨g7, 3, none⟩ = some (.int .i64 s.next)) := ⟨H10.out.1.below (below_drewN (Below.refl _ _) _), H10.out.2.2.2.2.below (below_drewN (Below.refl _ _) _), d3⟩
      obtain ⟨wd, hwd⟩ : ∃ wd, w10.drewN nq = wd := ⟨_, rfl⟩
      rw [hwd] at HD ⊢
      have d3' := HD.out.2.2
      clear hwd d3 e2 f0 f1 u1 u2
      go_wp2_with (first
        | (go_at_call 23; refine (HF.out _ HD.out.1.own.is).mono ?_; rintro y w11 ⟨rfl, hb11⟩; have H11 : Hid (∀ o, IsP (w11.alloc o) t s10 ∧ Below wd.heap.size wd (w11.alloc o)) := fun o => ⟨HD.out.1.own.is.below (chainB hb11 (below_alloc _ _)), chainB hb11 (below_alloc _ _)⟩)
        | (go_at_call 12; refine (dump_p t s10 _ (H11.out _).1).mono ?_; rintro y w12 ⟨v12, rfl, hr12, hb12⟩; rw [H10.out.2.1] at hr12; have hb10 := chainB (H11.out _).2 hb12)
        | (go_at_call 16; refine (same_yes hr12 (HD.out.2.1.below hb10) H6.out.1.len).mono ?_; rintro y w13 ⟨rfl, hb13⟩; have hb14 := chainB hb10 hb13)
        | (go_at_call 17; refine (version_p t s10 _ (HD.out.1.own.is.below hb14)).mono ?_; rw [H10.out.2.2.1]; rintro y w15 ⟨rfl, rfl⟩)
        | (go_at_call 10; refine (next_p t s10 _ (HD.out.1.own.is.below hb14)).mono ?_; rw [H10.out.2.2.2.1]; rintro y w16 ⟨rfl, rfl⟩)
        | (go_at_call 13; refine (HAw.out _).mono ?_; rintro y w17 ⟨rfl, hb17⟩))
      go_ret
      exact ⟨rfl, chainB (chainB (chainB H6.out.2.2.2.1 HD.out.1.bel) hb14) hb17⟩
    · rw [if_neg h6] at hW8
      have h6b : (5 + P == 6) = false := by simpa using h6
      have hBE : BE = 42 := by rw [← HK6.out.2.2, if_neg h6]
      subst hBE
      have HW8 : Hid (_ = W8) := hW8
      clear hW8
      go_upto_region 17 with fail
      rw [HW8.out]
      go_upto_region 18 with (go_at_call 11; refine HWr.out.mono ?_; rintro y w9 ⟨v9, k9, s9, rfl, h9⟩)
      have ht7 := h7.out.1.law.own.is.tt.lt
      have hbox9 := (h9.out.2.2.keep (k := w7.heap.size) (by have := H8.out.2.2.1; omega) (by omega) (fun e => by have := (h7.out.1.law.own.is.tv e).lt; omega)).trans H8.out.1
      have c0 := cell_of hbox9 0
      have c1 := cell_of hbox9 1
      have c2 := cell_of hbox9 2
      have c3 := cell_of hbox9 3
      have c4 := cell_of hbox9 4
      have c5 := cell_of hbox9 5
      have c6 := cell_of hbox9 6
      simp at c0 c1 c2 c3 c4 c5 c6
      have HB9 : Hid (Calls Try.prog 11 #[.pointer (some ⟨t, 0, none⟩), .agg #[.int .i64 BK, .int .i64 od, .string onm, .int .i64 0, .string ⟨#[]⟩, .int .i64 0, .string ⟨#[]⟩]] w9 fun e w' => ∃ g c g' c' s10, e = .returned (.tuple #[.slice (some ⟨g, 0, none⟩) 1 c, .slice (some ⟨g', 0, none⟩) 1 c', .int .i64 0]) ∧ Hid (Law W1 w' t s10 (ops.length + 1 + 1 + 1) ∧ s10.es = s.es ∧ s10.vers = s.vers + 2 ∧ s10.next = s.next + 1 ∧ Cells7 w' g 0 (goneEn od onm) ∧ (w'.cell? ⟨g', 0, none⟩ = some (.int .i64 od) ∧ w'.cell? ⟨g', 1, none⟩ = some (.string onm)) ∧ PS w9 w' t s9 s10)) := (h9.out.1.apply ⟨BK, od, onm, 0, ⟨#[]⟩, 0, ⟨#[]⟩⟩ (by omega)).mono fun e w' h => by
        obtain ⟨v, kv, s', he, hd, hps⟩ := h9.out.1.did h
        have hal := h9.out.2.1
        have hE9 : doesE Mn s9 ⟨BK, od, onm, 0, ⟨#[]⟩, 0, ⟨#[]⟩⟩ = 0 := by rw [doesE_eq Mn hal.es]; exact HBk.out.1
        rw [hE9] at he
        have hst := hd.step.yes hE9
        have htold := hd.told.row
        unfold toldE at htold
        rw [hE9, if_pos rfl, tellL_eq hal, HBk.out.2.2.1] at htold
        have hkeys := hd.keys
        unfold toldK at hkeys
        rw [hE9, if_pos rfl, HBk.out.2.2.2.1] at hkeys
        obtain ⟨a1, c1, rfl⟩ := owns_len htold
        obtain ⟨g, rfl, _, _, _, hc, _⟩ := owns_entry htold (i := 0) (e := goneEn od onm) rfl
        obtain ⟨a2, c2, rfl⟩ := owns_len hkeys
        obtain ⟨g', rfl, _, _, k0, k1, _⟩ := RowK.key hkeys (i := 0) (p := ⟨od, onm⟩) rfl
        exact ⟨g, c1, g', c2, s', he, hd.law, by rw [hst.1, doesL_eq hal]; exact HBk.out.2.1, by rw [hst.2.1, hal.vers, HX.out.2.2.2.1]; omega, by rw [hst.2.2, doesN_eq hal, HBk.out.2.2.2.2, HX.out.2.2.2.2], hc, ⟨k0, k1⟩, hps⟩
      have ht7' := h7.out.1.told.row
      unfold toldE at ht7'
      rw [HE.out.1, if_pos rfl, HX.out.1] at ht7'
      obtain ⟨a7, c7, hv7⟩ := owns_len ht7'
      obtain ⟨g7, hg7, -⟩ := owns_entry (by rw [← hv7]; exact ht7') (i := 0) (e := x) rfl
      have hv7' : v7 = .slice (some ⟨g7, 0, none⟩) 1 c7 := by rw [hv7, hg7]; rfl
      subst hv7'
      have H9 : Hid (Lst W1.heap.size w9 s9 (.slice (some ⟨g7, 0, none⟩) 1 c7) [x] ∧ Lst W1.heap.size w9 s9 v2 s.es) := by
        have l7 : Lst W1.heap.size w7 s7 (.slice (some ⟨g7, 0, none⟩) 1 c7) [x] := ⟨ht7', h7.out.1.told.off⟩
        exact ⟨(l7.below H8.out.2.1).step H8.out.2.2.2.own.is h9.out.2.2, ((H6.out.2.1.step H6.out.1.own.is h7.out.2).below H8.out.2.1).step H8.out.2.2.2.own.is h9.out.2.2⟩
      clear hbox9 ht7' hv7 hg7
      go_upto_region 19 with (go_at_call 11; refine HB9.out.mono ?_; rintro y w10 ⟨g, c, g', c', s10, rfl, h10⟩)
      have hop10 := (h10.out.1.bel.block w.heap.size H6.out.2.2.2.2).trans H6.out.2.2.1
      have u1 := cell_of hop10 1
      have u2 := cell_of hop10 2
      simp at u1 u2
      have l10 := H9.out.1.step h9.out.1.own.is h10.out.2.2.2.2.2.2
      have w10r := (H9.out.2.step h9.out.1.own.is h10.out.2.2.2.2.2.2).row
      obtain ⟨g8, e8, -, -, -, hc10, -⟩ := owns_entry l10.row (i := 0) (e := x) rfl
      cases e8
      have d3 := hc10.c3
      simp only [Nat.zero_mul, Nat.zero_add] at d3
      rw [HX.out.2.1] at d3
      have e2 := h10.out.2.2.2.2.1.c2
      simp only [Nat.zero_add, goneEn] at e2
      obtain ⟨f0, f1⟩ := h10.out.2.2.2.2.2.1
      have hKq : eqKy od onm od onm = true := decide_eq_true ⟨rfl, rfl⟩
      have H10 : Hid (Law W1 w10 t s10 (ops.length + 1 + 1 + 1) ∧ s10.es = s.es ∧ s10.vers = s.vers + 2 ∧ s10.next = s.next + 1 ∧ Row7 w10 W1.heap.size v2 s.es) := ⟨h10.out.1, h10.out.2.1, h10.out.2.2.1, h10.out.2.2.2.1, w10r⟩
      have hF : ∀ w, IsP w t s10 → Calls Try.prog 23 #[.pointer (some ⟨t, 0, none⟩), .int .i64 s.next] w fun e w' => e = .returned (.tuple #[.agg #[.int .i64 0, .string ⟨#[]⟩, .bool false, .int .i64 0, .int .i64 0, .int .i64 0, .string ⟨#[]⟩], .int .i64 46]) ∧ Below w.heap.size w w' := fun w hw => by
        have := find_p t s10 s.next w hw
        unfold findV at this
        have hn := H6.out.1.good.wf.next2
        rw [if_neg (by omega), H10.out.2.1, HX.out.2.2.1] at this
        exact this
      have HF : Hid (∀ w, IsP w t s10 → Calls Try.prog 23 #[.pointer (some ⟨t, 0, none⟩), .int .i64 s.next] w fun e w' => e = .returned (.tuple #[.agg #[.int .i64 0, .string ⟨#[]⟩, .bool false, .int .i64 0, .int .i64 0, .int .i64 0, .string ⟨#[]⟩], .int .i64 46]) ∧ Below w.heap.size w w') := hF
      have hwv : IntKind.i64.wrap (s.vers + 2) = s.vers + 2 := IntWalk.i64_in _ (by have := H6.out.1.good.v0; have := H6.out.1.good.v1; omega)
      have hwn : IntKind.i64.wrap (s.next + 1) = s.next + 1 := IntWalk.i64_in _ (by have := H6.out.1.good.n1; have := H6.out.1.good.wf.next2; omega)
      clear hop10 l10 w10r hc10 hF
      go_quiet (fail)
      have HD : Hid (Law W1 (w10.drewN nq) t s10 (ops.length + 1 + 1 + 1) ∧ Row7 (w10.drewN nq) W1.heap.size v2 s.es ∧ (w10.drewN nq).cell? ⟨g7, 3, none⟩ = some (.int .i64 s.next)) := ⟨H10.out.1.below (below_drewN (Below.refl _ _) _), H10.out.2.2.2.2.below (below_drewN (Below.refl _ _) _), d3⟩
      obtain ⟨wd, hwd⟩ : ∃ wd, w10.drewN nq = wd := ⟨_, rfl⟩
      rw [hwd] at HD ⊢
      have d3' := HD.out.2.2
      clear hwd d3 e2 f0 f1 u1 u2
      go_wp2_with (first
        | (go_at_call 23; refine (HF.out _ HD.out.1.own.is).mono ?_; rintro y w11 ⟨rfl, hb11⟩; have H11 : Hid (∀ o, IsP (w11.alloc o) t s10 ∧ Below wd.heap.size wd (w11.alloc o)) := fun o => ⟨HD.out.1.own.is.below (chainB hb11 (below_alloc _ _)), chainB hb11 (below_alloc _ _)⟩)
        | (go_at_call 12; refine (dump_p t s10 _ (H11.out _).1).mono ?_; rintro y w12 ⟨v12, rfl, hr12, hb12⟩; rw [H10.out.2.1] at hr12; have hb10 := chainB (H11.out _).2 hb12)
        | (go_at_call 16; refine (same_yes hr12 (HD.out.2.1.below hb10) H6.out.1.len).mono ?_; rintro y w13 ⟨rfl, hb13⟩; have hb14 := chainB hb10 hb13)
        | (go_at_call 17; refine (version_p t s10 _ (HD.out.1.own.is.below hb14)).mono ?_; rw [H10.out.2.2.1]; rintro y w15 ⟨rfl, rfl⟩)
        | (go_at_call 10; refine (next_p t s10 _ (HD.out.1.own.is.below hb14)).mono ?_; rw [H10.out.2.2.2.1]; rintro y w16 ⟨rfl, rfl⟩)
        | (go_at_call 13; refine (HAw.out _).mono ?_; rintro y w17 ⟨rfl, hb17⟩))
      go_ret
      exact ⟨rfl, chainB (chainB (chainB H6.out.2.2.2.1 HD.out.1.bel) hb14) hb17⟩
  · have hzb : (E != 0) = true := by simpa using hz
    have HZ : Hid (E ≠ 0) := hz
    clear hz
    go_wp2_with (first
      | (go_at_call 11; refine HAp.out.mono ?_; rintro x w7 ⟨v7, k7, s7, rfl, h7⟩; have H7 : Hid (IsP w7 t s7 ∧ s7.es = s.es ∧ s7.vers = s.vers ∧ s7.next = s.next ∧ Below w.heap.size w w7 ∧ Row7 w7 W1.heap.size v2 s.es) := ⟨h7.out.1.law.own.is, (h7.out.1.step.no (by rw [HE.out.1]; exact HZ.out)).1, (h7.out.1.step.no (by rw [HE.out.1]; exact HZ.out)).2.1, (h7.out.1.step.no (by rw [HE.out.1]; exact HZ.out)).2.2, chainB H6.out.2.2.2.1 h7.out.1.law.bel, (H6.out.2.1.step H6.out.1.own.is h7.out.2).row⟩)
      | (go_at_call 12; refine (dump_p t s7 _ H7.out.1).mono ?_; rintro x w8 ⟨v8, rfl, hr8, hb8⟩; rw [H7.out.2.1] at hr8)
      | (go_at_call 16; refine (same_yes hr8 (H7.out.2.2.2.2.2.below hb8) H6.out.1.len).mono ?_; rintro x w9 ⟨rfl, hb9⟩; have hb79 := chainB hb8 hb9)
      | (go_at_call 17; refine (version_p t s7 _ (H7.out.1.below hb79)).mono ?_; rw [H7.out.2.2.1]; rintro x w10 ⟨rfl, rfl⟩)
      | (go_at_call 10; refine (next_p t s7 _ (H7.out.1.below hb79)).mono ?_; rw [H7.out.2.2.2.1]; rintro x w11 ⟨rfl, rfl⟩)
      | (go_at_call 13; refine (HAw.out _).mono ?_; rintro x w12 ⟨rfl, hb12⟩))
    go_ret
    exact ⟨rfl, chainB (chainB H7.out.2.2.2.2.1 hb79) hb12⟩
end Go.Proofs.Ytjkgafbknjpjbab
