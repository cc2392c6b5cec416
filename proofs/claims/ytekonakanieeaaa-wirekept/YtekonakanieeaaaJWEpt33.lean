/- Decode. -/
import Derived.Test.YtekonakanieeaaaJWEpt19
import Derived.Test.YtekonakanieeaaaJWEpt01
namespace Go.Proofs.Ytekonakanieeaaa
section
open Go.RowKit Go.Lib
attribute [local go_sem high] run_store_complex

set_option maxRecDepth 20000 in
set_option maxHeartbeats 16000000 in
theorem decode_p2 (v : Value) (l : List Int) (w : World) (hr : RC w v l) (hl : Byt l) (hlim : l.length ≤ 140737488355328) (hdn : doneB (msgP (some l)).2 = true) (hok : ¬ msgOk (msgP (some l)).1) : Calls Try.prog 6 #[v] w fun e w' => DecR l w w' e := by
  obtain ⟨ad, cap, rfl, _, _⟩ := id hr
  obtain ⟨W, hW⟩ : ∃ W, w.alloc (.cells #[.int .i64 0, .int .i64 0, .int .i64 0, .int .i64 0, .complex .f64 0 0, .int .i64 0, .int .i64 0, .int .i64 0, .int .i64 0, .string ⟨#[]⟩, .int .i64 0, .string ⟨#[]⟩, .int .i64 0, .string ⟨#[]⟩, .slice none 0 0, .slice none 0 0] 30) = W := ⟨_, rfl⟩
  obtain ⟨W2, hW2⟩ : ∃ W2, W.alloc (.cells #[.slice ad l.length cap, .int .i64 0, .bool false] 65) = W2 := ⟨_, rfl⟩
  have HW2 : Hid (W.alloc (.cells #[.slice ad l.length cap, .int .i64 0, .bool false] 65) = W2) := hW2
  have hb := boxB hW
  have hb2 := boxB hW2
  have hg := new_reader hr hl hlim hb.2 hW2
  have HG : Hid (Rg W2 W.heap.size (.slice ad l.length cap) l (some l) ∧ Below w.heap.size w W2 ∧ W2.heap[w.heap.size]? = some (.cells #[.int .i64 0, .int .i64 0, .int .i64 0, .int .i64 0, .complex .f64 0 0, .int .i64 0, .int .i64 0, .int .i64 0, .int .i64 0, .string ⟨#[]⟩, .int .i64 0, .string ⟨#[]⟩, .int .i64 0, .string ⟨#[]⟩, .slice none 0 0, .slice none 0 0] 30 (0, 0)) ∧ w.heap.size < W.heap.size) := ⟨hg, chainB hb.2 hb2.2, hkeep hb.1 hb2.2, (Array.getElem?_eq_some_iff.1 hb.1).1⟩
  have HMs : Hid (Calls Try.prog 19 #[.pointer (some ⟨W.heap.size, 0, none⟩)] W2 fun e w' => ∃ ve vk, e = .returned (.agg (MsV (msgP (some l)).1 ve vk).arr) ∧ Red W2 w' W.heap.size (.slice ad l.length cap) l (msgP (some l)).2 ∧ Row7 w' W2.heap.size ve (msgP (some l)).1.es ∧ RowK w' W2.heap.size vk (msgP (some l)).1.ks) := message_r hg
  obtain ⟨hm1, hm2⟩ := msgP_marks (Lft.of hl)
  have HYes : Hid (∀ m, msgOk m → msgB m = l → msgP (some l) = (m, some [])) := fun m hm e => by rw [← e]; have := msgP_back hm []; rw [List.append_nil] at this; exact this
  have HNo : Hid (doneB (msgP (some l)).2 = true → msgB (msgP (some l)).1 = l) := fun h => by
    have := msgP_forth hl (prod_eta _ ((doneB_iff _).1 h))
    rw [List.append_nil] at this
    exact this.symm
  obtain ⟨M, hM⟩ : ∃ M, (msgP (some l)).1 = M := ⟨_, rfl⟩
  obtain ⟨s1, hs1⟩ : ∃ M, (msgP (some l)).2 = M := ⟨_, rfl⟩
  have HP : Hid (msgP (some l) = (M, s1)) := Prod.ext hM hs1
  rw [hM] at hm1 hm2
  rw [hM, hs1] at HNo HMs
  rw [hs1] at hdn
  rw [hM] at hok
  have HDn : Hid (doneB s1 = true ∧ ¬ msgOk M) := ⟨hdn, hok⟩
  clear hdn hok
  have HPl : Hid (∀ ve vk, plainB (MsV M ve vk) = true ↔ msgOk M) := fun ve vk => MsV_plain hm1 hm2
  clear hr hl hb hb2 hg hM hs1 hm1 hm2 hW2
  go_enter Try.func6, Try.ntmps6
  go_upto_region 1 with fail
  clear hW
  go_upto_region 2 with fail
  rw [HW2.out]
  go_upto_region 3 with (go_at_call 19; refine HMs.out.mono ?_; rintro e w3 ⟨ve, vk, rfl, hr3, he3, hk3⟩; obtain ⟨ae, ce, hve⟩ := owns_len he3; obtain ⟨ak, ck, hvk⟩ := owns_len hk3; subst hve hvk; have H3 : Hid (Red W2 w3 W.heap.size (.slice ad l.length cap) l s1 ∧ Row7 w3 W2.heap.size (.slice ae M.es.length ce) M.es ∧ RowK w3 W2.heap.size (.slice ak M.ks.length ck) M.ks) := ⟨hr3, he3, hk3⟩; clear hr3 he3 hk3; unfold MsV Ms.arr; simp only []; obtain ⟨W5, hW5⟩ : ∃ W5, w3.alloc (.cells #[.int .i64 0, .int .i64 0, .int .i64 0, .int .i64 0, .complex .f64 0 0, .int .i64 0, .int .i64 0, .int .i64 0, .int .i64 0, .string ⟨#[]⟩, .int .i64 0, .string ⟨#[]⟩, .int .i64 0, .string ⟨#[]⟩, .slice none 0 0, .slice none 0 0] 30) = W5 := ⟨_, rfl⟩; have hb5 := boxB hW5; have yf := free_of hb5.1; have y0 := cell_of hb5.1 0; have y1 := cell_of hb5.1 1; have y2 := cell_of hb5.1 2; have y3 := cell_of hb5.1 3; have y4 := cell_of hb5.1 4; have y5 := cell_of hb5.1 5; have y6 := cell_of hb5.1 6; have y7 := cell_of hb5.1 7; have y8 := cell_of hb5.1 8; have y9 := cell_of hb5.1 9; have y10 := cell_of hb5.1 10; have y11 := cell_of hb5.1 11; have y12 := cell_of hb5.1 12; have y13 := cell_of hb5.1 13; have y14 := cell_of hb5.1 14; have y15 := cell_of hb5.1 15; simp at y0 y1 y2 y3 y4 y5 y6 y7 y8 y9 y10 y11 y12 y13 y14 y15; have HW5 : Hid (w3.alloc (.cells #[.int .i64 0, .int .i64 0, .int .i64 0, .int .i64 0, .complex .f64 0 0, .int .i64 0, .int .i64 0, .int .i64 0, .int .i64 0, .string ⟨#[]⟩, .int .i64 0, .string ⟨#[]⟩, .int .i64 0, .string ⟨#[]⟩, .slice none 0 0, .slice none 0 0] 30) = W5) := hW5; clear hb5)
  obtain ⟨W6, hW6⟩ : ∃ x, ((((((((((((((((W5).setCell ⟨w3.heap.size, 0, none⟩ (.int .i64 M.kind)).setCell ⟨w3.heap.size, 1, none⟩ (.int .i64 M.client)).setCell ⟨w3.heap.size, 2, none⟩ (.int .i64 M.life)).setCell ⟨w3.heap.size, 3, none⟩ (.int .i64 M.seq)).setCell ⟨w3.heap.size, 4, none⟩ (.complex .f64 (floatOfInt .f64 M.ep) (floatOfInt .f64 M.nb))).setCell ⟨w3.heap.size, 5, none⟩ (.int .i64 M.vers)).setCell ⟨w3.heap.size, 6, none⟩ (.int .i64 M.err)).setCell ⟨w3.heap.size, 7, none⟩ (.int .i64 M.op.kind)).setCell ⟨w3.heap.size, 8, none⟩ (.int .i64 M.op.dir)).setCell ⟨w3.heap.size, 9, none⟩ (.string M.op.nm)).setCell ⟨w3.heap.size, 10, none⟩ (.int .i64 M.op.dst)).setCell ⟨w3.heap.size, 11, none⟩ (.string M.op.new)).setCell ⟨w3.heap.size, 12, none⟩ (.int .i64 M.op.mode)).setCell ⟨w3.heap.size, 13, none⟩ (.string M.op.tg)).setCell ⟨w3.heap.size, 14, none⟩ (.slice ae M.es.length ce)).setCell ⟨w3.heap.size, 15, none⟩ (.slice ak M.ks.length ck) = x := ⟨_, rfl⟩
  have hp6 : W6.heap[w3.heap.size]? = some (.cells #[.int .i64 M.kind, .int .i64 M.client, .int .i64 M.life, .int .i64 M.seq, .complex .f64 (floatOfInt .f64 M.ep) (floatOfInt .f64 M.nb), .int .i64 M.vers, .int .i64 M.err, .int .i64 M.op.kind, .int .i64 M.op.dir, .string M.op.nm, .int .i64 M.op.dst, .string M.op.new, .int .i64 M.op.mode, .string M.op.tg, .slice ae M.es.length ce, .slice ak M.ks.length ck] 30 (0, 0)) := by rw [← hW6]; exact putC_all (g := w3.heap.size) (xs := [.int .i64 M.kind, .int .i64 M.client, .int .i64 M.life, .int .i64 M.seq, .complex .f64 (floatOfInt .f64 M.ep) (floatOfInt .f64 M.nb), .int .i64 M.vers, .int .i64 M.err, .int .i64 M.op.kind, .int .i64 M.op.dir, .string M.op.nm, .int .i64 M.op.dst, .string M.op.new, .int .i64 M.op.mode, .string M.op.tg, .slice ae M.es.length ce, .slice ak M.ks.length ck]) (boxB HW5.out).1 rfl
  have ho6 : Only (· = w3.heap.size) W5 W6 := by rw [← hW6]; exact putC_only w3.heap.size [.int .i64 M.kind, .int .i64 M.client, .int .i64 M.life, .int .i64 M.seq, .complex .f64 (floatOfInt .f64 M.ep) (floatOfInt .f64 M.nb), .int .i64 M.vers, .int .i64 M.err, .int .i64 M.op.kind, .int .i64 M.op.dir, .string M.op.nm, .int .i64 M.op.dst, .string M.op.new, .int .i64 M.op.mode, .string M.op.tg, .slice ae M.es.length ce, .slice ak M.ks.length ck] 0 W5
  rw [hW6]
  have h23 : W2.heap.size ≤ w3.heap.size := H3.out.1.2.size
  have hr6 : Red W2 W6 W.heap.size (.slice ad l.length cap) l s1 := (H3.out.1.own HG.out.1 (Only.of (S := fun _ => False) (boxB HW5.out).2) (fun k hk => hk.elim)).own HG.out.1 ho6 (fun k hk => by omega)
  have hlt2 := HG.out.1.lt
  have hlt3 := HG.out.2.2.2
  have hz3 : w3.heap[w.heap.size]? = some (.cells #[.int .i64 0, .int .i64 0, .int .i64 0, .int .i64 0, .complex .f64 0 0, .int .i64 0, .int .i64 0, .int .i64 0, .int .i64 0, .string ⟨#[]⟩, .int .i64 0, .string ⟨#[]⟩, .int .i64 0, .string ⟨#[]⟩, .slice none 0 0, .slice none 0 0] 30 (0, 0)) := (H3.out.1.2.block _ (by omega) (by omega)).trans HG.out.2.2.1
  have hz6 : W6.heap[w.heap.size]? = some (.cells #[.int .i64 0, .int .i64 0, .int .i64 0, .int .i64 0, .complex .f64 0 0, .int .i64 0, .int .i64 0, .int .i64 0, .int .i64 0, .string ⟨#[]⟩, .int .i64 0, .string ⟨#[]⟩, .int .i64 0, .string ⟨#[]⟩, .slice none 0 0, .slice none 0 0] 30 (0, 0)) := (ho6.block _ (by have := (boxB HW5.out).2.size; omega) (by omega)).trans (hkeep hz3 (boxB HW5.out).2)
  have hbel : Below w.heap.size w W6 := hr6.2.below HG.out.2.1 HG.out.2.1.size (fun k hk => by omega)
  have he6 : Row7 W6 W2.heap.size (.slice ae M.es.length ce) M.es := row7_tag (H3.out.2.1.below (boxB HW5.out).2) ho6 (fun k e => by rw [e]; exact ⟨_, _, (boxB HW5.out).1⟩)
  have hk6 : RowK W6 W2.heap.size (.slice ak M.ks.length ck) M.ks := rowK_tag (H3.out.2.2.below (boxB HW5.out).2) ho6 (fun k e => by rw [e]; exact ⟨_, _, (boxB HW5.out).1⟩)
  have H6 : Hid (Red W2 W6 W.heap.size (.slice ad l.length cap) l s1 ∧ W6.heap[w3.heap.size]? = some (.cells #[.int .i64 M.kind, .int .i64 M.client, .int .i64 M.life, .int .i64 M.seq, .complex .f64 (floatOfInt .f64 M.ep) (floatOfInt .f64 M.nb), .int .i64 M.vers, .int .i64 M.err, .int .i64 M.op.kind, .int .i64 M.op.dir, .string M.op.nm, .int .i64 M.op.dst, .string M.op.new, .int .i64 M.op.mode, .string M.op.tg, .slice ae M.es.length ce, .slice ak M.ks.length ck] 30 (0, 0)) ∧ W6.heap[w.heap.size]? = some (.cells #[.int .i64 0, .int .i64 0, .int .i64 0, .int .i64 0, .complex .f64 0 0, .int .i64 0, .int .i64 0, .int .i64 0, .int .i64 0, .string ⟨#[]⟩, .int .i64 0, .string ⟨#[]⟩, .int .i64 0, .string ⟨#[]⟩, .slice none 0 0, .slice none 0 0] 30 (0, 0)) ∧ Row7 W6 W2.heap.size (.slice ae M.es.length ce) M.es ∧ RowK W6 W2.heap.size (.slice ak M.ks.length ck) M.ks ∧ Below w.heap.size w W6) := ⟨hr6, hp6, hz6, he6, hk6, hbel⟩
  have HD : Hid (Calls Try.prog 20 #[.pointer (some ⟨W.heap.size, 0, none⟩)] W6 fun e w' => e = .returned (.bool (doneB s1)) ∧ Below W6.heap.size W6 w') := done_r hr6.1
  clear hW5 HW5 hW6 hp6 ho6 hr6 hz3 hz6 hbel he6 hk6 yf y0 y1 y2 y3 y4 y5 y6 y7 y8 y9 y10 y11 y12 y13 y14 y15 H3 HMs HW2
  have HNone : Hid (∀ m, msgOk m → msgB m ≠ l) := fun m hm e => by
    have h1 := HYes.out m hm e
    rw [HP.out] at h1
    have h2 := (Prod.mk.inj h1).1
    rw [← h2] at hm
    exact HDn.out.2 hm
  have HPm : Hid (∀ W7, Below W6.heap.size W6 W7 → Calls Try.prog 21 #[.agg #[.int .i64 M.kind, .int .i64 M.client, .int .i64 M.life, .int .i64 M.seq, .complex .f64 (floatOfInt .f64 M.ep) (floatOfInt .f64 M.nb), .int .i64 M.vers, .int .i64 M.err, .int .i64 M.op.kind, .int .i64 M.op.dir, .string M.op.nm, .int .i64 M.op.dst, .string M.op.new, .int .i64 M.op.mode, .string M.op.tg, .slice ae M.es.length ce, .slice ak M.ks.length ck]] W7 fun e w' => e = .returned (.bool false) ∧ Below W7.heap.size W7 w') := fun W7 hb7 => by
    have hp := plainMsg_p (MsV M (.slice ae M.es.length ce) (.slice ak M.ks.length ck)) W7 ⟨owns_le (H6.out.2.2.2.1.below hb7) (Nat.zero_le _), owns_le (H6.out.2.2.2.2.1.below hb7) (Nat.zero_le _)⟩
    have hq : plainB (MsV M (.slice ae M.es.length ce) (.slice ak M.ks.length ck)) = false := by
      cases hq : plainB (MsV M (.slice ae M.es.length ce) (.slice ak M.ks.length ck)) with
      | false => rfl
      | true => exact absurd ((HPl.out _ _).1 hq) HDn.out.2
    rw [hq] at hp
    exact hp
  rw [HDn.out.1] at HD
  go_wp2_with (first
    | (go_at_call 21; refine (HPm.out _ hb7).mono ?_; rintro e w8 ⟨rfl, hb8⟩; have hres := hkeep H6.out.2.2.1 (chainB hb7 hb8); have HBl : Hid (Below w.heap.size w w8) := chainB H6.out.2.2.2.2.2 (chainB hb7 hb8); have HRes : Hid (w8.heap[w.heap.size]? = some (.cells #[.int .i64 0, .int .i64 0, .int .i64 0, .int .i64 0, .complex .f64 0 0, .int .i64 0, .int .i64 0, .int .i64 0, .int .i64 0, .string ⟨#[]⟩, .int .i64 0, .string ⟨#[]⟩, .int .i64 0, .string ⟨#[]⟩, .slice none 0 0, .slice none 0 0] 30 (0, 0))) := hres; have qf := free_of hres; have q0 := cell_of hres 0; have q1 := cell_of hres 1; have q2 := cell_of hres 2; have q3 := cell_of hres 3; have q4 := cell_of hres 4; have q5 := cell_of hres 5; have q6 := cell_of hres 6; have q7 := cell_of hres 7; have q8 := cell_of hres 8; have q9 := cell_of hres 9; have q10 := cell_of hres 10; have q11 := cell_of hres 11; have q12 := cell_of hres 12; have q13 := cell_of hres 13; have q14 := cell_of hres 14; have q15 := cell_of hres 15; simp at q0 q1 q2 q3 q4 q5 q6 q7 q8 q9 q10 q11 q12 q13 q14 q15; clear hres)
    | (go_at_call 20; refine HD.out.mono ?_; rintro e w7 ⟨rfl, hb7⟩; have hbx := hkeep H6.out.2.1 hb7; have p0 := cell_of hbx 0; have p1 := cell_of hbx 1; have p2 := cell_of hbx 2; have p3 := cell_of hbx 3; have p4 := cell_of hbx 4; have p5 := cell_of hbx 5; have p6 := cell_of hbx 6; have p7 := cell_of hbx 7; have p8 := cell_of hbx 8; have p9 := cell_of hbx 9; have p10 := cell_of hbx 10; have p11 := cell_of hbx 11; have p12 := cell_of hbx 12; have p13 := cell_of hbx 13; have p14 := cell_of hbx 14; have p15 := cell_of hbx 15; simp at p0 p1 p2 p3 p4 p5 p6 p7 p8 p9 p10 p11 p12 p13 p14 p15; clear hbx))
  have hfin := putC_all (g := w.heap.size) (xs := [.int .i64 0, .int .i64 0, .int .i64 0, .int .i64 0, .complex .f64 0 0, .int .i64 0, .int .i64 0, .int .i64 0, .int .i64 0, .string ⟨#[]⟩, .int .i64 0, .string ⟨#[]⟩, .int .i64 0, .string ⟨#[]⟩, .slice none 0 0, .slice none 0 0]) HRes.out rfl
  have hon := putC_only w.heap.size [.int .i64 0, .int .i64 0, .int .i64 0, .int .i64 0, .complex .f64 0 0, .int .i64 0, .int .i64 0, .int .i64 0, .int .i64 0, .string ⟨#[]⟩, .int .i64 0, .string ⟨#[]⟩, .int .i64 0, .string ⟨#[]⟩, .slice none 0 0, .slice none 0 0] 0 w8
  refine bodyPost_ret (ret_msg2 rfl _ _ w.heap.size rfl hfin rfl) rfl ?_
  exact .inr ⟨HNone.out, rfl, hon.below HBl.out HBl.out.size (fun k hk => by omega)⟩
end
section
open Go.RowKit Go.Lib
attribute [local go_sem high] run_store_complex

set_option maxRecDepth 20000 in
set_option maxHeartbeats 16000000 in
theorem decode_p3 (v : Value) (l : List Int) (w : World) (hr : RC w v l) (hl : Byt l) (hlim : l.length ≤ 140737488355328) (hdn : doneB (msgP (some l)).2 = true) (hok : msgOk (msgP (some l)).1) : Calls Try.prog 6 #[v] w fun e w' => DecR l w w' e := by
  obtain ⟨ad, cap, rfl, _, _⟩ := id hr
  obtain ⟨W, hW⟩ : ∃ W, w.alloc (.cells #[.int .i64 0, .int .i64 0, .int .i64 0, .int .i64 0, .complex .f64 0 0, .int .i64 0, .int .i64 0, .int .i64 0, .int .i64 0, .string ⟨#[]⟩, .int .i64 0, .string ⟨#[]⟩, .int .i64 0, .string ⟨#[]⟩, .slice none 0 0, .slice none 0 0] 30) = W := ⟨_, rfl⟩
  obtain ⟨W2, hW2⟩ : ∃ W2, W.alloc (.cells #[.slice ad l.length cap, .int .i64 0, .bool false] 65) = W2 := ⟨_, rfl⟩
  have HW2 : Hid (W.alloc (.cells #[.slice ad l.length cap, .int .i64 0, .bool false] 65) = W2) := hW2
  have hb := boxB hW
  have hb2 := boxB hW2
  have hg := new_reader hr hl hlim hb.2 hW2
  have HG : Hid (Rg W2 W.heap.size (.slice ad l.length cap) l (some l) ∧ Below w.heap.size w W2 ∧ W2.heap[w.heap.size]? = some (.cells #[.int .i64 0, .int .i64 0, .int .i64 0, .int .i64 0, .complex .f64 0 0, .int .i64 0, .int .i64 0, .int .i64 0, .int .i64 0, .string ⟨#[]⟩, .int .i64 0, .string ⟨#[]⟩, .int .i64 0, .string ⟨#[]⟩, .slice none 0 0, .slice none 0 0] 30 (0, 0)) ∧ w.heap.size < W.heap.size) := ⟨hg, chainB hb.2 hb2.2, hkeep hb.1 hb2.2, (Array.getElem?_eq_some_iff.1 hb.1).1⟩
  have HMs : Hid (Calls Try.prog 19 #[.pointer (some ⟨W.heap.size, 0, none⟩)] W2 fun e w' => ∃ ve vk, e = .returned (.agg (MsV (msgP (some l)).1 ve vk).arr) ∧ Red W2 w' W.heap.size (.slice ad l.length cap) l (msgP (some l)).2 ∧ Row7 w' W2.heap.size ve (msgP (some l)).1.es ∧ RowK w' W2.heap.size vk (msgP (some l)).1.ks) := message_r hg
  obtain ⟨hm1, hm2⟩ := msgP_marks (Lft.of hl)
  have HYes : Hid (∀ m, msgOk m → msgB m = l → msgP (some l) = (m, some [])) := fun m hm e => by rw [← e]; have := msgP_back hm []; rw [List.append_nil] at this; exact this
  have HNo : Hid (doneB (msgP (some l)).2 = true → msgB (msgP (some l)).1 = l) := fun h => by
    have := msgP_forth hl (prod_eta _ ((doneB_iff _).1 h))
    rw [List.append_nil] at this
    exact this.symm
  obtain ⟨M, hM⟩ : ∃ M, (msgP (some l)).1 = M := ⟨_, rfl⟩
  obtain ⟨s1, hs1⟩ : ∃ M, (msgP (some l)).2 = M := ⟨_, rfl⟩
  have HP : Hid (msgP (some l) = (M, s1)) := Prod.ext hM hs1
  rw [hM] at hm1 hm2
  rw [hM, hs1] at HNo HMs
  rw [hs1] at hdn
  rw [hM] at hok
  have HDn : Hid (doneB s1 = true ∧ msgOk M) := ⟨hdn, hok⟩
  clear hdn hok
  have HPl : Hid (∀ ve vk, plainB (MsV M ve vk) = true ↔ msgOk M) := fun ve vk => MsV_plain hm1 hm2
  clear hr hl hb hb2 hg hM hs1 hm1 hm2 hW2
  go_enter Try.func6, Try.ntmps6
  go_upto_region 1 with fail
  clear hW
  go_upto_region 2 with fail
  rw [HW2.out]
  go_upto_region 3 with (go_at_call 19; refine HMs.out.mono ?_; rintro e w3 ⟨ve, vk, rfl, hr3, he3, hk3⟩; obtain ⟨ae, ce, hve⟩ := owns_len he3; obtain ⟨ak, ck, hvk⟩ := owns_len hk3; subst hve hvk; have H3 : Hid (Red W2 w3 W.heap.size (.slice ad l.length cap) l s1 ∧ Row7 w3 W2.heap.size (.slice ae M.es.length ce) M.es ∧ RowK w3 W2.heap.size (.slice ak M.ks.length ck) M.ks) := ⟨hr3, he3, hk3⟩; clear hr3 he3 hk3; unfold MsV Ms.arr; simp only []; obtain ⟨W5, hW5⟩ : ∃ W5, w3.alloc (.cells #[.int .i64 0, .int .i64 0, .int .i64 0, .int .i64 0, .complex .f64 0 0, .int .i64 0, .int .i64 0, .int .i64 0, .int .i64 0, .string ⟨#[]⟩, .int .i64 0, .string ⟨#[]⟩, .int .i64 0, .string ⟨#[]⟩, .slice none 0 0, .slice none 0 0] 30) = W5 := ⟨_, rfl⟩; have hb5 := boxB hW5; have yf := free_of hb5.1; have y0 := cell_of hb5.1 0; have y1 := cell_of hb5.1 1; have y2 := cell_of hb5.1 2; have y3 := cell_of hb5.1 3; have y4 := cell_of hb5.1 4; have y5 := cell_of hb5.1 5; have y6 := cell_of hb5.1 6; have y7 := cell_of hb5.1 7; have y8 := cell_of hb5.1 8; have y9 := cell_of hb5.1 9; have y10 := cell_of hb5.1 10; have y11 := cell_of hb5.1 11; have y12 := cell_of hb5.1 12; have y13 := cell_of hb5.1 13; have y14 := cell_of hb5.1 14; have y15 := cell_of hb5.1 15; simp at y0 y1 y2 y3 y4 y5 y6 y7 y8 y9 y10 y11 y12 y13 y14 y15; have HW5 : Hid (w3.alloc (.cells #[.int .i64 0, .int .i64 0, .int .i64 0, .int .i64 0, .complex .f64 0 0, .int .i64 0, .int .i64 0, .int .i64 0, .int .i64 0, .string ⟨#[]⟩, .int .i64 0, .string ⟨#[]⟩, .int .i64 0, .string ⟨#[]⟩, .slice none 0 0, .slice none 0 0] 30) = W5) := hW5; clear hb5)
  obtain ⟨W6, hW6⟩ : ∃ x, ((((((((((((((((W5).setCell ⟨w3.heap.size, 0, none⟩ (.int .i64 M.kind)).setCell ⟨w3.heap.size, 1, none⟩ (.int .i64 M.client)).setCell ⟨w3.heap.size, 2, none⟩ (.int .i64 M.life)).setCell ⟨w3.heap.size, 3, none⟩ (.int .i64 M.seq)).setCell ⟨w3.heap.size, 4, none⟩ (.complex .f64 (floatOfInt .f64 M.ep) (floatOfInt .f64 M.nb))).setCell ⟨w3.heap.size, 5, none⟩ (.int .i64 M.vers)).setCell ⟨w3.heap.size, 6, none⟩ (.int .i64 M.err)).setCell ⟨w3.heap.size, 7, none⟩ (.int .i64 M.op.kind)).setCell ⟨w3.heap.size, 8, none⟩ (.int .i64 M.op.dir)).setCell ⟨w3.heap.size, 9, none⟩ (.string M.op.nm)).setCell ⟨w3.heap.size, 10, none⟩ (.int .i64 M.op.dst)).setCell ⟨w3.heap.size, 11, none⟩ (.string M.op.new)).setCell ⟨w3.heap.size, 12, none⟩ (.int .i64 M.op.mode)).setCell ⟨w3.heap.size, 13, none⟩ (.string M.op.tg)).setCell ⟨w3.heap.size, 14, none⟩ (.slice ae M.es.length ce)).setCell ⟨w3.heap.size, 15, none⟩ (.slice ak M.ks.length ck) = x := ⟨_, rfl⟩
  have hp6 : W6.heap[w3.heap.size]? = some (.cells #[.int .i64 M.kind, .int .i64 M.client, .int .i64 M.life, .int .i64 M.seq, .complex .f64 (floatOfInt .f64 M.ep) (floatOfInt .f64 M.nb), .int .i64 M.vers, .int .i64 M.err, .int .i64 M.op.kind, .int .i64 M.op.dir, .string M.op.nm, .int .i64 M.op.dst, .string M.op.new, .int .i64 M.op.mode, .string M.op.tg, .slice ae M.es.length ce, .slice ak M.ks.length ck] 30 (0, 0)) := by rw [← hW6]; exact putC_all (g := w3.heap.size) (xs := [.int .i64 M.kind, .int .i64 M.client, .int .i64 M.life, .int .i64 M.seq, .complex .f64 (floatOfInt .f64 M.ep) (floatOfInt .f64 M.nb), .int .i64 M.vers, .int .i64 M.err, .int .i64 M.op.kind, .int .i64 M.op.dir, .string M.op.nm, .int .i64 M.op.dst, .string M.op.new, .int .i64 M.op.mode, .string M.op.tg, .slice ae M.es.length ce, .slice ak M.ks.length ck]) (boxB HW5.out).1 rfl
  have ho6 : Only (· = w3.heap.size) W5 W6 := by rw [← hW6]; exact putC_only w3.heap.size [.int .i64 M.kind, .int .i64 M.client, .int .i64 M.life, .int .i64 M.seq, .complex .f64 (floatOfInt .f64 M.ep) (floatOfInt .f64 M.nb), .int .i64 M.vers, .int .i64 M.err, .int .i64 M.op.kind, .int .i64 M.op.dir, .string M.op.nm, .int .i64 M.op.dst, .string M.op.new, .int .i64 M.op.mode, .string M.op.tg, .slice ae M.es.length ce, .slice ak M.ks.length ck] 0 W5
  rw [hW6]
  have h23 : W2.heap.size ≤ w3.heap.size := H3.out.1.2.size
  have hr6 : Red W2 W6 W.heap.size (.slice ad l.length cap) l s1 := (H3.out.1.own HG.out.1 (Only.of (S := fun _ => False) (boxB HW5.out).2) (fun k hk => hk.elim)).own HG.out.1 ho6 (fun k hk => by omega)
  have hlt2 := HG.out.1.lt
  have hlt3 := HG.out.2.2.2
  have hz3 : w3.heap[w.heap.size]? = some (.cells #[.int .i64 0, .int .i64 0, .int .i64 0, .int .i64 0, .complex .f64 0 0, .int .i64 0, .int .i64 0, .int .i64 0, .int .i64 0, .string ⟨#[]⟩, .int .i64 0, .string ⟨#[]⟩, .int .i64 0, .string ⟨#[]⟩, .slice none 0 0, .slice none 0 0] 30 (0, 0)) := (H3.out.1.2.block _ (by omega) (by omega)).trans HG.out.2.2.1
  have hz6 : W6.heap[w.heap.size]? = some (.cells #[.int .i64 0, .int .i64 0, .int .i64 0, .int .i64 0, .complex .f64 0 0, .int .i64 0, .int .i64 0, .int .i64 0, .int .i64 0, .string ⟨#[]⟩, .int .i64 0, .string ⟨#[]⟩, .int .i64 0, .string ⟨#[]⟩, .slice none 0 0, .slice none 0 0] 30 (0, 0)) := (ho6.block _ (by have := (boxB HW5.out).2.size; omega) (by omega)).trans (hkeep hz3 (boxB HW5.out).2)
  have hbel : Below w.heap.size w W6 := hr6.2.below HG.out.2.1 HG.out.2.1.size (fun k hk => by omega)
  have he6 : Row7 W6 W2.heap.size (.slice ae M.es.length ce) M.es := row7_tag (H3.out.2.1.below (boxB HW5.out).2) ho6 (fun k e => by rw [e]; exact ⟨_, _, (boxB HW5.out).1⟩)
  have hk6 : RowK W6 W2.heap.size (.slice ak M.ks.length ck) M.ks := rowK_tag (H3.out.2.2.below (boxB HW5.out).2) ho6 (fun k e => by rw [e]; exact ⟨_, _, (boxB HW5.out).1⟩)
  have H6 : Hid (Red W2 W6 W.heap.size (.slice ad l.length cap) l s1 ∧ W6.heap[w3.heap.size]? = some (.cells #[.int .i64 M.kind, .int .i64 M.client, .int .i64 M.life, .int .i64 M.seq, .complex .f64 (floatOfInt .f64 M.ep) (floatOfInt .f64 M.nb), .int .i64 M.vers, .int .i64 M.err, .int .i64 M.op.kind, .int .i64 M.op.dir, .string M.op.nm, .int .i64 M.op.dst, .string M.op.new, .int .i64 M.op.mode, .string M.op.tg, .slice ae M.es.length ce, .slice ak M.ks.length ck] 30 (0, 0)) ∧ W6.heap[w.heap.size]? = some (.cells #[.int .i64 0, .int .i64 0, .int .i64 0, .int .i64 0, .complex .f64 0 0, .int .i64 0, .int .i64 0, .int .i64 0, .int .i64 0, .string ⟨#[]⟩, .int .i64 0, .string ⟨#[]⟩, .int .i64 0, .string ⟨#[]⟩, .slice none 0 0, .slice none 0 0] 30 (0, 0)) ∧ Row7 W6 W2.heap.size (.slice ae M.es.length ce) M.es ∧ RowK W6 W2.heap.size (.slice ak M.ks.length ck) M.ks ∧ Below w.heap.size w W6) := ⟨hr6, hp6, hz6, he6, hk6, hbel⟩
  have HD : Hid (Calls Try.prog 20 #[.pointer (some ⟨W.heap.size, 0, none⟩)] W6 fun e w' => e = .returned (.bool (doneB s1)) ∧ Below W6.heap.size W6 w') := done_r hr6.1
  clear hW5 HW5 hW6 hp6 ho6 hr6 hz3 hz6 hbel he6 hk6 yf y0 y1 y2 y3 y4 y5 y6 y7 y8 y9 y10 y11 y12 y13 y14 y15 H3 HMs HW2
  have HPm : Hid (∀ W7, Below W6.heap.size W6 W7 → Calls Try.prog 21 #[.agg #[.int .i64 M.kind, .int .i64 M.client, .int .i64 M.life, .int .i64 M.seq, .complex .f64 (floatOfInt .f64 M.ep) (floatOfInt .f64 M.nb), .int .i64 M.vers, .int .i64 M.err, .int .i64 M.op.kind, .int .i64 M.op.dir, .string M.op.nm, .int .i64 M.op.dst, .string M.op.new, .int .i64 M.op.mode, .string M.op.tg, .slice ae M.es.length ce, .slice ak M.ks.length ck]] W7 fun e w' => e = .returned (.bool true) ∧ Below W7.heap.size W7 w') := fun W7 hb7 => by
    have hp := plainMsg_p (MsV M (.slice ae M.es.length ce) (.slice ak M.ks.length ck)) W7 ⟨owns_le (H6.out.2.2.2.1.below hb7) (Nat.zero_le _), owns_le (H6.out.2.2.2.2.1.below hb7) (Nat.zero_le _)⟩
    have hq : plainB (MsV M (.slice ae M.es.length ce) (.slice ak M.ks.length ck)) = true := (HPl.out _ _).2 HDn.out.2
    rw [hq] at hp
    exact hp
  rw [HDn.out.1] at HD
  go_wp2_with (first
    | (go_at_call 21; refine (HPm.out _ hb7).mono ?_; rintro e w8 ⟨rfl, hb8⟩; have hres := hkeep H6.out.2.2.1 (chainB hb7 hb8); have hby := hkeep H6.out.2.1 (chainB hb7 hb8); have HBl : Hid (Below W6.heap.size W6 w8) := chainB hb7 hb8; have HRes : Hid (w8.heap[w.heap.size]? = some (.cells #[.int .i64 0, .int .i64 0, .int .i64 0, .int .i64 0, .complex .f64 0 0, .int .i64 0, .int .i64 0, .int .i64 0, .int .i64 0, .string ⟨#[]⟩, .int .i64 0, .string ⟨#[]⟩, .int .i64 0, .string ⟨#[]⟩, .slice none 0 0, .slice none 0 0] 30 (0, 0))) := hres; have qf := free_of hres; have q0 := cell_of hres 0; have q1 := cell_of hres 1; have q2 := cell_of hres 2; have q3 := cell_of hres 3; have q4 := cell_of hres 4; have q5 := cell_of hres 5; have q6 := cell_of hres 6; have q7 := cell_of hres 7; have q8 := cell_of hres 8; have q9 := cell_of hres 9; have q10 := cell_of hres 10; have q11 := cell_of hres 11; have q12 := cell_of hres 12; have q13 := cell_of hres 13; have q14 := cell_of hres 14; have q15 := cell_of hres 15; have r0 := cell_of hby 0; have r1 := cell_of hby 1; have r2 := cell_of hby 2; have r3 := cell_of hby 3; have r4 := cell_of hby 4; have r5 := cell_of hby 5; have r6 := cell_of hby 6; have r7 := cell_of hby 7; have r8 := cell_of hby 8; have r9 := cell_of hby 9; have r10 := cell_of hby 10; have r11 := cell_of hby 11; have r12 := cell_of hby 12; have r13 := cell_of hby 13; have r14 := cell_of hby 14; have r15 := cell_of hby 15; simp at q0 q1 q2 q3 q4 q5 q6 q7 q8 q9 q10 q11 q12 q13 q14 q15 r0 r1 r2 r3 r4 r5 r6 r7 r8 r9 r10 r11 r12 r13 r14 r15; clear hres hby p0 p1 p2 p3 p4 p5 p6 p7 p8 p9 p10 p11 p12 p13 p14 p15)
    | (go_at_call 20; refine HD.out.mono ?_; rintro e w7 ⟨rfl, hb7⟩; have hbx := hkeep H6.out.2.1 hb7; have p0 := cell_of hbx 0; have p1 := cell_of hbx 1; have p2 := cell_of hbx 2; have p3 := cell_of hbx 3; have p4 := cell_of hbx 4; have p5 := cell_of hbx 5; have p6 := cell_of hbx 6; have p7 := cell_of hbx 7; have p8 := cell_of hbx 8; have p9 := cell_of hbx 9; have p10 := cell_of hbx 10; have p11 := cell_of hbx 11; have p12 := cell_of hbx 12; have p13 := cell_of hbx 13; have p14 := cell_of hbx 14; have p15 := cell_of hbx 15; simp at p0 p1 p2 p3 p4 p5 p6 p7 p8 p9 p10 p11 p12 p13 p14 p15; clear hbx))
  have hfin := putC_all (g := w.heap.size) (xs := [.int .i64 M.kind, .int .i64 M.client, .int .i64 M.life, .int .i64 M.seq, .complex .f64 (floatOfInt .f64 M.ep) (floatOfInt .f64 M.nb), .int .i64 M.vers, .int .i64 M.err, .int .i64 M.op.kind, .int .i64 M.op.dir, .string M.op.nm, .int .i64 M.op.dst, .string M.op.new, .int .i64 M.op.mode, .string M.op.tg, .slice ae M.es.length ce, .slice ak M.ks.length ck]) HRes.out rfl
  have hon := putC_only w.heap.size [.int .i64 M.kind, .int .i64 M.client, .int .i64 M.life, .int .i64 M.seq, .complex .f64 (floatOfInt .f64 M.ep) (floatOfInt .f64 M.nb), .int .i64 M.vers, .int .i64 M.err, .int .i64 M.op.kind, .int .i64 M.op.dir, .string M.op.nm, .int .i64 M.op.dst, .string M.op.new, .int .i64 M.op.mode, .string M.op.tg, .slice ae M.es.length ce, .slice ak M.ks.length ck] 0 w8
  refine bodyPost_ret (ret_msg2 rfl _ _ w.heap.size rfl hfin rfl) rfl ?_
  have h6 := H6.out
  have hwW := HG.out.2.1.size
  have htg : ∀ k, k = w.heap.size → Tag w8 k 30 := fun k e => by rw [e]; exact ⟨_, _, HRes.out⟩
  exact .inl ⟨M, .slice ae M.es.length ce, .slice ak M.ks.length ck, HDn.out.2, HNo.out HDn.out.1, rfl, owns_le (row7_tag (h6.2.2.2.1.below HBl.out) hon htg) hwW, owns_le (rowK_tag (h6.2.2.2.2.1.below HBl.out) hon htg) hwW, hon.below (chainB h6.2.2.2.2.2 HBl.out) (chainB h6.2.2.2.2.2 HBl.out).size (fun k hk => by omega)⟩
end
section
open Go.RowKit Go.Lib

theorem decode_p (v : Value) (l : List Int) (w : World) (hr : RC w v l) (hl : Byt l) (hlim : l.length ≤ 140737488355328) : Calls Try.prog 6 #[v] w fun e w' => DecR l w w' e := by
  cases h1 : doneB (msgP (some l)).2 with
  | false => exact decode_p1 v l w hr hl hlim h1
  | true =>
    by_cases h2 : msgOk (msgP (some l)).1
    · exact decode_p3 v l w hr hl hlim h1 h2
    · exact decode_p2 v l w hr hl hlim h1 h2
end
section
open Go.RowKit
attribute [local go_sem high] eqK neqK eqE neqE eqN neqN guardK guardE guardN

/-- are two lists the same -/
def sameEs : List En → List En → Bool
  | [], [] => true
  | a :: l, b :: m => eqEn a b && sameEs l m
  | _, _ => false
theorem sameEs_iff : ∀ (l m : List En), sameEs l m = true ↔ l = m
  | [], [] => by simp [sameEs]
  | [], b :: m => by simp [sameEs]
  | a :: l, [] => by simp [sameEs]
  | a :: l, b :: m => by
    rw [sameEs, Bool.and_eq_true, sameEs_iff l m]
    rw [eqEn_iff, List.cons.injEq]
theorem sameEs_no {l m : List En} (h : ¬ l = m) : sameEs l m = false := by
  cases k : sameEs l m with
  | false => rfl
  | true => exact absurd ((sameEs_iff l m).1 k) h
set_option maxHeartbeats 4000000 in
theorem sameE_any (v v' : Value) (l l' : List En) (base base' : Nat) (w : World) (h : Row7 w base v l) (h' : Row7 w base' v' l') (hl : l.length ≤ 1000000000) (hl' : l'.length ≤ 1000000000) :
    Calls Try.prog 24 #[v, v'] w fun e w' => e = .returned (.bool (sameEs l l')) ∧ Below w.heap.size w w' := by
  obtain ⟨a, cap, rfl⟩ := owns_len h
  obtain ⟨a', cap', rfl⟩ := owns_len h'
  by_cases hn : l.length = l'.length
  · obtain ⟨n, hn1⟩ : ∃ n, l.length = n := ⟨_, rfl⟩
    have hn2 : l'.length = n := by omega
    rw [hn1] at hl
    have HC : Hid (Row7 w base (.slice a n cap) l ∧ Row7 w base' (.slice a' n cap') l' ∧ l.length = n ∧ l'.length = n) := ⟨by rw [← hn1]; exact h, by rw [← hn2]; exact h', hn1, hn2⟩
    rw [hn1, hn2]
    clear h h' hn hn1 hn2 hl'
    go_enter Try.func24, Try.ntmps24
    go_wp2
    go_loopw [5] (fun i wr => ∃ k : Nat, k ≤ n ∧ i = .int .i64 k ∧ l.take k = l'.take k ∧ Below w.heap.size w wr) (fun i _ => n - (intOf i).toNat)
    case atStart => exact ⟨0, Nat.zero_le _, rfl, rfl, Below.refl _ _⟩
    case round =>
      obtain ⟨k, hk, rfl, ht, hb⟩ := hrel
      by_cases hlt : k < n
      · obtain ⟨e, he⟩ : ∃ x, l[k]? = some x := ⟨_, List.getElem?_eq_getElem (by rw [HC.out.2.2.1]; exact hlt)⟩
        obtain ⟨f, hf⟩ : ∃ x, l'[k]? = some x := ⟨_, List.getElem?_eq_getElem (by rw [HC.out.2.2.2]; exact hlt)⟩
        obtain ⟨g, rfl, -, -, -, hc, -⟩ := owns_entry (HC.out.1.below hb) he
        obtain ⟨g', rfl, -, -, -, hc', -⟩ := owns_entry (HC.out.2.1.below hb) hf
        have x0 := hc.c0
        have x1 := hc.c1
        have x2 := hc.c2
        have x3 := hc.c3
        have x4 := hc.c4
        have x5 := hc.c5
        have x6 := hc.c6
        have y0 := hc'.c0
        have y1 := hc'.c1
        have y2 := hc'.c2
        have y3 := hc'.c3
        have y4 := hc'.c4
        have y5 := hc'.c5
        have y6 := hc'.c6
        have hki : (k : Int) < (n : Int) := by omega
        by_cases hxx : e = f
        · have HT : Hid (l.take (k + 1) = l'.take (k + 1)) := take_snocE ht he (hxx ▸ hf)
          subst hxx
          obtain ⟨e0, e1, e2, e3, e4, e5, e6⟩ := e
          have heq : eqEn ⟨e0, e1, e2, e3, e4, e5, e6⟩ ⟨e0, e1, e2, e3, e4, e5, e6⟩ = true := (eqEn_iff _ _).2 rfl
          clear he hf ht hc hc'
          go_upto_region 6 with fail
          go_quiet (fail)
          go_wp2
          exact ⟨⟨k + 1, by omega, by simp, HT.out, below_drewN hb _⟩, by simp [intOf]; omega⟩
        · have HE : Hid (sameEs l l' = false) := sameEs_no (by rintro rfl; rw [he] at hf; exact hxx (Option.some.inj hf))
          obtain ⟨e0, e1, e2, e3, e4, e5, e6⟩ := e
          obtain ⟨f0, f1, f2, f3, f4, f5, f6⟩ := f
          have hne : eqEn ⟨e0, e1, e2, e3, e4, e5, e6⟩ ⟨f0, f1, f2, f3, f4, f5, f6⟩ = false := eqEn_no hxx
          clear he hf ht hc hc' hxx
          go_upto_region 6 with fail
          go_quiet (fail)
          go_wp2
          go_ret
          exact ⟨by rw [HE.out]; rfl, below_drewN hb _⟩
      · have hkl : k = n := by omega
        subst hkl
        have HE : Hid (sameEs l l' = true) := (sameEs_iff l l').2 (take_eqE ht HC.out.2.2.1.symm HC.out.2.2.2.symm)
        clear ht
        go_wp2
        go_ret
        exact ⟨by rw [HE.out]; rfl, hb⟩
  · have HE : Hid (sameEs l l' = false) := sameEs_no (by rintro rfl; exact hn rfl)
    have hne : ((l.length : Int) != (l'.length : Int)) = true := by simp; omega
    clear h h'
    go_enter Try.func24, Try.ntmps24
    go_wp2
    go_ret
    exact ⟨by rw [HE.out]; rfl, Below.refl _ _⟩
end
section
open Go.RowKit
attribute [local go_sem high] eqK neqK eqE neqE eqN neqN guardK guardE guardN

/-- are two lists the same -/
def sameKs : List Ky → List Ky → Bool
  | [], [] => true
  | a :: l, b :: m => (decide (a.d = b.d) && decide (a.nm = b.nm)) && sameKs l m
  | _, _ => false
theorem sameKs_iff : ∀ (l m : List Ky), sameKs l m = true ↔ l = m
  | [], [] => by simp [sameKs]
  | [], b :: m => by simp [sameKs]
  | a :: l, [] => by simp [sameKs]
  | a :: l, b :: m => by
    rw [sameKs, Bool.and_eq_true, sameKs_iff l m]
    obtain ⟨a1, a2⟩ := a
    obtain ⟨b1, b2⟩ := b
    simp
theorem sameKs_no {l m : List Ky} (h : ¬ l = m) : sameKs l m = false := by
  cases k : sameKs l m with
  | false => rfl
  | true => exact absurd ((sameKs_iff l m).1 k) h
set_option maxHeartbeats 4000000 in
theorem sameK_any (v v' : Value) (l l' : List Ky) (base base' : Nat) (w : World) (h : RowK w base v l) (h' : RowK w base' v' l') (hl : l.length ≤ 1000000000) (hl' : l'.length ≤ 1000000000) :
    Calls Try.prog 25 #[v, v'] w fun e w' => e = .returned (.bool (sameKs l l')) ∧ Below w.heap.size w w' := by
  obtain ⟨a, cap, rfl⟩ := owns_len h
  obtain ⟨a', cap', rfl⟩ := owns_len h'
  by_cases hn : l.length = l'.length
  · obtain ⟨n, hn1⟩ : ∃ n, l.length = n := ⟨_, rfl⟩
    have hn2 : l'.length = n := by omega
    rw [hn1] at hl
    have HC : Hid (RowK w base (.slice a n cap) l ∧ RowK w base' (.slice a' n cap') l' ∧ l.length = n ∧ l'.length = n) := ⟨by rw [← hn1]; exact h, by rw [← hn2]; exact h', hn1, hn2⟩
    rw [hn1, hn2]
    clear h h' hn hn1 hn2 hl'
    go_enter Try.func25, Try.ntmps25
    go_wp2
    go_loopw [5] (fun i wr => ∃ k : Nat, k ≤ n ∧ i = .int .i64 k ∧ l.take k = l'.take k ∧ Below w.heap.size w wr) (fun i _ => n - (intOf i).toNat)
    case atStart => exact ⟨0, Nat.zero_le _, rfl, rfl, Below.refl _ _⟩
    case round =>
      obtain ⟨k, hk, rfl, ht, hb⟩ := hrel
      by_cases hlt : k < n
      · obtain ⟨e, he⟩ : ∃ x, l[k]? = some x := ⟨_, List.getElem?_eq_getElem (by rw [HC.out.2.2.1]; exact hlt)⟩
        obtain ⟨f, hf⟩ : ∃ x, l'[k]? = some x := ⟨_, List.getElem?_eq_getElem (by rw [HC.out.2.2.2]; exact hlt)⟩
        obtain ⟨g, rfl, -, -, x0, x1, -⟩ := (HC.out.1.below hb).key he
        obtain ⟨g', rfl, -, -, y0, y1, -⟩ := (HC.out.2.1.below hb).key hf
        have hki : (k : Int) < (n : Int) := by omega
        by_cases hxx : e = f
        · have HT : Hid (l.take (k + 1) = l'.take (k + 1)) := take_snocK ht he (hxx ▸ hf)
          subst hxx
          clear he hf ht
          go_upto_region 6 with fail
          go_quiet (fail)
          go_wp2
          exact ⟨⟨k + 1, by omega, by simp, HT.out, below_drewN hb _⟩, by simp [intOf]; omega⟩
        · have HE : Hid (sameKs l l' = false) := sameKs_no (by rintro rfl; rw [he] at hf; exact hxx (Option.some.inj hf))
          have hne : decide (e.d = f.d ∧ e.nm = f.nm) = false := decide_eq_false (fun h => hxx (by cases e; cases f; simp only at h; rw [h.1, h.2]))
          clear he hf ht hxx
          go_upto_region 6 with fail
          go_quiet (fail)
          go_wp2
          go_ret
          exact ⟨by rw [HE.out]; rfl, below_drewN hb _⟩
      · have hkl : k = n := by omega
        subst hkl
        have HE : Hid (sameKs l l' = true) := (sameKs_iff l l').2 (take_eqK ht HC.out.2.2.1.symm HC.out.2.2.2.symm)
        clear ht
        go_wp2
        go_ret
        exact ⟨by rw [HE.out]; rfl, hb⟩
  · have HE : Hid (sameKs l l' = false) := sameKs_no (by rintro rfl; exact hn rfl)
    have hne : ((l.length : Int) != (l'.length : Int)) = true := by simp; omega
    clear h h'
    go_enter Try.func25, Try.ntmps25
    go_wp2
    go_ret
    exact ⟨by rw [HE.out]; rfl, Below.refl _ _⟩
end
end Go.Proofs.Ytekonakanieeaaa
