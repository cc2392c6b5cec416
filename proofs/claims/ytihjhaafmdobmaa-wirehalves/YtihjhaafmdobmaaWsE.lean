/- Decode. -/
import Derived.Test.YtihjhaafmdobmaaWsD
namespace Go.Proofs.Ytihjhaafmdobmaa
open Go.RowKit Go.Lib
attribute [local go_sem high] run_store_complex

theorem ret_msg2 {fn : Func} {p u : Tmp} (h : fn.results = #[.cell p 58, .tmp u]) (tmps : Array Value) (w : World) (g : Nat) {t : TypeId} {cs : Array Value} {fr : Nat × Nat} (hp : tmps.getD p undef = .pointer (some ⟨g, 0, none⟩)) (hg : w.heap[g]? = some (.cells cs t fr)) (hs : cs.size = 16) :
    (results fn tmps).run Try.prog w = .ok (.tuple #[.agg cs, tmps.getD u undef]) w := by
  rw [results_cell_tmp h, hp]
  simp [asAddr, run_loadVar_row w g t 58 _ fr _ hg Try.underlying58 rfl (by rw [hs]; exact Try.sizeMsg), Result.andThen]
/-- what Decode answers -/
def DecR (l : List Int) (w w' : World) (e : Ending) : Prop :=
  (∃ m ve vk, msgOk m ∧ msgB m = l ∧ e = .returned (.tuple #[.agg (MsV m ve vk).arr, .int .i64 0]) ∧ Row7 w' w.heap.size ve m.es ∧ RowK w' w.heap.size vk m.ks ∧ Below w.heap.size w w') ∨
  ((∀ m, msgOk m → msgB m ≠ l) ∧ e = .returned (.tuple #[.agg #[.int .i64 0, .int .i64 0, .int .i64 0, .int .i64 0, .complex .f64 0 0, .int .i64 0, .int .i64 0, .int .i64 0, .int .i64 0, .string ⟨#[]⟩, .int .i64 0, .string ⟨#[]⟩, .int .i64 0, .string ⟨#[]⟩, .slice none 0 0, .slice none 0 0], .int .i64 50]) ∧ Below w.heap.size w w')
theorem new_reader {w W W2 : World} {v : Value} {l : List Int} (hr : RC w v l) (hl : Byt l) (hlim : l.length ≤ 140737488355328) (hb : Below w.heap.size w W) (h2 : W.alloc (.cells #[v, .int .i64 0, .bool false] 120) = W2) : Rg W2 W.heap.size v l (some l) := by
  have hb2 := boxB h2
  refine ⟨0, false, hb2.1, .inr ⟨rfl, rfl, Nat.zero_le _⟩, (hr.below hb).below hb2.2, ?_, hl, hlim⟩
  rintro g off cap n rfl h0
  obtain ⟨a, c, e, _, hc⟩ := hr
  cases e
  rcases hc with hc | ⟨g', off', e', hg, _⟩
  · exact absurd hc h0
  · cases e'
    have := hb.size
    omega
set_option maxRecDepth 20000 in
set_option maxHeartbeats 16000000 in
theorem decode_p1 (v : Value) (l : List Int) (w : World) (hr : RC w v l) (hl : Byt l) (hlim : l.length ≤ 140737488355328) (hdn : doneB (msgP (some l)).2 = false) : Calls Try.prog 29 #[v] w fun e w' => DecR l w w' e := by
  obtain ⟨ad, cap, rfl, _, _⟩ := id hr
  obtain ⟨W, hW⟩ : ∃ W, w.alloc (.cells #[.int .i64 0, .int .i64 0, .int .i64 0, .int .i64 0, .complex .f64 0 0, .int .i64 0, .int .i64 0, .int .i64 0, .int .i64 0, .string ⟨#[]⟩, .int .i64 0, .string ⟨#[]⟩, .int .i64 0, .string ⟨#[]⟩, .slice none 0 0, .slice none 0 0] 58) = W := ⟨_, rfl⟩
  obtain ⟨W2, hW2⟩ : ∃ W2, W.alloc (.cells #[.slice ad l.length cap, .int .i64 0, .bool false] 120) = W2 := ⟨_, rfl⟩
  have HW2 : Hid (W.alloc (.cells #[.slice ad l.length cap, .int .i64 0, .bool false] 120) = W2) := hW2
  have hb := boxB hW
  have hb2 := boxB hW2
  have hg := new_reader hr hl hlim hb.2 hW2
  have HG : Hid (Rg W2 W.heap.size (.slice ad l.length cap) l (some l) ∧ Below w.heap.size w W2 ∧ W2.heap[w.heap.size]? = some (.cells #[.int .i64 0, .int .i64 0, .int .i64 0, .int .i64 0, .complex .f64 0 0, .int .i64 0, .int .i64 0, .int .i64 0, .int .i64 0, .string ⟨#[]⟩, .int .i64 0, .string ⟨#[]⟩, .int .i64 0, .string ⟨#[]⟩, .slice none 0 0, .slice none 0 0] 58 (0, 0)) ∧ w.heap.size < W.heap.size) := ⟨hg, chainB hb.2 hb2.2, hkeep hb.1 hb2.2, (Array.getElem?_eq_some_iff.1 hb.1).1⟩
  have HMs : Hid (Calls Try.prog 63 #[.pointer (some ⟨W.heap.size, 0, none⟩)] W2 fun e w' => ∃ ve vk, e = .returned (.agg (MsV (msgP (some l)).1 ve vk).arr) ∧ Red W2 w' W.heap.size (.slice ad l.length cap) l (msgP (some l)).2 ∧ Row7 w' W2.heap.size ve (msgP (some l)).1.es ∧ RowK w' W2.heap.size vk (msgP (some l)).1.ks) := message_r hg
  obtain ⟨hm1, hm2⟩ := msgP_marks (Lft.of hl)
  have HYes : Hid (∀ m, msgOk m → msgB m = l → msgP (some l) = (m, some [])) := fun m hm e => by rw [← e]; have := msgP_back hm []; rw [List.append_nil] at this; exact this
  have HNo : Hid (doneB (msgP (some l)).2 = true → msgB (msgP (some l)).1 = l) := fun h => by
    have := msgP_forth hl (prod_eta _ ((doneB_iff _).1 h))
    rw [List.append_nil] at this
    exact this.symm
  obtain ⟨M, hM⟩ : ∃ M, (msgP (some l)).1 = M := ⟨_, rfl⟩
  obtain ⟨s1, hs1⟩ : ∃ M, (msgP (some l)).2 = M := ⟨_, rfl⟩
  have HP : Hid (msgP (some l) = (M, s1)) := Prod.ext hM hs1
  rw [hM] at hm1 hm2
  rw [hM, hs1] at HNo HMs
  rw [hs1] at hdn
  have HDn : Hid (doneB s1 = false) := hdn
  clear hdn
  have HPl : Hid (∀ ve vk, plainB (MsV M ve vk) = true ↔ msgOk M) := fun ve vk => MsV_plain hm1 hm2
  clear hr hl hb hb2 hg hM hs1 hm1 hm2 hW2
  go_enter Try.func29, Try.ntmps29
  go_upto_region 1 with fail
  clear hW
  go_upto_region 2 with fail
  rw [HW2.out]
  go_upto_region 3 with (go_at_call 63; refine HMs.out.mono ?_; rintro e w3 ⟨ve, vk, rfl, hr3, he3, hk3⟩; obtain ⟨ae, ce, hve⟩ := owns_len he3; obtain ⟨ak, ck, hvk⟩ := owns_len hk3; subst hve hvk; have H3 : Hid (Red W2 w3 W.heap.size (.slice ad l.length cap) l s1 ∧ Row7 w3 W2.heap.size (.slice ae M.es.length ce) M.es ∧ RowK w3 W2.heap.size (.slice ak M.ks.length ck) M.ks) := ⟨hr3, he3, hk3⟩; clear hr3 he3 hk3; unfold MsV Ms.arr; simp only []; obtain ⟨W5, hW5⟩ : ∃ W5, w3.alloc (.cells #[.int .i64 0, .int .i64 0, .int .i64 0, .int .i64 0, .complex .f64 0 0, .int .i64 0, .int .i64 0, .int .i64 0, .int .i64 0, .string ⟨#[]⟩, .int .i64 0, .string ⟨#[]⟩, .int .i64 0, .string ⟨#[]⟩, .slice none 0 0, .slice none 0 0] 58) = W5 := ⟨_, rfl⟩; have hb5 := boxB hW5; have yf := free_of hb5.1; have y0 := cell_of hb5.1 0; have y1 := cell_of hb5.1 1; have y2 := cell_of hb5.1 2; have y3 := cell_of hb5.1 3; have y4 := cell_of hb5.1 4; have y5 := cell_of hb5.1 5; have y6 := cell_of hb5.1 6; have y7 := cell_of hb5.1 7; have y8 := cell_of hb5.1 8; have y9 := cell_of hb5.1 9; have y10 := cell_of hb5.1 10; have y11 := cell_of hb5.1 11; have y12 := cell_of hb5.1 12; have y13 := cell_of hb5.1 13; have y14 := cell_of hb5.1 14; have y15 := cell_of hb5.1 15; simp at y0 y1 y2 y3 y4 y5 y6 y7 y8 y9 y10 y11 y12 y13 y14 y15; have HW5 : Hid (w3.alloc (.cells #[.int .i64 0, .int .i64 0, .int .i64 0, .int .i64 0, .complex .f64 0 0, .int .i64 0, .int .i64 0, .int .i64 0, .int .i64 0, .string ⟨#[]⟩, .int .i64 0, .string ⟨#[]⟩, .int .i64 0, .string ⟨#[]⟩, .slice none 0 0, .slice none 0 0] 58) = W5) := hW5; clear hb5)
  obtain ⟨W6, hW6⟩ : ∃ x, ((((((((((((((((W5).setCell ⟨w3.heap.size, 0, none⟩ (.int .i64 M.kind)).setCell ⟨w3.heap.size, 1, none⟩ (.int .i64 M.client)).setCell ⟨w3.heap.size, 2, none⟩ (.int .i64 M.life)).setCell ⟨w3.heap.size, 3, none⟩ (.int .i64 M.seq)).setCell ⟨w3.heap.size, 4, none⟩ (.complex .f64 (floatOfInt .f64 M.ep) (floatOfInt .f64 M.nb))).setCell ⟨w3.heap.size, 5, none⟩ (.int .i64 M.vers)).setCell ⟨w3.heap.size, 6, none⟩ (.int .i64 M.err)).setCell ⟨w3.heap.size, 7, none⟩ (.int .i64 M.op.kind)).setCell ⟨w3.heap.size, 8, none⟩ (.int .i64 M.op.dir)).setCell ⟨w3.heap.size, 9, none⟩ (.string M.op.nm)).setCell ⟨w3.heap.size, 10, none⟩ (.int .i64 M.op.dst)).setCell ⟨w3.heap.size, 11, none⟩ (.string M.op.new)).setCell ⟨w3.heap.size, 12, none⟩ (.int .i64 M.op.mode)).setCell ⟨w3.heap.size, 13, none⟩ (.string M.op.tg)).setCell ⟨w3.heap.size, 14, none⟩ (.slice ae M.es.length ce)).setCell ⟨w3.heap.size, 15, none⟩ (.slice ak M.ks.length ck) = x := ⟨_, rfl⟩
  have hp6 : W6.heap[w3.heap.size]? = some (.cells #[.int .i64 M.kind, .int .i64 M.client, .int .i64 M.life, .int .i64 M.seq, .complex .f64 (floatOfInt .f64 M.ep) (floatOfInt .f64 M.nb), .int .i64 M.vers, .int .i64 M.err, .int .i64 M.op.kind, .int .i64 M.op.dir, .string M.op.nm, .int .i64 M.op.dst, .string M.op.new, .int .i64 M.op.mode, .string M.op.tg, .slice ae M.es.length ce, .slice ak M.ks.length ck] 58 (0, 0)) := by rw [← hW6]; exact putC_all (g := w3.heap.size) (xs := [.int .i64 M.kind, .int .i64 M.client, .int .i64 M.life, .int .i64 M.seq, .complex .f64 (floatOfInt .f64 M.ep) (floatOfInt .f64 M.nb), .int .i64 M.vers, .int .i64 M.err, .int .i64 M.op.kind, .int .i64 M.op.dir, .string M.op.nm, .int .i64 M.op.dst, .string M.op.new, .int .i64 M.op.mode, .string M.op.tg, .slice ae M.es.length ce, .slice ak M.ks.length ck]) (boxB HW5.out).1 rfl
  have ho6 : Only (· = w3.heap.size) W5 W6 := by rw [← hW6]; exact putC_only w3.heap.size [.int .i64 M.kind, .int .i64 M.client, .int .i64 M.life, .int .i64 M.seq, .complex .f64 (floatOfInt .f64 M.ep) (floatOfInt .f64 M.nb), .int .i64 M.vers, .int .i64 M.err, .int .i64 M.op.kind, .int .i64 M.op.dir, .string M.op.nm, .int .i64 M.op.dst, .string M.op.new, .int .i64 M.op.mode, .string M.op.tg, .slice ae M.es.length ce, .slice ak M.ks.length ck] 0 W5
  rw [hW6]
  have h23 : W2.heap.size ≤ w3.heap.size := H3.out.1.2.size
  have hr6 : Red W2 W6 W.heap.size (.slice ad l.length cap) l s1 := (H3.out.1.own HG.out.1 (Only.of (S := fun _ => False) (boxB HW5.out).2) (fun k hk => hk.elim)).own HG.out.1 ho6 (fun k hk => by omega)
  have hlt2 := HG.out.1.lt
  have hlt3 := HG.out.2.2.2
  have hz3 : w3.heap[w.heap.size]? = some (.cells #[.int .i64 0, .int .i64 0, .int .i64 0, .int .i64 0, .complex .f64 0 0, .int .i64 0, .int .i64 0, .int .i64 0, .int .i64 0, .string ⟨#[]⟩, .int .i64 0, .string ⟨#[]⟩, .int .i64 0, .string ⟨#[]⟩, .slice none 0 0, .slice none 0 0] 58 (0, 0)) := (H3.out.1.2.block _ (by omega) (by omega)).trans HG.out.2.2.1
  have hz6 : W6.heap[w.heap.size]? = some (.cells #[.int .i64 0, .int .i64 0, .int .i64 0, .int .i64 0, .complex .f64 0 0, .int .i64 0, .int .i64 0, .int .i64 0, .int .i64 0, .string ⟨#[]⟩, .int .i64 0, .string ⟨#[]⟩, .int .i64 0, .string ⟨#[]⟩, .slice none 0 0, .slice none 0 0] 58 (0, 0)) := (ho6.block _ (by have := (boxB HW5.out).2.size; omega) (by omega)).trans (hkeep hz3 (boxB HW5.out).2)
  have hbel : Below w.heap.size w W6 := hr6.2.below HG.out.2.1 HG.out.2.1.size (fun k hk => by omega)
  have he6 : Row7 W6 W2.heap.size (.slice ae M.es.length ce) M.es := row7_tag (H3.out.2.1.below (boxB HW5.out).2) ho6 (fun k e => by rw [e]; exact ⟨_, _, (boxB HW5.out).1⟩)
  have hk6 : RowK W6 W2.heap.size (.slice ak M.ks.length ck) M.ks := rowK_tag (H3.out.2.2.below (boxB HW5.out).2) ho6 (fun k e => by rw [e]; exact ⟨_, _, (boxB HW5.out).1⟩)
  have H6 : Hid (Red W2 W6 W.heap.size (.slice ad l.length cap) l s1 ∧ W6.heap[w3.heap.size]? = some (.cells #[.int .i64 M.kind, .int .i64 M.client, .int .i64 M.life, .int .i64 M.seq, .complex .f64 (floatOfInt .f64 M.ep) (floatOfInt .f64 M.nb), .int .i64 M.vers, .int .i64 M.err, .int .i64 M.op.kind, .int .i64 M.op.dir, .string M.op.nm, .int .i64 M.op.dst, .string M.op.new, .int .i64 M.op.mode, .string M.op.tg, .slice ae M.es.length ce, .slice ak M.ks.length ck] 58 (0, 0)) ∧ W6.heap[w.heap.size]? = some (.cells #[.int .i64 0, .int .i64 0, .int .i64 0, .int .i64 0, .complex .f64 0 0, .int .i64 0, .int .i64 0, .int .i64 0, .int .i64 0, .string ⟨#[]⟩, .int .i64 0, .string ⟨#[]⟩, .int .i64 0, .string ⟨#[]⟩, .slice none 0 0, .slice none 0 0] 58 (0, 0)) ∧ Row7 W6 W2.heap.size (.slice ae M.es.length ce) M.es ∧ RowK W6 W2.heap.size (.slice ak M.ks.length ck) M.ks ∧ Below w.heap.size w W6) := ⟨hr6, hp6, hz6, he6, hk6, hbel⟩
  have HD : Hid (Calls Try.prog 64 #[.pointer (some ⟨W.heap.size, 0, none⟩)] W6 fun e w' => e = .returned (.bool (doneB s1)) ∧ Below W6.heap.size W6 w') := done_r hr6.1
  clear hW5 HW5 hW6 hp6 ho6 hr6 hz3 hz6 hbel he6 hk6 yf y0 y1 y2 y3 y4 y5 y6 y7 y8 y9 y10 y11 y12 y13 y14 y15 H3 HMs HW2
  have HNone : Hid (∀ m, msgOk m → msgB m ≠ l) := fun m hm e => by
    have h1 := HYes.out m hm e
    rw [HP.out] at h1
    have h2 := (Prod.mk.inj h1).2
    have h3 := HDn.out
    rw [h2] at h3
    cases h3
  rw [HDn.out] at HD
  go_wp2_with (go_at_call 64; refine HD.out.mono ?_; rintro e w7 ⟨rfl, hb7⟩; have hres := hkeep H6.out.2.2.1 hb7; have HBl : Hid (Below w.heap.size w w7) := chainB H6.out.2.2.2.2.2 hb7; have HRes : Hid (w7.heap[w.heap.size]? = some (.cells #[.int .i64 0, .int .i64 0, .int .i64 0, .int .i64 0, .complex .f64 0 0, .int .i64 0, .int .i64 0, .int .i64 0, .int .i64 0, .string ⟨#[]⟩, .int .i64 0, .string ⟨#[]⟩, .int .i64 0, .string ⟨#[]⟩, .slice none 0 0, .slice none 0 0] 58 (0, 0))) := hres; have qf := free_of hres; have q0 := cell_of hres 0; have q1 := cell_of hres 1; have q2 := cell_of hres 2; have q3 := cell_of hres 3; have q4 := cell_of hres 4; have q5 := cell_of hres 5; have q6 := cell_of hres 6; have q7 := cell_of hres 7; have q8 := cell_of hres 8; have q9 := cell_of hres 9; have q10 := cell_of hres 10; have q11 := cell_of hres 11; have q12 := cell_of hres 12; have q13 := cell_of hres 13; have q14 := cell_of hres 14; have q15 := cell_of hres 15; simp at q0 q1 q2 q3 q4 q5 q6 q7 q8 q9 q10 q11 q12 q13 q14 q15; clear hres)
  have hfin := putC_all (g := w.heap.size) (xs := [.int .i64 0, .int .i64 0, .int .i64 0, .int .i64 0, .complex .f64 0 0, .int .i64 0, .int .i64 0, .int .i64 0, .int .i64 0, .string ⟨#[]⟩, .int .i64 0, .string ⟨#[]⟩, .int .i64 0, .string ⟨#[]⟩, .slice none 0 0, .slice none 0 0]) HRes.out rfl
  have hon := putC_only w.heap.size [.int .i64 0, .int .i64 0, .int .i64 0, .int .i64 0, .complex .f64 0 0, .int .i64 0, .int .i64 0, .int .i64 0, .int .i64 0, .string ⟨#[]⟩, .int .i64 0, .string ⟨#[]⟩, .int .i64 0, .string ⟨#[]⟩, .slice none 0 0, .slice none 0 0] 0 w7
  refine bodyPost_ret (ret_msg2 rfl _ _ w.heap.size rfl hfin rfl) rfl ?_
  exact .inr ⟨HNone.out, rfl, hon.below HBl.out HBl.out.size (fun k hk => by omega)⟩
end Go.Proofs.Ytihjhaafmdobmaa
