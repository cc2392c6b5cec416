/- Decode. -/
import Derived.Test.YtekonakanieeaaaJWDes20
import Derived.Test.YtekonakanieeaaaJWDes15
namespace Go.Proofs.Ytekonakanieeaaa
section
open Go.RowKit Go.Lib
attribute [local go_sem high] run_store_complex

theorem ret_msg2 {fn : Func} {p u : Tmp} (h : fn.results = #[.cell p 30, .tmp u]) (tmps : Array Value) (w : World) (g : Nat) {t : TypeId} {cs : Array Value} {fr : Nat × Nat} (hp : tmps.getD p undef = .pointer (some ⟨g, 0, none⟩)) (hg : w.heap[g]? = some (.cells cs t fr)) (hs : cs.size = 16) :
    (results fn tmps).run Try.prog w = .ok (.tuple #[.agg cs, tmps.getD u undef]) w := by
  rw [results_cell_tmp h, hp]
  simp [asAddr, run_loadVar_row w g t 30 _ fr _ hg Try.underlying30 rfl (by rw [hs]; exact Try.sizeMsg), Result.andThen]
/-- what Decode answers -/
def DecR (l : List Int) (w w' : World) (e : Ending) : Prop :=
  (∃ m ve vk, msgOk m ∧ msgB m = l ∧ e = .returned (.tuple #[.agg (MsV m ve vk).arr, .int .i64 0]) ∧ Row7 w' w.heap.size ve m.es ∧ RowK w' w.heap.size vk m.ks ∧ Below w.heap.size w w') ∨
  ((∀ m, msgOk m → msgB m ≠ l) ∧ e = .returned (.tuple #[.agg #[.int .i64 0, .int .i64 0, .int .i64 0, .int .i64 0, .complex .f64 0 0, .int .i64 0, .int .i64 0, .int .i64 0, .int .i64 0, .string ⟨#[]⟩, .int .i64 0, .string ⟨#[]⟩, .int .i64 0, .string ⟨#[]⟩, .slice none 0 0, .slice none 0 0], .int .i64 50]) ∧ Below w.heap.size w w')
theorem new_reader {w W W2 : World} {v : Value} {l : List Int} (hr : RC w v l) (hl : Byt l) (hlim : l.length ≤ 140737488355328) (hb : Below w.heap.size w W) (h2 : W.alloc (.cells #[v, .int .i64 0, .bool false] 65) = W2) : Rg W2 W.heap.size v l (some l) := by
  have hb2 := boxB h2
  refine ⟨0, false, hb2.1, .inr ⟨rfl, rfl, Nat.zero_le _⟩, (hr.below hb).below hb2.2, ?_, hl, hlim⟩
  rintro g off cap n rfl h0
  obtain ⟨a, c, e, _, hc⟩ := hr
  cases e
  rcases hc with hc | ⟨g', off', e', hg, _⟩
  · exact absurd hc h0
  · cases e'
    have := hb.size
    omega
set_option maxRecDepth 20000 in
set_option maxHeartbeats 16000000 in
theorem decode_p1 (v : Value) (l : List Int) (w : World) (hr : RC w v l) (hl : Byt l) (hlim : l.length ≤ 140737488355328) (hdn : doneB (msgP (some l)).2 = false) : Calls Try.prog 6 #[v] w fun e w' => DecR l w w' e := by
  obtain ⟨ad, cap, rfl, _, _⟩ := id hr
  obtain ⟨W, hW⟩ : ∃ W, w.alloc (.cells #[.int .i64 0, .int .i64 0, .int .i64 0, .int .i64 0, .complex .f64 0 0, .int .i64 0, .int .i64 0, .int .i64 0, .int .i64 0, .string ⟨#[]⟩, .int .i64 0, .string ⟨#[]⟩, .int .i64 0, .string ⟨#[]⟩, .slice none 0 0, .slice none 0 0] 30) = W := ⟨_, rfl⟩
  obtain ⟨W2, hW2⟩ : ∃ W2, W.alloc (.cells #[.slice ad l.length cap, .int .i64 0, .bool false] 65) = W2 := ⟨_, rfl⟩
  have HW2 : Hid (W.alloc (.cells #[.slice ad l.length cap, .int .i64 0, .bool false] 65) = W2) := hW2
  have hb := boxB hW
  have hb2 := boxB hW2
  have hg := new_reader hr hl hlim hb.2 hW2
  have HG : Hid (Rg W2 W.heap.size (.slice ad l.length cap) l (some l) ∧ Below w.heap.size w W2 ∧ W2.heap[w.heap.size]? = some (.cells #[.int .i64 0, .int .i64 0, .int .i64 0, .int .i64 0, .complex .f64 0 0, .int .i64 0, .int .i64 0, .int .i64 0, .int .i64 0, .string ⟨#[]⟩, .int .i64 0, .string ⟨#[]⟩, .int .i64 0, .string ⟨#[]⟩, .slice none 0 0, .slice none 0 0] 30 (0, 0)) ∧ w.heap.size < W.heap.size) := ⟨hg, chainB hb.2 hb2.2, hkeep hb.1 hb2.2, (Array.getElem?_eq_some_iff.1 hb.1).1⟩
  have HMs : Hid (Calls Try.prog 19 #[.pointer (some ⟨W.heap.size, 0, none⟩)] W2 fun e w' => ∃ ve vk, e = .returned (.agg (MsV (msgP (some l)).1 ve vk).arr) ∧ Red W2 w' W.heap.size (.slice ad l.length cap) l (msgP (some l)).2 ∧ Row7 w' W2.heap.size ve (msgP (some l)).1.es ∧ RowK w' W2.heap.size vk (msgP (some l)).1.ks) := message_r hg
  obtain ⟨hm1, hm2⟩ := msgP_marks (Lft.of hl)
  have HYes : Hid (∀ m, msgOk m → msgB m = l → msgP (some l) = (m, some [])) := fun m hm e => by rw [← e]; have := msgP_back hm []; rw [List.append_nil] at this; exact this
  have HNo : Hid (doneB (msgP (some l)).2 = true → msgB (msgP (some l)).1 = l) := fun h => by
    have := msgP_forth hl (prod_eta _ ((doneB_iff _).1 h))
    rw [List.append_nil] at this
    exact this.symm
  obtain ⟨M, hM⟩ : ∃ M, (msgP (some l)).1 = M := ⟨_, rfl⟩
  obtain ⟨s1, hs1⟩ : ∃ M, (msgP (some l)).2 = M := ⟨_, rfl⟩
  have HP : Hid (msgP (some l) = (M, s1)) := Prod.ext hM hs1
  rw [hM] at hm1 hm2
  rw [hM, hs1] at HNo HMs
  rw [hs1] at hdn
  have HDn : Hid (doneB s1 = false) := hdn
  clear hdn
  have HPl : Hid (∀ ve vk, plainB (MsV M ve vk) = true ↔ msgOk M) := fun ve vk => MsV_plain hm1 hm2
  clear hr hl hb hb2 hg hM hs1 hm1 hm2 hW2
  go_enter Try.func6, Try.ntmps6
  go_upto_region 1 with fail
  clear hW
  go_upto_region 2 with fail
  rw [HW2.out]
  go_upto_region 3 with (go_at_call 19; refine HMs.out.mono ?_; rintro e w3 ⟨ve, vk, rfl, hr3, he3, hk3⟩; obtain ⟨ae, ce, hve⟩ := owns_len he3; obtain ⟨ak, ck, hvk⟩ := owns_len hk3; subst hve hvk; have H3 : Hid (Red W2 w3 W.heap.size (.slice ad l.length cap) l s1 ∧ Row7 w3 W2.heap.size (.slice ae M.es.length ce) M.es ∧ RowK w3 W2.heap.size (.slice ak M.ks.length ck) M.ks) := ⟨hr3, he3, hk3⟩; clear hr3 he3 hk3; unfold MsV Ms.arr; simp only []; obtain ⟨W5, hW5⟩ : ∃ W5, w3.alloc (.cells #[.int .i64 0, .int .i64 0, .int .i64 0, .int .i64 0, .complex .f64 0 0, .int .i64 0, .int .i64 0, .int .i64 0, .int .i64 0, .string ⟨#[]⟩, .int .i64 0, .string ⟨#[]⟩, .int .i64 0, .string ⟨#[]⟩, .slice none 0 0, .slice none 0 0] 30) = W5 := ⟨_, rfl⟩; have hb5 := boxB hW5; have yf := free_of hb5.1; have y0 := cell_of hb5.1 0; have y1 := cell_of hb5.1 1; have y2 := cell_of hb5.1 2; have y3 := cell_of hb5.1 3; have y4 := cell_of hb5.1 4; have y5 := cell_of hb5.1 5; have y6 := cell_of hb5.1 6; have y7 := cell_of hb5.1 7; have y8 := cell_of hb5.1 8; have y9 := cell_of hb5.1 9; have y10 := cell_of hb5.1 10; have y11 := cell_of hb5.1 11; have y12 := cell_of hb5.1 12; have y13 := cell_of hb5.1 13; have y14 := cell_of hb5.1 14; have y15 := cell_of hb5.1 15; simp at y0 y1 y2 y3 y4 y5 y6 y7 y8 y9 y10 y11 y12 y13 y14 y15; have HW5 : Hid (w3.alloc (.cells #[.int .i64 0, .int .i64 0, .int .i64 0, .int .i64 0, .complex .f64 0 0, .int .i64 0, .int .i64 0, .int .i64 0, .int .i64 0, .string ⟨#[]⟩, .int .i64 0, .string ⟨#[]⟩, .int .i64 0, .string ⟨#[]⟩, .slice none 0 0, .slice none 0 0] 30) = W5) := hW5; clear hb5)
  obtain ⟨W6, hW6⟩ : ∃ x, ((((((((((((((((W5).setCell ⟨w3.heap.size, 0, none⟩ (.int .i64 M.kind)).setCell ⟨w3.heap.size, 1, none⟩ (.int .i64 M.client)).setCell ⟨w3.heap.size, 2, none⟩ (.int .i64 M.life)).setCell ⟨w3.heap.size, 3, none⟩ (.int .i64 M.seq)).setCell ⟨w3.heap.size, 4, none⟩ (.complex .f64 (floatOfInt .f64 M.ep) (floatOfInt .f64 M.nb))).setCell ⟨w3.heap.size, 5, none⟩ (.int .i64 M.vers)).setCell ⟨w3.heap.size, 6, none⟩ (.int .i64 M.err)).setCell ⟨w3.heap.size, 7, none⟩ (.int .i64 M.op.kind)).setCell ⟨w3.heap.size, 8, none⟩ (.int .i64 M.op.dir)).setCell ⟨w3.heap.size, 9, none⟩ (.string M.op.nm)).setCell ⟨w3.heap.size, 10, none⟩ (.int .i64 M.op.dst)).setCell ⟨w3.heap.size, 11, none⟩ (.string M.op.new)).setCell ⟨w3.heap.size, 12, none⟩ (.int .i64 M.op.mode)).setCell ⟨w3.heap.size, 13, none⟩ (.string M.op.tg)).setCell ⟨w3.heap.size, 14, none⟩ (.slice ae M.es.length ce)).setCell ⟨w3.heap.size, 15, none⟩ (.slice ak M.ks.length ck) = x := ⟨_, rfl⟩
  have hp6 : W6.heap[w3.heap.size]? = some (.cells #[.int .i64 M.kind, .int .i64 M.client, .int .i64 M.life, .int .i64 M.seq, .complex .f64 (floatOfInt .f64 M.ep) (floatOfInt .f64 M.nb), .int .i64 M.vers, .int .i64 M.err, .int .i64 M.op.kind, .int .i64 M.op.dir, .string M.op.nm, .int .i64 M.op.dst, .string M.op.new, .int .i64 M.op.mode, .string M.op.tg, .slice ae M.es.length ce, .slice ak M.ks.length ck] 30 (0, 0)) := by rw [← hW6]; exact putC_all (g := w3.heap.size) (xs := [.int .i64 M.kind, .int .i64 M.client, .int .i64 M.life, .int .i64 M.seq, .complex .f64 (floatOfInt .f64 M.ep) (floatOfInt .f64 M.nb), .int .i64 M.vers, .int .i64 M.err, .int .i64 M.op.kind, .int .i64 M.op.dir, .string M.op.nm, .int .i64 M.op.dst, .string M.op.new, .int .i64 M.op.mode, .string M.op.tg, .slice ae M.es.length ce, .slice ak M.ks.length ck]) (boxB HW5.out).1 rfl
  have ho6 : Only (· = w3.heap.size) W5 W6 := by rw [← hW6]; exact putC_only w3.heap.size [.int .i64 M.kind, .int .i64 M.client, .int .i64 M.life, .int .i64 M.seq, .complex .f64 (floatOfInt .f64 M.ep) (floatOfInt .f64 M.nb), .int .i64 M.vers, .int .i64 M.err, .int .i64 M.op.kind, .int .i64 M.op.dir, .string M.op.nm, .int .i64 M.op.dst, .string M.op.new, .int .i64 M.op.mode, .string M.op.tg, .slice ae M.es.length ce, .slice ak M.ks.length ck] 0 W5
  rw [hW6]
  have h23 : W2.heap.size ≤ w3.heap.size := H3.out.1.2.size
  have hr6 : Red W2 W6 W.heap.size (.slice ad l.length cap) l s1 := (H3.out.1.own HG.out.1 (Only.of (S := fun _ => False) (boxB HW5.out).2) (fun k hk => hk.elim)).own HG.out.1 ho6 (fun k hk => by omega)
  have hlt2 := HG.out.1.lt
  have hlt3 := HG.out.2.2.2
  have hz3 : w3.heap[w.heap.size]? = some (.cells #[.int .i64 0, .int .i64 0, .int .i64 0, .int .i64 0, .complex .f64 0 0, .int .i64 0, .int .i64 0, .int .i64 0, .int .i64 0, .string ⟨#[]⟩, .int .i64 0, .string ⟨#[]⟩, .int .i64 0, .string ⟨#[]⟩, .slice none 0 0, .slice none 0 0] 30 (0, 0)) := (H3.out.1.2.block _ (by omega) (by omega)).trans HG.out.2.2.1
  have hz6 : W6.heap[w.heap.size]? = some (.cells #[.int .i64 0, .int .i64 0, .int .i64 0, .int .i64 0, .complex .f64 0 0, .int .i64 0, .int .i64 0, .int .i64 0, .int .i64 0, .string ⟨#[]⟩, .int .i64 0, .string ⟨#[]⟩, .int .i64 0, .string ⟨#[]⟩, .slice none 0 0, .slice none 0 0] 30 (0, 0)) := (ho6.block _ (by have := (boxB HW5.out).2.size; omega) (by omega)).trans (hkeep hz3 (boxB HW5.out).2)
  have hbel : Below w.heap.size w W6 := hr6.2.below HG.out.2.1 HG.out.2.1.size (fun k hk => by omega)
  have he6 : Row7 W6 W2.heap.size (.slice ae M.es.length ce) M.es := row7_tag (H3.out.2.1.below (boxB HW5.out).2) ho6 (fun k e => by rw [e]; exact ⟨_, _, (boxB HW5.out).1⟩)
  have hk6 : RowK W6 W2.heap.size (.slice ak M.ks.length ck) M.ks := rowK_tag (H3.out.2.2.below (boxB HW5.out).2) ho6 (fun k e => by rw [e]; exact ⟨_, _, (boxB HW5.out).1⟩)
  have H6 : Hid (Red W2 W6 W.heap.size (.slice ad l.length cap) l s1 ∧ W6.heap[w3.heap.size]? = some (.cells #[.int .i64 M.kind, .int .i64 M.client, .int .i64 M.life, .int .i64 M.seq, .complex .f64 (floatOfInt .f64 M.ep) (floatOfInt .f64 M.nb), .int .i64 M.vers, .int .i64 M.err, .int .i64 M.op.kind, .int .i64 M.op.dir, .string M.op.nm, .int .i64 M.op.dst, .string M.op.new, .int .i64 M.op.mode, .string M.op.tg, .slice ae M.es.length ce, .slice ak M.ks.length ck] 30 (0, 0)) ∧ W6.heap[w.heap.size]? = some (.cells #[.int .i64 0, .int .i64 0, .int .i64 0, .int .i64 0, .complex .f64 0 0, .int .i64 0, .int .i64 0, .int .i64 0, .int .i64 0, .string ⟨#[]⟩, .int .i64 0, .string ⟨#[]⟩, .int .i64 0, .string ⟨#[]⟩, .slice none 0 0, .slice none 0 0] 30 (0, 0)) ∧ Row7 W6 W2.heap.size (.slice ae M.es.length ce) M.es ∧ RowK W6 W2.heap.size (.slice ak M.ks.length ck) M.ks ∧ Below w.heap.size w W6) := ⟨hr6, hp6, hz6, he6, hk6, hbel⟩
  have HD : Hid (Calls Try.prog 20 #[.pointer (some ⟨W.heap.size, 0, none⟩)] W6 fun e w' => e = .returned (.bool (doneB s1)) ∧ Below W6.heap.size W6 w') := done_r hr6.1
  clear hW5 HW5 hW6 hp6 ho6 hr6 hz3 hz6 hbel he6 hk6 yf y0 y1 y2 y3 y4 y5 y6 y7 y8 y9 y10 y11 y12 y13 y14 y15 H3 HMs HW2
  have HNone : Hid (∀ m, msgOk m → msgB m ≠ l) := fun m hm e => by
    have h1 := HYes.out m hm e
    rw [HP.out] at h1
    have h2 := (Prod.mk.inj h1).2
    have h3 := HDn.out
    rw [h2] at h3
    cases h3
  rw [HDn.out] at HD
  go_wp2_with (go_at_call 20; refine HD.out.mono ?_; rintro e w7 ⟨rfl, hb7⟩; have hres := hkeep H6.out.2.2.1 hb7; have HBl : Hid (Below w.heap.size w w7) := chainB H6.out.2.2.2.2.2 hb7; have HRes : Hid (w7.heap[w.heap.size]? = some (.cells #[.int .i64 0, .int .i64 0, .int .i64 0, .int .i64 0, .complex .f64 0 0, .int .i64 0, .int .i64 0, .int .i64 0, .int .i64 0, .string ⟨#[]⟩, .int .i64 0, .string ⟨#[]⟩, .int .i64 0, .string ⟨#[]⟩, .slice none 0 0, .slice none 0 0] 30 (0, 0))) := hres; have qf := free_of hres; have q0 := cell_of hres 0; have q1 := cell_of hres 1; have q2 := cell_of hres 2; have q3 := cell_of hres 3; have q4 := cell_of hres 4; have q5 := cell_of hres 5; have q6 := cell_of hres 6; have q7 := cell_of hres 7; have q8 := cell_of hres 8; have q9 := cell_of hres 9; have q10 := cell_of hres 10; have q11 := cell_of hres 11; have q12 := cell_of hres 12; have q13 := cell_of hres 13; have q14 := cell_of hres 14; have q15 := cell_of hres 15; simp at q0 q1 q2 q3 q4 q5 q6 q7 q8 q9 q10 q11 q12 q13 q14 q15; clear hres)
  have hfin := putC_all (g := w.heap.size) (xs := [.int .i64 0, .int .i64 0, .int .i64 0, .int .i64 0, .complex .f64 0 0, .int .i64 0, .int .i64 0, .int .i64 0, .int .i64 0, .string ⟨#[]⟩, .int .i64 0, .string ⟨#[]⟩, .int .i64 0, .string ⟨#[]⟩, .slice none 0 0, .slice none 0 0]) HRes.out rfl
  have hon := putC_only w.heap.size [.int .i64 0, .int .i64 0, .int .i64 0, .int .i64 0, .complex .f64 0 0, .int .i64 0, .int .i64 0, .int .i64 0, .int .i64 0, .string ⟨#[]⟩, .int .i64 0, .string ⟨#[]⟩, .int .i64 0, .string ⟨#[]⟩, .slice none 0 0, .slice none 0 0] 0 w7
  refine bodyPost_ret (ret_msg2 rfl _ _ w.heap.size rfl hfin rfl) rfl ?_
  exact .inr ⟨HNone.out, rfl, hon.below HBl.out HBl.out.size (fun k hk => by omega)⟩
end
section
open Go.RowKit Go.Lib
variable {Bq : Nat}

theorem pow_one_le : ∀ k : Nat, (1 : Int) ≤ 128 ^ k
  | 0 => by decide
  | k + 1 => by have := pow_one_le k; rw [Int.pow_succ]; omega
theorem numF_le : ∀ (k : Nat) (u v : Int) (s : St), 0 ≤ u → 0 ≤ v → (numF k u v s).1 ≤ v + u * (128 ^ k - 1)
  | 0, u, v, s, hu, hv => by unfold numF; simp; omega
  | k + 1, u, v, s, hu, hv => by
    have hp : (1 : Int) ≤ 128 ^ k := pow_one_le k
    unfold numF
    split
    · have : 0 ≤ u * (128 ^ (k + 1) - 1) := Int.mul_nonneg hu (by rw [Int.pow_succ]; omega)
      show (0 : Int) ≤ _
      omega
    · rename_i x l _
      have h1 : 0 ≤ x % 128 := by omega
      have h2 : x % 128 ≤ 127 := by omega
      have h3 : x % 128 * u ≤ 127 * u := Int.mul_le_mul_of_nonneg_right h2 hu
      have h4 : 0 ≤ x % 128 * u := Int.mul_nonneg h1 hu
      have e : u * (128 ^ (k + 1) - 1) = 127 * u + u * 128 * (128 ^ k - 1) := by rw [Int.pow_succ, Int.mul_sub, Int.mul_sub, Int.mul_comm (128 ^ k) 128, ← Int.mul_assoc]; omega
      have h5 : 0 ≤ u * 128 * (128 ^ k - 1) := Int.mul_nonneg (by omega) (by omega)
      split
      · show v + x % 128 * u ≤ _
        omega
      · have := numF_le k (u * 128) (v + x % 128 * u) (some l) (by omega) (by omega)
        omega
theorem num6_le (s : St) : 0 ≤ (numF 6 1 0 s).1 ∧ (numF 6 1 0 s).1 ≤ 4398046511103 := by
  refine ⟨numF_nonneg 6 1 0 s (by decide) (by decide), ?_⟩
  have := numF_le 6 1 0 s (by decide) (by decide)
  have e : (0 : Int) + 1 * (128 ^ 6 - 1) = 4398046511103 := by decide
  rw [e] at this
  exact this
/-- a list, as the chapter's own reading does it: at most so many more -/
def rdF {α : Type} (f : St → α × St) : Nat → Int → St → List α × St
  | 0, _, s => ([], s)
  | n + 1, c, s => if 0 < c ∧ s.isSome then ((f s).1 :: (rdF f n (c - 1) (f s).2).1, (rdF f n (c - 1) (f s).2).2) else ([], s)
theorem rdF_back {α : Type} {f : St → α × St} {B : α → List Int} {P : α → Prop} (hf : ∀ x r, P x → f (some (B x ++ r)) = (x, some r)) : ∀ (xs : List α) (n : Nat) (r : List Int), xs.length ≤ n → (∀ x ∈ xs, P x) → rdF f n xs.length (some (xs.flatMap B ++ r)) = (xs, some r)
  | [], 0, r, _, _ => rfl
  | [], n + 1, r, _, _ => by unfold rdF; simp
  | x :: xs, 0, r, h, _ => by simp at h
  | x :: xs, n + 1, r, h, hp => by
    unfold rdF
    rw [if_pos ⟨by simp, rfl⟩, List.flatMap_cons, List.append_assoc, hf x _ (hp x (by simp))]
    have e : ((x :: xs).length : Int) - 1 = (xs.length : Int) := by simp
    rw [e]
    simp only []
    rw [rdF_back hf xs n r (by simpa using h) (fun y hy => hp y (List.mem_cons_of_mem _ hy))]
theorem keyF_back (k : Ky) (r : List Int) (h : keyOk k) : keyF (some (keyB k ++ r)) = (k, some r) := by
  obtain ⟨d, nm⟩ := k
  unfold keyF keyB
  rw [List.append_assoc, num6_i _ _ h.1]
  simp only []
  rw [strF_back _ _ h.2]
def bodyF (k : Int) (s : St) : (Opn × List En × List Ky) × St :=
  if k = 1 then ((((opF s).1, [], []) : Opn × List En × List Ky), (opF s).2)
  else if k = 2 then ((zeroOp, (rdF entF 49 (numF 6 1 0 s).1 (numF 6 1 0 s).2).1, []), (rdF entF 49 (numF 6 1 0 s).1 (numF 6 1 0 s).2).2)
  else if k = 3 then ((zeroOp, [], (rdF keyF 49 (numF 6 1 0 s).1 (numF 6 1 0 s).2).1), (rdF keyF 49 (numF 6 1 0 s).1 (numF 6 1 0 s).2).2)
  else ((zeroOp, [], []), s)
theorem bodyF_back {m : Mg} (h : bodyOk m) (r : List Int) : bodyF m.kind (some (bodyB m ++ r)) = ((m.op, m.es, m.ks), some r) := by
  unfold bodyF bodyB
  rcases h with ⟨h1, h2, h3, h4⟩ | ⟨h1, h2, h3, h4, h5⟩ | ⟨h1, h2, h3, h4, h5, h6⟩ | ⟨h1, h2, h3, h4⟩
  · rw [if_pos h1, if_pos h1, opF_back _ _ h2, h3, h4]
  · rw [if_neg (by omega), if_pos h1, if_neg (by omega), if_pos h1, List.append_assoc, num6_i _ _ ⟨by omega, by omega⟩]
    simp only []
    rw [rdF_back (P := entOk) (fun x r hx => entF_back x r hx) m.es 49 r (by omega) h4, h2, h5]
  · rw [if_neg (by omega), if_neg (by omega), if_pos h1, if_neg (by omega), if_neg (by omega), if_pos h1, List.append_assoc, num6_i _ _ ⟨by omega, by omega⟩]
    simp only []
    rw [rdF_back (P := keyOk) (fun x r hx => keyF_back x r hx) m.ks 49 r (by omega) h6, h2, h3]
  · rw [if_neg (by omega), if_neg (by omega), if_neg (by omega), if_neg (by omega), if_neg (by omega), if_neg (by omega), h2, h3, h4]
    rfl
/-- a message, as the chapter's own reading does it -/
def msgF (s : St) : Mg × St :=
  let a := octP s
  let b := numF 6 1 0 a.2
  let c := numF 6 1 0 b.2
  let d := numF 6 1 0 c.2
  let e := numF 6 1 0 d.2
  let f := numF 6 1 0 e.2
  let g := numF 6 1 0 f.2
  let h := numF 6 1 0 g.2
  let i := bodyF a.1 h.2
  (⟨a.1, b.1, c.1, d.1, e.1, f.1, g.1, h.1, i.1.1, i.1.2.1, i.1.2.2⟩, i.2)
theorem msgF_back {m : Mg} (h : msgOk m) : msgF (some (msgB m)) = (m, some []) := by
  obtain ⟨⟨h1, h2, h3, h4, h5, h6, h7⟩, h8⟩ := h
  have hb := bodyF_back h8 []
  rw [List.append_nil] at hb
  unfold msgF msgB
  simp only [octP, num6_i _ _ h1, num6_i _ _ h2, num6_i _ _ h3, num6_i _ _ h4, num6_i _ _ h5, num6_i _ _ h6, num6_i _ _ h7, hb]
theorem MsV_mgF {m : Mg} {ve vk : Value} (h1 : 0 ≤ m.ep ∧ m.ep ≤ 4398046511103) (h2 : 0 ≤ m.nb ∧ m.nb ≤ 4398046511103) : (MsV m ve vk).mg = m ∧ (plainB (MsV m ve vk) = true ↔ msgOk m) := by
  have e1 := ofInt_val m.ep (by omega)
  have e2 := ofInt_val m.nb (by omega)
  have hm : (MsV m ve vk).mg = m := by
    obtain ⟨kind, client, life, seq, ep, nb, vers, err, op, es, ks⟩ := m
    unfold MsV Ms.mg
    simp only [] at e1 e2 ⊢
    rw [part_of e1, part_of e2]
  refine ⟨hm, ?_⟩
  rw [plainB_iff, hm]
  refine ⟨fun h => h.2, fun h => ⟨?_, h⟩⟩
  have ho := h.1
  exact (ofInt_good ho.ep ho.nb).1
theorem msgF_marks (s : St) : (0 ≤ (msgF s).1.ep ∧ (msgF s).1.ep ≤ 4398046511103) ∧ (0 ≤ (msgF s).1.nb ∧ (msgF s).1.nb ≤ 4398046511103) := ⟨num6_le _, num6_le _⟩
/-- what the document's Decode answers is what the program's does -/
theorem decd_no {l : List Int} {w w' : World} {e : Ending} {m : Mg} {s : St} (hl : msgF (some l) = (m, s)) (hno : s ≠ some [] ∨ ¬ msgOk m ∨ l ≠ msgB m) (he : e = .returned (.tuple #[.agg #[.int .i64 0, .int .i64 0, .int .i64 0, .int .i64 0, .complex .f64 0 0, .int .i64 0, .int .i64 0, .int .i64 0, .int .i64 0, .string ⟨#[]⟩, .int .i64 0, .string ⟨#[]⟩, .int .i64 0, .string ⟨#[]⟩, .slice none 0 0, .slice none 0 0], .int .i64 50])) (hb : Below w.heap.size w w') : DecR l w w' e := by
  refine .inr ⟨fun n hn hB => ?_, he, hb⟩
  have h1 := msgF_back hn
  rw [hB, hl] at h1
  obtain ⟨rfl, rfl⟩ := Prod.mk.inj h1
  rcases hno with h | h | h
  · exact h rfl
  · exact h hn
  · exact h hB.symm
theorem RI.grow {w w' : World} {b : Value} {ok : Bool} {s : St} {S : Nat → Prop} (h : RI Bq w b ok s) (ho : Only S w w') (hS : ∀ q, S q → Bq ≤ q) : RI Bq w' b ok s := by
  obtain ⟨l, ⟨a', c', e, hcap, hc⟩, hl, h2⟩ := h
  refine ⟨l, ⟨a', c', e, hcap, ?_⟩, hl, h2⟩
  rcases hl.2 with h0 | ⟨g0, off0, n0, c0, e0, hg0⟩
  · exact .inl h0
  · rcases hc with hc | ⟨g', off, e', hg, hc⟩
    · exact .inl hc
    · have hgg : g' = g0 := by
        rw [e, e'] at e0
        injection e0 with e1
        injection e1 with e1
        injection e1
      refine .inr ⟨g', off, e', Nat.lt_of_lt_of_le hg ho.size, fun i y hy => ?_⟩
      rw [World.cell?_of_block (ho.block g' hg (fun hs => by have := hS g' hs; omega))]
      exact hc i y hy
theorem OG.grow {w Z0 Z Z' : World} {i o : Nat} {to_ : TypeId} {b : Value} {k : Bool} {s : St} {cs : Array Value} {S : Nat → Prop} (h : OG Bq w Z0 Z i o to_ b k s cs) (ho : Only S Z Z') (hS : ∀ q, S q → Z0.heap.size ≤ q) (hi : i < Z0.heap.size) (hoo : o < Z0.heap.size) (hB : Bq ≤ Z0.heap.size) (hw : w.heap.size ≤ Z0.heap.size) : OG Bq w Z0 Z' i o to_ b k s cs := by
  have hz := h.only.size
  refine ⟨(ho.block i (by omega) (fun hs => by have := hS i hs; omega)).trans h.box, (ho.block o (by omega) (fun hs => by have := hS o hs; omega)).trans h.own, ho.below h.bel h.bel.size (fun q hq => Nat.le_trans hw (hS q hq)), h.ri.grow ho (fun q hq => Nat.le_trans hB (hS q hq)), ?_⟩
  refine ⟨ho.os.trans h.only.os, ho.tape.trans h.only.tape, ho.output.trans h.only.output, Nat.le_trans h.only.size ho.size, fun k hk hn => ?_⟩
  exact (ho.block k (by omega) (fun hs => by have := hS k hs; omega)).trans (h.only.block k hk hn)
end
end Go.Proofs.Ytekonakanieeaaa
