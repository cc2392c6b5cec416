/- The law WireBack, its first half. -/
import Derived.Test.YtinhbnhfahlcpaaWtD
namespace Go.Proofs.Ytinhbnhfahlcpaa
open Go.RowKit Go.Lib
attribute [local go_sem high] run_store_complex

set_option maxRecDepth 20000 in
set_option maxHeartbeats 16000000 in
theorem back_1 (m : Mm) (av : Option Addr) (cv : Nat) (l : List Int) (w : World) (hm : ArgM w m) (hP : m.plain = true) (sec : ∀ wc, Below w.heap.size w wc → ∀ (u0 u2 u3 u4 u5 u6 u7 u8 u9 u10 u11 u12 u13 u14 u15 u16 u17 u18 u19 u20 u21 u22 u23 u24 u25 u26 u27 u28 u29 u30 u31 u32 u33 u34 u35 u36 u37 u38 u39 u40 u41 u42 u43 u44 u45 u46 u47 u48 u49 u50 u51 u52 u53 u54 u55 u56 u57 u58 u59 u60 u61 u62 u63 u64 u65 u66 : Value) (K : Act → World → Prop), (∀ a w1, (nav (bodyOf Try.f8) [true, true, true, true]).wp Try.prog (bodyPost Try.prog Try.f8 fun e w' => e = .returned (.bool true) ∧ Below w.heap.size w w') a w1 → K a w1) → (nav (bodyOf Try.f8) [true, true, true, false]).wp Try.prog (Exit.then K (bodyPost Try.prog Try.f8 fun e w' => e = .returned (.bool true) ∧ Below w.heap.size w w')) { tmps := #[u0, .slice av l.length cv, u2, u3, u4, u5, u6, u7, u8, u9, u10, u11, u12, u13, u14, u15, u16, u17, u18, u19, u20, u21, u22, u23, u24, u25, u26, u27, u28, u29, u30, u31, u32, u33, u34, u35, u36, u37, u38, u39, u40, u41, u42, u43, u44, u45, u46, u47, u48, u49, u50, u51, u52, u53, u54, u55, u56, u57, u58, u59, u60, u61, u62, u63, u64, u65, u66], defers := [] } wc) :
    Calls Try.prog 8 #[.agg m.arr, .slice av l.length cv] w fun e w' => e = .returned (.bool true) ∧ Below w.heap.size w w' := by
  have HSec : Hid (∀ wc, Below w.heap.size w wc → ∀ (u0 u2 u3 u4 u5 u6 u7 u8 u9 u10 u11 u12 u13 u14 u15 u16 u17 u18 u19 u20 u21 u22 u23 u24 u25 u26 u27 u28 u29 u30 u31 u32 u33 u34 u35 u36 u37 u38 u39 u40 u41 u42 u43 u44 u45 u46 u47 u48 u49 u50 u51 u52 u53 u54 u55 u56 u57 u58 u59 u60 u61 u62 u63 u64 u65 u66 : Value) (K : Act → World → Prop), (∀ a w1, (nav (bodyOf Try.f8) [true, true, true, true]).wp Try.prog (bodyPost Try.prog Try.f8 fun e w' => e = .returned (.bool true) ∧ Below w.heap.size w w') a w1 → K a w1) → (nav (bodyOf Try.f8) [true, true, true, false]).wp Try.prog (Exit.then K (bodyPost Try.prog Try.f8 fun e w' => e = .returned (.bool true) ∧ Below w.heap.size w w')) { tmps := #[u0, .slice av l.length cv, u2, u3, u4, u5, u6, u7, u8, u9, u10, u11, u12, u13, u14, u15, u16, u17, u18, u19, u20, u21, u22, u23, u24, u25, u26, u27, u28, u29, u30, u31, u32, u33, u34, u35, u36, u37, u38, u39, u40, u41, u42, u43, u44, u45, u46, u47, u48, u49, u50, u51, u52, u53, u54, u55, u56, u57, u58, u59, u60, u61, u62, u63, u64, u65, u66], defers := [] } wc) := sec
  clear sec
  obtain ⟨ae, ce, he, _⟩ := id hm.es
  obtain ⟨ak, ck, hk, _⟩ := id hm.ks
  have HMsg : Hid (∀ W, Below w.heap.size w W → Calls Try.prog 10 #[.agg m.arr] W fun e w' => ∃ a1 c1 a2 c2, e = .returned (.agg (m.ms (.slice a1 m.es.length c1) (.slice a2 m.ks.length c2)).arr) ∧ Hid (Row7 w' W.heap.size (.slice a1 m.es.length c1) m.es ∧ RowK w' W.heap.size (.slice a2 m.ks.length c2) m.ks) ∧ Below W.heap.size W w') := fun W hb => (msg_any m W (hm.below hb)).mono fun e w' ⟨ve, vk, he, h1, h2, hb⟩ => by
    obtain ⟨a1, c1, rfl⟩ := owns_len h1
    obtain ⟨a2, c2, rfl⟩ := owns_len h2
    exact ⟨a1, c1, a2, c2, he, ⟨h1, h2⟩, hb⟩
  have HEnc : Hid (∀ W a1 c1 a2 c2, Row7 W 0 (.slice a1 m.es.length c1) m.es → RowK W 0 (.slice a2 m.ks.length c2) m.ks → Calls Try.prog 9 #[.agg (m.ms (.slice a1 m.es.length c1) (.slice a2 m.ks.length c2)).arr] W fun e w' => ∃ a c, e = .returned (.tuple #[.slice a (msgB m.mg).length c, .int .i64 0]) ∧ Hid (OwnB w' W.heap.size (.slice a (msgB m.mg).length c) (msgB m.mg)) ∧ Below W.heap.size W w') := fun W a1 c1 a2 c2 h1 h2 => by
    have h := encode_m m _ _ W h1 h2
    rw [hP] at h
    exact h.mono fun e w' hh => by obtain ⟨a, c, he, ho, hb⟩ := hh.yes; exact ⟨a, c, he, ho, hb⟩
  obtain ⟨hgood, hok⟩ := m.plain_iff.1 hP
  have hmb := mark_back hgood
  have hfew := hok.few
  have HDec : Hid (∀ v W, RC W v (msgB m.mg) → Calls Try.prog 14 #[v] W fun e w' => ∃ a3 c3 a4 c4, e = .returned (.tuple #[.agg (MsV m.mg (.slice a3 m.es.length c3) (.slice a4 m.ks.length c4)).arr, .int .i64 0]) ∧ Hid (Row7 w' W.heap.size (.slice a3 m.es.length c3) m.es ∧ RowK w' W.heap.size (.slice a4 m.ks.length c4) m.ks) ∧ Below W.heap.size W w') := fun v W hrc => (decode_yes hok v W hrc).mono fun e w' ⟨a3, c3, a4, c4, he, h1, h2, hb⟩ => ⟨a3, c3, a4, c4, he, ⟨h1, h2⟩, hb⟩
  obtain ⟨B, hB⟩ : ∃ B, msgB m.mg = B := ⟨_, rfl⟩
  rw [hB] at HEnc HDec
  obtain ⟨kind, client, life, seq, ep, nb, vers, err, op, ve, vk, es, ks⟩ := m
  simp only [] at he hk
  subst he hk
  unfold MsV Mm.mg Mm.ms Ms.mg Mm.arr Ms.arr at *
  simp only [] at *
  obtain ⟨W, hW⟩ : ∃ W, w.alloc (.cells #[.int .i64 kind, .int .i64 client, .int .i64 life, .int .i64 seq, .int .i64 ep, .int .i64 nb, .int .i64 vers, .int .i64 err, .int .i64 op.kind, .int .i64 op.dir, .string op.nm, .int .i64 op.dst, .string op.new, .int .i64 op.mode, .string op.tg, .slice ae es.length ce, .slice ak ks.length ck] 27) = W := ⟨_, rfl⟩
  have hbx := boxB hW
  have HBx : Hid (W.heap[w.heap.size]? = some (.cells #[.int .i64 kind, .int .i64 client, .int .i64 life, .int .i64 seq, .int .i64 ep, .int .i64 nb, .int .i64 vers, .int .i64 err, .int .i64 op.kind, .int .i64 op.dir, .string op.nm, .int .i64 op.dst, .string op.new, .int .i64 op.mode, .string op.tg, .slice ae es.length ce, .slice ak ks.length ck] 27 (0, 0)) ∧ Below w.heap.size w W) := hbx
  have x0 := cell_of hbx.1 0
  have x1 := cell_of hbx.1 1
  have x2 := cell_of hbx.1 2
  have x3 := cell_of hbx.1 3
  have x4 := cell_of hbx.1 4
  have x5 := cell_of hbx.1 5
  have x6 := cell_of hbx.1 6
  have x7 := cell_of hbx.1 7
  have x8 := cell_of hbx.1 8
  have x9 := cell_of hbx.1 9
  have x10 := cell_of hbx.1 10
  have x11 := cell_of hbx.1 11
  have x12 := cell_of hbx.1 12
  have x13 := cell_of hbx.1 13
  have x14 := cell_of hbx.1 14
  have x15 := cell_of hbx.1 15
  have x16 := cell_of hbx.1 16
  simp at x0 x1 x2 x3 x4 x5 x6 x7 x8 x9 x10 x11 x12 x13 x14 x15 x16
  clear hm hP hbx hB hgood hok
  have HMk : Hid (FloatKind.f64.format.order (floatOfInt .f64 (part (floatOfInt .f64 ep))) (floatOfInt .f64 ep) = some .eq ∧ FloatKind.f64.format.order (floatOfInt .f64 (part (floatOfInt .f64 nb))) (floatOfInt .f64 nb) = some .eq ∧ es.length ≤ 48 ∧ ks.length ≤ 48) := ⟨hmb.1, hmb.2, hfew.1, hfew.2⟩
  clear hmb hfew
  go_enter Try.func8, Try.ntmps8
  go_upto_region 1 with fail
  clear hW
  go_upto_region 3 with (first
    | (go_at_call 10; refine (HMsg.out _ HBx.out.2).mono ?_; rintro e w1 ⟨a1, c1, a2, c2, rfl, hr1, hb1⟩)
    | (go_at_call 9; refine (HEnc.out _ _ _ _ _ (owns_le hr1.out.1 (Nat.zero_le _)) (owns_le hr1.out.2 (Nat.zero_le _))).mono ?_; rintro e w2 ⟨a3, c3, rfl, ho2, hb2⟩))
  clear x0 x1 x2 x3 x4 x5 x6 x7 x8 x9 x10 x11 x12 x13 x14 x15 x16
  go_upto_region 4 with (go_at_call 14; refine (HDec.out _ _ ho2.out.rc).mono ?_; rintro e w3 ⟨a4, c4, a5, c5, rfl, hr3, hb3⟩; obtain ⟨W5, hW5⟩ : ∃ W5, w3.alloc (.cells #[.int .i64 0, .int .i64 0, .int .i64 0, .int .i64 0, .complex .f64 0 0, .int .i64 0, .int .i64 0, .int .i64 0, .int .i64 0, .string ⟨#[]⟩, .int .i64 0, .string ⟨#[]⟩, .int .i64 0, .string ⟨#[]⟩, .slice none 0 0, .slice none 0 0] 34) = W5 := ⟨_, rfl⟩; have hb5 := boxB hW5; have yf := free_of hb5.1; have y0 := cell_of hb5.1 0; have y1 := cell_of hb5.1 1; have y2 := cell_of hb5.1 2; have y3 := cell_of hb5.1 3; have y4 := cell_of hb5.1 4; have y5 := cell_of hb5.1 5; have y6 := cell_of hb5.1 6; have y7 := cell_of hb5.1 7; have y8 := cell_of hb5.1 8; have y9 := cell_of hb5.1 9; have y10 := cell_of hb5.1 10; have y11 := cell_of hb5.1 11; have y12 := cell_of hb5.1 12; have y13 := cell_of hb5.1 13; have y14 := cell_of hb5.1 14; have y15 := cell_of hb5.1 15; simp at y0 y1 y2 y3 y4 y5 y6 y7 y8 y9 y10 y11 y12 y13 y14 y15; have HW5 : Hid (w3.alloc (.cells #[.int .i64 0, .int .i64 0, .int .i64 0, .int .i64 0, .complex .f64 0 0, .int .i64 0, .int .i64 0, .int .i64 0, .int .i64 0, .string ⟨#[]⟩, .int .i64 0, .string ⟨#[]⟩, .int .i64 0, .string ⟨#[]⟩, .slice none 0 0, .slice none 0 0] 34) = W5) := hW5; clear hb5)
  obtain ⟨W6, hW6⟩ : ∃ x, ((((((((((((((((W5).setCell ⟨w3.heap.size, 0, none⟩ (.int .i64 kind)).setCell ⟨w3.heap.size, 1, none⟩ (.int .i64 client)).setCell ⟨w3.heap.size, 2, none⟩ (.int .i64 life)).setCell ⟨w3.heap.size, 3, none⟩ (.int .i64 seq)).setCell ⟨w3.heap.size, 4, none⟩ (.complex .f64 (floatOfInt .f64 (part (floatOfInt .f64 ep))) (floatOfInt .f64 (part (floatOfInt .f64 nb))))).setCell ⟨w3.heap.size, 5, none⟩ (.int .i64 vers)).setCell ⟨w3.heap.size, 6, none⟩ (.int .i64 err)).setCell ⟨w3.heap.size, 7, none⟩ (.int .i64 op.kind)).setCell ⟨w3.heap.size, 8, none⟩ (.int .i64 op.dir)).setCell ⟨w3.heap.size, 9, none⟩ (.string op.nm)).setCell ⟨w3.heap.size, 10, none⟩ (.int .i64 op.dst)).setCell ⟨w3.heap.size, 11, none⟩ (.string op.new)).setCell ⟨w3.heap.size, 12, none⟩ (.int .i64 op.mode)).setCell ⟨w3.heap.size, 13, none⟩ (.string op.tg)).setCell ⟨w3.heap.size, 14, none⟩ (.slice a4 es.length c4)).setCell ⟨w3.heap.size, 15, none⟩ (.slice a5 ks.length c5) = x := ⟨_, rfl⟩
  have hp6 : W6.heap[w3.heap.size]? = some (.cells #[.int .i64 kind, .int .i64 client, .int .i64 life, .int .i64 seq, .complex .f64 (floatOfInt .f64 (part (floatOfInt .f64 ep))) (floatOfInt .f64 (part (floatOfInt .f64 nb))), .int .i64 vers, .int .i64 err, .int .i64 op.kind, .int .i64 op.dir, .string op.nm, .int .i64 op.dst, .string op.new, .int .i64 op.mode, .string op.tg, .slice a4 es.length c4, .slice a5 ks.length c5] 34 (0, 0)) := by rw [← hW6]; exact putC_all (g := w3.heap.size) (xs := [.int .i64 kind, .int .i64 client, .int .i64 life, .int .i64 seq, .complex .f64 (floatOfInt .f64 (part (floatOfInt .f64 ep))) (floatOfInt .f64 (part (floatOfInt .f64 nb))), .int .i64 vers, .int .i64 err, .int .i64 op.kind, .int .i64 op.dir, .string op.nm, .int .i64 op.dst, .string op.new, .int .i64 op.mode, .string op.tg, .slice a4 es.length c4, .slice a5 ks.length c5]) (boxB HW5.out).1 rfl
  have ho6 : Only (· = w3.heap.size) W5 W6 := by rw [← hW6]; exact putC_only w3.heap.size [.int .i64 kind, .int .i64 client, .int .i64 life, .int .i64 seq, .complex .f64 (floatOfInt .f64 (part (floatOfInt .f64 ep))) (floatOfInt .f64 (part (floatOfInt .f64 nb))), .int .i64 vers, .int .i64 err, .int .i64 op.kind, .int .i64 op.dir, .string op.nm, .int .i64 op.dst, .string op.new, .int .i64 op.mode, .string op.tg, .slice a4 es.length c4, .slice a5 ks.length c5] 0 W5
  rw [hW6]
  have hb3w : Below w.heap.size w w3 := chainB HBx.out.2 (chainB hb1 (chainB hb2 hb3))
  have hb6 : Below w3.heap.size w3 W6 := ho6.below (boxB HW5.out).2 (boxB HW5.out).2.size (fun k hk => by omega)
  have H6 : Hid (W6.heap[w3.heap.size]? = some (.cells #[.int .i64 kind, .int .i64 client, .int .i64 life, .int .i64 seq, .complex .f64 (floatOfInt .f64 (part (floatOfInt .f64 ep))) (floatOfInt .f64 (part (floatOfInt .f64 nb))), .int .i64 vers, .int .i64 err, .int .i64 op.kind, .int .i64 op.dir, .string op.nm, .int .i64 op.dst, .string op.new, .int .i64 op.mode, .string op.tg, .slice a4 es.length c4, .slice a5 ks.length c5] 34 (0, 0)) ∧ W6.heap[w.heap.size]? = some (.cells #[.int .i64 kind, .int .i64 client, .int .i64 life, .int .i64 seq, .int .i64 ep, .int .i64 nb, .int .i64 vers, .int .i64 err, .int .i64 op.kind, .int .i64 op.dir, .string op.nm, .int .i64 op.dst, .string op.new, .int .i64 op.mode, .string op.tg, .slice ae es.length ce, .slice ak ks.length ck] 27 (0, 0)) ∧ Below w.heap.size w W6 ∧ Row7 W6 0 (.slice a4 es.length c4) es ∧ RowK W6 0 (.slice a5 ks.length c5) ks) := ⟨hp6, hkeep HBx.out.1 (chainB hb1 (chainB hb2 (chainB hb3 hb6))), chainB hb3w hb6, owns_le (hr3.out.1.below hb6) (Nat.zero_le _), owns_le (hr3.out.2.below hb6) (Nat.zero_le _)⟩
  clear hW5 HW5 hW6 hp6 ho6 hb3w hb6 yf hr1 ho2 hr3 hb1 hb2 hb3 y0 y1 y2 y3 y4 y5 y6 y7 y8 y9 y10 y11 y12 y13 y14 y15 HDec HEnc
  rename_i K1 hK1 K hK
  exact back_r4 kind client life seq ep nb vers err op ae ce ak ck a4 c4 a5 c5 es ks w3.heap.size av cv l w W6 H6.out HMsg.out HMk.out HSec.out _ _ _ _ _ _ _ _ _ _ _ _ _ _ _ _ _ _ _ _ _ _ _ _ _ _ _ _ _ _ _ _ _ _ _ _ _ _ _ _ _ _ _ _ _ _ _ _ _ _ _ _ _ _ _ _ _ _ _ _ _ _ _ K K1 hK hK1
end Go.Proofs.Ytinhbnhfahlcpaa
