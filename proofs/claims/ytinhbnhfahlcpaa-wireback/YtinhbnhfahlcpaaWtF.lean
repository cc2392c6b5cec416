/- The law WireBack, its second half. -/
import Derived.Test.YtinhbnhfahlcpaaWlE
namespace Go.Proofs.Ytinhbnhfahlcpaa
open Go.RowKit Go.Lib
attribute [local go_sem high] run_store_complex

/-- a piece of a body, by its way -/
def nav : Code → List Bool → Code
  | c, [] => c
  | .seq a b, d :: p => nav (if d then b else a) p
  | .cond _ a b, d :: p => nav (if d then b else a) p
  | c, _ => c
def bodyOf (f : Func) : Code := match f.body with
  | some c => c
  | none => .skip
set_option maxRecDepth 20000 in
set_option maxHeartbeats 16000000 in
theorem back2_0 (av : Option Addr) (cv : Nat) (l : List Int) (w wc : World) (hr : RB w (.slice av l.length cv) l) (hlen : l.length ≤ LB) (hbyt : Byt l) (hno : ∀ m, msgOk m → msgB m ≠ l) (hcur : Below w.heap.size w wc) (u0 u2 u3 u4 u5 u6 u7 u8 u9 u10 u11 u12 u13 u14 u15 u16 u17 u18 u19 u20 u21 u22 u23 u24 u25 u26 u27 u28 u29 u30 u31 u32 u33 u34 u35 u36 u37 u38 u39 u40 u41 u42 u43 u44 u45 u46 u47 u48 u49 u50 u51 u52 u53 u54 u55 u56 u57 u58 u59 u60 u61 u62 u63 u64 u65 u66 : Value) (K : Act → World → Prop)
    (hK : ∀ a w1, (nav (bodyOf Try.f8) [true, true, true, true]).wp Try.prog (bodyPost Try.prog Try.f8 fun e w' => e = .returned (.bool true) ∧ Below w.heap.size w w') a w1 → K a w1) :
    (nav (bodyOf Try.f8) [true, true, true, false]).wp Try.prog (Exit.then K (bodyPost Try.prog Try.f8 fun e w' => e = .returned (.bool true) ∧ Below w.heap.size w w')) { tmps := #[u0, .slice av l.length cv, u2, u3, u4, u5, u6, u7, u8, u9, u10, u11, u12, u13, u14, u15, u16, u17, u18, u19, u20, u21, u22, u23, u24, u25, u26, u27, u28, u29, u30, u31, u32, u33, u34, u35, u36, u37, u38, u39, u40, u41, u42, u43, u44, u45, u46, u47, u48, u49, u50, u51, u52, u53, u54, u55, u56, u57, u58, u59, u60, u61, u62, u63, u64, u65, u66], defers := [] } wc := by
  have hLB : l.length ≤ 140737488351232 := hlen
  have HCur : Hid (Below w.heap.size w wc) := hcur
  have HAw : Hid (∀ W, Calls Try.prog 13 #[] W fun e w' => e = .returned (.bool true) ∧ Below W.heap.size W w') := awake_w
  have HCp : Hid (∀ W, Below w.heap.size w W → Calls Try.prog 15 #[.slice av l.length cv] W fun e w' => ∃ a c, e = .returned (.slice a l.length c) ∧ Hid (OwnB w' W.heap.size (.slice a l.length c) l) ∧ Below W.heap.size W w') := fun W hb => (copyB_any _ l W (hr.below hb) hlen).mono fun e w' ⟨v', he, ho, hb⟩ => by
    obtain ⟨a, c, hv⟩ := owns_len ho
    subst hv
    exact ⟨a, c, he, ho, hb⟩
  have HDc2 : Hid (∀ v W, RC W v l → Calls Try.prog 14 #[v] W fun e w' => e = .returned (.tuple #[.agg #[.int .i64 0, .int .i64 0, .int .i64 0, .int .i64 0, .complex .f64 0 0, .int .i64 0, .int .i64 0, .int .i64 0, .int .i64 0, .string ⟨#[]⟩, .int .i64 0, .string ⟨#[]⟩, .int .i64 0, .string ⟨#[]⟩, .slice none 0 0, .slice none 0 0], .int .i64 50]) ∧ Below W.heap.size W w') := fun v W hrc => decode_no hno v W hrc hbyt (by omega)
  have HSz : Hid (∀ W, Calls Try.prog 17 #[.agg #[.int .i64 0, .int .i64 0, .int .i64 0, .int .i64 0, .complex .f64 0 0, .int .i64 0, .int .i64 0, .int .i64 0, .int .i64 0, .string ⟨#[]⟩, .int .i64 0, .string ⟨#[]⟩, .int .i64 0, .string ⟨#[]⟩, .slice none 0 0, .slice none 0 0], .agg #[.int .i64 0, .int .i64 0, .int .i64 0, .int .i64 0, .complex .f64 0 0, .int .i64 0, .int .i64 0, .int .i64 0, .int .i64 0, .string ⟨#[]⟩, .int .i64 0, .string ⟨#[]⟩, .int .i64 0, .string ⟨#[]⟩, .slice none 0 0, .slice none 0 0]] W fun e w' => e = .returned (.bool true) ∧ Below W.heap.size W w') := fun W => sameMsg_yes 0 0 0 0 0 0 0 0 0 0 zeroOp (.slice none 0 0) (.slice none 0 0) (.slice none 0 0) (.slice none 0 0) [] [] W (by decide +kernel) (by decide +kernel) (World.ownsRow_nil _ _ _ _) (World.ownsRow_nil _ _ _ _) (World.ownsRow_nil _ _ _ _) (World.ownsRow_nil _ _ _ _) (by simp) (by simp)
  clear hr hbyt hcur hno
  simp only [nav, bodyOf, Try.f8, if_true, if_false, Bool.false_eq_true] at hK ⊢
  go_upto_region 9 with (first
    | (go_at_call 15; refine (HCp.out _ HCur.out).mono ?_; rintro e w11 ⟨a11, c11, rfl, ho11, hb11⟩)
    | (go_at_call 14; refine (HDc2.out _ _ ho11.out.rc).mono ?_; rintro e w12 ⟨rfl, hb12⟩; obtain ⟨W5, hW5⟩ : ∃ W5, w12.alloc (.cells #[.int .i64 0, .int .i64 0, .int .i64 0, .int .i64 0, .complex .f64 0 0, .int .i64 0, .int .i64 0, .int .i64 0, .int .i64 0, .string ⟨#[]⟩, .int .i64 0, .string ⟨#[]⟩, .int .i64 0, .string ⟨#[]⟩, .slice none 0 0, .slice none 0 0] 34) = W5 := ⟨_, rfl⟩; have hb5 := boxB hW5; have yf := free_of hb5.1; have y0 := cell_of hb5.1 0; have y1 := cell_of hb5.1 1; have y2 := cell_of hb5.1 2; have y3 := cell_of hb5.1 3; have y4 := cell_of hb5.1 4; have y5 := cell_of hb5.1 5; have y6 := cell_of hb5.1 6; have y7 := cell_of hb5.1 7; have y8 := cell_of hb5.1 8; have y9 := cell_of hb5.1 9; have y10 := cell_of hb5.1 10; have y11 := cell_of hb5.1 11; have y12 := cell_of hb5.1 12; have y13 := cell_of hb5.1 13; have y14 := cell_of hb5.1 14; have y15 := cell_of hb5.1 15; simp at y0 y1 y2 y3 y4 y5 y6 y7 y8 y9 y10 y11 y12 y13 y14 y15; have HW5 : Hid (w12.alloc (.cells #[.int .i64 0, .int .i64 0, .int .i64 0, .int .i64 0, .complex .f64 0 0, .int .i64 0, .int .i64 0, .int .i64 0, .int .i64 0, .string ⟨#[]⟩, .int .i64 0, .string ⟨#[]⟩, .int .i64 0, .string ⟨#[]⟩, .slice none 0 0, .slice none 0 0] 34) = W5) := hW5; clear hb5))
  obtain ⟨W6, hW6⟩ : ∃ x, ((((((((((((((((W5).setCell ⟨w12.heap.size, 0, none⟩ (.int .i64 0)).setCell ⟨w12.heap.size, 1, none⟩ (.int .i64 0)).setCell ⟨w12.heap.size, 2, none⟩ (.int .i64 0)).setCell ⟨w12.heap.size, 3, none⟩ (.int .i64 0)).setCell ⟨w12.heap.size, 4, none⟩ (.complex .f64 0 0)).setCell ⟨w12.heap.size, 5, none⟩ (.int .i64 0)).setCell ⟨w12.heap.size, 6, none⟩ (.int .i64 0)).setCell ⟨w12.heap.size, 7, none⟩ (.int .i64 0)).setCell ⟨w12.heap.size, 8, none⟩ (.int .i64 0)).setCell ⟨w12.heap.size, 9, none⟩ (.string ⟨#[]⟩)).setCell ⟨w12.heap.size, 10, none⟩ (.int .i64 0)).setCell ⟨w12.heap.size, 11, none⟩ (.string ⟨#[]⟩)).setCell ⟨w12.heap.size, 12, none⟩ (.int .i64 0)).setCell ⟨w12.heap.size, 13, none⟩ (.string ⟨#[]⟩)).setCell ⟨w12.heap.size, 14, none⟩ (.slice none 0 0)).setCell ⟨w12.heap.size, 15, none⟩ (.slice none 0 0) = x := ⟨_, rfl⟩
  have hp6 : W6.heap[w12.heap.size]? = some (.cells #[.int .i64 0, .int .i64 0, .int .i64 0, .int .i64 0, .complex .f64 0 0, .int .i64 0, .int .i64 0, .int .i64 0, .int .i64 0, .string ⟨#[]⟩, .int .i64 0, .string ⟨#[]⟩, .int .i64 0, .string ⟨#[]⟩, .slice none 0 0, .slice none 0 0] 34 (0, 0)) := by rw [← hW6]; exact putC_all (g := w12.heap.size) (xs := [.int .i64 0, .int .i64 0, .int .i64 0, .int .i64 0, .complex .f64 0 0, .int .i64 0, .int .i64 0, .int .i64 0, .int .i64 0, .string ⟨#[]⟩, .int .i64 0, .string ⟨#[]⟩, .int .i64 0, .string ⟨#[]⟩, .slice none 0 0, .slice none 0 0]) (boxB HW5.out).1 rfl
  have ho6 : Only (· = w12.heap.size) W5 W6 := by rw [← hW6]; exact putC_only w12.heap.size [.int .i64 0, .int .i64 0, .int .i64 0, .int .i64 0, .complex .f64 0 0, .int .i64 0, .int .i64 0, .int .i64 0, .int .i64 0, .string ⟨#[]⟩, .int .i64 0, .string ⟨#[]⟩, .int .i64 0, .string ⟨#[]⟩, .slice none 0 0, .slice none 0 0] 0 W5
  rw [hW6]
  have hb6 : Below w12.heap.size w12 W6 := ho6.below (boxB HW5.out).2 (boxB HW5.out).2.size (fun k hk => by omega)
  have HW6 : Hid (W6.heap[w12.heap.size]? = some (.cells #[.int .i64 0, .int .i64 0, .int .i64 0, .int .i64 0, .complex .f64 0 0, .int .i64 0, .int .i64 0, .int .i64 0, .int .i64 0, .string ⟨#[]⟩, .int .i64 0, .string ⟨#[]⟩, .int .i64 0, .string ⟨#[]⟩, .slice none 0 0, .slice none 0 0] 34 (0, 0)) ∧ Below w.heap.size w W6) := ⟨hp6, chainB HCur.out (chainB hb11 (chainB hb12 hb6))⟩
  clear hW5 HW5 hW6 hp6 ho6 hb6 yf y0 y1 y2 y3 y4 y5 y6 y7 y8 y9 y10 y11 y12 y13 y14 y15
  have p0 := cell_of HW6.out.1 0
  have p1 := cell_of HW6.out.1 1
  have p2 := cell_of HW6.out.1 2
  have p3 := cell_of HW6.out.1 3
  have p4 := cell_of HW6.out.1 4
  have p5 := cell_of HW6.out.1 5
  have p6 := cell_of HW6.out.1 6
  have p7 := cell_of HW6.out.1 7
  have p8 := cell_of HW6.out.1 8
  have p9 := cell_of HW6.out.1 9
  have p10 := cell_of HW6.out.1 10
  have p11 := cell_of HW6.out.1 11
  have p12 := cell_of HW6.out.1 12
  have p13 := cell_of HW6.out.1 13
  have p14 := cell_of HW6.out.1 14
  have p15 := cell_of HW6.out.1 15
  simp at p0 p1 p2 p3 p4 p5 p6 p7 p8 p9 p10 p11 p12 p13 p14 p15
  go_wp2_with (first
    | (go_at_call 13; refine (HAw.out _).mono ?_; rintro e w15 ⟨rfl, hb15⟩)
    | (go_at_call 17; refine (HSz.out _).mono ?_; rintro e w14 ⟨rfl, hb14⟩))
  go_ret
  exact ⟨rfl, chainB HW6.out.2 (chainB hb14 hb15)⟩
set_option maxRecDepth 20000 in
set_option maxHeartbeats 16000000 in
theorem back2_1 (av : Option Addr) (cv : Nat) (l : List Int) (w wc : World) (hr : RB w (.slice av l.length cv) l) (hlen : l.length ≤ LB) (_hbyt : Byt l) (m' : Mg) (hok' : msgOk m') (hB' : msgB m' = l) (hcur : Below w.heap.size w wc) (u0 u2 u3 u4 u5 u6 u7 u8 u9 u10 u11 u12 u13 u14 u15 u16 u17 u18 u19 u20 u21 u22 u23 u24 u25 u26 u27 u28 u29 u30 u31 u32 u33 u34 u35 u36 u37 u38 u39 u40 u41 u42 u43 u44 u45 u46 u47 u48 u49 u50 u51 u52 u53 u54 u55 u56 u57 u58 u59 u60 u61 u62 u63 u64 u65 u66 : Value) (K : Act → World → Prop)
    (hK : ∀ a w1, (nav (bodyOf Try.f8) [true, true, true, true]).wp Try.prog (bodyPost Try.prog Try.f8 fun e w' => e = .returned (.bool true) ∧ Below w.heap.size w w') a w1 → K a w1) :
    (nav (bodyOf Try.f8) [true, true, true, false]).wp Try.prog (Exit.then K (bodyPost Try.prog Try.f8 fun e w' => e = .returned (.bool true) ∧ Below w.heap.size w w')) { tmps := #[u0, .slice av l.length cv, u2, u3, u4, u5, u6, u7, u8, u9, u10, u11, u12, u13, u14, u15, u16, u17, u18, u19, u20, u21, u22, u23, u24, u25, u26, u27, u28, u29, u30, u31, u32, u33, u34, u35, u36, u37, u38, u39, u40, u41, u42, u43, u44, u45, u46, u47, u48, u49, u50, u51, u52, u53, u54, u55, u56, u57, u58, u59, u60, u61, u62, u63, u64, u65, u66], defers := [] } wc := by
  have hLB : l.length ≤ 140737488351232 := hlen
  have HCur : Hid (Below w.heap.size w wc) := hcur
  have HAw : Hid (∀ W, Calls Try.prog 13 #[] W fun e w' => e = .returned (.bool true) ∧ Below W.heap.size W w') := awake_w
  have HCp : Hid (∀ W, Below w.heap.size w W → Calls Try.prog 15 #[.slice av l.length cv] W fun e w' => ∃ a c, e = .returned (.slice a l.length c) ∧ Hid (OwnB w' W.heap.size (.slice a l.length c) l) ∧ Below W.heap.size W w') := fun W hb => (copyB_any _ l W (hr.below hb) hlen).mono fun e w' ⟨v', he, ho, hb⟩ => by
    obtain ⟨a, c, hv⟩ := owns_len ho
    subst hv
    exact ⟨a, c, he, ho, hb⟩
  have HDc2 : Hid (∀ v W, RC W v l → Calls Try.prog 14 #[v] W fun e w' => ∃ a5 c5 a6 c6, e = .returned (.tuple #[.agg #[.int .i64 m'.kind, .int .i64 m'.client, .int .i64 m'.life, .int .i64 m'.seq, .complex .f64 (floatOfInt .f64 m'.ep) (floatOfInt .f64 m'.nb), .int .i64 m'.vers, .int .i64 m'.err, .int .i64 m'.op.kind, .int .i64 m'.op.dir, .string m'.op.nm, .int .i64 m'.op.dst, .string m'.op.new, .int .i64 m'.op.mode, .string m'.op.tg, .slice a5 m'.es.length c5, .slice a6 m'.ks.length c6], .int .i64 0]) ∧ Hid (Row7 w' W.heap.size (.slice a5 m'.es.length c5) m'.es ∧ RowK w' W.heap.size (.slice a6 m'.ks.length c6) m'.ks) ∧ Below W.heap.size W w') := fun v W hrc => (decode_yes hok' v W (by rw [hB']; exact hrc)).mono fun e w' ⟨a3, c3, a4, c4, he, h1, h2, hb⟩ => ⟨a3, c3, a4, c4, he, ⟨h1, h2⟩, hb⟩
  have HEn2 : Hid (∀ W a5 c5 a6 c6, Row7 W 0 (.slice a5 m'.es.length c5) m'.es → RowK W 0 (.slice a6 m'.ks.length c6) m'.ks → Calls Try.prog 9 #[.agg #[.int .i64 m'.kind, .int .i64 m'.client, .int .i64 m'.life, .int .i64 m'.seq, .complex .f64 (floatOfInt .f64 m'.ep) (floatOfInt .f64 m'.nb), .int .i64 m'.vers, .int .i64 m'.err, .int .i64 m'.op.kind, .int .i64 m'.op.dir, .string m'.op.nm, .int .i64 m'.op.dst, .string m'.op.new, .int .i64 m'.op.mode, .string m'.op.tg, .slice a5 m'.es.length c5, .slice a6 m'.ks.length c6]] W fun e w' => ∃ a c, e = .returned (.tuple #[.slice a l.length c, .int .i64 0]) ∧ Hid (OwnB w' W.heap.size (.slice a l.length c) l) ∧ Below W.heap.size W w') := fun W a5 c5 a6 c6 h1 h2 => by
    have h := encode_v m' hok' _ _ W h1 h2
    rw [hB'] at h
    exact h.mono fun e w' ⟨a, c, he, ho, hb⟩ => ⟨a, c, he, ho, hb⟩
  have HSb : Hid (∀ v W, Below w.heap.size w W → RB W v l → Calls Try.prog 12 #[v, .slice av l.length cv] W fun e w' => e = .returned (.bool true) ∧ Below W.heap.size W w') := fun v W hb h1 => (same_any _ _ l l W h1 (hr.below hb) hlen hlen).mono fun e w' hh => ⟨by rw [hh.1, decide_eq_true (rfl : l = l)], hh.2⟩
  clear hr _hbyt hcur hok' hB'
  simp only [nav, bodyOf, Try.f8, if_true, if_false, Bool.false_eq_true] at hK ⊢
  go_upto_region 9 with (first
    | (go_at_call 15; refine (HCp.out _ HCur.out).mono ?_; rintro e w11 ⟨a11, c11, rfl, ho11, hb11⟩)
    | (go_at_call 14; refine (HDc2.out _ _ ho11.out.rc).mono ?_; rintro e w12 ⟨a15, c15, a16, c16, rfl, hr12, hb12⟩; obtain ⟨W5, hW5⟩ : ∃ W5, w12.alloc (.cells #[.int .i64 0, .int .i64 0, .int .i64 0, .int .i64 0, .complex .f64 0 0, .int .i64 0, .int .i64 0, .int .i64 0, .int .i64 0, .string ⟨#[]⟩, .int .i64 0, .string ⟨#[]⟩, .int .i64 0, .string ⟨#[]⟩, .slice none 0 0, .slice none 0 0] 34) = W5 := ⟨_, rfl⟩; have hb5 := boxB hW5; have yf := free_of hb5.1; have y0 := cell_of hb5.1 0; have y1 := cell_of hb5.1 1; have y2 := cell_of hb5.1 2; have y3 := cell_of hb5.1 3; have y4 := cell_of hb5.1 4; have y5 := cell_of hb5.1 5; have y6 := cell_of hb5.1 6; have y7 := cell_of hb5.1 7; have y8 := cell_of hb5.1 8; have y9 := cell_of hb5.1 9; have y10 := cell_of hb5.1 10; have y11 := cell_of hb5.1 11; have y12 := cell_of hb5.1 12; have y13 := cell_of hb5.1 13; have y14 := cell_of hb5.1 14; have y15 := cell_of hb5.1 15; simp at y0 y1 y2 y3 y4 y5 y6 y7 y8 y9 y10 y11 y12 y13 y14 y15; have HW5 : Hid (w12.alloc (.cells #[.int .i64 0, .int .i64 0, .int .i64 0, .int .i64 0, .complex .f64 0 0, .int .i64 0, .int .i64 0, .int .i64 0, .int .i64 0, .string ⟨#[]⟩, .int .i64 0, .string ⟨#[]⟩, .int .i64 0, .string ⟨#[]⟩, .slice none 0 0, .slice none 0 0] 34) = W5) := hW5; clear hb5))
  obtain ⟨W6, hW6⟩ : ∃ x, ((((((((((((((((W5).setCell ⟨w12.heap.size, 0, none⟩ (.int .i64 m'.kind)).setCell ⟨w12.heap.size, 1, none⟩ (.int .i64 m'.client)).setCell ⟨w12.heap.size, 2, none⟩ (.int .i64 m'.life)).setCell ⟨w12.heap.size, 3, none⟩ (.int .i64 m'.seq)).setCell ⟨w12.heap.size, 4, none⟩ (.complex .f64 (floatOfInt .f64 m'.ep) (floatOfInt .f64 m'.nb))).setCell ⟨w12.heap.size, 5, none⟩ (.int .i64 m'.vers)).setCell ⟨w12.heap.size, 6, none⟩ (.int .i64 m'.err)).setCell ⟨w12.heap.size, 7, none⟩ (.int .i64 m'.op.kind)).setCell ⟨w12.heap.size, 8, none⟩ (.int .i64 m'.op.dir)).setCell ⟨w12.heap.size, 9, none⟩ (.string m'.op.nm)).setCell ⟨w12.heap.size, 10, none⟩ (.int .i64 m'.op.dst)).setCell ⟨w12.heap.size, 11, none⟩ (.string m'.op.new)).setCell ⟨w12.heap.size, 12, none⟩ (.int .i64 m'.op.mode)).setCell ⟨w12.heap.size, 13, none⟩ (.string m'.op.tg)).setCell ⟨w12.heap.size, 14, none⟩ (.slice a15 m'.es.length c15)).setCell ⟨w12.heap.size, 15, none⟩ (.slice a16 m'.ks.length c16) = x := ⟨_, rfl⟩
  have hp6 : W6.heap[w12.heap.size]? = some (.cells #[.int .i64 m'.kind, .int .i64 m'.client, .int .i64 m'.life, .int .i64 m'.seq, .complex .f64 (floatOfInt .f64 m'.ep) (floatOfInt .f64 m'.nb), .int .i64 m'.vers, .int .i64 m'.err, .int .i64 m'.op.kind, .int .i64 m'.op.dir, .string m'.op.nm, .int .i64 m'.op.dst, .string m'.op.new, .int .i64 m'.op.mode, .string m'.op.tg, .slice a15 m'.es.length c15, .slice a16 m'.ks.length c16] 34 (0, 0)) := by rw [← hW6]; exact putC_all (g := w12.heap.size) (xs := [.int .i64 m'.kind, .int .i64 m'.client, .int .i64 m'.life, .int .i64 m'.seq, .complex .f64 (floatOfInt .f64 m'.ep) (floatOfInt .f64 m'.nb), .int .i64 m'.vers, .int .i64 m'.err, .int .i64 m'.op.kind, .int .i64 m'.op.dir, .string m'.op.nm, .int .i64 m'.op.dst, .string m'.op.new, .int .i64 m'.op.mode, .string m'.op.tg, .slice a15 m'.es.length c15, .slice a16 m'.ks.length c16]) (boxB HW5.out).1 rfl
  have ho6 : Only (· = w12.heap.size) W5 W6 := by rw [← hW6]; exact putC_only w12.heap.size [.int .i64 m'.kind, .int .i64 m'.client, .int .i64 m'.life, .int .i64 m'.seq, .complex .f64 (floatOfInt .f64 m'.ep) (floatOfInt .f64 m'.nb), .int .i64 m'.vers, .int .i64 m'.err, .int .i64 m'.op.kind, .int .i64 m'.op.dir, .string m'.op.nm, .int .i64 m'.op.dst, .string m'.op.new, .int .i64 m'.op.mode, .string m'.op.tg, .slice a15 m'.es.length c15, .slice a16 m'.ks.length c16] 0 W5
  rw [hW6]
  have hb6 : Below w12.heap.size w12 W6 := ho6.below (boxB HW5.out).2 (boxB HW5.out).2.size (fun k hk => by omega)
  have HW6 : Hid (W6.heap[w12.heap.size]? = some (.cells #[.int .i64 m'.kind, .int .i64 m'.client, .int .i64 m'.life, .int .i64 m'.seq, .complex .f64 (floatOfInt .f64 m'.ep) (floatOfInt .f64 m'.nb), .int .i64 m'.vers, .int .i64 m'.err, .int .i64 m'.op.kind, .int .i64 m'.op.dir, .string m'.op.nm, .int .i64 m'.op.dst, .string m'.op.new, .int .i64 m'.op.mode, .string m'.op.tg, .slice a15 m'.es.length c15, .slice a16 m'.ks.length c16] 34 (0, 0)) ∧ Below w.heap.size w W6 ∧ Row7 W6 0 (.slice a15 m'.es.length c15) m'.es ∧ RowK W6 0 (.slice a16 m'.ks.length c16) m'.ks) := ⟨hp6, chainB HCur.out (chainB hb11 (chainB hb12 hb6)), owns_le (hr12.out.1.below hb6) (Nat.zero_le _), owns_le (hr12.out.2.below hb6) (Nat.zero_le _)⟩
  clear hW5 HW5 hW6 hp6 ho6 hb6 yf y0 y1 y2 y3 y4 y5 y6 y7 y8 y9 y10 y11 y12 y13 y14 y15
  have p0 := cell_of HW6.out.1 0
  have p1 := cell_of HW6.out.1 1
  have p2 := cell_of HW6.out.1 2
  have p3 := cell_of HW6.out.1 3
  have p4 := cell_of HW6.out.1 4
  have p5 := cell_of HW6.out.1 5
  have p6 := cell_of HW6.out.1 6
  have p7 := cell_of HW6.out.1 7
  have p8 := cell_of HW6.out.1 8
  have p9 := cell_of HW6.out.1 9
  have p10 := cell_of HW6.out.1 10
  have p11 := cell_of HW6.out.1 11
  have p12 := cell_of HW6.out.1 12
  have p13 := cell_of HW6.out.1 13
  have p14 := cell_of HW6.out.1 14
  have p15 := cell_of HW6.out.1 15
  simp at p0 p1 p2 p3 p4 p5 p6 p7 p8 p9 p10 p11 p12 p13 p14 p15
  go_wp2_with (first
    | (go_at_call 13; refine (HAw.out _).mono ?_; rintro e w15 ⟨rfl, hb15⟩)
    | (go_at_call 12; refine (HSb.out _ _ (chainB HW6.out.2.1 hb13) ho13.out.rb).mono ?_; rintro e w14 ⟨rfl, hb14⟩)
    | (go_at_call 9; refine (HEn2.out _ _ _ _ _ HW6.out.2.2.1 HW6.out.2.2.2).mono ?_; rintro e w13 ⟨a13, c13, rfl, ho13, hb13⟩))
  go_ret
  exact ⟨rfl, chainB HW6.out.2.1 (chainB hb13 (chainB hb14 hb15))⟩
end Go.Proofs.Ytinhbnhfahlcpaa
