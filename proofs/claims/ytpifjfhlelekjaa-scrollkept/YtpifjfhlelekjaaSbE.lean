/- The walk of the law ScrollKept. -/
import Derived.Test.YtpifjfhlelekjaaSbK
namespace Go.Proofs.Ytpifjfhlelekjaa
open Go.RowKit

theorem pl_small {v : Int} {m : Nat} (h0 : 0 ≤ v) (h1 : v < m) : (pl v m : Int) = v := by
  unfold pl
  rw [Int.tmod_eq_of_lt h0 h1, if_neg (by omega)]
  omega
theorem bn_small {v : Nat} (h : v ≤ 500) : bn (v : Int) = v := by
  unfold bn
  rw [if_neg (by omega)]
  omega

theorem Lw.other {w0 w w' : World} {b g sb G Hh u : Nat} {s : Dsk} {R : List (List Int)} {N : Nat} {K : Int} (h : Lw w0 w b g sb G Hh u s R N K) (ho : Only (fun x => x = b ∨ x = g ∨ x = sb) w w') {x : Nat} {t : TypeId} (ht : Tag w x t) (h1 : t ≠ 90) (h2 : t ≠ 99) (h3 : t ≠ 83) : w'.heap[x]? = w.heap[x]? :=
  ho.block x ht.lt (fun e => by
    rcases e with e | e | e
    · exact ht.ne h.dk.tagb h1 e
    · exact ht.ne h.dk.tagg h2 e
    · exact ht.ne h.ss.tag h3 e)

theorem OwnR.two {w : World} {base m : Nat} {v : Value} {l : List Int} (h : OwnR w base m v [l, l]) (hl : 1 ≤ l.length) : ∃ gv cv e0 c0 e1 c1, v = .slice (some ⟨gv, 0, none⟩) 2 cv ∧ base ≤ gv ∧ Tag w gv 22 ∧ w.cell? ⟨gv, 0, none⟩ = some (.slice (some ⟨e0, 0, none⟩) l.length c0) ∧ w.cell? ⟨gv, 1, none⟩ = some (.slice (some ⟨e1, 0, none⟩) l.length c1) ∧ OwnB w base (.slice (some ⟨e0, 0, none⟩) l.length c0) l ∧ OwnB w base (.slice (some ⟨e1, 0, none⟩) l.length c1) l ∧ e0 ≠ e1 := by
  have hv := h
  obtain ⟨vs, hr, he⟩ := h
  obtain ⟨g, cap, rfl⟩ := owns_form hr
  have h0 : 0 < vs.length := by rw [he.len]; simp
  have h1 : 1 < vs.length := by rw [he.len]; simp
  have hx : vs[0]? = some (vs[0]'h0) := List.getElem?_eq_getElem h0
  have hy : vs[1]? = some (vs[1]'h1) := List.getElem?_eq_getElem h1
  have o0 := he.own 0 _ l hx rfl
  have o1 := he.own 1 _ l hy rfl
  have hc0 := (owns_cells hr).1 0 _ hx
  have hc1 := (owns_cells hr).1 1 _ hy
  have hne := fun k => he.ne 0 1 _ _ k (by decide) hx hy
  generalize vs[0]'h0 = y0 at *
  generalize vs[1]'h1 = y1 at *
  rcases o0.form with ⟨-, e⟩ | ⟨e0, c0, rfl, -⟩
  · rw [e] at hl; exact absurd hl (by decide)
  rcases o1.form with ⟨-, e⟩ | ⟨e1, c1, rfl, -⟩
  · rw [e] at hl; exact absurd hl (by decide)
  exact ⟨g, cap, e0, c0, e1, c1, rfl, (hv.at rfl).1, hv.tag rfl, hc0, hc1, o0, o1, fun e => hne e1 rfl (by rw [e]; rfl)⟩
theorem cell_heap {w w' : World} {p i : Nat} (h : w'.heap[p]? = w.heap[p]?) : w'.cell? ⟨p, i, none⟩ = w.cell? ⟨p, i, none⟩ := by unfold World.cell?; rw [h]
theorem rs_two {w : World} {x : Value} {l : List Int} (hx : RT w x l) : Rs (w.alloc (.cells #[x, x] 22)) (.slice (some ⟨w.heap.size, 0, none⟩) 2 2) [l, l] := by
  have hh : (w.alloc (.cells #[x, x] 22)).heap[w.heap.size]? = some (.cells #[x, x] 22 (0, 0)) := heap_new _ _
  have hx' := hx.below (below_alloc w (.cells #[x, x] 22))
  refine ⟨some ⟨w.heap.size, 0, none⟩, 2, rfl, .inr ⟨w.heap.size, 0, rfl, ⟨_, _, hh⟩, fun i y hy => ?_⟩⟩
  match i, hy with
  | 0, hy => cases hy; exact ⟨_, by rw [cell_of hh]; rfl, hx'⟩
  | 1, hy => cases hy; exact ⟨_, by rw [cell_of hh]; rfl, hx'⟩
theorem Lw.row {w0 w w' : World} {b g sb G Hh u : Nat} {s : Dsk} {R : List (List Int)} {N : Nat} {K : Int} (h : Lw w0 w b g sb G Hh u s R N K) {x : Nat} (ht : Tag w x 5) (hx : w0.heap.size ≤ x) (ho : Only (fun k => k = x) w w') : Lw w0 w' b g sb G Hh u s R N K :=
  ⟨h.dk.only ho (fun e => h.dk.tagb.ne ht (by decide) e) (fun e => h.dk.tagg.ne ht (by decide) e), h.ss.only ho (fun e => h.ss.tag.ne ht (by decide) e), h.sc, h.ok, h.by', h.len, ho.below h.bel h.bel.size (fun k hk => by rw [hk]; exact hx), h.lb, h.lg, h.ls⟩
theorem OwnB.apart {w w' : World} {base x g n c : Nat} {l : List Int} (h : OwnB w base (.slice (some ⟨g, 0, none⟩) n c) l) (ho : Only (fun k => k = x) w w') (hne : g ≠ x) : OwnB w' base (.slice (some ⟨g, 0, none⟩) n c) l :=
  h.moved fun k hk => ho.block k (h.at k hk).2 (fun e => hne (by cases hk; exact e))
theorem only_set (w : World) (x i : Nat) (u : Value) : Only (fun k => k = x) w (w.setCell ⟨x, i, none⟩ u) := Only.setCell (S := fun k => k = x) (Only.refl _ w) (p := ⟨x, i, none⟩) rfl u

set_option maxRecDepth 100000 in
set_option maxHeartbeats 16000000 in
theorem walk_ScrollKept (n K A L F M : Int) (w : World) (_ : (Lit.int .i64 n).wf = true) (_ : (Lit.int .i64 A).wf = true) (_ : (Lit.int .i64 L).wf = true) (_ : (Lit.int .i64 F).wf = true) (_ : (Lit.int .i64 M).wf = true) :
    Calls Try.prog 8 #[.int .i64 n, .agg #[.int .i64 K, .int .i64 A, .int .i64 L, .int .i64 F, .int .i64 M]] w fun e w' => e = .returned (.bool true) ∧ Below w.heap.size w w' := by
  have hp7 := pl_lt n 7 (by decide)
  obtain ⟨P, hP⟩ : ∃ P, pl n 7 = P := ⟨_, rfl⟩
  have HP : Hid (∀ w, Calls Try.prog 12 #[.int .i64 n, .int .i64 7] w fun e w' => e = .returned (.int .i64 (P : Nat)) ∧ w = w') := fun w => by
    have := place_any n 7 w (by decide) (by decide); rw [hP] at this; exact this.mono fun _ _ hq => ⟨hq.1, hq.2.symm⟩
  rw [hP] at hp7
  have HF : Hid (∀ w, Calls Try.prog 31 #[.int .i64 (90 + (P : Int))] w fun e w' => ∃ b g sb s, e = .returned (.tuple #[.pointer (some ⟨b, 0, none⟩), .pointer (some ⟨sb, 0, none⟩), .bool true]) ∧ Lw w w' b g sb 1 0 0 s [] (93 + P) 1 ∧ s.on = true ∧ s.burns = false ∧ Gb s.cs 0) := fun w => by
    have e : 3 + pl (90 + (P : Int)) 97 = 93 + P := by have := pl_small (v := 90 + (P : Int)) (m := 97) (by omega) (by omega); omega
    have := fresh_g (90 + (P : Int)) w
    rw [e] at this; exact this
  have hq := pl_lt L 424 (by decide)
  obtain ⟨Q, hQ⟩ : ∃ Q, pl L 424 = Q := ⟨_, rfl⟩
  rw [hQ] at hq
  have HQ : Hid (∀ w, Calls Try.prog 12 #[.int .i64 L, .int .i64 424] w fun e w' => e = .returned (.int .i64 (Q : Nat)) ∧ w = w') := fun w => by
    have := place_any L 424 w (by decide) (by decide); rw [hQ] at this; exact this.mono fun _ _ hq => ⟨hq.1, hq.2.symm⟩
  obtain ⟨l, hl⟩ : ∃ l, bl (1 + Q) F = l := ⟨_, rfl⟩
  have HRc : Hid (∀ w, Calls Try.prog 14 #[.int .i64 (1 + (Q : Int)), .int .i64 F] w fun e w' => ∃ v, e = .returned v ∧ OwnB w' w.heap.size v l ∧ Below w.heap.size w w') := fun w => by
    have := record_any (1 + (Q : Int)) F w
    have e : bn (1 + (Q : Int)) = 1 + Q := by have := bn_small (v := 1 + Q) (by omega); rwa [Int.natCast_add] at this
    rw [e, hl] at this; exact this
  have HL : Hid (Byt l ∧ l.length = 1 + Q ∧ Q < 424 ∧ P < 7) := ⟨by rw [← hl]; exact bl_byt _ _, by rw [← hl, bl_len], hq, hp7⟩
  have HWr : Hid (IntKind.i64.wrap (1 + (Q : Int)) = 1 + (Q : Int)) := by show _ = _; simp [IntKind.wrap, IntKind.signed, IntKind.bits]; omega
  clear hP hQ hl
  go_enter Try.func8, Try.ntmps8
  go_upto_region 4 with (first
    | (go_at_call 12; refine (HP.out _).mono ?_; rintro e w1 ⟨rfl, rfl⟩)
    | (go_at_call 31; refine (HF.out _).mono ?_; rintro e w1 ⟨b, g, sb, s0, rfl, hL0, hon0, hbu0, hgb0⟩))
  obtain ⟨W0, hW0⟩ : ∃ W0, w.alloc (.cells #[.int .i64 K, .int .i64 A, .int .i64 L, .int .i64 F, .int .i64 M] 34) = W0 := ⟨_, rfl⟩
  rw [hW0] at hL0
  have HB0 : Hid (Below w.heap.size w W0) := by show Below _ _ _; rw [← hW0]; exact below_alloc _ _
  have hBx : Bx5 W0 w.heap.size K A L F M := by rw [← hW0]; exact heap_new _ _
  obtain ⟨-, -, x2, x3, -⟩ := (hBx.below hL0.bel).cells
  have H1 : Hid (Lw W0 w1 b g sb 1 0 0 s0 [] (93 + P) 1 ∧ s0.on = true ∧ s0.burns = false ∧ Gb s0.cs 0) := ⟨hL0, hon0, hbu0, hgb0⟩
  clear hL0 hon0 hbu0 hgb0 hBx hW0
  go_region_held3 (fun w' => w'.cell? ⟨w.heap.size, 2, none⟩ = some (.int .i64 L) ∧ w'.cell? ⟨w.heap.size, 3, none⟩ = some (.int .i64 F))
    (first | exact ⟨x2, x3⟩ | exact keep2 (by assumption) (by assumption) | assumption)
    (first
      | (go_at_call 12; refine (HQ.out _).mono ?_; rintro e w2 ⟨rfl, rfl⟩)
      | (go_at_call 14; rw [HWr.out]; refine (HRc.out _).mono ?_; rintro e w3 ⟨v3, rfl, ho3, hb3⟩))
  have hb1 : Below w1.heap.size w1 w3 := chainB (Below.refl _ _).drew hb3
  have ho1 : OwnB w3 w1.heap.size v3 l := ho3
  clear ho3 hb3
  obtain ⟨c, hc⟩ : ∃ c, nb l.length = c := ⟨_, rfl⟩
  have hlq := HL.out
  have hc8 : 1 ≤ c ∧ c ≤ 8 := by rw [← hc, hlq.2.1]; unfold nb; omega
  have HLl : Hid (1 ≤ l.length ∧ l.length ≤ 424 ∧ l.length ≤ LB ∧ l.length ≤ 1000000) := by
    show _ ∧ _ ∧ _ ∧ _; rw [hlq.2.1]; unfold LB; omega
  have HAp : Hid (∀ w4 v, Lw W0 w4 b g sb 1 0 0 s0 [] (93 + P) 1 → RT w4 v l → Calls Try.prog 13 #[.pointer (some ⟨sb, 0, none⟩), v] w4 fun e w5 => ∃ s5, e = .returned (.int .i64 0) ∧ Lw W0 w5 b g sb 1 0 c s5 [l] (93 + P) 9 ∧ Only (fun x => x = b ∨ x = g ∨ x = sb) w4 w5 ∧ s5.on = true ∧ s5.burns = false ∧ Gb s5.cs 1) := fun w4 v h hv => by
    refine (lw_appendG h H1.out.2.1 (by omega) (by omega) v l hv hlq.1 HLl.out.2.2.2).mono ?_
    rintro e w5 ⟨E, s5, R5, u5, rfl, hL5, hO5, -, hcase, -, -, h0, -, hg⟩
    have hok : okR l := ⟨HLl.out.1, HLl.out.2.1⟩
    obtain ⟨rfl, o1, o2⟩ := h0 hok (by rw [h.hS, hc]; omega) H1.out.2.2.1
    obtain ⟨rfl, rfl⟩ : R5 = [] ++ [l] ∧ u5 = 0 + nb l.length := by
      rcases hcase with q | q
      · exact ⟨q.2.1, q.2.2.2.2⟩
      · exact absurd rfl q.1
    rw [Nat.zero_add, hc] at hL5
    exact ⟨s5, rfl, hL5, hO5, o1, o2, hg 1 (H1.out.2.2.2.le (by omega)) (by omega) (by omega)⟩
  have HTn : Hid (∀ w8 v s5, Lw W0 w8 b g sb 1 0 c s5 [l] (93 + P) 9 → s5.on = true → s5.burns = false → Gb s5.cs 1 → Rs w8 v [l, l] → Calls Try.prog 16 #[.pointer (some ⟨sb, 0, none⟩), v] w8 fun e w9 => ∃ s9 G9 H9 u9, e = .returned (.int .i64 0) ∧ Lw W0 w9 b g sb G9 H9 u9 s9 [l, l] (93 + P) 609 ∧ Only (fun x => x = b ∨ x = g ∨ x = sb) w8 w9) := fun w8 v s5 h o1 o2 hg hv => by
    have hall : ∀ x ∈ [l, l], x = l := fun x hx => by simpa using hx
    refine (lw_turnG h o1 (by omega) (by omega) v [l, l] hv (fun x hx => by rw [hall x hx]; exact ⟨hlq.1, HLl.out.2.2.2⟩) (by show 2 ≤ 1000; decide)).mono ?_
    rintro e w9 ⟨E, s9, R9, u9, G9, H9, rfl, hL9, hO9, -, hcase, -, -, h0, -, -⟩
    have hn := hg.next h.sc (by omega)
    have ht : tot [l, l] = c + c := by show tot ([l] ++ [l]) = _; rw [tot_snoc, hc]; show tot ([] ++ [l]) + c = _; rw [tot_snoc, hc, tot_nil, Nat.zero_add]
    obtain ⟨rfl, -⟩ := h0 (fun x hx => by rw [hall x hx]; exact ⟨HLl.out.1, HLl.out.2.1⟩) (by rw [h.hS, ht]; omega) (by omega) o2
    obtain rfl : R9 = [l, l] := by
      rcases hcase with q | q
      · exact q.2.1
      · exact absurd rfl q.1
    exact ⟨s9, G9, H9, u9, rfl, hL9, hO9⟩
  rcases ho1.form with ⟨-, e⟩ | ⟨gr, cr, e, hgr, hgr2, -, -, -⟩
  · have := HLl.out.1; rw [e] at this; exact absurd this (by decide)
  subst e
  have H3 : Hid (Lw W0 w3 b g sb 1 0 0 s0 [] (93 + P) 1 ∧ OwnB w3 w1.heap.size (.slice (some ⟨gr, 0, none⟩) l.length cr) l ∧ gr < w3.heap.size ∧ w1.heap.size ≤ w3.heap.size) := ⟨H1.out.1.below hb1, ho1, hgr2, hb1.size⟩
  clear ho1 hb1 hgr hgr2 hlq hc hc8
  go_upto_if 53 with (first
    | (go_at_call 35; refine (lend_any _ l _ H3.out.2.1.rb HLl.out.2.2.1).mono ?_; rintro e w4 ⟨g1, k1, rfl, ho4, hb4⟩)
    | (go_at_call 13; refine (HAp.out _ _ (H3.out.1.below hb4) (ho4.front rfl (marks_len 70)).rt).mono ?_; rintro e w5 ⟨s5, rfl, hL5, hO5, on5, bu5, gb5⟩; have hr5 := (H3.out.2.1.below hb4).law (H3.out.1.below hb4) hO5; have ha5 := ho4.law (H3.out.1.below hb4) hO5)
    | (go_at_call 36; refine (back_any _ _ l _ _ hr5.rb ha5 HLl.out.2.2.1).mono ?_; rintro e w6 ⟨rfl, hb6⟩))
  have H6 : Hid (Lw W0 w6 b g sb 1 0 c s5 [l] (93 + P) 9 ∧ s5.on = true ∧ s5.burns = false ∧ Gb s5.cs 1 ∧ OwnB w6 w1.heap.size (.slice (some ⟨gr, 0, none⟩) l.length cr) l ∧ OwnB w6 w3.heap.size (.slice (some ⟨g1, 0, none⟩) (l.length + 70) k1) (l ++ marks 70)) := ⟨hL5.below hb6, on5, bu5, gb5, hr5.below hb6, ha5.below hb6⟩
  clear hL5 on5 bu5 gb5 hr5 ha5 hO5 ho4 hb4 hb6 x2 x3
  go_upto_region 10 with (go_at_call 35; refine (lend_any _ l _ H6.out.2.2.2.2.1.rb HLl.out.2.2.1).mono ?_; rintro e w7 ⟨g2, k2, rfl, ho7, hb7⟩)
  obtain ⟨W8, hW8⟩ : ∃ W8, (w7.alloc (.cells #[.int .u8 9] 5)).alloc (.cells #[.slice (some ⟨g2, 0, none⟩) l.length k2, .slice (some ⟨g2, 0, none⟩) l.length k2, .slice (some ⟨w7.heap.size, 0, none⟩) 1 1] 22) = W8 := ⟨_, rfl⟩
  obtain ⟨gl, hgl⟩ : ∃ gl, (w7.alloc (.cells #[.int .u8 9] 5)).heap.size = gl := ⟨_, rfl⟩
  have hh8 : W8.heap[gl]? = some (.cells #[.slice (some ⟨g2, 0, none⟩) l.length k2, .slice (some ⟨g2, 0, none⟩) l.length k2, .slice (some ⟨w7.heap.size, 0, none⟩) 1 1] 22 (0, 0)) := by rw [← hW8, ← hgl]; exact heap_new _ _
  have hb8 : Below w7.heap.size w7 W8 := by rw [← hW8]; exact chainB (below_alloc _ _) (below_alloc _ _)
  have h98 : W8.heap[w7.heap.size]? = some (.cells #[.int .u8 9] 5 (0, 0)) := by
    rw [← hW8]
    exact ((below_alloc (w7.alloc (.cells #[.int .u8 9] 5)) _).block _ (by simp)).trans (heap_new _ _)
  have hgl1 : w7.heap.size + 1 = gl := by rw [← hgl]; simp
  have hlm : OwnB W8 w6.heap.size (.slice (some ⟨g2, 0, none⟩) l.length k2) l := (ho7.front rfl (marks_len 70)).below hb8
  have hRs : Rs W8 (.slice (some ⟨gl, 0, none⟩) 2 3) [l, l] := by
    refine ⟨some ⟨gl, 0, none⟩, 3, rfl, .inr ⟨gl, 0, rfl, ⟨_, _, hh8⟩, fun i x hx => ?_⟩⟩
    match i, hx with
    | 0, hx => cases hx; exact ⟨_, by rw [cell_of hh8]; rfl, hlm.rt⟩
    | 1, hx => cases hx; exact ⟨_, by rw [cell_of hh8]; rfl, hlm.rt⟩
  have H8 : Hid (Lw W0 W8 b g sb 1 0 c s5 [l] (93 + P) 9 ∧ OwnB W8 w1.heap.size (.slice (some ⟨gr, 0, none⟩) l.length cr) l ∧ OwnB W8 w3.heap.size (.slice (some ⟨g1, 0, none⟩) (l.length + 70) k1) (l ++ marks 70) ∧ OwnB W8 w6.heap.size (.slice (some ⟨g2, 0, none⟩) (l.length + 70) k2) (l ++ marks 70) ∧ Rs W8 (.slice (some ⟨gl, 0, none⟩) 2 3) [l, l] ∧ Tag W8 gl 22 ∧ Tag W8 w7.heap.size 5) :=
    ⟨(H6.out.1.below hb7).below hb8, (H6.out.2.2.2.2.1.below hb7).below hb8, (H6.out.2.2.2.2.2.below hb7).below hb8, ho7.below hb8, hRs, ⟨_, _, hh8⟩, ⟨_, _, h98⟩⟩
  rw [hW8]
  try rw [hgl]
  try rw [hgl1]
  have HH : Hid (W8.heap[gl]? = some (.cells #[.slice (some ⟨g2, 0, none⟩) l.length k2, .slice (some ⟨g2, 0, none⟩) l.length k2, .slice (some ⟨w7.heap.size, 0, none⟩) 1 1] 22 (0, 0)) ∧ W8.heap[w7.heap.size]? = some (.cells #[.int .u8 9] 5 (0, 0))) := ⟨hh8, h98⟩
  clear hRs hlm hh8 h98 hb8 ho7 hb7 hW8 hgl hgl1
  go_upto_if 88 with (first
    | (go_at_call 16; refine (HTn.out _ _ s5 H8.out.1 H6.out.2.1 H6.out.2.2.1 H6.out.2.2.2.1 H8.out.2.2.2.2.1).mono ?_; rintro e w9 ⟨s9, G9, H9, u9, rfl, hL9, hO9⟩; have hr9 := H8.out.2.1.law H8.out.1 hO9; have ha9 := H8.out.2.2.1.law H8.out.1 hO9; have hm9 := H8.out.2.2.2.1.law H8.out.1 hO9; have hl9 := (H8.out.1.other hO9 H8.out.2.2.2.2.2.1 (by decide) (by decide) (by decide)).trans HH.out.1; have hn9 := (H8.out.1.other hO9 H8.out.2.2.2.2.2.2 (by decide) (by decide) (by decide)).trans HH.out.2)
    | (go_at_call 36; refine (back_any _ _ l _ _ hr9.rb hm9 HLl.out.2.2.1).mono ?_; rintro e w10 ⟨rfl, hb10⟩; have cl := (hb10.cell (p := ⟨gl, 2, none⟩) (Array.getElem?_eq_some_iff.1 hl9).1).trans (cell_of hl9 2); have cn := (hb10.cell (p := ⟨w7.heap.size, 0, none⟩) (Array.getElem?_eq_some_iff.1 hn9).1).trans (cell_of hn9 0)))
  have HG : Hid (gr < g1 ∧ g1 < g2 ∧ W0.heap.size ≤ g1 ∧ W0.heap.size ≤ g2) := by
    have h1 := H3.out.2.2.1
    have h2 := (H6.out.2.2.2.2.2.at g1 rfl)
    have h3 := (H8.out.2.2.2.1.at g2 rfl)
    have h4 := H1.out.1.bel.size
    have h5 := H3.out.2.2.2
    show _ ∧ _ ∧ _ ∧ _
    omega
  have H10 : Hid (Lw W0 w10 b g sb G9 H9 u9 s9 [l, l] (93 + P) 609 ∧ OwnB w10 w1.heap.size (.slice (some ⟨gr, 0, none⟩) l.length cr) l ∧ OwnB w10 w3.heap.size (.slice (some ⟨g1, 0, none⟩) (l.length + 70) k1) (l ++ marks 70) ∧ OwnB w10 w6.heap.size (.slice (some ⟨g2, 0, none⟩) (l.length + 70) k2) (l ++ marks 70)) := ⟨hL9.below hb10, hr9.below hb10, ha9.below hb10, hm9.below hb10⟩
  clear hL9 hr9 ha9 hm9 hl9 hn9 hb10 cl cn hO9
  obtain ⟨T7, hT7⟩ : ∃ T7, l.length + 70 = T7 := ⟨_, rfl⟩
  have HT7 : Hid (l.length + 70 = T7 ∧ T7 ≤ 1000) := by have := HLl.out; show _ ∧ _; omega
  rw [hT7] at H10
  have e70 : (l.length : Int) + 70 = (T7 : Int) := by omega
  rw [hT7]
  clear hT7 e70
  go_wp2
  go_loopw [14] (fun i wx => ∃ k : Nat, k ≤ T7 ∧ i = .int .i64 k ∧ ∃ la lm, la.length = T7 ∧ lm.length = T7 ∧ Lw W0 wx b g sb G9 H9 u9 s9 [l, l] (93 + P) 609 ∧ OwnB wx w1.heap.size (.slice (some ⟨gr, 0, none⟩) l.length cr) l ∧ OwnB wx w3.heap.size (.slice (some ⟨g1, 0, none⟩) T7 k1) la ∧ OwnB wx w6.heap.size (.slice (some ⟨g2, 0, none⟩) T7 k2) lm) (fun i _ => T7 - (intOf i).toNat)
  case atStart => exact ⟨0, Nat.zero_le _, rfl, l ++ marks 70, l ++ marks 70, by rw [List.length_append, marks_len]; exact HT7.out.1, by rw [List.length_append, marks_len]; exact HT7.out.1, H10.out.1, H10.out.2.1, H10.out.2.2.1, H10.out.2.2.2⟩
  case round =>
    obtain ⟨k, hk, rfl, la, lm, hla, hlm, hLx, hrx, hax, hmx⟩ := hrel
    by_cases hlt : k < T7
    · have hki : (k : Int) < (T7 : Int) := by omega
      obtain ⟨⟨x1, hx1⟩, hf1⟩ := hax.cell k (by omega)
      have Hx : Hid (Lw W0 wr b g sb G9 H9 u9 s9 [l, l] (93 + P) 609 ∧ OwnB wr w1.heap.size (.slice (some ⟨gr, 0, none⟩) l.length cr) l ∧ OwnB wr w3.heap.size (.slice (some ⟨g1, 0, none⟩) T7 k1) la ∧ OwnB wr w6.heap.size (.slice (some ⟨g2, 0, none⟩) T7 k2) lm ∧ la.length = T7 ∧ lm.length = T7 ∧ k < T7) := ⟨hLx, hrx, hax, hmx, hla, hlm, hlt⟩
      clear hLx hrx hax hmx hla hlm hlt hk
      go_upto_region 16 with fail
      obtain ⟨w11, hw11⟩ : ∃ w11, wr.setCell ⟨g1, k, none⟩ (.int .u8 ((x1 + 1) % 256)) = w11 := ⟨_, rfl⟩
      have hO1 : Only (fun q => q = g1) wr w11 := by rw [← hw11]; exact only_set _ _ _ _
      have ha11 : OwnB w11 w3.heap.size (.slice (some ⟨g1, 0, none⟩) T7 k1) (la.set k ((x1 + 1) % 256)) := by rw [← hw11]; exact Hx.out.2.2.1.put Hx.out.2.2.2.2.1 k _
      have hL11 := Hx.out.1.row (Hx.out.2.2.1.tag rfl) HG.out.2.2.1 hO1
      have hr11 := Hx.out.2.1.apart hO1 (by have := HG.out; omega)
      have hm11 := Hx.out.2.2.2.1.apart hO1 (by have := HG.out; omega)
      rw [hw11]
      obtain ⟨⟨x2, hx2⟩, hf2⟩ := hm11.cell k (by have := Hx.out.2.2.2.2.2; omega)
      have H11 : Hid (Lw W0 w11 b g sb G9 H9 u9 s9 [l, l] (93 + P) 609 ∧ OwnB w11 w1.heap.size (.slice (some ⟨gr, 0, none⟩) l.length cr) l ∧ OwnB w11 w3.heap.size (.slice (some ⟨g1, 0, none⟩) T7 k1) (la.set k ((x1 + 1) % 256)) ∧ OwnB w11 w6.heap.size (.slice (some ⟨g2, 0, none⟩) T7 k2) lm) := ⟨hL11, hr11, ha11, hm11⟩
      clear hL11 hr11 ha11 hm11 hO1 hw11 hx1 hf1
      go_wp2
      have hO2 : Only (fun q => q = g2) w11 (w11.setCell ⟨g2, k, none⟩ (.int .u8 ((x2 + 1) % 256))) := only_set _ _ _ _
      have hW : Hid (wrap64 ((k : Int) + 1) = ((k + 1 : Nat) : Int)) := by show _ = _; have := HT7.out; have := Hx.out.2.2.2.2.2.2; unfold wrap64; omega
      exact ⟨⟨k + 1, Hx.out.2.2.2.2.2.2, by rw [hW.out], la.set k ((x1 + 1) % 256), lm.set k ((x2 + 1) % 256), by rw [List.length_set]; exact Hx.out.2.2.2.2.1, by rw [List.length_set]; exact Hx.out.2.2.2.2.2.1, H11.out.1.row (H11.out.2.2.2.tag rfl) HG.out.2.2.2 hO2, H11.out.2.1.apart hO2 (by have := HG.out; omega), H11.out.2.2.1.apart hO2 (by have := HG.out; omega), H11.out.2.2.2.put Hx.out.2.2.2.2.2.1 k _⟩, by have := Hx.out.2.2.2.2.2.2; rw [hW.out]; simp [intOf]; omega⟩
    · have hki : ¬ ((k : Int) < (T7 : Int)) := by omega
      have Hx : Hid (Lw W0 wr b g sb G9 H9 u9 s9 [l, l] (93 + P) 609 ∧ OwnB wr w1.heap.size (.slice (some ⟨gr, 0, none⟩) l.length cr) l) := ⟨hLx, hrx⟩
      clear hLx hrx hax hmx hla hlm hlt hk
      go_upto_region 20 with (go_at_call 32; refine (lw_open Hx.out.1 (by omega)).mono ?_; rintro e w12 ⟨sb2, vR, rfl, hL12, hR12, hB12⟩; obtain ⟨gv, cv, e0, c0, e1, c1, rfl, hgv, tgv, v0, v1, o0, o1, hne⟩ := hR12.two HLl.out.1)
      obtain ⟨bs, hbs⟩ : ∃ bs, wr.heap.size = bs := ⟨_, rfl⟩
      have HBs : Hid (W0.heap.size ≤ bs) := by show _ ≤ _; rw [← hbs]; exact Hx.out.1.bel.size
      have hgr := (Hx.out.2.at gr rfl).2
      rw [hbs] at o0 o1 hgr hgv
      have HE : Hid (e0 ≠ e1 ∧ gr ≠ e0 ∧ W0.heap.size ≤ e0 ∧ bs ≤ gv ∧ Tag w12 gv 22) := ⟨hne, by have h2 := (o0.at e0 rfl).1; omega, Nat.le_trans HBs.out (o0.at e0 rfl).1, hgv, tgv⟩
      have H12 : Hid (Lw W0 w12 b g sb2 G9 H9 u9 s9 [l, l] (93 + P) 609 ∧ OwnB w12 w1.heap.size (.slice (some ⟨gr, 0, none⟩) l.length cr) l ∧ OwnB w12 bs (.slice (some ⟨e0, 0, none⟩) l.length c0) l ∧ OwnB w12 bs (.slice (some ⟨e1, 0, none⟩) l.length c1) l) := ⟨hL12, Hx.out.2.below hB12, o0, o1⟩
      have HV : Hid (w12.cell? ⟨gv, 0, none⟩ = some (.slice (some ⟨e0, 0, none⟩) l.length c0) ∧ w12.cell? ⟨gv, 1, none⟩ = some (.slice (some ⟨e1, 0, none⟩) l.length c1)) := ⟨v0, v1⟩
      clear hL12 hR12 hB12 o0 o1 hne hgv tgv v0 v1 hbs hgr
      go_wp2
      go_loopw [18] (fun i wx => ∃ k : Nat, k ≤ l.length ∧ i = .int .i64 k ∧ ∃ l0, l0.length = l.length ∧ Lw W0 wx b g sb2 G9 H9 u9 s9 [l, l] (93 + P) 609 ∧ OwnB wx w1.heap.size (.slice (some ⟨gr, 0, none⟩) l.length cr) l ∧ OwnB wx bs (.slice (some ⟨e0, 0, none⟩) l.length c0) l0 ∧ OwnB wx bs (.slice (some ⟨e1, 0, none⟩) l.length c1) l ∧ wx.cell? ⟨gv, 0, none⟩ = some (.slice (some ⟨e0, 0, none⟩) l.length c0) ∧ wx.cell? ⟨gv, 1, none⟩ = some (.slice (some ⟨e1, 0, none⟩) l.length c1) ∧ Tag wx gv 22) (fun i _ => l.length - (intOf i).toNat)
      case atStart => exact ⟨0, Nat.zero_le _, rfl, l, rfl, H12.out.1, H12.out.2.1, H12.out.2.2.1, H12.out.2.2.2, HV.out.1, HV.out.2, HE.out.2.2.2.2⟩
      case round =>
        obtain ⟨j, hj, rfl, l0, hl0, hLx, hrx, h0x, h1x, v0, v1, tgv⟩ := hrel
        by_cases hlt : j < l.length
        · have hji : (j : Int) < (l.length : Int) := by omega
          obtain ⟨⟨x1, hx1⟩, hf1⟩ := h0x.cell j (by omega)
          have HO : Hid (∀ x, Lw W0 (wr.setCell ⟨e0, j, none⟩ (.int .u8 x)) b g sb2 G9 H9 u9 s9 [l, l] (93 + P) 609 ∧ OwnB (wr.setCell ⟨e0, j, none⟩ (.int .u8 x)) w1.heap.size (.slice (some ⟨gr, 0, none⟩) l.length cr) l ∧ OwnB (wr.setCell ⟨e0, j, none⟩ (.int .u8 x)) bs (.slice (some ⟨e0, 0, none⟩) l.length c0) (l0.set j x) ∧ OwnB (wr.setCell ⟨e0, j, none⟩ (.int .u8 x)) bs (.slice (some ⟨e1, 0, none⟩) l.length c1) l ∧ (wr.setCell ⟨e0, j, none⟩ (.int .u8 x)).cell? ⟨gv, 0, none⟩ = some (.slice (some ⟨e0, 0, none⟩) l.length c0) ∧ (wr.setCell ⟨e0, j, none⟩ (.int .u8 x)).cell? ⟨gv, 1, none⟩ = some (.slice (some ⟨e1, 0, none⟩) l.length c1) ∧ Tag (wr.setCell ⟨e0, j, none⟩ (.int .u8 x)) gv 22) := fun x => by
            have hO := only_set wr e0 j (.int .u8 x)
            obtain ⟨cs, fz, hgv⟩ := id tgv
            have hg := (hO.block gv tgv.lt (fun e => tgv.ne (h0x.tag rfl) (by decide) e)).trans hgv
            refine ⟨hLx.row (h0x.tag rfl) HE.out.2.2.1 hO, hrx.apart hO HE.out.2.1, h0x.put hl0 j x, h1x.apart hO (Ne.symm HE.out.1), ?_, ?_, ⟨cs, fz, hg⟩⟩
            · exact (cell_heap (hg.trans hgv.symm)).trans v0
            · exact (cell_heap (hg.trans hgv.symm)).trans v1
          have HJ : Hid (j < l.length ∧ l0.length = l.length ∧ wrap64 ((j : Int) + 1) = ((j + 1 : Nat) : Int)) := ⟨hlt, hl0, by have := HLl.out; unfold wrap64; omega⟩
          clear hLx hrx h0x h1x v1 tgv hj hlt hl0
          go_upto_region 23 with fail
          go_region_law (fail)
          all_goals go_wp2
          all_goals exact ⟨⟨j + 1, HJ.out.1, by rw [HJ.out.2.2], l0.set j _, by rw [List.length_set]; exact HJ.out.2.1, (HO.out _).1.below (Below.refl _ _).drew, (HO.out _).2.1.below (Below.refl _ _).drew, (HO.out _).2.2.1.below (Below.refl _ _).drew, (HO.out _).2.2.2.1.below (Below.refl _ _).drew, (HO.out _).2.2.2.2.1, (HO.out _).2.2.2.2.2.1, (HO.out _).2.2.2.2.2.2⟩, by have := HJ.out.1; rw [HJ.out.2.2]; simp [intOf]; omega⟩
        · have hji : ¬ ((j : Int) < (l.length : Int)) := by omega
          have HZ : Hid (Lw W0 wr b g sb2 G9 H9 u9 s9 [l, l] (93 + P) 609 ∧ OwnB wr w1.heap.size (.slice (some ⟨gr, 0, none⟩) l.length cr) l ∧ OwnB wr bs (.slice (some ⟨e1, 0, none⟩) l.length c1) l) := ⟨hLx, hrx, h1x⟩
          have HSB : Hid (∀ v v' w, RB w v l → RB w v' l → Calls Try.prog 37 #[v, v'] w fun e w' => e = .returned (.bool true) ∧ Below w.heap.size w w') := fun v v' w h h' => by
            have := same_any v v' l l w h h' HLl.out.2.2.2 HLl.out.2.2.2; rw [decide_eq_true (rfl : l = l)] at this; exact this
          have HSR : Hid (∀ v v' w, Rs w v [l, l] → Rs w v' [l, l] → Calls Try.prog 33 #[v, v'] w fun e w' => e = .returned (.bool true) ∧ Below w.heap.size w w') := fun v v' w h h' => by
            have hs : ∀ x ∈ [l, l], x.length ≤ 1000000 := fun x hx => by
              have : x = l := by simpa using hx
              rw [this]; exact HLl.out.2.2.2
            have := sameRows_any v v' [l, l] [l, l] w h h' (by show 2 ≤ 1000000; decide) (by show 2 ≤ 1000000; decide) hs hs; rw [decide_eq_true (rfl : [l, l] = [l, l])] at this; exact this
          clear hLx hrx h0x h1x tgv hj hlt hl0
          go_upto_region 27 with (first
            | (go_at_call 37; refine (HSB.out _ _ _ HZ.out.2.2.rb HZ.out.2.1.rb).mono ?_; rintro e w13 ⟨rfl, hb13⟩)
            | (go_at_call 32; refine (lw_open (HZ.out.1.below hb13) (by omega)).mono ?_; rintro e w14 ⟨sb3, vm, rfl, hL14, hR14, hB14⟩))
          have H14 : Hid (OwnB w14 w1.heap.size (.slice (some ⟨gr, 0, none⟩) l.length cr) l ∧ OwnR w14 w13.heap.size w14.heap.size vm [l, l] ∧ Below w.heap.size w w14) := ⟨(HZ.out.2.1.below hb13).below hB14, hR14, chainB HB0.out hL14.bel⟩
          clear hL14 hR14 hB14 hb13 v0 v1
          go_wp2_with (first
            | (go_at_call 33; refine (HSR.out _ _ _ (H14.out.2.1.rs.below (below_alloc _ _)) (rs_two H14.out.1.rt)).mono ?_; rintro e w15 ⟨rfl, hb15⟩)
            | (go_at_call 10; refine (awake_any _).mono ?_; rintro e w16 ⟨rfl, hb16⟩))
          go_ret
          exact ⟨rfl, chainB (chainB (chainB H14.out.2.2 (below_alloc _ _)) hb15) hb16⟩
end Go.Proofs.Ytpifjfhlelekjaa
