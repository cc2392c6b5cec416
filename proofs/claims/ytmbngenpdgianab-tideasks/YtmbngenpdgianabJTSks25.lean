/- The law TideAsks. -/
import Derived.Test.YtmbngenpdgianabJTSks24
namespace Go.Proofs.Ytmbngenpdgianab
section
open Go.RowKit Go.Shelf
attribute [local go_sem ↓ high] loadMsg storeMsg buildMsg storeAct loadAct buildAct
attribute [local go_sem high] run_store_complex eqC

/-- the law's tide, and its message's box -/
structure Bx (w W : World) (t rb : Nat) (S : Ts) (F : Nat → Prop) (x : Hm) : Prop where
  lt : Lt w W t S F
  fb : F rb
  wb : w.heap.size ≤ rb
  box : W.heap[rb]? = some (.cells x.arr 41 (0, 0))
theorem Bx.below {w W V : World} {t rb : Nat} {S : Ts} {F : Nat → Prop} {x : Hm} (h : Bx w W t rb S F x) (hb : Below W.heap.size W V) : Bx w V t rb S F x := ⟨h.lt.below hb, h.fb, h.wb, hkeep h.box hb⟩
theorem Bx.on {w W V : World} {t rb : Nat} {S S' : Ts} {F : Nat → Prop} {x : Hm} (h : Bx w W t rb S F x) (hl : Lt w V t S' F) (hk : Kt F W V) : Bx w V t rb S' F x := ⟨hl, h.fb, h.wb, (hk.mine rb h.fb (Array.getElem?_eq_some_iff.1 h.box).1).trans h.box⟩
theorem Bx.put {w W : World} {t rb : Nat} {S : Ts} {F : Nat → Prop} {x : Hm} (h : Bx w W t rb S F x) (y : Hm) (i : Nat) (v : Value) (hy : x.arr.setIfInBounds i v = y.arr) : Bx w (W.setCell ⟨rb, i, none⟩ v) t rb S F y := by
  refine ⟨h.lt.mine (only1 W rb i v) (fun k (e : k = rb) => by rw [e]; exact ⟨h.fb, h.wb⟩), h.fb, h.wb, ?_⟩
  rw [← hy]; exact heap_set h.box i v
theorem Bx.ld {w W : World} {t rb : Nat} {S : Ts} {F : Nat → Prop} {x : Hm} (h : Bx w W t rb S F x) : (msgLd (.pointer (some ⟨rb, 0, none⟩))).run Try.prog W = .ok (.agg x.arr) W := msgLd_of h.box x.size
theorem one_of {α β : Type} {f : α → β} {l : List α} {m : β} (h : l.map f = [m]) : ∃ a, l = [a] := by
  have hl := congrArg List.length h
  rw [List.length_map] at hl
  cases l with
  | nil => cases hl
  | cons a l =>
    cases l with
    | nil => exact ⟨a, rfl⟩
    | cons b l => simp at hl
theorem two_of' {α β : Type} {f : α → β} {l : List α} {m n : β} (h : l.map f = [m, n]) : ∃ a b, l = [a, b] ∧ f a = m ∧ f b = n := by
  have hl := congrArg List.length h
  rw [List.length_map] at hl
  cases l with
  | nil => cases hl
  | cons a l =>
    cases l with
    | nil => simp at hl
    | cons b l =>
      cases l with
      | nil =>
        rw [List.map_cons, List.map_cons, List.map_nil] at h
        injection h with h1 h2
        injection h2 with h2 _
        exact ⟨a, b, rfl, h1, h2⟩
      | cons c l => simp at hl
theorem two_of {l : List Hm} (h : l.map Hm.m = stream 2) : ∃ a b, l = [a, b] ∧ a.m = brkN 1 ∧ b.m = brkN 2 := two_of' h
set_option maxHeartbeats 16000000 in
set_option maxRecDepth 100000 in
theorem asks_walk (a b c : Int) (w : World) : Calls Try.prog 6 #[.int .i64 a, .int .i64 b, .int .i64 c] w fun e w' => e = .returned (.bool true) ∧ Below w.heap.size w w' := by
  have HN : Hid (Calls Try.prog 7 #[.int .i64 1, .int .i64 1, .int .i64 8] w fun e w' => e = .returned (.tuple #[.pointer (some ⟨w.heap.size, 0, none⟩), .int .i64 0]) ∧ Lt w w' w.heap.size (Ts.new 1 1 8) (fun _ => False) ∧ Below w.heap.size w w') := lt_new 1 1 8 w w (Below.refl _ _) _ (fun k hk => hk.elim) (by decide)
  obtain ⟨t, ht⟩ : ∃ t, w.heap.size = t := ⟨_, rfl⟩
  have HT : Hid (w.heap.size = t) := ht
  rw [ht] at HN
  obtain ⟨x, hx⟩ : ∃ x : Int, 1 + (plw a 50 : Int) = x := ⟨_, rfl⟩
  obtain ⟨y, hy⟩ : ∃ y : Int, 51 + (plw b 50 : Int) = y := ⟨_, rfl⟩
  obtain ⟨e, he⟩ : ∃ e : Int, 1 + (plw c 60 : Int) = e := ⟨_, rfl⟩
  have hpa := plw_lt a 50 (by omega)
  have hpb := plw_lt b 50 (by omega)
  have hpc := plw_lt c 60 (by omega)
  have HP : Hid (∀ (v : Int) (n : Nat), n = 50 ∨ n = 60 → ∀ W, Calls Try.prog 20 #[.int .i64 v, .int .i64 n] W fun e w' => e = .returned (.int .i64 (plw v n)) ∧ W = w') := fun v n hn W => place_w v n W (by omega) (by omega)
  have HXY : Hid (1 ≤ x ∧ x ≤ 50 ∧ 51 ≤ y ∧ y ≤ 100 ∧ 1 ≤ e ∧ e ≤ 60) := ⟨by omega, by omega, by omega, by omega, by omega, by omega⟩
  have hpa' : Hid ((plw a 50 : Int) = x - 1 ∧ (plw b 50 : Int) = y - 51 ∧ (plw c 60 : Int) = e - 1) := ⟨by omega, by omega, by omega⟩
  have HPa : Hid (∀ W, Calls Try.prog 20 #[.int .i64 a, .int .i64 50] W fun e w' => e = .returned (.int .i64 (x - 1)) ∧ W = w') := fun W => by have := HP.out a 50 (.inl rfl) W; rw [hpa'.out.1] at this; exact this
  have HPb : Hid (∀ W, Calls Try.prog 20 #[.int .i64 b, .int .i64 50] W fun e w' => e = .returned (.int .i64 (y - 51)) ∧ W = w') := fun W => by have := HP.out b 50 (.inl rfl) W; rw [hpa'.out.2.1] at this; exact this
  have HPc : Hid (∀ W, Calls Try.prog 20 #[.int .i64 c, .int .i64 60] W fun q w' => q = .returned (.int .i64 (e - 1)) ∧ W = w') := fun W => by have := HP.out c 60 (.inr rfl) W; rw [hpa'.out.2.2] at this; exact this
  clear hpa hpb hpc ht hx hy he HP hpa'
  have hxe : 1 + (x - 1) = x := by omega
  have hye : 51 + (y - 51) = y := by omega
  have hee : 1 + (e - 1) = e := by omega
  have hx1 : 1 ≤ x := HXY.out.1
  have hx2 : x ≤ 50 := HXY.out.2.1
  have hy1 : 51 ≤ y := HXY.out.2.2.1
  have hy2 : y ≤ 100 := HXY.out.2.2.2.1
  have he1 : 1 ≤ e := HXY.out.2.2.2.2.1
  have he2 : e ≤ 60 := HXY.out.2.2.2.2.2
  go_enter Try.func6, Try.ntmps6
  go_upto_region 4 with (go_at_call 7; refine HN.out.mono ?_; rintro q w1 ⟨rfl, hL1, hb1⟩; have H1 : Hid _ := hL1; clear hL1)
  obtain ⟨W2, hW2⟩ : ∃ W2, w1.alloc (.cells #[.int .i64 0, .int .i64 0, .int .i64 0, .int .i64 0, .complex .f64 0 0, .int .i64 0, .int .i64 0, .int .i64 0, .int .i64 0, .string ⟨#[]⟩, .int .i64 0, .string ⟨#[]⟩, .int .i64 0, .string ⟨#[]⟩, .slice none 0 0, .slice none 0 0] 41) = W2 := ⟨_, rfl⟩
  have b2 := boxB hW2
  obtain ⟨W3, hW3⟩ : ∃ W3, W2.setRow w1.heap.size (rH x 0).arr = W3 := ⟨_, rfl⟩
  have ms : (msgSt (.pointer (some ⟨w1.heap.size, 0, none⟩)) (.agg #[.int .i64 2, .int .i64 1, .int .i64 1, .int .i64 x, .complex .f64 4607182418800017408 4611686018427387904, .int .i64 9, .int .i64 0, .int .i64 0, .int .i64 0, .string ⟨#[]⟩, .int .i64 0, .string ⟨#[]⟩, .int .i64 0, .string ⟨#[]⟩, .slice none 0 0, .slice none 0 0])).run Try.prog W2 = .ok () W3 := msgSt_of b2.1 rfl (Hm.size (rH x 0)) (Hm.one (rH x 0)) hW3
  obtain ⟨rb, hrb⟩ : ∃ rb, w1.heap.size = rb := ⟨_, rfl⟩
  rw [hrb] at ms hW3 b2
  have KB : Hid (Bx w W3 t rb (Ts.new 1 1 8) (fun k => False ∨ (rb ≤ k ∧ k < W2.heap.size)) (rH x 0)) := by
    rw [← hrb] at b2
    have l2 := H1.out.add b2.2
    rw [hrb] at l2 b2
    have hwr : w.heap.size ≤ rb := by rw [← hrb]; exact H1.out.bel.size
    have fb : False ∨ (rb ≤ rb ∧ rb < W2.heap.size) := .inr ⟨Nat.le_refl _, (Array.getElem?_eq_some_iff.1 b2.1).1⟩
    refine ⟨l2.mine (G := fun k => k = rb) (by rw [← hW3]; exact onlyR _ _ _) (fun k (e : k = rb) => by rw [e]; exact ⟨fb, hwr⟩), fb, hwr, ?_⟩
    rw [← hW3]; exact setRow_heap _ _ _ _ _ _ b2.1
  clear b2 hW3
  go_upto_region 8 with (first
    | (go_at_call_of 20 (Value.int .i64 a); refine (HPa.out _).mono ?_; rintro q w' ⟨rfl, rfl⟩)
    | (go_at_call_of 20 (Value.int .i64 b); refine (HPb.out _).mono ?_; rintro q w' ⟨rfl, rfl⟩)
    | (go_at_call 9; refine (lt_ask KB.out.lt x).mono ?_; rintro q w4 ⟨rfl, hl4, hk4⟩; rw [asks1 x hx1] at hl4; have K4 : Hid (Bx w w4 t rb (sA1 x) _ (rH x 0)) := KB.out.on hl4 hk4; clear hl4 hk4))
  have ml4 := K4.out.ld
  have HTk : Hid (∀ (S : Ts) (F : Nat → Prop) (W : World) (q z : Int), Lt w W t S F → Calls Try.prog 12 #[.pointer (some ⟨t, 0, none⟩), .agg (rH q z).arr] W fun e w' => TkL w W t S F (rM q z) e w') := fun S F W q z hL => lt_take hL (rH q z) (rH_lists _ _ _)
  obtain ⟨F1, hF1⟩ : ∃ F1 : Nat → Prop, (fun k => False ∨ (rb ≤ k ∧ k < W2.heap.size)) = F1 := ⟨_, rfl⟩
  rw [hF1] at K4
  obtain ⟨R1, hR1⟩ : ∃ R1, (rH x 0).arr = R1 := ⟨_, rfl⟩
  have HR1 : Hid ((rH x 0).arr = R1) := hR1
  rw [hR1] at ml4
  have HT1 : Hid (∀ (S : Ts) (F : Nat → Prop) (W : World), Lt w W t S F → Calls Try.prog 12 #[.pointer (some ⟨t, 0, none⟩), .agg R1] W fun e w' => TkL w W t S F (rM x 0) e w') := fun S F W hL => by rw [← hR1]; exact HTk.out S F W x 0 hL
  have HAk4 : Hid (Calls Try.prog 24 #[.pointer (some ⟨t, 0, none⟩)] w4 fun e w' => e = .returned (.int .i64 x) ∧ w4 = w') := lt_asked K4.out.lt
  clear hF1 hR1 KB
  go_upto_region 10 with (first
    | (go_at_call 24; refine HAk4.out.mono ?_; rintro q w' ⟨rfl, rfl⟩)
    | (go_at_call 12; refine (HT1.out _ _ _ K4.out.lt).mono ?_; rintro q w5 ⟨v5, l5, rfl, ha5, hc5, hl5, hk5⟩; rw [asks2 x hx1] at hc5 hl5; obtain ⟨a5, rfl, -⟩ := acts1 hc5; obtain ⟨s5, c5, rfl⟩ := owns_len ha5.row; have K5 : Hid (Bx w w5 t rb (sA2 x) F1 (rH x 0)) := K4.out.on hl5 hk5; clear ha5 hc5 hl5 hk5 ml4)
    | (go_at_call 16; refine (lt_held K5.out.lt).mono ?_; rintro q w6 ⟨v6, l6, rfl, hm6, hc6, hb6⟩; obtain ⟨h6, rfl⟩ : ∃ h, l6 = [h] := one_of hc6; obtain ⟨s6, c6, rfl⟩ := owns_len hm6.row; have K6 : Hid (Bx w w6 t rb (sA2 x) F1 (rH x 0)) := K5.out.below hb6; clear hm6 hc6 hb6))
  go_upto_region 11 with (first
    | (go_at_call 9; refine (lt_ask K6.out.lt y).mono ?_; rintro q w7 ⟨rfl, hl7, hk7⟩; rw [asks3 x y (by omega) (by omega)] at hl7; have K7 : Hid (Bx w w7 t rb (sA3 y) F1 (rH x 0)) := K6.out.on hl7 hk7; clear hl7 hk7))
  go_upto_region 13 with (first
    | (go_at_call 16; refine (lt_held K7.out.lt).mono ?_; rintro q w8 ⟨v8, l8, rfl, hm8, hc8, hb8⟩; obtain rfl : l8 = [] := List.map_eq_nil_iff.1 hc8; obtain ⟨s8, c8, rfl⟩ := owns_len hm8.row; have K8 : Hid (Bx w w8 t rb (sA3 y) F1 (rH x 0)) := K7.out.below hb8; have HAk8 : Hid (Calls Try.prog 24 #[.pointer (some ⟨t, 0, none⟩)] w8 fun e w' => e = .returned (.int .i64 y) ∧ w8 = w') := lt_asked K8.out.lt; clear hm8 hc8 hb8)
    | (go_at_call 24; refine HAk8.out.mono ?_; rintro q w' ⟨rfl, rfl⟩))
  have HBr : Hid (Calls Try.prog 19 #[.int .i64 2] w8 fun e w' => BrR w8 2 e w') := breaks_p 2 w8 (by omega)
  go_upto_region 14 with (first
    | (go_at_call 19; refine HBr.out.mono ?_; rintro q w9 ⟨v9, l9, rfl, hm9, hc9, hb9⟩; obtain ⟨z1, z2, rfl, hz1, hz2⟩ := two_of hc9; obtain ⟨s9, c9, rfl⟩ := owns_len hm9.row; have H9 : Hid (Msgs w9 w8.heap.size (.slice s9 [z1, z2].length c9) [z1, z2] ∧ z1.m = brkN 1 ∧ z2.m = brkN 2 ∧ Lt w w9 t (sA3 y) (fun k => F1 k ∨ (w8.heap.size ≤ k ∧ k < w9.heap.size)) ∧ Below w8.heap.size w8 w9) := ⟨hm9, hz1, hz2, K8.out.lt.add hb9, hb9⟩; clear hm9 hc9 hb9 hz1 hz2))
  obtain ⟨F2, hF2⟩ : ∃ F2 : Nat → Prop, (fun k => F1 k ∨ (w8.heap.size ≤ k ∧ k < w9.heap.size)) = F2 := ⟨_, rfl⟩
  have K9 : Hid (Bx w w9 t rb (sA3 y) F2 (rH x 0)) := by
    rw [← hF2]
    have := K8.out.below H9.out.2.2.2.2
    exact ⟨H9.out.2.2.2.1, .inl this.fb, this.wb, this.box⟩
  have hr9 := H9.out.1.row
  obtain ⟨g, hg, -, hgb, hgl, q1⟩ := owns_msg hr9 (i := 0) rfl
  cases hg
  have HRow : Hid (RowM w9 w8.heap.size (.slice (some ⟨g, 0, none⟩) 2 c9) [z1, z2] ∧ (∀ q, (Value.slice (some ⟨g, 0, none⟩) 2 c9).ownBlock = some q → F2 q)) := ⟨hr9, fun q hq => by cases hq; rw [← hF2]; exact .inr ⟨hgb, hgl⟩⟩
  have ml9 : (msgLd (.pointer (some ⟨g, 0, none⟩))).run Try.prog w9 = .ok (.agg z1.arr) w9 := msgLd_at q1 z1.size
  have HTz : Hid (∀ (S : Ts) (W : World) (z : Hm), z = z1 ∨ z = z2 → Lt w W t S F2 → Lists W 0 z → Calls Try.prog 12 #[.pointer (some ⟨t, 0, none⟩), .agg z.arr] W fun e w' => TkL w W t S F2 z.m e w') := fun S W z _ hL hl => lt_take hL z hl
  have HZ : Hid (Lists w9 0 z1 ∧ Lists w9 0 z2) := ⟨(H9.out.1.each z1 (by simp)).down (Nat.zero_le _), (H9.out.1.each z2 (by simp)).down (Nat.zero_le _)⟩
  clear q1 hr9 hF2 hgb hgl
  go_upto_region 15 with (first
    | (go_at_call 12; refine (HTz.out _ _ z1 (.inl rfl) K9.out.lt HZ.out.1).mono ?_; rintro q w10 ⟨v10, l10, rfl, -, -, hl10, hk10⟩; rw [H9.out.2.1, asks4 y (by omega)] at hl10; have K10 : Hid (Bx w w10 t rb (sA4 y) F2 (rH x 0) ∧ RowM w10 w8.heap.size (.slice (some ⟨g, 0, none⟩) 2 c9) [z1, z2] ∧ Lists w10 0 z2) := ⟨K9.out.on hl10 hk10, hk10.rowM HRow.out.1 HRow.out.2, hk10.lists HZ.out.2⟩; clear hl10 hk10 ml9))
  have ml10 : (msgLd (.pointer (some ⟨g, 16, none⟩))).run Try.prog w10 = .ok (.agg z2.arr) w10 := by
    obtain ⟨g', hg', -, -, -, q2⟩ := owns_msg K10.out.2.1 (i := 1) (h := z2) rfl
    cases hg'
    exact msgLd_at (o := 16) q2 z2.size
  go_upto_region 16 with (first
    | (go_at_call 12; refine (HTz.out _ _ z2 (.inr rfl) K10.out.1.lt K10.out.2.2).mono ?_; rintro q w11 ⟨v11, l11, rfl, -, -, hl11, hk11⟩; rw [H9.out.2.2.1, asks5 y (by omega)] at hl11; have K11 : Hid (Bx w w11 t rb (sA5 y) F2 (rH x 0)) := K10.out.1.on hl11 hk11; clear hl11 hk11 ml10))
  have ml11 := K11.out.ld
  rw [HR1.out] at ml11
  go_upto_region 18 with (first
    | (go_at_call 12; refine (HT1.out _ _ _ K11.out.lt).mono ?_; rintro q w12 ⟨v12, l12, rfl, ha12, hc12, hl12, hk12⟩; rw [asks6 x y (by omega)] at hc12 hl12; obtain rfl : l12 = [] := List.map_eq_nil_iff.1 hc12; obtain ⟨s12, c12, rfl⟩ := owns_len ha12.row; have K12 : Hid (Bx w w12 t rb (sA5 y) F2 (rH x 0)) := K11.out.on hl12 hk12; have HV12 : Hid (Calls Try.prog 23 #[.pointer (some ⟨t, 0, none⟩)] w12 fun e w' => e = .returned (.int .i64 4) ∧ w12 = w') := lt_version K12.out.lt; clear ha12 hc12 hl12 hk12 ml11)
    | (go_at_call 23; refine HV12.out.mono ?_; rintro q w' ⟨rfl, rfl⟩))
  have r3 : w12.cell? ⟨rb, 3, none⟩ = some (.int .i64 x) := by rw [cell_of K12.out.box]; rfl
  have r6 : w12.cell? ⟨rb, 6, none⟩ = some (.int .i64 0) := by rw [cell_of K12.out.box]; rfl
  have rf := free_of K12.out.box
  obtain ⟨w13, hw13⟩ : ∃ w13, (w12.setCell ⟨rb, 3, none⟩ (.int .i64 y)).setCell ⟨rb, 6, none⟩ (.int .i64 70) = w13 := ⟨_, rfl⟩
  have K13 : Hid (Bx w w13 t rb (sA5 y) F2 (rH y 70)) := by
    rw [← hw13]
    exact (K12.out.put (rH y 0) 3 (.int .i64 y) rfl).put (rH y 70) 6 (.int .i64 70) rfl
  go_upto_region 20 with fail
  clear hw13 r3 r6 rf
  have ml13 := K13.out.ld
  obtain ⟨R2, hR2⟩ : ∃ R2, (rH y 70).arr = R2 := ⟨_, rfl⟩
  rw [hR2] at ml13
  have HT2 : Hid (Calls Try.prog 12 #[.pointer (some ⟨t, 0, none⟩), .agg R2] w13 fun e w' => TkL w w13 t (sA5 y) F2 (rM y 70) e w') := by rw [← hR2]; exact HTk.out _ _ _ y 70 K13.out.lt
  clear hR2
  go_upto_region 21 with (first
    | (go_at_call 12; refine HT2.out.mono ?_; rintro q w14 ⟨v14, l14, rfl, ha14, hc14, hl14, hk14⟩; rw [asks7 y (by omega)] at hc14 hl14; obtain ⟨a14, rfl, hac14⟩ := acts1 hc14; obtain ⟨s14, c14, rfl⟩ := owns_len ha14.row; have K14 : Hid (Bx w w14 t rb (sA6 y) F2 (rH y 70) ∧ Acts w14 w13.heap.size (.slice s14 [a14].length c14) [a14] ∧ a14.c = againA) := ⟨K13.out.on hl14 hk14, ha14, hac14⟩; clear ha14 hc14 hl14 hk14 ml13 hac14))
  obtain ⟨g14, hg14, -, -, -, q14⟩ := owns_act K14.out.2.1.row (i := 0) rfl
  cases hg14
  have c141 : w14.cell? ⟨g14, 1, none⟩ = some (.bool true) := by have := q14 1 (.bool a14.c.again) rfl; rw [K14.out.2.2] at this; exact this
  have HV14 : Hid (Calls Try.prog 23 #[.pointer (some ⟨t, 0, none⟩)] w14 fun e w' => e = .returned (.int .i64 9) ∧ w14 = w') := lt_version K14.out.1.lt
  have HA14 : Hid (Calls Try.prog 24 #[.pointer (some ⟨t, 0, none⟩)] w14 fun e w' => e = .returned (.int .i64 y) ∧ w14 = w') := lt_asked K14.out.1.lt
  have r6 : w14.cell? ⟨rb, 6, none⟩ = some (.int .i64 70) := by rw [cell_of K14.out.1.box]; rfl
  have rf := free_of K14.out.1.box
  obtain ⟨w15, hw15⟩ : ∃ w15, w14.setCell ⟨rb, 6, none⟩ (.int .i64 e) = w15 := ⟨_, rfl⟩
  have K15 : Hid (Bx w w15 t rb (sA6 y) F2 (rH y e)) := by
    rw [← hw15]
    exact K14.out.1.put (rH y e) 6 (.int .i64 e) rfl
  clear q14
  go_upto_region 24 with (first
    | (go_at_call 23; refine HV14.out.mono ?_; rintro q w' ⟨rfl, rfl⟩)
    | (go_at_call 24; refine HA14.out.mono ?_; rintro q w' ⟨rfl, rfl⟩)
    | (go_at_call 20; refine (HPc.out _).mono ?_; rintro q w' ⟨rfl, rfl⟩))
  clear hw15 r6 rf c141
  have ml15 := K15.out.ld
  obtain ⟨R3, hR3⟩ : ∃ R3, (rH y e).arr = R3 := ⟨_, rfl⟩
  have HR3 : Hid ((rH y e).arr = R3) := hR3
  rw [hR3] at ml15
  have HT3 : Hid (∀ (S : Ts) (W : World), Lt w W t S F2 → Calls Try.prog 12 #[.pointer (some ⟨t, 0, none⟩), .agg R3] W fun q w' => TkL w W t S F2 (rM y e) q w') := fun S W hL => by rw [← hR3]; exact HTk.out _ _ _ y e hL
  clear hR3
  go_upto_region 25 with (first
    | (go_at_call 12; refine (HT3.out _ _ K15.out.lt).mono ?_; rintro q w16 ⟨v16, l16, rfl, ha16, hc16, hl16, hk16⟩; rw [asks8 y e (by omega) (by omega)] at hc16 hl16; obtain ⟨a16, rfl, hac16⟩ := acts1 hc16; obtain ⟨s16, c16, rfl⟩ := owns_len ha16.row; have K16 : Hid (Bx w w16 t rb sA7 F2 (rH y e) ∧ Acts w16 w15.heap.size (.slice s16 [a16].length c16) [a16] ∧ a16.c = ⟨false, false, true, true, [], e, []⟩) := ⟨K15.out.on hl16 hk16, ha16, hac16⟩; clear ha16 hc16 hl16 hk16 ml15 hac16))
  obtain ⟨g16, hg16, -, -, -, q16⟩ := owns_act K16.out.2.1.row (i := 0) rfl
  cases hg16
  have n2 : w16.cell? ⟨g16, 2, none⟩ = some (.bool true) := by have := q16 2 (.bool a16.c.reply) rfl; rw [K16.out.2.2] at this; exact this
  have n3 : w16.cell? ⟨g16, 3, none⟩ = some (.bool true) := by have := q16 3 (.bool a16.c.whole) rfl; rw [K16.out.2.2] at this; exact this
  have n5 : w16.cell? ⟨g16, 5, none⟩ = some (.int .i64 e) := by have := q16 5 (.int .i64 a16.c.err) rfl; rw [K16.out.2.2] at this; exact this
  have n6 : w16.cell? ⟨rb, 6, none⟩ = some (.int .i64 e) := by rw [cell_of K16.out.1.box]; rfl
  have ml16 := K16.out.1.ld
  rw [HR3.out] at ml16
  have HKp : Hid (∀ V, Acts V w15.heap.size (.slice (some ⟨g16, 0, none⟩) [a16].length c16) [a16] → Bx w V t rb sA7 F2 (rH y e) → V.cell? ⟨g16, 2, none⟩ = some (.bool true) ∧ V.cell? ⟨g16, 3, none⟩ = some (.bool true) ∧ V.cell? ⟨g16, 5, none⟩ = some (.int .i64 e) ∧ V.cell? ⟨rb, 6, none⟩ = some (.int .i64 e) ∧ (msgLd (.pointer (some ⟨rb, 0, none⟩))).run Try.prog V = .ok (.agg R3) V) := fun V hV hB => by
    obtain ⟨g', hg', -, -, -, q⟩ := owns_act hV.row (i := 0) rfl
    cases hg'
    have e2 := q 2 (.bool a16.c.reply) rfl
    have e3 := q 3 (.bool a16.c.whole) rfl
    have e5 := q 5 (.int .i64 a16.c.err) rfl
    rw [K16.out.2.2] at e2 e3 e5
    have hm := hB.ld
    rw [HR3.out] at hm
    exact ⟨e2, e3, e5, by rw [cell_of hB.box]; rfl, hm⟩
  have hd : Below w16.heap.size w16 w16.drew := (Below.refl _ _).drew
  have kS := HKp.out w16.drew (K16.out.2.1.below hd) (K16.out.1.below hd)
  have KD : Hid (Lt w w16.drew t sA7 F2 ∧ Bx w w16.drew t rb sA7 F2 (rH y e) ∧ Acts w16.drew w15.heap.size (.slice (some ⟨g16, 0, none⟩) [a16].length c16) [a16]) := ⟨K16.out.1.lt.below hd, K16.out.1.below hd, K16.out.2.1.below hd⟩
  have HA16 : Hid (Calls Try.prog 24 #[.pointer (some ⟨t, 0, none⟩)] w16.drew fun e w' => e = .returned (.int .i64 0) ∧ w16.drew = w') := lt_asked KD.out.1
  clear q16 n2 n3 n5 n6 ml16
  go_region_held3 (fun V => V.cell? ⟨g16, 2, none⟩ = some (.bool true) ∧ V.cell? ⟨g16, 3, none⟩ = some (.bool true) ∧ V.cell? ⟨g16, 5, none⟩ = some (.int .i64 e) ∧ V.cell? ⟨rb, 6, none⟩ = some (.int .i64 e) ∧ (msgLd (.pointer (some ⟨rb, 0, none⟩))).run Try.prog V = .ok (.agg R3) V)
    (with_reducible first | exact kS | exact kT)
    (first
      | (go_at_call 24; refine HA16.out.mono ?_; rintro q w' ⟨rfl, rfl⟩)
      | (go_at_call 12; refine (HT3.out _ _ KD.out.1).mono ?_; rintro q w17 ⟨v17, l17, rfl, ha17, hc17, hl17, hk17⟩; rw [asks9 y e] at hc17 hl17; obtain rfl : l17 = [] := List.map_eq_nil_iff.1 hc17; obtain ⟨s17, c17, rfl⟩ := owns_len ha17.row; have K17 : Hid (Bx w w17 t rb sA7 F2 (rH y e)) := KD.out.2.1.on hl17 hk17; have kT := HKp.out w17 (hk17.acts KD.out.2.2) K17.out; clear ha17 hc17 hl17 hk17))
  clear kS kT
  go_wp2_with (first
    | (go_at_call 9; refine (lt_ask K17.out.lt (-x)).mono ?_; rintro q w18 ⟨rfl, hl18, -⟩; have H18 : Hid (Lt w w18 t (sA7.ask (-x)) F2) := hl18; have HA18 : Hid (Calls Try.prog 24 #[.pointer (some ⟨t, 0, none⟩)] w18 fun e w' => e = .returned (.int .i64 0) ∧ w18 = w') := (by have := lt_asked hl18; rw [asks10 x hx1] at this; exact this); clear hl18)
    | (go_at_call 24; refine HA18.out.mono ?_; rintro q w' ⟨rfl, rfl⟩)
    | (go_at_call 18; refine (awake_p _).mono ?_; rintro q w19 ⟨rfl, hb19⟩))
  go_ret
  exact ⟨rfl, chainB H18.out.bel hb19⟩
theorem walk_TideAsks (a b c : Int) (_ : (Lit.int .i64 a).wf = true) (_ : (Lit.int .i64 b).wf = true) (_ : (Lit.int .i64 c).wf = true) (w : World) : Calls Try.prog 6 #[.int .i64 a, .int .i64 b, .int .i64 c] w fun e w' => e = .returned (.bool true) ∧ Below w.heap.size w w' := asks_walk a b c w
end
end Go.Proofs.Ytmbngenpdgianab
