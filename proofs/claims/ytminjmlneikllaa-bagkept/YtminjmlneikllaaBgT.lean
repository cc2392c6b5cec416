/- The contracts of the two Posts. -/
import Derived.Test.YtminjmlneikllaaBgS
namespace Go.Proofs.Ytminjmlneikllaa
open Go.RowKit

theorem say_snoc (s s' : Bg) (t : Int) (v : Value) (l : List Int) (h : s'.ls = s.ls ++ [⟨t, v, l⟩]) : s'.say = s.say ++ [(t, l)] := by
  unfold Bg.say; rw [h, List.map_append]; rfl

/-- a letter's box -/
theorem box1 {w W : World} {c : Array Value} {t : TypeId} (h : w.alloc (.cells c t) = W) : W.heap[w.heap.size]? = some (.cells c t (0, 0)) ∧ Below w.heap.size w W ∧ W.heap.size = w.heap.size + 1 := by
  subst h
  exact ⟨heap_new _ _, below_alloc _ _, by simp⟩

/-- behind the list's append and the store -/
theorem post_end {T : TypeId} {W w1 w2 : World} {B b : Nat} {s : Bg} {V v1 v2 : Value} {t : Int} {l : List Int} {o : Obj} (hT : T ≠ 37 ∧ T ≠ 5) (h : IsB T W B b s) (hB : B ≤ W.heap.size) (hV : s.v = V) (b1 : Below W.heap.size W w1) (ho1 : OwnB w1 W.heap.size v1 l) (hlb : l.length ≤ LB) (hroom : s.ls.length < s.n)
    (hown : w2.ownsRow 0 37 2 v2 (s.ls.length + 1) (lc s.ls ++ [.int .i64 t, v1])) (hgrow : (w1.alloc o).grownBy w2 V.ownBlock) (hat : v2.ownBlock = V.ownBlock ∨ v2.ownBlock = some (w1.alloc o).heap.size) :
    w2.cell? ⟨b, 1, none⟩ = some V ∧ w2.frozen? ⟨b, 1, none⟩ = false ∧ Hid (∃ s', Step T W (w2.setCell ⟨b, 1, none⟩ v2) B b s s' (s.say ++ [(t, l)])) := by
  subst hV
  have h1 := h.below b1
  have hO : Only (fun q => s.v.ownBlock = some q) w1 w2 :=
    ⟨hgrow.os, hgrow.tape, hgrow.output, Nat.le_trans (by simp) hgrow.size, fun k hk hn => (hgrow.block k (by simp; omega) (fun e => hn e.symm)).trans (Below.heap_alloc _ _ _ hk)⟩
  have hr : w2.heap[b]? = w1.heap[b]? := hO.block b h1.tb.lt (fun e => h1.tb.ne (h1.tv e) hT.1 rfl)
  have h8 : ∀ k, Tag w1 k 5 → w2.heap[k]? = w1.heap[k]? := fun k hk => hO.block k hk.lt (fun e => hk.ne (h1.tv e) (by decide) rfl)
  have hh := hr.trans h1.head
  let s' : Bg := ⟨s.n, v2, s.ls ++ [⟨t, v1, l⟩]⟩
  have hne : ∀ k, v2.ownBlock = some k → k ≠ b := by
    rintro k hk rfl
    have t1 : Tag w2 k 37 := Tag.own hown hk
    exact t1.ne (⟨_, _, hh⟩ : Tag w2 k T) hT.1.symm rfl
  have hrow : w2.ownsRow 0 37 2 v2 (s.ls ++ [(⟨t, v1, l⟩ : Lt)]).length (lc (s.ls ++ [(⟨t, v1, l⟩ : Lt)])) := by
    rw [List.length_append, lc_app]; exact hown
  have heach : ∀ p ∈ s.ls ++ [(⟨t, v1, l⟩ : Lt)], OwnB w2 B p.v p.l ∧ p.l.length ≤ LB := by
    intro p hp
    rcases List.mem_append.1 hp with hp | hp
    · exact ⟨(h1.each p hp).1.moved fun k hk => h8 k ((h1.each p hp).1.tag hk), (h1.each p hp).2⟩
    · obtain rfl := List.mem_singleton.1 hp
      exact ⟨(ho1.le hB).moved fun k hk => h8 k (ho1.tag hk), hlb⟩
  refine ⟨by rw [cell_of hh]; rfl, free_of hh 1, s', ⟨?_, rfl, say_snoc s s' t v1 l rfl, ?_, ?_, fun hle => ?_⟩⟩
  · refine ⟨(heap_set hh 1 v2).trans rfl, owns_moved hrow fun k hk => heap_set_ne (hne k hk), fun p hp => ⟨(heach p hp).1.moved fun k hk => heap_set_ne (((heach p hp).1.tag hk).ne (⟨_, _, hh⟩ : Tag w2 b T) hT.2.symm), (heach p hp).2⟩, ?_, h.lim⟩
    show (s.ls ++ [_]).length ≤ s.n
    rw [List.length_append]; exact hroom
  · have hO1 : Only (fun x => x = b ∨ s.v.ownBlock = some x) w1 (w2.setCell ⟨b, 1, none⟩ v2) := (hO.mono fun _ e => .inr e).trans ((only1 w2 b 1 v2).mono fun _ e => .inl e)
    exact (Only.of b1).trans hO1
  · rcases hat with e | e
    · exact .inl e
    · refine .inr fun q hq => ?_
      have hq' : v2.ownBlock = some q := hq
      rw [e] at hq'
      have := b1.size
      simp at hq'; omega
  · have hle' : (s.ls ++ [(⟨t, v1, l⟩ : Lt)]).length ≤ s.ls.length := hle
    rw [List.length_append] at hle'
    simp at hle'
    omega

theorem row_on {T : TypeId} {w w' : World} {B b L : Nat} {s : Bg} {V : Value} (h : IsB T w B b s) (hV : s.v = V) (hL : s.ls.length = L) (hb : Below w.heap.size w w') : w'.ownsRow 0 37 2 V L (lc s.ls) := by
  subst hV hL; exact owns_below h.row hb

set_option maxHeartbeats 1000000 in
theorem post_full (B b : Nat) (s : Bg) (t : Int) (v : Value) (w : World) (h : IsB TB w B b s) (hf : s.ls.length = s.n) :
    Calls Try.prog 12 #[.pointer (some ⟨b, 0, none⟩), .agg #[.int .i64 t, v]] w fun e w' => e = .returned (.int .i64 2) ∧ Below w.heap.size w w' := by
  have H : Hid (IsB TB w B b s ∧ decide (s.n ≤ s.ls.length) = true) := ⟨h, decide_eq_true (by omega)⟩
  clear h hf
  go_enter Try.func12, Try.ntmps12
  go_wp2_with (go_at_call 28; refine (full_any B b s _ (H.out.1.below (below_alloc _ _))).mono ?_; rintro e w1 ⟨rfl, hb1⟩; rw [H.out.2])
  go_ret
  exact ⟨rfl, chainB (below_alloc _ _) hb1⟩

set_option maxHeartbeats 4000000 in
theorem post_ok (B b : Nat) (s : Bg) (t : Int) (v : Value) (l : List Int) (w : World) (h : IsB TB w B b s) (hB : B ≤ w.heap.size) (hf : s.ls.length < s.n) (hv : RB w v l) (hl : l.length ≤ LB) :
    Calls Try.prog 12 #[.pointer (some ⟨b, 0, none⟩), .agg #[.int .i64 t, v]] w fun e w' => e = .returned (.int .i64 0) ∧ ∃ s', Step TB w w' B b s s' (s.say ++ [(t, l)]) := by
  have H : Hid (IsB TB w B b s ∧ decide (s.n ≤ s.ls.length) = false ∧ RB w v l ∧ l.length ≤ LB) := ⟨h, decide_eq_false (by omega), hv, hl⟩
  obtain ⟨i1, hi1, hw0, hw1, hw2⟩ := info_parts Try.infoL
  obtain ⟨a, cap, rfl, _⟩ := id hv
  have hlim := h.lim
  clear h hv hl
  obtain ⟨n, hn⟩ : ∃ n, l.length = n := ⟨_, rfl⟩
  have HN : Hid (l.length = n) := hn
  rw [hn] at H ⊢
  clear hn
  obtain ⟨L, hL⟩ : ∃ L, s.ls.length = L := ⟨_, rfl⟩
  have HL : Hid (s.ls.length = L) := hL
  rw [hL] at hf H
  clear hL
  go_enter Try.func12, Try.ntmps12
  go_upto_region 3 with (go_at_call 28; refine (full_any B b s _ (H.out.1.below (below_alloc _ _))).mono ?_; rintro e w1 ⟨rfl, hb1⟩; rw [HL.out, H.out.2.1])
  have hb := chainB (below_alloc _ _) hb1
  have m0 : w1.heap[w.heap.size]? = some (.cells #[.int .i64 t, .slice a n cap] 37 (0, 0)) := (hb1.block _ (by simp)).trans (heap_new _ _)
  have k0 := cell_of m0 0
  have k1 := cell_of m0 1
  simp at k0 k1
  have h1 := H.out.1.below hb
  obtain ⟨_, c1, cf⟩ := h1.cells
  have cf1 := cf 1
  obtain ⟨V, hV⟩ : ∃ V, s.v = V := ⟨_, rfl⟩
  rw [hV] at c1
  have hlb : b < w1.heap.size := h1.tb.lt
  have hlw : w.heap.size < w1.heap.size := (Array.getElem?_eq_some_iff.1 m0).1
  have HX : Hid (IsB TB w1 B b s ∧ s.v = V ∧ RB w1.drew (.slice a n cap) l ∧ l.length ≤ LB ∧ Below w.heap.size w w1 ∧ s.ls.length < s.n ∧ B ≤ w1.heap.size) := ⟨h1, hV, by rw [← HN.out]; exact ((by have := H.out.2.2.1; rw [HN.out]; exact this : RB w (.slice a l.length cap) l).below hb).below (Below.refl _ _).drew, by rw [HN.out]; exact H.out.2.2.2, hb, by rw [HL.out]; exact hf, Nat.le_trans hB hb.size⟩
  clear h1 c1 cf cf1 m0 H hb1 hb hV
  obtain ⟨c1, cf⟩ : w1.cell? ⟨b, 1, none⟩ = some V ∧ ∀ i, w1.frozen? ⟨b, i, none⟩ = false := by rw [← HX.out.2.1]; exact HX.out.1.cells.2
  go_region_law (first
    | (refine step_append_own_at rfl (.tmp 11) (.tmp 14) 48 rfl 0 37 i1 (.agg #[.int .i64 0, .slice none 0 0]) 2 32 Try.underlying48 hi1 hw0 hw1 hw2 rfl (by decide) V L (lc s.ls) (by simp [Act.eval]) (World.ownsRow.alloc (by exact e1) _) ⟨w2.heap.size, 0, none⟩ 1 1 [.int .i64 t, .slice a2 n c2] (by simp [Act.eval]) rfl (two_at _ _ _ _) two_one (by unfold maxLen; omega) (by omega) (Nat.zero_le _) ?_; intro v3 w3 hown3 hgrow3 hat3; rw [← HL.out] at hown3; obtain ⟨d1, d2, HE⟩ := post_end (by decide) HX.out.1 HX.out.2.2.2.2.2.2 HX.out.2.1 b2 ho2 HX.out.2.2.2.1 HX.out.2.2.2.2.2.1 hown3 hgrow3 hat3; obtain ⟨g3, c3, rfl⟩ := owns_form hown3; clear hown3 hgrow3 hat3)
    | (go_simp; go_at_call 29; refine (copied_any t _ l _ HX.out.2.2.1 HX.out.2.2.2.1).mono ?_; rintro e w2 ⟨v2, rfl, ho2, hb2⟩; have b2 : Below w1.heap.size w1 w2 := ⟨hb2.os, hb2.tape, hb2.output, hb2.size, hb2.block⟩; have e1 := row_on HX.out.1 HX.out.2.1 HL.out b2; obtain ⟨a2, c2, rfl⟩ := owns_len ho2; rw [HN.out] at ho2 ⊢; have e2 := (b2.cell (p := ⟨b, 1, none⟩) hlb).trans c1; have hlb2 : b < w2.heap.size := Nat.lt_of_lt_of_le hlb b2.size))
  all_goals
    obtain ⟨s', hE⟩ := HE.out
    have hE' := hE.le HX.out.2.2.2.2.1
    clear HE hE d1 d2
    go_wp2
    go_ret
    exact ⟨rfl, s', hE'⟩

set_option maxHeartbeats 1000000 in
theorem rpost_full (B b : Nat) (s : Bg) (t : Int) (v : Value) (w : World) (h : IsB TR w B b s) (hf : s.ls.length = s.n) :
    Calls Try.prog 14 #[.pointer (some ⟨b, 0, none⟩), .agg #[.int .i64 t, v]] w fun e w' => e = .returned (.int .i64 2) ∧ Below w.heap.size w w' := by
  obtain ⟨c0, c1, _⟩ := h.cells
  obtain ⟨a, cap, e⟩ := h.form
  rw [e, hf] at c1
  have hlb : b < w.heap.size := h.tb.lt
  clear h hf e
  go_enter Try.func14, Try.ntmps14
  go_wp2
  go_quiet (fail)
  go_wp2
  go_ret
  exact ⟨rfl, below_drewN (below_alloc _ _) _⟩

set_option maxHeartbeats 4000000 in
theorem rpost_ok (B b : Nat) (s : Bg) (t : Int) (v : Value) (l : List Int) (w : World) (h : IsB TR w B b s) (hB : B ≤ w.heap.size) (hf : s.ls.length < s.n) (hv : RB w v l) (hl : l.length ≤ LB) :
    Calls Try.prog 14 #[.pointer (some ⟨b, 0, none⟩), .agg #[.int .i64 t, v]] w fun e w' => e = .returned (.int .i64 0) ∧ ∃ s', Step TR w w' B b s s' (s.say ++ [(t, l)]) := by
  have H : Hid (IsB TR w B b s ∧ decide (s.n ≤ s.ls.length) = false ∧ RB w v l ∧ l.length ≤ LB) := ⟨h, decide_eq_false (by omega), hv, hl⟩
  obtain ⟨i1, hi1, hw0, hw1, hw2⟩ := info_parts Try.infoL
  obtain ⟨a, cap, rfl, _⟩ := id hv
  have hlim := h.lim
  clear h hv hl
  obtain ⟨n, hn⟩ : ∃ n, l.length = n := ⟨_, rfl⟩
  have HN : Hid (l.length = n) := hn
  rw [hn] at H ⊢
  clear hn
  obtain ⟨L, hL⟩ : ∃ L, s.ls.length = L := ⟨_, rfl⟩
  have HL : Hid (s.ls.length = L) := hL
  rw [hL] at hf H
  clear hL
  go_enter Try.func14, Try.ntmps14
  obtain ⟨c0, c1, _⟩ := H.out.1.cells
  obtain ⟨a0, cap0, e0⟩ := H.out.1.form
  rw [e0, HL.out] at c1
  have hlb0 : b < w.heap.size := H.out.1.tb.lt
  have hd : decide (s.n ≤ L) = false := H.out.2.1
  have hni : ¬ ((s.n : Int) ≤ (L : Int)) := by omega
  clear e0
  go_upto_region 1 with fail
  go_quiet (fail)
  go_upto_region 3 with fail
  obtain ⟨w1, hW1⟩ : ∃ w1, (w.alloc (.cells #[.int .i64 t, .slice a n cap] 37)).drewN nq = w1 := ⟨_, rfl⟩
  have hb1 : Below (w.alloc (.cells #[.int .i64 t, .slice a n cap] 37)).heap.size (w.alloc (.cells #[.int .i64 t, .slice a n cap] 37)) w1 := by rw [← hW1]; exact below_drewN (Below.refl _ _) _
  rw [hW1]
  clear hW1 c0 c1 hd hni hlb0
  have hb := chainB (below_alloc _ _) hb1
  have m0 : w1.heap[w.heap.size]? = some (.cells #[.int .i64 t, .slice a n cap] 37 (0, 0)) := (hb1.block _ (by simp)).trans (heap_new _ _)
  have k0 := cell_of m0 0
  have k1 := cell_of m0 1
  simp at k0 k1
  have h1 := H.out.1.below hb
  obtain ⟨_, c1, cf⟩ := h1.cells
  have cf1 := cf 1
  obtain ⟨V, hV⟩ : ∃ V, s.v = V := ⟨_, rfl⟩
  rw [hV] at c1
  have hlb : b < w1.heap.size := h1.tb.lt
  have hlw : w.heap.size < w1.heap.size := (Array.getElem?_eq_some_iff.1 m0).1
  have HX : Hid (IsB TR w1 B b s ∧ s.v = V ∧ RB w1.drew (.slice a n cap) l ∧ l.length ≤ LB ∧ Below w.heap.size w w1 ∧ s.ls.length < s.n ∧ B ≤ w1.heap.size) := ⟨h1, hV, by rw [← HN.out]; exact ((by have := H.out.2.2.1; rw [HN.out]; exact this : RB w (.slice a l.length cap) l).below hb).below (Below.refl _ _).drew, by rw [HN.out]; exact H.out.2.2.2, hb, by rw [HL.out]; exact hf, Nat.le_trans hB hb.size⟩
  clear h1 c1 cf cf1 m0 H hb1 hb hV
  obtain ⟨c1, cf⟩ : w1.cell? ⟨b, 1, none⟩ = some V ∧ ∀ i, w1.frozen? ⟨b, i, none⟩ = false := by rw [← HX.out.2.1]; exact HX.out.1.cells.2
  go_region_law (first
    | (refine step_append_own_at rfl (.tmp 19) (.tmp 22) 48 rfl 0 37 i1 (.agg #[.int .i64 0, .slice none 0 0]) 2 32 Try.underlying48 hi1 hw0 hw1 hw2 rfl (by decide) V L (lc s.ls) (by simp [Act.eval]) (World.ownsRow.alloc (by exact e1) _) ⟨w2.heap.size, 0, none⟩ 1 1 [.int .i64 t, .slice a2 n c2] (by simp [Act.eval]) rfl (two_at _ _ _ _) two_one (by unfold maxLen; omega) (by omega) (Nat.zero_le _) ?_; intro v3 w3 hown3 hgrow3 hat3; rw [← HL.out] at hown3; obtain ⟨d1, d2, HE⟩ := post_end (by decide) HX.out.1 HX.out.2.2.2.2.2.2 HX.out.2.1 b2 ho2 HX.out.2.2.2.1 HX.out.2.2.2.2.2.1 hown3 hgrow3 hat3; obtain ⟨g3, c3, rfl⟩ := owns_form hown3; clear hown3 hgrow3 hat3)
    | (go_simp; go_at_call 30; refine (one_any t _ l _ HX.out.2.2.1 HX.out.2.2.2.1).mono ?_; rintro e w2 ⟨v2, rfl, ho2, hb2⟩; have b2 : Below w1.heap.size w1 w2 := ⟨hb2.os, hb2.tape, hb2.output, hb2.size, hb2.block⟩; have e1 := row_on HX.out.1 HX.out.2.1 HL.out b2; obtain ⟨a2, c2, rfl⟩ := owns_len ho2; rw [HN.out] at ho2 ⊢; have e2 := (b2.cell (p := ⟨b, 1, none⟩) hlb).trans c1; have hlb2 : b < w2.heap.size := Nat.lt_of_lt_of_le hlb b2.size))
  all_goals
    obtain ⟨s', hE⟩ := HE.out
    have hE' := hE.le HX.out.2.2.2.2.1
    clear HE hE d1 d2
    go_wp2
    go_ret
    exact ⟨rfl, s', hE'⟩
end Go.Proofs.Ytminjmlneikllaa
