/- Ask. -/
import Derived.Test.YtnklhdoiggomkaaJTIes22
namespace Go.Proofs.Ytnklhdoiggomkaa
section
open Go.RowKit Go.Shelf
attribute [local go_sem ↓ high] loadMsg storeMsg buildMsg storeAct loadAct buildAct
attribute [local go_sem high] run_store_complex eqC

/-- the tide behind an Ask's first half -/
def Td.asking (s : Td) (q : Int) : Td := { s with asked := max q 0, la := 0, lb := 0, fa := 0, fb := 0, kv := none, ml := [], fr := [] }
theorem asking_st {w W V : World} {B t : Nat} {s : Td} {q : Int} (h : IsT w B t s) (hb : Below w.heap.size w W) (hd : V.heap[t]? = some (.cells (s.asking q).arr 83 (0, 0))) (o : Only (· = t) W V) : ST w V B t s (s.asking q) := by
  have hW := h.below hb
  refine ⟨hW.put _ V hd o rfl h.mkk rfl rfl rfl rfl (IsF.none _) (FrOk.nil _) (by show (0 : Int) ≤ max q 0; omega), ((Only.of hb).mono (fun k e => e)).trans (o.mono fun k e => .inl e), ?_, ?_⟩
  · rintro k (e | e | e)
    · exact .inl (.inl e)
    · exact .inl (.inr (.inl e))
    · cases e
  · rintro k ((e | e | e) | ⟨m, hm, e⟩)
    · exact .inl (.inl (.inl e))
    · exact .inl (.inl (.inr (.inl e)))
    · cases e
    · exact .inl (.inr ⟨m, hm, e⟩)
theorem ask_say (s : Td) (q : Int) (v : Value) : ({ s.asking q with hv := v, hs := s.hs.filter fun y => !letB (max q 0) y.m } : Td).say = s.say.ask q := by
  unfold Td.say Ts.ask Td.asking
  simp only [Ts.mk.injEq, true_and, and_true]
  rw [List.filter_map]
  rfl
/-- the held ones that are left -/
theorem ask_end {w V w2 : World} {B t g n cap : Nat} {s : Td} {q : Int} (hst : ST w V B t s (s.asking q)) (hv : s.hv = .slice (some ⟨g, 0, none⟩) n cap) (hr : RowM w2 B (.slice (some ⟨g, 0, none⟩) (s.hs.filter fun y => !letB (max q 0) y.m).length cap) (s.hs.filter fun y => !letB (max q 0) y.m)) (o : Only (· = g) V w2) :
    (w2.cell? ⟨t, 8, none⟩ = some s.hv ∧ ∀ j, w2.frozen? ⟨t, j, none⟩ = false) ∧ ∃ s', ST w (w2.setCell ⟨t, 8, none⟩ (.slice (some ⟨g, 0, none⟩) (s.hs.filter fun y => !letB (max q 0) y.m).length cap)) B t s s' ∧ s'.say = s.say.ask q := by
  have is1 := hst.is
  have hg : Tag V g 45 := is1.th (by show s.hv.ownBlock = some g; rw [hv]; rfl)
  have gt : g ≠ t := fun e => by rw [e] at hg; exact is1.tt.two (by decide) hg
  have hd2 : w2.heap[t]? = some (.cells (s.asking q).arr 83 (0, 0)) := (o.block t is1.tt.lt (fun e => gt e.symm)).trans is1.head
  refine ⟨⟨by rw [cell_of hd2]; rfl, free_of hd2⟩, _, ?_, ask_say s q (.slice (some ⟨g, 0, none⟩) (s.hs.filter fun y => !letB (max q 0) y.m).length cap)⟩
  obtain ⟨W7, hW7⟩ : ∃ W7, w2.setCell ⟨t, 8, none⟩ (.slice (some ⟨g, 0, none⟩) (s.hs.filter fun y => !letB (max q 0) y.m).length cap) = W7 := ⟨_, rfl⟩
  rw [hW7]
  have o7 : Only (· = t) w2 W7 := by rw [← hW7]; exact only1 _ t _ _
  have tt2 : Tag w2 t 83 := ⟨_, _, hd2⟩
  have two : Only (fun k => k = g ∨ k = t) V W7 := (o.mono fun k e => .inl e).trans (o7.mono fun k e => .inr e)
  have no2 : ∀ k, (k = g ∨ k = t) → ∀ ty, 45 ≠ ty → 83 ≠ ty → ¬ Tag V k ty := fun k e ty h1 h2 => by
    rcases e with rfl | rfl
    · exact hg.two h1
    · exact is1.tt.two h2
  refine hst.trans ⟨⟨?_, is1.bt, is1.mkk, ?_, fun z hz => ?_, rfl, is1.isf, is1.frn, is1.ask0, ?_, is1.l8⟩, two.mono (fun k e => by
      rcases e with rfl | rfl
      · exact .inr (.inl (by show s.hv.ownBlock = some _; rw [hv]; rfl))
      · exact .inl rfl), ?_, ?_⟩
  · rw [← hW7]
    have := heap_set hd2 8 (.slice (some ⟨g, 0, none⟩) (s.hs.filter fun y => !letB (max q 0) y.m).length cap)
    simpa [Td.arr, Td.asking] using this
  · exact owns_moved hr fun k e => o7.block k (Tag.own hr e).lt fun (e' : k = t) => by
      have := Tag.own hr e
      rw [e'] at this; exact tt2.two (by decide) this
  · have hz' : z ∈ s.hs := (List.mem_filter.1 hz).1
    exact ⟨(is1.each z hz').1.only two fun k e => ⟨no2 k e _ (by decide) (by decide), no2 k e _ (by decide) (by decide)⟩, (is1.each z hz').2⟩
  · exact Nat.le_trans (List.length_filter_le _ _) is1.lh
  · rintro k (e | e | e)
    · exact .inl (.inl e)
    · exact .inl (.inr (.inl (by show s.hv.ownBlock = some k; rw [hv]; exact e)))
    · cases e
  · rintro k ((e | e | e) | ⟨z, hz, e⟩)
    · exact .inl (.inl (.inl e))
    · exact .inl (.inl (.inr (.inl (by show s.hv.ownBlock = some k; rw [hv]; exact e))))
    · cases e
    · exact .inl (.inr ⟨z, (List.mem_filter.1 hz).1, e⟩)
set_option maxHeartbeats 4000000 in
set_option maxRecDepth 100000 in
theorem ask_p (t B : Nat) (s : Td) (q : Int) (w : World) (h : IsT w B t s) : Calls Try.prog 12 #[.pointer (some ⟨t, 0, none⟩), .int .i64 q] w fun e w' => e = .returned (.tuple #[]) ∧ ∃ s', ST w w' B t s s' ∧ s'.say = s.say.ask q := by
  obtain ⟨W, hW⟩ : ∃ W, w.alloc (.cells #[.pointer (some ⟨t, 0, none⟩)] 23) = W := ⟨_, rfl⟩
  have bx := boxB hW
  have hI := h.below bx.2
  obtain ⟨-, -, -, -, c4, c5, c6, c7, -, -, cf⟩ := hI.cells
  have p0 : W.cell? ⟨w.heap.size, 0, none⟩ = some (.pointer (some ⟨t, 0, none⟩)) := by rw [cell_of bx.1]; rfl
  have hne : t ≠ w.heap.size := by have := h.tt.lt; omega
  have HS : Hid (((((W.setCell ⟨t, 4, none⟩ (.int .i64 (max q 0))).setCell ⟨t, 5, none⟩ (.complex .f64 0 0)).setCell ⟨t, 6, none⟩ (.complex .f64 0 0)).setCell ⟨t, 7, none⟩ (.map none)).heap[t]? = some (.cells (s.asking q).arr 83 (0, 0))) := by
    have := heap_set (heap_set (heap_set (heap_set hI.head 4 (.int .i64 (max q 0))) 5 (.complex .f64 0 0)) 6 (.complex .f64 0 0)) 7 (.map none)
    exact (by simpa [Td.arr, Td.asking] using this : ((((W.setCell ⟨t, 4, none⟩ (.int .i64 (max q 0))).setCell ⟨t, 5, none⟩ (.complex .f64 0 0)).setCell ⟨t, 6, none⟩ (.complex .f64 0 0)).setCell ⟨t, 7, none⟩ (.map none)).heap[t]? = some (.cells (s.asking q).arr 83 (0, 0)))
  have HH : Hid (IsT w B t s ∧ Below w.heap.size w W ∧ W.heap[w.heap.size]? = some (.cells #[.pointer (some ⟨t, 0, none⟩)] 23 (0, 0))) := ⟨h, bx.2, bx.1⟩
  clear h hI bx
  go_enter Try.func12, Try.ntmps12
  go_upto_region 1 with fail
  clear hW
  go_cut [13] from 4 to 12 (fun u wx => u = undef ∧ wx.heap[t]? = some (.cells (s.asking q).arr 83 (0, 0)) ∧ Only (· = t) W wx)
  case first =>
    go_region_law (fail)
    all_goals
      go_wp2_with fail
      go_meet
      exact ⟨rfl, HS.out, ((((only1 _ t _ _).trans (only1 _ t _ _)).trans (only1 _ t _ _)).trans (only1 _ t _ _)).drew⟩
  case rest =>
    rename World => V
    obtain ⟨rfl, hd, ho⟩ := hcut
    have HST : Hid (ST w V B t s (s.asking q)) := asking_st HH.out.1 HH.out.2.1 hd ho
    have bV := (ho.block _ (Array.getElem?_eq_some_iff.1 HH.out.2.2).1 (fun e => hne e.symm)).trans HH.out.2.2
    have v0 : V.cell? ⟨w.heap.size, 0, none⟩ = some (.pointer (some ⟨t, 0, none⟩)) := by rw [cell_of bV]; rfl
    have v8 : V.cell? ⟨t, 8, none⟩ = some s.hv := by rw [cell_of hd]; rfl
    have vf := free_of hd
    have HD : Hid (V.heap[t]? = some (.cells (s.asking q).arr 83 (0, 0)) ∧ V.heap[w.heap.size]? = some (.cells #[.pointer (some ⟨t, 0, none⟩)] 23 (0, 0))) := ⟨hd, bV⟩
    clear hd ho bV HS c4 c5 c6 c7 cf p0
    have hheld := HST.out.is.held
    rcases hheld.2 with ⟨hv, h2⟩ | ⟨g, cap, cur, hv, _⟩
    · have hv' : s.hv = .slice none 0 0 := hv
      have hs0 : s.hs = [] := List.length_eq_zero_iff.1 h2
      rw [hv'] at v8
      have HF : Hid (∃ s', ST w (V.drew.setCell ⟨t, 8, none⟩ (.slice none 0 0)) B t s s' ∧ s'.say = s.say.ask q) := by
        have e := ask_say s q s.hv
        rw [hs0] at e
        refine ⟨_, ?_, e⟩
        have hst := HST.out
        have o : Only (· = t) V (V.drew.setCell ⟨t, 8, none⟩ (.slice none 0 0)) := (Only.drew (Only.refl _ V)).trans (only1 _ t _ _)
        have hh : (V.drew.setCell ⟨t, 8, none⟩ (.slice none 0 0)).heap[t]? = some (.cells (s.asking q).arr 83 (0, 0)) := by
          have := heap_set (w := V.drew) HD.out.1 8 (.slice none 0 0)
          rw [this]
          simp [Td.arr, Td.asking, hv']
        have hsame : ({ s.asking q with hv := s.hv, hs := List.filter (fun y : Hm => !letB (max q 0) y.m) [] } : Td) = s.asking q := by
          unfold Td.asking
          rw [hs0]; rfl
        rw [hsame]
        exact hst.trans ⟨hst.is.put _ _ hh o rfl hst.is.mkk rfl rfl rfl rfl hst.is.isf hst.is.frn hst.is.ask0, o.mono fun k e => .inl e, fun k hk => .inl hk, fun k hk => .inl hk⟩
      clear hheld hv h2 hv' hs0
      go_upto_region 2 with fail
      go_region_law (first | (go_simp; go_at_call 33; refine (delete_nil _ _).mono ?_; rintro e w2 ⟨rfl, rfl⟩))
      all_goals
        go_wp2
        go_end0
        exact ⟨rfl, HF.out⟩
    · have hv' : s.hv = .slice (some ⟨g, 0, none⟩) s.hs.length cap := hv
      rw [hv'] at v8
      have hg : Tag V g 45 := HST.out.is.th (by show s.hv.ownBlock = some g; rw [hv']; rfl)
      have gt : g ≠ t := fun e => by rw [e] at hg; exact HST.out.is.tt.two (by decide) hg
      have gb : g ≠ w.heap.size := fun e => by rw [e] at hg; exact Tag.two (⟨_, _, HD.out.2⟩ : Tag V _ 23) (by decide) hg
      have HDel : Hid (Calls Try.prog 33 #[.slice (some ⟨g, 0, none⟩) s.hs.length cap, .func (.func 34) #[] #[.pointer (some ⟨w.heap.size, 0, none⟩)]] V.drew fun e w' => e = .returned (.slice (some ⟨g, 0, none⟩) (s.hs.filter fun x => !letB (max q 0) x.m).length cap) ∧ RowM w' B (.slice (some ⟨g, 0, none⟩) (s.hs.filter fun x => !letB (max q 0) x.m).length cap) (s.hs.filter fun x => !letB (max q 0) x.m) ∧ Only (· = g) V.drew w') := by
        have hrow := HST.out.is.held
        rw [show (s.asking q).hv = s.hv from rfl, hv'] at hrow
        exact delete_own 34 _ (fun y => letB (max q 0) y.m) g s.hs.length cap B s.hs V.drew hrow rfl (by have := HST.out.is.lh; have := HST.out.is.l8; have e : (s.asking q).hs.length = s.hs.length := rfl; omega) eg_ask (fun U y hU => let_p y t _ (max q 0) U (by
            have := (hU.block _ (Array.getElem?_eq_some_iff.1 HD.out.2).1 (fun e => gb e.symm)).trans HD.out.2
            rw [cell_of this]; rfl) (by
            have := (hU.block _ (Array.getElem?_eq_some_iff.1 HD.out.1).1 (fun e => gt e.symm)).trans HD.out.1
            rw [cell_of this]; rfl))
      have HEn : Hid (∀ w2, RowM w2 B (.slice (some ⟨g, 0, none⟩) (s.hs.filter fun x => !letB (max q 0) x.m).length cap) (s.hs.filter fun x => !letB (max q 0) x.m) → Only (· = g) V.drew w2 → (w2.cell? ⟨t, 8, none⟩ = some (.slice (some ⟨g, 0, none⟩) s.hs.length cap) ∧ ∀ j, w2.frozen? ⟨t, j, none⟩ = false) ∧ ∃ s', ST w (w2.setCell ⟨t, 8, none⟩ (.slice (some ⟨g, 0, none⟩) (s.hs.filter fun x => !letB (max q 0) x.m).length cap)) B t s s' ∧ s'.say = s.say.ask q) := fun w2 h1 h2 => by
        have := ask_end HST.out hv' h1 ((Only.drew (Only.refl _ V)).trans h2)
        rw [hv'] at this; exact this
      have HBx : Hid (∀ w2, Only (· = g) V.drew w2 → w2.cell? ⟨w.heap.size, 0, none⟩ = some (.pointer (some ⟨t, 0, none⟩))) := fun w2 h2 => by
        have := (h2.block _ (Array.getElem?_eq_some_iff.1 HD.out.2).1 (fun e => gb e.symm)).trans HD.out.2
        rw [cell_of this]; rfl
      obtain ⟨F, hF⟩ : ∃ F, s.hs.filter (fun x : Hm => !letB (max q 0) x.m) = F := ⟨_, rfl⟩
      rw [hF] at HDel HEn
      clear hheld hv hv' hg hF
      go_upto_region 2 with fail
      go_region_law (first | (go_simp; go_at_call 33; refine HDel.out.mono ?_; rintro e w2 ⟨rfl, hr2, ho2⟩; obtain ⟨⟨d8, df⟩, hfin⟩ := HEn.out w2 hr2 ho2; have HZ : Hid _ := hfin; have d0 := HBx.out w2 ho2; clear hfin hr2 ho2))
      all_goals
        go_wp2
        go_end0
        exact ⟨rfl, HZ.out⟩
end
section
open Go.RowKit Go.Shelf

theorem IsT.down {w : World} {B B' t : Nat} {s : Td} (h : IsT w B t s) (hb : B' ≤ B) : IsT w B' t s := by
  refine ⟨h.head, Nat.le_trans hb h.bt, h.mkk, owns_le h.held hb, fun m hm => ⟨(h.each m hm).1.down hb, (h.each m hm).2⟩, ?_, h.isf, h.frn, h.ask0, h.lh, h.l8⟩
  have := h.map
  cases hk : s.kv with
  | none => rw [hk] at this; exact this
  | some g => rw [hk] at this; exact ⟨this.1, Nat.le_trans hb this.2⟩
/-- what a call on a tide leaves alone -/
structure Kt (F : Nat → Prop) (w w' : World) : Prop where
  size : w.heap.size ≤ w'.heap.size
  tag : ∀ k ty, Tag w k ty → 83 ≠ ty → 45 ≠ ty → w'.heap[k]? = w.heap[k]?
  mine : ∀ k, F k → k < w.heap.size → w'.heap[k]? = w.heap[k]?
theorem Kt.of {F : Nat → Prop} {w w' : World} (h : Below w.heap.size w w') : Kt F w w' := ⟨h.size, fun k _ ht _ _ => h.block k ht.lt, fun k _ hk => h.block k hk⟩
theorem Kt.trans {F : Nat → Prop} {a b c : World} (h : Kt F a b) (k : Kt F b c) : Kt F a c :=
  ⟨Nat.le_trans h.size k.size, fun q ty ht h1 h2 => (k.tag q ty (ht.moved (h.tag q ty ht h1 h2)) h1 h2).trans (h.tag q ty ht h1 h2), fun q hq hl => (k.mine q hq (Nat.lt_of_lt_of_le hl h.size)).trans (h.mine q hq hl)⟩
theorem Kt.less {F G : Nat → Prop} {w w' : World} (h : Kt F w w') (hg : ∀ k, G k → F k) : Kt G w w' := ⟨h.size, h.tag, fun k hk => h.mine k (hg k hk)⟩
structure Lt (w0 w : World) (t : Nat) (S : Ts) (F : Nat → Prop) : Prop where
  ex : ∃ s, IsT w w0.heap.size t s ∧ s.say = S ∧ ∀ k, F k → ¬ s.blk t k
  bel : Below w0.heap.size w0 w
  flt : ∀ k, F k → k < w.heap.size
theorem Lt.below {w0 w w' : World} {t : Nat} {S : Ts} {F : Nat → Prop} (h : Lt w0 w t S F) (hb : Below w.heap.size w w') : Lt w0 w' t S F := by
  obtain ⟨s, h1, h2, h3⟩ := h.ex
  exact ⟨⟨s, h1.below hb, h2, h3⟩, chainB h.bel hb, fun k hk => Nat.lt_of_lt_of_le (h.flt k hk) hb.size⟩
/-- what has been made since may be the law's -/
theorem Lt.add {w0 w w' : World} {t : Nat} {S : Ts} {F : Nat → Prop} (h : Lt w0 w t S F) (hb : Below w.heap.size w w') : Lt w0 w' t S (fun k => F k ∨ (w.heap.size ≤ k ∧ k < w'.heap.size)) := by
  obtain ⟨s, h1, h2, h3⟩ := h.ex
  refine ⟨⟨s, h1.below hb, h2, fun k hk hb' => ?_⟩, chainB h.bel hb, fun k hk => ?_⟩
  · rcases hk with hk | hk
    · exact h3 k hk hb'
    · have := (h1.lt hb').2; omega
  · rcases hk with hk | hk
    · exact Nat.lt_of_lt_of_le (h.flt k hk) hb.size
    · exact hk.2
theorem Lt.less {w0 w : World} {t : Nat} {S : Ts} {F G : Nat → Prop} (h : Lt w0 w t S F) (hg : ∀ k, G k → F k) : Lt w0 w t S G := by
  obtain ⟨s, h1, h2, h3⟩ := h.ex
  exact ⟨⟨s, h1, h2, fun k hk => h3 k (hg k hk)⟩, h.bel, fun k hk => h.flt k (hg k hk)⟩
/-- a store into what is the law's -/
theorem Lt.mine {w0 w w' : World} {t : Nat} {S : Ts} {F G : Nat → Prop} (h : Lt w0 w t S F) (ho : Only G w w') (hG : ∀ k, G k → F k ∧ w0.heap.size ≤ k) : Lt w0 w' t S F := by
  obtain ⟨s, h1, h2, h3⟩ := h.ex
  exact ⟨⟨s, h1.moved fun k hk => ho.block k (h1.lt hk).2 fun g => h3 k (hG k g).1 hk, h2, h3⟩, ho.below h.bel h.bel.size fun k hk => (hG k hk).2, fun k hk => Nat.lt_of_lt_of_le (h.flt k hk) ho.size⟩
theorem ST.lt {w0 w w' : World} {t : Nat} {S S' : Ts} {F : Nat → Prop} (h : Lt w0 w t S F) {s s' : Td} (hs : IsT w w0.heap.size t s) (hF : ∀ k, F k → ¬ s.blk t k) (k : ST w w' w0.heap.size t s s') (he : s'.say = S') : Lt w0 w' t S' F ∧ Kt F w w' := by
  refine ⟨⟨⟨s', k.is, he, fun q hq hb => ?_⟩, k.only.below h.bel h.bel.size fun q hq => (hs.wlt hq).1, fun q hq => Nat.lt_of_lt_of_le (h.flt q hq) k.only.size⟩, ⟨k.only.size, fun q ty ht h1 h2 => k.only.block q ht.lt fun hw => hs.wno hw h1 h2 ht, fun q hq hl => k.only.block q hl fun hw => hF q hq (.inl hw)⟩⟩
  rcases k.nblk q hb with e | e
  · exact hF q hq e
  · have := h.flt q hq; omega
def TkL (w0 w : World) (t : Nat) (S : Ts) (F : Nat → Prop) (m : Pm) (e : Ending) (w' : World) : Prop := ∃ v l, e = .returned v ∧ Acts w' w.heap.size v l ∧ l.map Am.c = (S.take m).2 ∧ Lt w0 w' t (S.take m).1 F ∧ Kt F w w'
theorem lt_take {w0 w : World} {t : Nat} {S : Ts} {F : Nat → Prop} (h : Lt w0 w t S F) (x : Hm) (hL : Lists w 0 x) : Calls Try.prog 15 #[.pointer (some ⟨t, 0, none⟩), .agg x.arr] w fun e w' => TkL w0 w t S F x.m e w' := by
  obtain ⟨s, h1, h2, h3⟩ := h.ex
  refine (take_p t w0.heap.size s x w h1 h.bel.size hL).mono ?_
  rintro e w' ⟨v, l, rfl, ha, hc, s', hst, hsay⟩
  rw [h2] at hc hsay
  obtain ⟨a, b⟩ := ST.lt h h1 h3 hst hsay
  exact ⟨v, l, rfl, ha, hc, a, b⟩
theorem lt_ask {w0 w : World} {t : Nat} {S : Ts} {F : Nat → Prop} (h : Lt w0 w t S F) (q : Int) : Calls Try.prog 12 #[.pointer (some ⟨t, 0, none⟩), .int .i64 q] w fun e w' => e = .returned (.tuple #[]) ∧ Lt w0 w' t (S.ask q) F ∧ Kt F w w' := by
  obtain ⟨s, h1, h2, h3⟩ := h.ex
  refine (ask_p t w0.heap.size s q w h1).mono ?_
  rintro e w' ⟨rfl, s', hst, hsay⟩
  rw [h2] at hsay
  exact ⟨rfl, ST.lt h h1 h3 hst hsay⟩
theorem lt_mark {w0 w : World} {t : Nat} {S : Ts} {F : Nat → Prop} (h : Lt w0 w t S F) : ∃ a b, Mk a b S.e S.n ∧ Calls Try.prog 19 #[.pointer (some ⟨t, 0, none⟩)] w fun e w' => e = .returned (.complex .f64 a b) ∧ w = w' := by
  obtain ⟨s, h1, h2, -⟩ := h.ex
  refine ⟨s.a, s.b, by rw [← h2]; exact h1.mkk, (mark_p t _ s w h1).mono ?_⟩
  rintro e w' ⟨rfl, rfl⟩
  exact ⟨rfl, rfl⟩
theorem lt_version {w0 w : World} {t : Nat} {S : Ts} {F : Nat → Prop} (h : Lt w0 w t S F) : Calls Try.prog 20 #[.pointer (some ⟨t, 0, none⟩)] w fun e w' => e = .returned (.int .i64 S.ver) ∧ w = w' := by
  obtain ⟨s, h1, h2, -⟩ := h.ex
  refine (version_p t _ s w h1).mono ?_
  rintro e w' ⟨rfl, rfl⟩
  exact ⟨by rw [← h2]; rfl, rfl⟩
theorem lt_asked {w0 w : World} {t : Nat} {S : Ts} {F : Nat → Prop} (h : Lt w0 w t S F) : Calls Try.prog 22 #[.pointer (some ⟨t, 0, none⟩)] w fun e w' => e = .returned (.int .i64 S.asked) ∧ w = w' := by
  obtain ⟨s, h1, h2, -⟩ := h.ex
  refine (asked_p t _ s w h1).mono ?_
  rintro e w' ⟨rfl, rfl⟩
  exact ⟨by rw [← h2]; rfl, rfl⟩
def HdL (w : World) (S : Ts) (e : Ending) (w' : World) : Prop := ∃ v l, e = .returned v ∧ Msgs w' w.heap.size v l ∧ l.map Hm.m = S.held ∧ Below w.heap.size w w'
theorem lt_held {w0 w : World} {t : Nat} {S : Ts} {F : Nat → Prop} (h : Lt w0 w t S F) : Calls Try.prog 21 #[.pointer (some ⟨t, 0, none⟩)] w fun e w' => HdL w S e w' := by
  obtain ⟨s, h1, h2, -⟩ := h.ex
  refine (held_p t _ s w h1).mono ?_
  rintro e w' ⟨v, l, rfl, a, b, c⟩
  exact ⟨v, l, rfl, a, by rw [b, ← h2]; rfl, c⟩
theorem lt_new (client life : Int) (hold : Nat) (w0 w : World) (hb : Below w0.heap.size w0 w) (F : Nat → Prop) (hF : ∀ k, F k → k < w.heap.size) (h : newOk client life hold = true) : Calls Try.prog 9 #[.int .i64 client, .int .i64 life, .int .i64 hold] w fun e w' => e = .returned (.tuple #[.pointer (some ⟨w.heap.size, 0, none⟩), .int .i64 0]) ∧ Lt w0 w' w.heap.size (Ts.new client life hold) F ∧ Below w.heap.size w w' := by
  refine (new_yes client life hold w h).mono ?_
  rintro e w' ⟨rfl, ⟨s, h1, h2, h3⟩, hb'⟩
  exact ⟨rfl, ⟨⟨s, h1.down hb.size, h2, fun k hk hs => by have := hF k hk; have := h3 k hs; omega⟩, chainB hb hb', fun k hk => Nat.lt_of_lt_of_le (hF k hk) hb'.size⟩, hb'⟩
/-- rows that a call on a tide leaves -/
theorem Kt.rowK {F : Nat → Prop} {w w' : World} (h : Kt F w w') {B : Nat} {v : Value} {l : List Ky} (k : RowK w B v l) : RowK w' B v l := owns_moved k fun q e => h.tag q _ (Tag.own k e) (by decide) (by decide)
theorem Kt.rowE {F : Nat → Prop} {w w' : World} (h : Kt F w w') {B : Nat} {v : Value} {l : List En} (k : Row7 w B v l) : Row7 w' B v l := owns_moved k fun q e => h.tag q _ (Tag.own k e) (by decide) (by decide)
theorem Kt.lists {F : Nat → Prop} {w w' : World} (h : Kt F w w') {B : Nat} {x : Hm} (k : Lists w B x) : Lists w' B x := ⟨h.rowE k.es, h.rowK k.ks, k.le, k.lk⟩
theorem Kt.acts {F : Nat → Prop} {w w' : World} (h : Kt F w w') {B : Nat} {v : Value} {l : List Am} (k : Acts w B v l) : Acts w' B v l :=
  ⟨owns_moved k.row fun q e => h.tag q _ (Tag.own k.row e) (by decide) (by decide), fun a ha => ⟨h.rowK (k.each a ha).ks, h.rowE (k.each a ha).es, (k.each a ha).le, (k.each a ha).lk⟩⟩
theorem Kt.rowM {F : Nat → Prop} {w w' : World} (h : Kt F w w') {B : Nat} {v : Value} {l : List Hm} (k : RowM w B v l) (hm : ∀ q, v.ownBlock = some q → F q) : RowM w' B v l := owns_moved k fun q e => h.mine q (hm q e) (Tag.own k e).lt
/-- one act of a list -/
theorem owns_act {w : World} {base n cap i : Nat} {a : Option Addr} {l : List Am} {h : Am} (hr : RowA w base (.slice a n cap) l) (hi : l[i]? = some h) : ∃ g, a = some ⟨g, 0, none⟩ ∧ n = l.length ∧ base ≤ g ∧ g < w.heap.size ∧ (∀ j v, h.arr[j]? = some v → w.cell? ⟨g, i * 7 + j, none⟩ = some v) := by
  have hlt : i < l.length := (List.getElem?_eq_some_iff.1 hi).1
  obtain ⟨N, hN⟩ : ∃ N, l.length = N + 1 := ⟨l.length - 1, by omega⟩
  unfold RowA at hr
  rw [hN] at hr
  obtain ⟨g, cap', e'⟩ := owns_form hr
  cases e'
  obtain ⟨hc, hf, _, _, hb, hg⟩ := owns_cells hr
  refine ⟨g, rfl, hN.symm, hb, hg, fun j v hv => ?_⟩
  have hj : j < 7 := (Array.getElem?_eq_some_iff.1 hv).1
  apply hc
  rw [ac_get l i j h hi hj]
  rw [Am.vals, Array.getElem?_toList]; exact hv
end
end Go.Proofs.Ytnklhdoiggomkaa
