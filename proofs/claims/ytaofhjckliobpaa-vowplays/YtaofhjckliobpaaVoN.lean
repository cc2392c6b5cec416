/- Ack. -/
import Derived.Test.YtaofhjckliobpaaVoM
namespace Go.Proofs.Ytaofhjckliobpaa
open Go.RowKit Go.Shelf
attribute [local go_sem high] eqK neqK guardK run_store_complex

/-- the box of a mark -/
def BoxM (w : World) (g c d : Nat) : Prop := w.heap[g]? = some (.cells #[.complex .f64 c d] 44 (0, 0))
theorem late_p (x : Br) (g c d : Nat) (w : World) (h : BoxM w g c d) : Calls Try.prog 44 #[x.agg, .pointer (some ⟨g, 0, none⟩)] w fun e w' => e = .returned (.bool (!laterB x.a x.b c d)) ∧ Below w.heap.size w w' := by
  have hg : g < w.heap.size := (Array.getElem?_eq_some_iff.1 h).1
  have HM : Hid (∀ W, Below w.heap.size w W → W.cell? ⟨g, 0, none⟩ = some (.complex .f64 c d)) := fun W hb => by
    have e := (hb.block g hg).trans h
    have := cell_of e 0
    simpa using this
  unfold Br.agg Br.v
  obtain ⟨W, hW⟩ : ∃ W, w.alloc (.cells #[.complex .f64 x.a x.b, .int .i64 x.ver, .bool x.all, .slice x.va x.vn x.vc] 57) = W := ⟨_, rfl⟩
  obtain ⟨bx, bb⟩ := boxB_new (wr := w) (k := x)
  rw [hW] at bx bb
  obtain ⟨b0, b1, b2, b3, -⟩ := bx.cells
  have c0 := HM.out W bb
  have HW : Hid (Below w.heap.size w W) := bb
  clear h bx bb
  go_enter Try.func44, Try.ntmps44
  go_upto_region 1 with fail
  clear hW
  go_wp2_with (go_at_call 45; refine (later_any _ _ _ _ _).mono ?_; rintro e w1 ⟨rfl, rfl⟩)
  go_ret
  exact ⟨rfl, HW.out⟩
/-- slices.DeleteFunc over the queue of a table -/
theorem deleteQ_p (t B gm c d : Nat) (s : Vt) (w : World) (h : IsV w B t s) (hbx : BoxM w gm c d) :
    Calls Try.prog 43 #[s.qv, .func (.func 44) #[] #[.pointer (some ⟨gm, 0, none⟩)]] w fun e w' => ∃ v', e = .returned v' ∧ RowB w' B v' (s.bs.filter fun b => laterB b.a b.b c d) ∧ v'.ownBlock = s.qv.ownBlock ∧ Only (fun x => s.qv.ownBlock = some x) w w' := by
  have hk := h.rb
  rcases hk.2 with ⟨e, h2⟩ | ⟨g, cap, cur, e, hrest⟩
  · rw [e]
    obtain h0 := List.length_eq_zero_iff.1 h2
    refine (deleteB_nil _ w).mono ?_
    rintro x w' ⟨rfl, rfl⟩
    refine ⟨_, rfl, ?_, rfl, Only.refl _ _⟩
    rw [h0]; exact World.ownsRow_nil _ _ _ _
  · have tg : Tag w g 57 := h.tq (by rw [e]; rfl)
    rw [e] at hk ⊢
    have eg : ∀ args w, (callFunc 44 args).run Try.prog w = .ok (.enter 44 args) w := enters_of Try.func44 (by kernel_rfl) rfl
    have hgm : gm < w.heap.size := (Array.getElem?_eq_some_iff.1 hbx).1
    have hne : gm ≠ g := Tag.ne (⟨_, _, hbx⟩ : Tag w gm 44) tg (by decide)
    refine (deleteB_own 44 #[.pointer (some ⟨gm, 0, none⟩)] (fun x => !laterB x.a x.b c d) g s.bs.length cap B s.bs w hk rfl (by have := h.lb; have := h.lq; omega) eg fun W x hO => late_p x gm c d W ((hO.block gm hgm hne).trans hbx)).mono ?_
    rintro x w' ⟨rfl, hr, hO⟩
    simp only [Bool.not_not] at hr
    refine ⟨_, rfl, ?_, rfl, hO.mono fun y hy => by rw [hy]; rfl⟩
    simp only [Bool.not_not]; exact hr
theorem ack_p (t B : Nat) (s : Vt) (c d : Nat) (w : World) (h : IsV w B t s) :
    Calls Try.prog 23 #[.pointer (some ⟨t, 0, none⟩), .complex .f64 c d] w fun e w' => e = .returned (.bool (gapB c d s.a s.b)) ∧ ∃ s', SV w w' B t s s' ∧ s'.say = if gapB c d s.a s.b then s.say.ack (part d) else s.say := by
  obtain ⟨W, hW⟩ : ∃ W, w.alloc (.cells #[.complex .f64 c d] 44) = W := ⟨_, rfl⟩
  have bx : BoxM W w.heap.size c d := by rw [← hW]; exact heap_new _ _
  have bb : Below w.heap.size w W := by rw [← hW]; exact below_alloc _ _
  have h1 := h.below bb
  obtain ⟨c0, -, c2, -, -, cf⟩ := h1.cells
  have b0 := cell_of bx 0
  simp at b0
  have HG : Hid (∀ w, Calls Try.prog 42 #[.complex .f64 c d, .complex .f64 s.a s.b] w fun e w' => e = .returned (.tuple #[.int .i64 (if gapB c d s.a s.b then part s.b - part d else 0), .bool (gapB c d s.a s.b)]) ∧ w' = w) := fun w => gap_any c d s.a s.b w
  obtain ⟨D, hD⟩ : ∃ D, (if gapB c d s.a s.b then part s.b - part d else 0) = D := ⟨_, rfl⟩
  rw [hD] at HG
  obtain ⟨qa, qc, hq⟩ := owns_len h.rb
  rw [hq] at c2
  obtain ⟨L, hL⟩ : ∃ L, s.bs.length = L := ⟨_, rfl⟩
  rw [hL] at c2 hq
  have H : Hid (IsV w B t s ∧ Below w.heap.size w W ∧ BoxM W w.heap.size c d ∧ s.qv = .slice qa L qc) := ⟨h, bb, bx, hq⟩
  have hlt := h1.tt.lt
  clear h h1 bx bb hD hL hq
  cases hg : gapB c d s.a s.b with
  | false =>
    rw [hg] at HG
    simp only [Bool.false_eq_true, if_false]
    have HF : Hid (∀ w', Below W.heap.size W w' → SV w w' B t s s) := fun w' hb => SV.stay H.out.1 (chainB H.out.2.1 hb)
    clear hg H
    go_enter Try.func23, Try.ntmps23
    go_upto_region 1 with fail
    clear hW
    go_region_held3 (fun w' => w'.cell? ⟨t, 0, none⟩ = some (.complex .f64 s.a s.b) ∧ w'.cell? ⟨w.heap.size, 0, none⟩ = some (.complex .f64 c d))
      (first | exact ⟨c0, b0⟩ | assumption)
      (first | (go_at_call 42; refine (HG.out _).mono ?_; rintro e w1 ⟨rfl, rfl⟩))
    go_wp2
    go_ret
    exact ⟨rfl, s, HF.out _ ((Below.refl _ _).drew), rfl⟩
  | true =>
    rw [hg] at HG
    have HF : Hid (∀ w1 v', RowB w1 B v' (s.bs.filter fun b => laterB b.a b.b c d) → v'.ownBlock = s.qv.ownBlock → Only (fun x => s.qv.ownBlock = some x) W w1 → ∃ s', SV w (w1.setCell ⟨t, 2, none⟩ v') B t s s' ∧ s'.say = s.say.ack (part d)) := fun w1 v' hr ho hO => by
      have h1 := H.out.1.below H.out.2.1
      have hT := h1.putQ hO v' _ hr (Nat.le_trans (List.length_filter_le _ _) h1.lb) (fun k hk => .inl (by rw [← ho]; exact hk)) (fun b hb => h1.each b (List.mem_filter.1 hb).1) (fun _ => False) (fun b hb => .inl (List.mem_filter.1 hb).1)
      refine ⟨_, SV.pre H.out.2.1 H.out.1 (hT.sv fun _ h => h.elim), ?_⟩
      have hgood : Mk c d (part s.a) (part d) := by
        unfold gapB at hg
        simp only [Bool.and_eq_true, decide_eq_true_eq] at hg
        obtain ⟨p1, p2, p3, p4, va, vb⟩ := good_parts hg.1.1
        have := hg.2.1
        rw [this] at va p1 p2
        exact ⟨va, vb, p1, p2, p3, p4⟩
      show Vs.mk (part s.a) (part s.b) s.ks ((s.bs.filter fun b => laterB b.a b.b c d).map Br.say) s.mp s.mq = Vs.mk (part s.a) (part s.b) s.ks ((s.bs.map Br.say).filter fun b => decide (part d < b.n)) s.mp s.mq
      rw [List.filter_map]
      congr 2
      apply List.filter_congr
      intro b hb
      show _ = decide (part d < part b.b)
      exact (H.out.1.each b hb).2.2.1.later hgood
    have HT : Hid (∀ w1, Only (fun x => s.qv.ownBlock = some x) W w1 → w1.cell? ⟨t, 2, none⟩ = some s.qv ∧ ∀ i, w1.frozen? ⟨t, i, none⟩ = false) := fun w1 hO => by
      have h1 := H.out.1.below H.out.2.1
      have e1 := (hO.block t h1.tt.lt fun e => h1.q_t e rfl).trans h1.head
      exact ⟨by rw [cell_of e1]; rfl, free_of e1⟩
    simp only [if_true]
    clear hg
    go_enter Try.func23, Try.ntmps23
    go_upto_region 1 with fail
    clear hW
    go_region_held3 (fun w' => w'.cell? ⟨t, 0, none⟩ = some (.complex .f64 s.a s.b) ∧ w'.cell? ⟨w.heap.size, 0, none⟩ = some (.complex .f64 c d))
      (first | exact ⟨c0, b0⟩ | assumption)
      (first | (go_at_call 42; refine (HG.out _).mono ?_; rintro e w1 ⟨rfl, rfl⟩))
    obtain ⟨W1, hW1⟩ : ∃ W1, W.drew = W1 := ⟨_, rfl⟩
    rw [hW1]
    have hb1 : Below W.heap.size W W1 := by rw [← hW1]; exact (Below.refl _ _).drew
    have hbx1 : BoxM W1 w.heap.size c d := by rw [← hW1]; exact H.out.2.2.1
    have hdel := deleteQ_p t B w.heap.size c d s W1 (H.out.1.below (chainB H.out.2.1 hb1)) hbx1
    have d2 := (hb1.cell (cellLt c2)).trans c2
    rw [H.out.2.2.2] at hdel
    clear hW1 c0 b0 c2 cf hbx1
    go_wp2_with (go_at_call 43; refine hdel.mono ?_; rintro x w2 ⟨v', rfl, hr, ho, hO⟩; obtain ⟨av, cv, rfl⟩ := owns_len hr; have hO2 : Only (fun x => s.qv.ownBlock = some x) W w2 := (Only.of hb1).trans (by rw [H.out.2.2.2]; exact hO); obtain ⟨x2, xf⟩ := HT.out w2 hO2; rw [H.out.2.2.2] at x2; have hfin := HF.out w2 _ hr (by rw [H.out.2.2.2]; exact ho) hO2; clear hr ho hO hO2)
    go_ret
    obtain ⟨s', hS, hs'⟩ := hfin
    exact ⟨rfl, s', hS, hs'⟩
end Go.Proofs.Ytaofhjckliobpaa
