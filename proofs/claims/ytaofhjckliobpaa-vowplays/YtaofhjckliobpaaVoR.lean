/- Touch. -/
import Derived.Test.YtaofhjckliobpaaVoQ
namespace Go.Proofs.Ytaofhjckliobpaa
open Go.RowKit Go.Shelf Go.Sort
attribute [local go_sem high] eqK neqK guardK run_store_complex

/-- the box of the table's pointer -/
def BoxT (w : World) (g t : Nat) : Prop := w.heap[g]? = some (.cells #[.pointer (some ⟨t, 0, none⟩)] 23 (0, 0))
theorem BoxT.cell {w : World} {g t : Nat} (h : BoxT w g t) : w.cell? ⟨g, 0, none⟩ = some (.pointer (some ⟨t, 0, none⟩)) := by
  have := cell_of h 0
  simpa using this
theorem BoxT.below {w w' : World} {g t : Nat} (h : BoxT w g t) (hb : Below w.heap.size w w') : BoxT w' g t := (hb.block _ (Array.getElem?_eq_some_iff.1 h).1).trans h
theorem told_p (t B gt : Nat) (s : Vt) (x : Ky) (w : World) (h : IsV w B t s) (hbx : BoxT w gt t) :
    Calls Try.prog 41 #[x.agg, .pointer (some ⟨gt, 0, none⟩)] w fun e w' => e = .returned (.bool (inK s.ks x || inK s.ks (bare x))) ∧ Below w.heap.size w w' := by
  obtain ⟨W, hW⟩ : ∃ W, w.alloc (.cells #[.int .i64 x.d, .string x.nm] 36) = W := ⟨_, rfl⟩
  obtain ⟨bx, bb⟩ := box_new (wr := w) (k := x)
  rw [hW] at bx bb
  obtain ⟨b0, b1, -⟩ := bx.cells
  have c0 := (hbx.below bb).cell
  have H1 : Hid (∀ W', Below W.heap.size W W' → Calls Try.prog 14 #[.pointer (some ⟨t, 0, none⟩), .agg #[.int .i64 x.d, .string x.nm]] W' fun e w' => e = .returned (.bool (inK s.ks x)) ∧ Below W'.heap.size W' w') := fun W' hb => holds_p t B s x W' (h.below (chainB bb hb))
  have H2 : Hid (∀ W', Below W.heap.size W W' → Calls Try.prog 14 #[.pointer (some ⟨t, 0, none⟩), .agg #[.int .i64 x.d, .string ⟨#[]⟩]] W' fun e w' => e = .returned (.bool (inK s.ks (bare x))) ∧ Below W'.heap.size W' w') := fun W' hb => holds_p t B s (bare x) W' (h.below (chainB bb hb))
  have HW : Hid (Below w.heap.size w W) := bb
  unfold Ky.agg
  clear h hbx bx bb
  cases hq : inK s.ks x with
  | true =>
    rw [hq] at H1
    go_enter Try.func41, Try.ntmps41
    go_upto_region 1 with fail
    clear hW
    go_wp2_with (go_at_call 14; refine (H1.out _ (Below.refl _ _)).mono ?_; rintro e w1 ⟨rfl, hb1⟩)
    go_ret
    exact ⟨rfl, chainB HW.out hb1⟩
  | false =>
    rw [hq] at H1
    go_enter Try.func41, Try.ntmps41
    go_upto_region 1 with fail
    clear hW
    go_wp2_with (first
      | (go_at_call 14; refine (H2.out _ hb1).mono ?_; rintro e w2 ⟨rfl, hb2⟩)
      | (go_at_call 14; refine (H1.out _ (Below.refl _ _)).mono ?_; rintro e w1 ⟨rfl, hb1⟩; have d0 := (hb1.cell (cellLt c0)).trans c0; have e0 := (hb1.cell (cellLt b0)).trans b0))
    go_ret
    exact ⟨rfl, chainB HW.out (chainB hb1 hb2)⟩
theorem SV.cell {w w' : World} {B t : Nat} {s s' : Vt} (h : SV w w' B t s s') {g i : Nat} {u : Value} (hc : w.cell? ⟨g, i, none⟩ = some u) (hg : ¬ s.wr t g) : w'.cell? ⟨g, i, none⟩ = some u := by
  rw [World.cell?_of_block (h.only.block g (cellLt hc) hg)]; exact hc
theorem touch_nil {s : Vt} {ks : List Ky} {ver : Int} (h : (srtK (s.say.told ks)).length = 0) : s.say.touch ks ver = (s.say, []) := by unfold Vs.touch; rw [if_pos h]
theorem SV.row {w w' : World} {B t base : Nat} {s s' : Vt} {v : Value} {l : List Ky} (h : SV w w' B t s s') (hr : RowK w base v l) (hg : ∀ k, v.ownBlock = some k → ¬ s.wr t k) : RowK w' base v l := hr.moved fun k hk => h.only.block k (hr.lt hk).2 (hg k hk)
set_option maxHeartbeats 4000000 in
theorem touch_p (t B : Nat) (s : Vt) (v : Value) (ks : List Ky) (ver : Int) (w : World) (h : IsV w B t s) (hq1 : 1 ≤ s.mq) (hr : RdK w v ks) (hl : ks.length * 24 ≤ LK) :
    Calls Try.prog 19 #[.pointer (some ⟨t, 0, none⟩), v, .int .i64 ver] w fun e w' => ∃ v', e = .returned v' ∧ TellR w w' B t s (fun _ => False) v' (s.say.touch ks ver) := by
  obtain ⟨a, cap, rfl⟩ := hr.form
  obtain ⟨W, hW⟩ : ∃ W, w.alloc (.cells #[.pointer (some ⟨t, 0, none⟩)] 23) = W := ⟨_, rfl⟩
  have bx : BoxT W w.heap.size t := by rw [← hW]; exact heap_new _ _
  have bb : Below w.heap.size w W := by rw [← hW]; exact below_alloc _ _
  have eg : ∀ args w, (callFunc 41 args).run Try.prog w = .ok (.enter 41 args) w := enters_of Try.func41 (by kernel_rfl) rfl
  have hth := those_p 41 #[.pointer (some ⟨w.heap.size, 0, none⟩)] (fun x => inK s.ks x || inK s.ks (bare x)) _ ks W (hr.below bb) hl eg (fun W' x hb => told_p t B w.heap.size s x W' (h.below (chainB bb hb)) (bx.below hb))
  obtain ⟨T, hT⟩ : ∃ T, srtK (ks.filter fun x => inK s.ks x || inK s.ks (bare x)) = T := ⟨_, rfl⟩
  rw [hT] at hth
  have HT : Hid (srtK (s.say.told ks) = T ∧ T.length * 24 ≤ LK) := ⟨hT, by rw [← hT]; have h1 := srtK_len (ks.filter fun x => inK s.ks x || inK s.ks (bare x)); have h2 := List.length_filter_le (fun x => inK s.ks x || inK s.ks (bare x)) ks; omega⟩
  have H : Hid (IsV w B t s ∧ Below w.heap.size w W ∧ BoxT W w.heap.size t) := ⟨h, bb, bx⟩
  obtain ⟨K, hK⟩ : ∃ K, ks.length = K := ⟨_, rfl⟩
  rw [hK] at hth ⊢
  clear h hr hl bx bb hT eg hK
  go_enter Try.func19, Try.ntmps19
  go_upto_region 2 with (go_at_call 40; refine hth.mono ?_; rintro e w1 ⟨v1, rfl, hr1, hb1⟩; have HR1 : Hid (RowK w1 W.heap.size v1 T) := hr1; obtain ⟨av, cv, hv1⟩ := owns_len hr1; subst hv1; clear hr1)
  obtain ⟨n, hn⟩ : ∃ n, T.length = n := ⟨_, rfl⟩
  rw [hn] at HR1 ⊢
  have HN : Hid (T.length = n ∧ n * 24 ≤ 140737488351232) := ⟨hn, by rw [← hn]; exact HT.out.2⟩
  have hn13 : n ≤ 10000000000000 := by have := HN.out.2; omega
  have hbW1 := chainB H.out.2.1 hb1
  have HI : Hid (IsV w1 B t s ∧ BoxT w1 w.heap.size t ∧ Below w.heap.size w w1) := ⟨H.out.1.below hbW1, H.out.2.2.below hb1, hbW1⟩
  clear hn hbW1 hb1 hW hth
  by_cases h0 : n = 0
  · subst h0
    have HF : Hid (TellR w w1 B t s (fun _ => False) (.slice none 0 0) (s.say.touch ks ver)) := by
      rw [touch_nil (by rw [HT.out.1]; exact HN.out.1)]
      exact grant_nil (SV.stay H.out.1 HI.out.2.2) _ rfl
    go_wp2
    go_ret
    exact ⟨_, rfl, HF.out⟩
  · have h0z : ((n : Int) == 0) = false := beq_eq_false_iff_ne.2 (by omega)
    have HG : Hid (∀ k, (Value.slice av n cv).ownBlock = some k → w.heap.size < k ∧ k < w1.heap.size) := fun k hk => by
      have := HR1.out.lt hk
      have h1 := H.out.2.2
      have := (Array.getElem?_eq_some_iff.1 h1).1
      omega
    go_upto_region 4 with fail
    go_wp2
    go_loopw [8, 17] (fun _ s17 wr => ∃ (j : Nat) (s1 : Vt), s17 = .int .i64 j ∧ j ≤ n ∧ Hid (SV w1 wr B t s s1 ∧ s1.say = { s.say with ks := minusK s.ks (T.take j) } ∧ BoxT wr w.heap.size t ∧ RowK wr W.heap.size (.slice av n cv) T)) (fun _ s17 _ => n - (intOf s17).toNat)
    case atStart => exact ⟨0, s, rfl, Nat.zero_le _, ⟨SV.stay HI.out.1 (Below.refl _ _), by rw [List.take_zero, minusK_nil]; rfl, HI.out.2.1, HR1.out⟩⟩
    case round =>
      obtain ⟨j, s1, rfl, hj, HS⟩ := hrel
      have HF1 : Hid (∀ k, w.heap.size ≤ k → k < w1.heap.size → ¬ s1.wr t k) := fun k h1 h2 hk => by
        rcases HS.out.1.nwr k hk with e | e
        · have := (H.out.1.lt (.inl e)).2; omega
        · omega
      by_cases hlt : j < n
      · obtain ⟨x, hx⟩ : ∃ x, T[j]? = some x := ⟨_, List.getElem?_eq_getElem (by rw [HN.out.1]; exact hlt)⟩
        have hltz : (j : Int) < (n : Int) := by omega
        obtain ⟨g, rfl, -, hgw, x0, x1, -⟩ := HS.out.2.2.2.key hx
        have c0 := HS.out.2.2.1.cell
        have HX : Hid (T[j]? = some x) := hx
        have hgl : w.heap.size < wr.heap.size := cellLt c0
        have HD : Hid (∀ W', Below wr.heap.size wr W' → Calls Try.prog 36 #[.pointer (some ⟨t, 0, none⟩), .agg #[.int .i64 x.d, .string x.nm]] W' fun e w' => e = .returned (.tuple #[]) ∧ ∃ s2, SV W' w' B t s1 s2 ∧ s2.say = { s1.say with ks := dropK s1.ks x }) := fun W' hb => drop_p t B s1 x W' (HS.out.1.is.below hb)
        clear hx
        go_upto_region 7 with fail
        have hng : ¬ s1.wr t g := HF1.out g (Nat.le_of_lt (HG.out g rfl).1) (HG.out g rfl).2
        have hnt : ¬ s1.wr t w.heap.size := HF1.out _ (Nat.le_refl _) (Nat.lt_trans (HG.out g rfl).1 (HG.out g rfl).2)
        go_region_held3 (fun w' => w'.cell? ⟨w.heap.size, 0, none⟩ = some (.pointer (some ⟨t, 0, none⟩)) ∧ w'.cell? ⟨g, j * 2, none⟩ = some (.int .i64 x.d) ∧ w'.cell? ⟨g, j * 2 + 1, none⟩ = some (.string x.nm))
          (first | exact ⟨c0, x0, x1⟩ | exact ⟨d0, y0, y1⟩ | assumption)
          (first | (go_at_call 36; refine (HD.out _ (Below.refl _ _).drew).mono ?_; rintro e w2 ⟨rfl, s2, hS2, hs2⟩; have d0 : w2.cell? ⟨w.heap.size, 0, none⟩ = some (.pointer (some ⟨t, 0, none⟩)) := hS2.cell c0 hnt; have y0 : w2.cell? ⟨g, j * 2, none⟩ = some (.int .i64 x.d) := hS2.cell x0 hng; have y1 : w2.cell? ⟨g, j * 2 + 1, none⟩ = some (.string x.nm) := hS2.cell x1 hng))
        have hS3 : SV wr w2 B t s1 s2 := SV.pre ((Below.refl _ _).drew) HS.out.1.is hS2
        go_wp2
        refine ⟨⟨j + 1, s2, by simp, by omega, HS.out.1.trans hS3, ?_, ?_, hS3.row HS.out.2.2.2 fun k hk => by cases hk; exact hng⟩, by simp [intOf]; omega⟩
        · rw [hs2, HS.out.2.1]
          have : s1.ks = minusK s.ks (T.take j) := congrArg Vs.ks HS.out.2.1
          rw [this, List.take_add_one, HX.out]
          show Vs.mk _ _ (dropK _ _) _ _ _ = Vs.mk _ _ (minusK _ (_ ++ [x])) _ _ _
          rw [minusK_snoc]
        · exact (hS3.only.block _ hgl hnt).trans HS.out.2.2.1
      · obtain rfl : j = n := by omega
        have hltz : ¬ (j : Int) < (j : Int) := by omega
        have c0 := HS.out.2.2.1.cell
        have hsay : s1.say = { s.say with ks := minusK s.ks T } := by
          have := HS.out.2.1
          rw [List.take_of_length_le (by rw [HN.out.1]; omega)] at this
          exact this
        have hmq : s1.mq = s.mq := congrArg Vs.mq hsay
        have hea : part s1.a = part s.a := congrArg Vs.e hsay
        have hBW : B ≤ W.heap.size := by have := H.out.1.bt; have := H.out.1.tt.lt; have := H.out.2.1.size; omega
        have htell := tell_p t B s1 av j cv T ver wr HS.out.1.is (by rw [hmq]; exact hq1) (owns_le HS.out.2.2.2 hBW) HT.out.2 (fun k hk e => HF1.out k (Nat.le_of_lt (HG.out k hk).1) (HG.out k hk).2 (.inr (.inl e)))
        have HF : Hid (∀ v' w8, TellR wr w8 B t s1 (fun k => (Value.slice av j cv).ownBlock = some k) v' (s1.say.tell T ver) → TellR w w8 B t s (fun _ => False) v' (s.say.touch ks ver)) := fun v' w8 hT => by
          have hT' := hT.pre (SV.pre HI.out.2.2 H.out.1 HS.out.1) hea (fun k hk => Nat.le_of_lt (HG.out k hk).1)
          have e : s.say.touch ks ver = Vs.tell { s.say with ks := minusK s.ks T } T ver := by
            unfold Vs.touch
            rw [HT.out.1, if_neg (by rw [HN.out.1]; exact h0)]; rfl
          rw [e, ← hsay]; exact hT'
        clear hsay hmq hea hBW
        go_wp2_with (go_at_call 37; refine htell.mono ?_; rintro x w8 ⟨v', rfl, hT8⟩; have hfin := HF.out v' w8 hT8; obtain ⟨bs8, s8, Bq8, hb8, -⟩ := hT8; obtain ⟨av8, cv8, rfl⟩ := owns_len hb8.row; clear hb8)
        go_ret
        exact ⟨_, rfl, hfin⟩
end Go.Proofs.Ytaofhjckliobpaa
