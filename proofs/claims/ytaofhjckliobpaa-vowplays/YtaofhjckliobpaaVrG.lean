/- The chapter's own table: Touch. -/
import Derived.Test.YtaofhjckliobpaaVrF
import Derived.Test.YtaofhjckliobpaaTkA
namespace Go.Proofs.Ytaofhjckliobpaa
open Go.RowKit Go.Shelf
attribute [local go_sem high] eqK neqK guardK run_store_complex

theorem inK_srt (l : List Ky) (x : Ky) : inK (srtK l) x = inK l x := by
  cases h : inK l x with
  | true => exact (inK_iff _ _).2 ((srtK_mem l x).2 ((inK_iff _ _).1 h))
  | false => exact inK_no fun e => by rw [(inK_iff _ _).2 ((srtK_mem l x).1 e)] at h; cases h
theorem minusK_srt (l m : List Ky) : minusK l (srtK m) = minusK l m := by
  unfold minusK
  congr 1
  funext x
  rw [inK_srt]
/-- those of a list that are told -/
def toldK (ks l : List Ky) : List Ky := l.filter fun k => inK ks k || inK ks (bare k)
theorem told_step {ks l : List Ky} {j : Nat} {x : Ky} (hx : l[j]? = some x) : toldK ks (l.take (j + 1)) = toldK ks (l.take j) ++ (if (inK ks x || inK ks (bare x)) = true then [x] else []) := by
  rw [List.take_add_one, hx]
  unfold toldK
  rw [List.filter_append]
  cases h : (inK ks x || inK ks (bare x)) <;> simp [h]
theorem toldK_le (ks l : List Ky) : (toldK ks l).length ≤ l.length := List.length_filter_le _ _
set_option maxHeartbeats 8000000 in
set_option maxRecDepth 20000 in
theorem rtouch_p (t B : Nat) (s : Vt) (v : Value) (ks : List Ky) (ver : Int) (w : World) (h : IsW w B t s) (hq1 : 1 ≤ s.mq) (hr : ArgK w v ks) (hl : ks.length * 24 ≤ LK) :
    Calls Try.prog 21 #[.pointer (some ⟨t, 0, none⟩), v, .int .i64 ver] w fun e w' => ∃ v', e = .returned v' ∧ RBr w w' B t s v' (s.say.touch ks ver) := by
  obtain ⟨i1, hi1, hw0, hw1, hw2⟩ := info_parts Try.infoKy
  obtain ⟨a, cap, rfl⟩ := hr.form
  obtain ⟨n, hn⟩ : ∃ n, ks.length = n := ⟨_, rfl⟩
  have hl13 : n ≤ 5864062014634 := by rw [← hn]; unfold LK at hl; omega
  rw [hn] at hr ⊢
  have H : Hid (IsW w B t s ∧ ArgK w (.slice a n cap) ks ∧ ks.length = n ∧ 1 ≤ s.mq ∧ ks.length * 24 ≤ LK) := ⟨h, hr, hn, hq1, hl⟩
  have HHo : Hid (∀ W, Below w.heap.size w W → ∀ (d : Int) (nm : ByteArray), Calls Try.prog 15 #[.pointer (some ⟨t, 0, none⟩), .agg #[.int .i64 d, .string nm]] W fun e w' => e = .returned (.bool (inK s.ks ⟨d, nm⟩)) ∧ Below W.heap.size W w') := fun W hb d nm => rholds_p t B s ⟨d, nm⟩ W (h.below hb)
  clear h hr hn hl hq1
  go_enter Try.func21, Try.ntmps21
  go_wp2
  go_loopw [7, 8] (fun s7 s8 wr => ∃ j : Nat, j ≤ n ∧ s8 = .int .i64 j ∧ Hid (RowK wr w.heap.size s7 (toldK s.ks (ks.take j)) ∧ Below w.heap.size w wr)) (fun _ s8 _ => n - (intOf s8).toNat)
  case atStart => exact ⟨0, Nat.zero_le _, rfl, World.ownsRow_nil _ _ _ _, Below.refl _ _⟩
  case round =>
    rename World => W0
    obtain ⟨j, hj, rfl, HI⟩ := hrel
    obtain ⟨a7, c7, h7⟩ := owns_len HI.out.1
    obtain ⟨n7, hn7⟩ : ∃ m, (toldK s.ks (ks.take j)).length = m := ⟨_, rfl⟩
    rw [hn7] at h7
    subst h7
    have hn7j : n7 ≤ j := by rw [← hn7]; refine Nat.le_trans (toldK_le _ _) ?_; rw [List.length_take]; omega
    have HB : Hid (Below w.heap.size w W0) := HI.out.2
    by_cases hlt : j < n
    · obtain ⟨x, hx⟩ : ∃ x, ks[j]? = some x := ⟨_, List.getElem?_eq_getElem (by rw [H.out.2.2.1]; exact hlt)⟩
      have HX : Hid (∀ W, Below w.heap.size w W → ∃ g off, a = some ⟨g, off, none⟩ ∧ W.cell? ⟨g, off + j * 2, none⟩ = some (.int .i64 x.d) ∧ W.cell? ⟨g, off + j * 2 + 1, none⟩ = some (.string x.nm)) := fun W hb => by
        obtain ⟨g, off, e, -, h0, h1⟩ := (H.out.2.1.below hb).key hx
        exact ⟨g, off, e, h0, h1⟩
      obtain ⟨g0, off0, ha0, x0, x1⟩ := HX.out W0 HB.out
      subst ha0
      have hki : (j : Int) < (n : Int) := by omega
      have hstep := told_step (ks := s.ks) hx
      have HO : Hid (∀ W, Below W0.heap.size W0 W → W.ownsRow w.heap.size 36 2 (.slice a7 n7 c7) n7 (kc (toldK s.ks (ks.take j)))) := fun W hb => by
        have := HI.out.1.below hb
        unfold RowK at this
        rw [hn7] at this; exact this
      have HX2 : Hid (∀ W, Below W0.heap.size W0 W → W.cell? ⟨g0, off0 + j * 2, none⟩ = some (.int .i64 x.d) ∧ W.cell? ⟨g0, off0 + j * 2 + 1, none⟩ = some (.string x.nm)) := fun W hb => ⟨(hb.cell (cellLt x0)).trans x0, (hb.cell (cellLt x1)).trans x1⟩
      obtain ⟨q1, hq1⟩ : ∃ q, inK s.ks x = q := ⟨_, rfl⟩
      obtain ⟨q2, hq2⟩ : ∃ q, inK s.ks (bare x) = q := ⟨_, rfl⟩
      rw [hq1, hq2] at hstep
      have HH1 : Hid (∀ W, Below w.heap.size w W → Calls Try.prog 15 #[.pointer (some ⟨t, 0, none⟩), .agg #[.int .i64 x.d, .string x.nm]] W fun e w' => e = .returned (.bool q1) ∧ Below W.heap.size W w') := fun W hb => by
        have := HHo.out W hb x.d x.nm
        rw [show inK s.ks ⟨x.d, x.nm⟩ = q1 from hq1] at this; exact this
      have HH2 : Hid (∀ W, Below w.heap.size w W → Calls Try.prog 15 #[.pointer (some ⟨t, 0, none⟩), .agg #[.int .i64 x.d, .string ⟨#[]⟩]] W fun e w' => e = .returned (.bool q2) ∧ Below W.heap.size W w') := fun W hb => by
        have := HHo.out W hb x.d ⟨#[]⟩
        rw [show inK s.ks ⟨x.d, ⟨#[]⟩⟩ = q2 from hq2] at this; exact this
      have Hn7 : Hid ((toldK s.ks (ks.take j)).length = n7) := hn7
      clear hx hq1 hq2 HX hn7
      cases q1 with
      | true =>
        have HT : Hid (toldK s.ks (ks.take (j + 1)) = toldK s.ks (ks.take j) ++ [x] ∧ (toldK s.ks (ks.take j)).length = n7) := ⟨by rw [hstep]; rfl, Hn7.out⟩
        clear hstep HH2
        go_upto_region 6 with (go_at_call 15; refine (HH1.out _ HB.out).mono ?_; rintro e w1 ⟨rfl, hb1⟩)
        have HB1 : Hid (Below W0.heap.size W0 w1) := hb1
        clear x0 x1 hb1
        obtain ⟨x0, x1⟩ := HX2.out w1 HB1.out
        go_wp2_with (at_builtin; refine wpList_append_own _ rfl _ _ 31 rfl w.heap.size 36 i1 (.agg #[.int .i64 0, .string ⟨#[]⟩]) 2 24 Try.underlying31 hi1 hw0 hw1 hw2 rfl (by decide) _ n7 (kc (toldK s.ks (ks.take j))) rfl (World.ownsRow.alloc (HO.out w1 HB1.out) _) ⟨w1.heap.size, 0, none⟩ 1 1 x.vals rfl rfl (one_key _ x) (ky_one _) (by unfold maxLen; omega) (by omega) (by have := (chainB HB.out HB1.out).size; simp; omega) ?_; intro v5 w5 hown5 hgrow5 _)
        refine ⟨⟨j + 1, by omega, by simp, ?_, ?_⟩, by simp [intOf]; omega⟩
        · rw [HT.out.1]
          show World.ownsRow _ _ _ _ _ _ _
          rw [List.length_append, HT.out.2, kc_app]; exact hown5
        · have hb := chainB HB.out HB1.out
          exact (hb.alloc (by have := hb.size; omega) _).grown hgrow5 (by have := hb.size; simp; omega) (fun q hq => ((HO.out _ HB1.out).lt q hq).1)
      | false =>
        cases q2 with
        | true =>
          have HT : Hid (toldK s.ks (ks.take (j + 1)) = toldK s.ks (ks.take j) ++ [x] ∧ (toldK s.ks (ks.take j)).length = n7) := ⟨by rw [hstep]; rfl, Hn7.out⟩
          clear hstep
          obtain ⟨y0, y1⟩ : (∀ W, Below W0.heap.size W0 W → W.cell? ⟨g0, off0 + j * 2, none⟩ = some (.int .i64 x.d)) ∧ True := ⟨fun W hb => (HX2.out W hb).1, trivial⟩
          have HY0 : Hid (∀ W, Below W0.heap.size W0 W → W.cell? ⟨g0, off0 + j * 2, none⟩ = some (.int .i64 x.d)) := y0
          clear y0 y1
          go_upto_region 6 with (first
            | (go_at_call 15; refine (HH2.out _ (chainB HB.out hb1)).mono ?_; rintro e w2 ⟨rfl, hb2⟩)
            | (go_at_call 15; refine (HH1.out _ HB.out).mono ?_; rintro e w1 ⟨rfl, hb1⟩; have z0 := HY0.out w1 hb1))
          have HB1 : Hid (Below W0.heap.size W0 w2) := chainB hb1 hb2
          clear x0 x1 hb1 hb2 z0
          obtain ⟨x0, x1⟩ := HX2.out w2 HB1.out
          go_wp2_with (at_builtin; refine wpList_append_own _ rfl _ _ 31 rfl w.heap.size 36 i1 (.agg #[.int .i64 0, .string ⟨#[]⟩]) 2 24 Try.underlying31 hi1 hw0 hw1 hw2 rfl (by decide) _ n7 (kc (toldK s.ks (ks.take j))) rfl (World.ownsRow.alloc (HO.out w2 HB1.out) _) ⟨w2.heap.size, 0, none⟩ 1 1 x.vals rfl rfl (one_key _ x) (ky_one _) (by unfold maxLen; omega) (by omega) (by have := (chainB HB.out HB1.out).size; simp; omega) ?_; intro v5 w5 hown5 hgrow5 _)
          refine ⟨⟨j + 1, by omega, by simp, ?_, ?_⟩, by simp [intOf]; omega⟩
          · rw [HT.out.1]
            show World.ownsRow _ _ _ _ _ _ _
            rw [List.length_append, HT.out.2, kc_app]; exact hown5
          · have hb := chainB HB.out HB1.out
            exact (hb.alloc (by have := hb.size; omega) _).grown hgrow5 (by have := hb.size; simp; omega) (fun q hq => ((HO.out _ HB1.out).lt q hq).1)
        | false =>
          have HT : Hid (toldK s.ks (ks.take (j + 1)) = toldK s.ks (ks.take j)) := by show _ = _; rw [hstep]; simp
          clear hstep
          have HY0 : Hid (∀ W, Below W0.heap.size W0 W → W.cell? ⟨g0, off0 + j * 2, none⟩ = some (.int .i64 x.d)) := fun W hb => (HX2.out W hb).1
          go_wp2_with (first
            | (go_at_call 15; refine (HH2.out _ (chainB HB.out hb1)).mono ?_; rintro e w2 ⟨rfl, hb2⟩)
            | (go_at_call 15; refine (HH1.out _ HB.out).mono ?_; rintro e w1 ⟨rfl, hb1⟩; have z0 := HY0.out w1 hb1))
          exact ⟨⟨j + 1, by omega, by simp, by rw [HT.out]; exact HI.out.1.below (chainB hb1 hb2), chainB HB.out (chainB hb1 hb2)⟩, by simp [intOf]; omega⟩
    · have hkl : j = n := by omega
      subst hkl
      have hki : ¬ (j : Int) < (j : Int) := by omega
      have htk : ks.take j = ks := List.take_of_length_le (by rw [H.out.2.2.1]; omega)
      rw [htk] at hn7
      obtain ⟨T, hT⟩ : ∃ T, toldK s.ks ks = T := ⟨_, rfl⟩
      rw [hT] at hn7
      have HTl : Hid (toldK s.ks ks = T ∧ T.length = n7) := ⟨hT, hn7⟩
      have HR : Hid (RowK W0 w.heap.size (.slice a7 n7 c7) T) := by have := HI.out.1; rw [htk, hT] at this; exact this
      clear hn7 hT htk HI
      go_wp2
      go_loopw [9] (fun s9 wr => ∃ (j : Nat), s9 = .int .i64 j ∧ j ≤ n7 ∧ Hid (∃ si, SW w wr B t s si ∧ si.say = { s.say with ks := minusK s.ks (T.take j) } ∧ RowK wr w.heap.size (.slice a7 n7 c7) T ∧ ∀ q, (Value.slice a7 n7 c7).ownBlock = some q → ¬ si.wr t q)) (fun s9 _ => n7 - (intOf s9).toNat)
      case atStart => exact ⟨0, rfl, Nat.zero_le _, s, SW.stay H.out.1 HB.out, by rw [List.take_zero, minusK_nil]; rfl, HR.out, fun q hq e => by have := (HR.out.lt hq).1; have := (H.out.1.lt (.inl e)).2; omega⟩
      case round =>
        rename World => W1
        clear HR
        obtain ⟨i, rfl, hi, HS⟩ := hrel
        obtain ⟨si, hS, hsay, hrow, hnw⟩ := HS.out
        by_cases hli : i < n7
        · have hliz : (i : Int) < (n7 : Int) := by omega
          obtain ⟨x, hx⟩ : ∃ x, T[i]? = some x := ⟨_, List.getElem?_eq_getElem (by rw [HTl.out.2]; exact hli)⟩
          obtain ⟨g7, e7, -, -, x0, x1, -⟩ := hrow.key hx
          subst e7
          have hwo := rwithout_p t B si x W1 hS.is
          unfold Ky.agg at hwo
          have HF : Hid (∀ w2 s', SW W1 w2 B t si s' → s'.say = { si.say with ks := dropK si.ks x } → ∃ si, SW w w2 B t s si ∧ si.say = { s.say with ks := minusK s.ks (T.take (i + 1)) } ∧ RowK w2 w.heap.size (.slice (some ⟨g7, 0, none⟩) n7 c7) T ∧ ∀ q, (Value.slice (some ⟨g7, 0, none⟩) n7 c7).ownBlock = some q → ¬ si.wr t q) := fun w2 s' h2 e2 => by
            refine ⟨s', hS.trans h2, ?_, hrow.moved fun q hq => h2.only.block q (hrow.lt hq).2 (hnw q hq), fun q hq e => ?_⟩
            · rw [e2, hsay]
              have : si.ks = minusK s.ks (T.take i) := congrArg Vs.ks hsay
              rw [this, List.take_add_one, hx]
              show ({ s.say with ks := dropK (minusK s.ks (T.take i)) x } : Vs) = { s.say with ks := minusK s.ks (T.take i ++ [x]) }
              rw [minusK_snoc]
            · rcases h2.nwr q e with e3 | e3
              · exact hnw q hq e3
              · have := (hrow.lt hq).2; omega
          clear hS hsay hrow hnw hx HS
          go_wp2_with (go_at_call 38; refine hwo.mono ?_; rintro e w2 ⟨rfl, s', hS2, hs2⟩)
          exact ⟨⟨i + 1, by simp, by omega, HF.out w2 s' hS2 hs2⟩, by simp [intOf]; omega⟩
        · obtain rfl : i = n7 := by omega
          have hliz : ¬ (i : Int) < (i : Int) := by omega
          have htk : T.take i = T := List.take_of_length_le (by rw [HTl.out.2]; omega)
          rw [htk] at hsay
          have htl : s.say.told ks = T := HTl.out.1
          by_cases h0 : i = 0
          · subst h0
            have hT0 : T = [] := List.length_eq_zero_iff.1 HTl.out.2
            have HF : Hid (RBr w W1 B t s (.slice none 0 0) (s.say.touch ks ver)) := by
              have e : s.say.touch ks ver = (s.say, []) := by
                unfold Vs.touch
                rw [htl, hT0]; rfl
              rw [e]
              refine RBr.nil hS _ ?_
              rw [hsay, hT0, minusK_nil]; rfl
            clear hS hsay hrow hnw HS htk hT0 htl
            go_wp2
            go_ret
            exact ⟨_, rfl, HF.out⟩
          · have hiz : ((i : Int) == 0) = false := beq_eq_false_iff_ne.2 (by omega)
            have hmq : si.mq = s.mq := congrArg Vs.mq hsay
            have hea : part si.a = part s.a := congrArg Vs.e hsay
            have hbr := rbroken_p t B si (.slice a7 i c7) T ver W1 hS.is (by rw [hmq]; exact H.out.2.2.2.1) _ hrow (by have := toldK_le s.ks ks; rw [HTl.out.1] at this; have := H.out.2.2.2.2; omega)
            have HF : Hid (∀ v' w8, RBr W1 w8 B t si v' (si.say.tell (srtK T) ver) → RBr w w8 B t s v' (s.say.touch ks ver)) := fun v' w8 hT => by
              have hT' := hT.pre hS hea
              have e : s.say.touch ks ver = si.say.tell (srtK T) ver := by
                unfold Vs.touch
                rw [htl, if_neg, minusK_srt, hsay]
                · rfl
                · intro e
                  have := srtK_nil (List.length_eq_zero_iff.1 e)
                  have := HTl.out.2
                  simp_all
              rw [e]; exact hT'
            clear hS hsay hrow hnw HS htk htl hmq hea
            go_wp2_with (go_at_call 39; refine hbr.mono ?_; rintro x w8 ⟨v', rfl, hT8⟩; have hfin := HF.out v' w8 hT8; obtain ⟨s8, -, -, hb8⟩ := hT8; obtain ⟨av, cv, rfl⟩ := hb8.form; clear hb8)
            go_ret
            exact ⟨_, rfl, hfin⟩
end Go.Proofs.Ytaofhjckliobpaa
