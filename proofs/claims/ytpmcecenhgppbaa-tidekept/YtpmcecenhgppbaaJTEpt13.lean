/- use: a reply that is taken. -/
import Derived.Test.YtpmcecenhgppbaaJTEpt12
namespace Go.Proofs.Ytpmcecenhgppbaa
section
open Go.RowKit Go.Shelf
attribute [local go_sem ↓ high] loadMsg storeMsg buildMsg storeAct loadAct
attribute [local go_sem high] run_store_complex eqC

set_option maxHeartbeats 4000000 in
set_option maxRecDepth 100000 in
theorem use_ok (t B : Nat) (s : Td) (x : Hm) (w : World) (h : IsT w B t s) (hL : Lists w 0 x) (hm : Mk x.m.re x.m.im (part s.a) x.m.num) (he : x.m.err ≠ 70) :
    Calls Try.prog 47 #[.pointer (some ⟨t, 0, none⟩), .agg x.arr] w fun e w' => ∃ a : Am, e = .returned (.agg a.arr) ∧ a.c = s.say.usedA x.m ∧ ActL w' w.heap.size a ∧ ∃ s', ST w w' B t s s' ∧ s'.say = s.say.used x.m ∧ s'.hs = s.hs := by
  obtain ⟨W, hW⟩ : ∃ W, w.alloc (.cells x.arr 45) = W := ⟨_, rfl⟩
  obtain ⟨W2, hW2⟩ : ∃ W2, W.alloc (.cells #[.bool false, .bool false, .bool false, .bool false, .slice none 0 0, .int .i64 0, .slice none 0 0] 59) = W2 := ⟨_, rfl⟩
  have b1 := boxB hW
  have b2 := boxB hW2
  obtain ⟨r, hr⟩ : ∃ r, W.heap.size = r := ⟨_, rfl⟩
  have hwr : w.heap.size < r := by rw [← hr]; exact (Array.getElem?_eq_some_iff.1 b1.1).1
  have hb0 : Below w.heap.size w W2 := chainB b1.2 b2.2
  have bx : W2.heap[w.heap.size]? = some (.cells x.arr 45 (0, 0)) := hkeep b1.1 b2.2
  have br : W2.heap[r]? = some (.cells zAct 59 (0, 0)) := by rw [← hr]; exact b2.1
  have h2 := h.below hb0
  obtain ⟨-, -, -, c3, -, -, -, -, -, -, cf⟩ := h2.cells
  have m5 : W2.cell? ⟨w.heap.size, 5, none⟩ = some (.int .i64 x.m.vers) := by rw [cell_of bx]; rfl
  have hne : t ≠ w.heap.size := by have := h.tt.lt; omega
  obtain ⟨X, hX⟩ : ∃ X, x.arr = X := ⟨_, rfl⟩
  rw [hX] at hW ⊢
  have HI : Hid (∀ W4, W4.heap[t]? = some (.cells ({ s with ver := max s.ver x.m.vers } : Td).arr 68 (0, 0)) → Only (· = t) W2 W4 → Ap w W4 B t r { s with ver := max s.ver x.m.vers } x ∧ ST w W4 B t s { s with ver := max s.ver x.m.vers }) := fun W4 hd o => ver_mark h hb0 bx br hL hwr _ hd o
  have H2 : Hid (x.arr = X ∧ Mk x.m.re x.m.im (part s.a) x.m.num ∧ IsT w B t s ∧ Lists w 0 x ∧ r < W2.heap.size) := ⟨hX, hm, h, hL, (Array.getElem?_eq_some_iff.1 br).1⟩
  have HS : Hid ((W2.setCell ⟨t, 3, none⟩ (.int .i64 (max s.ver x.m.vers))).heap[t]? = some (.cells ({ s with ver := max s.ver x.m.vers } : Td).arr 68 (0, 0))) := by
    have := heap_set h2.head 3 (.int .i64 (max s.ver x.m.vers))
    exact (by simpa [Td.arr] using this : (W2.setCell ⟨t, 3, none⟩ (.int .i64 (max s.ver x.m.vers))).heap[t]? = some (.cells ({ s with ver := max s.ver x.m.vers } : Td).arr 68 (0, 0)))
  clear h h2 b1 b2 hb0 bx br hX hL hm
  go_enter Try.func47, Try.ntmps47
  go_upto_region 1 with fail
  clear hW hW2
  go_cut [18] from 8 to 17 (fun u wx => u = undef ∧ wx.heap[t]? = some (.cells ({ s with ver := max s.ver x.m.vers } : Td).arr 68 (0, 0)) ∧ Only (· = t) W2 wx)
  case first =>
    go_region_law (fail)
    all_goals
      go_wp2_with fail
      go_meet
      exact ⟨rfl, HS.out, (only1 _ t _ _).drew⟩
  case rest =>
    obtain ⟨rfl, hd2, ho2⟩ := hcut
    have AP : Hid (Ap w wc B t r { s with ver := max s.ver x.m.vers } x ∧ ST w wc B t s { s with ver := max s.ver x.m.vers }) := HI.out wc hd2 ho2
    have HB : Hid (wc.heap[w.heap.size]? = some (.cells X 45 (0, 0)) ∧ r < wc.heap.size) := by
      have := AP.out.1.box; rw [H2.out.1] at this; exact ⟨this, (Array.getElem?_eq_some_iff.1 AP.out.1.res).1⟩
    have m6 : wc.cell? ⟨w.heap.size, 6, none⟩ = some (.int .i64 x.m.err) := by rw [cell_of HB.out.1, ← H2.out.1]; rfl
    clear hd2 ho2 HS HI
    have hq : (x.m.err == 70) = false := beq_eq_false_iff_ne.2 he
    obtain ⟨bw, hbw⟩ : ∃ bw, wholeF s.fr x.m.num = bw := ⟨_, rfl⟩
    have HBW : Hid (wholeF s.fr x.m.num = bw) := hbw
    rename World => V
    have m4 : V.cell? ⟨w.heap.size, 4, none⟩ = some (.complex .f64 x.m.re x.m.im) := by rw [cell_of HB.out.1, ← H2.out.1]; rfl
    have hlt4 : w.heap.size < V.heap.size := (Array.getElem?_eq_some_iff.1 HB.out.1).1
    have HLa : Hid (∀ U, Below V.heap.size V U → Calls Try.prog 61 #[.pointer (some ⟨t, 5, none⟩), .complex .f64 x.m.re x.m.im] U fun e w' => e = .returned (.bool (!bw)) ∧ w' = U) := fun U hU => by
      have := later_q t B { s with ver := max s.ver x.m.vers } x.m.re x.m.im x.m.num U (AP.out.1.is.below hU) H2.out.2.1
      rw [← hbw]; exact this
    have HNa : Hid (∀ (k : Ky) (U : World), IsT U B t { s with ver := max s.ver x.m.vers } → Calls Try.prog 62 #[.pointer (some ⟨t, 5, none⟩), .agg #[.int .i64 k.d, .string k.nm], .complex .f64 x.m.re x.m.im] U fun e w' => e = .returned (.bool (named s.fr x.m.num k)) ∧ Below U.heap.size U w') := fun k U hU => names_q t B { s with ver := max s.ver x.m.vers } k x.m.re x.m.im x.m.num U hU H2.out.2.1
    obtain ⟨W5, hW5⟩ : ∃ W5, V.drew.alloc (.cells #[.bool false, .bool false, .bool false, .bool false, .slice none 0 0, .int .i64 0, .slice none 0 0] 59) = W5 := ⟨_, rfl⟩
    have b5 := boxB hW5
    obtain ⟨W6, hW6⟩ : ∃ W6, W5.setRow V.heap.size #[.bool false, .bool false, .bool true, .bool bw, .slice none 0 0, .int .i64 x.m.err, .slice none 0 0] = W6 := ⟨_, rfl⟩
    have ms := actSt_of (g := V.heap.size) (cs := #[.bool false, .bool false, .bool true, .bool bw, .slice none 0 0, .int .i64 x.m.err, .slice none 0 0]) b5.1 rfl rfl (by simp [Value.oneCell']) hW6
    have o6 : Only (· = V.heap.size) W5 W6 := by rw [← hW6]; exact onlyR _ _ _
    have b5' : Below V.heap.size V W5 := ⟨b5.2.os, b5.2.tape, b5.2.output, b5.2.size, b5.2.block⟩
    have HU : Hid (Us w V W6 r V.heap.size x bw [] (.slice none 0 0)) := by
      have b6 : Below V.heap.size V W6 := o6.below b5' b5'.size (fun k hk => Nat.le_of_eq hk.symm)
      refine ⟨b6.mono (Nat.le_of_lt hlt4), Nat.le_of_lt hlt4, ?_, hkeep AP.out.1.res b6, by rw [← hW6]; exact setRow_heap _ _ _ _ _ _ b5.1, World.ownsRow_nil _ _ _ _, hwr, HB.out.2⟩
      rw [H2.out.1]; exact hkeep HB.out.1 b6
    have kS : V.drew.cell? ⟨w.heap.size, 6, none⟩ = some (.int .i64 x.m.err) ∧ V.drew.cell? ⟨w.heap.size, 4, none⟩ = some (.complex .f64 x.m.re x.m.im) := ⟨m6, m4⟩
    have k5 : W5.cell? ⟨w.heap.size, 6, none⟩ = some (.int .i64 x.m.err) ∧ W5.cell? ⟨w.heap.size, 4, none⟩ = some (.complex .f64 x.m.re x.m.im) := ⟨(b5'.cell (p := ⟨w.heap.size, 6, none⟩) hlt4).trans m6, (b5'.cell (p := ⟨w.heap.size, 4, none⟩) hlt4).trans m4⟩
    have k6 : W6.cell? ⟨w.heap.size, 6, none⟩ = some (.int .i64 x.m.err) ∧ W6.cell? ⟨w.heap.size, 4, none⟩ = some (.complex .f64 x.m.re x.m.im) := ⟨by rw [cell_of HU.out.box]; rfl, by rw [cell_of HU.out.box]; rfl⟩
    have HHE : Hid (x.m.err ≠ 70) := he
    have h5d : Below V.heap.size V V.drew := (Below.refl _ _).drew
    have h5w : Below V.heap.size V W5 := b5'
    clear b5 b5' o6 hbw hW6 he
    go_upto_region 4 with fail
    go_cut [5] from 8 to 31 (fun u wx => u = .pointer (some ⟨V.heap.size, 0, none⟩) ∧ Us w V wx r V.heap.size x bw [] (.slice none 0 0))
    case first =>
      go_region_held3 (fun w' => w'.cell? ⟨w.heap.size, 6, none⟩ = some (.int .i64 x.m.err) ∧ w'.cell? ⟨w.heap.size, 4, none⟩ = some (.complex .f64 x.m.re x.m.im))
        (with_reducible first | exact kS | exact k5 | exact k6)
        (first | (go_at_call 61; refine (HLa.out _ (by first | exact h5d | exact h5w)).mono ?_; rintro e w1 ⟨rfl, rfl⟩))
      all_goals
        go_wp2_with fail
        go_meet
        exact ⟨rfl, HU.out⟩
    case rest =>
      obtain ⟨rfl, hu⟩ := hcut
      rename World => V6
      have HU6 : Hid (Us w V V6 r V.heap.size x bw [] (.slice none 0 0)) := hu
      have n14 : V6.cell? ⟨w.heap.size, 14, none⟩ = some (.slice x.ae x.m.es.length x.ce) := by rw [cell_of hu.box]; rfl
      have HIs : Hid (∀ wr v es, Us w V wr r V.heap.size x bw es v → IsT wr B t { s with ver := max s.ver x.m.vers } ∧ Row7 wr 0 (.slice x.ae x.m.es.length x.ce) x.m.es) := fun wr v es u => ⟨u.is AP.out.1.is fun k hk => (H2.out.2.2.1.lt hk).2, owns_moved AP.out.1.ls.es fun k e => u.bel.block k (Tag.own H2.out.2.2.2.1.es e).lt⟩
      have HLE : Hid (x.m.es.length * 72 ≤ LB) := H2.out.2.2.2.1.le
      obtain ⟨ae, hae⟩ : ∃ ae, x.ae = ae := ⟨_, rfl⟩
      obtain ⟨i1, hi1, hw0, hw1, hw2⟩ := info_parts Try.infoE
      rw [hae] at n14 HIs
      have hkl : x.m.es.length ≤ 2000000000000 := by have := HLE.out; unfold LB at this; omega
      have HKL : Hid (x.m.es.length ≤ 2000000000000) := hkl
      obtain ⟨n, hn⟩ : ∃ n, x.m.es.length = n := ⟨_, rfl⟩
      rw [hn] at n14 HIs hkl
      have HN : Hid (x.m.es.length = n) := hn
      clear hu kS k5 k6 hae HU HLa ms hn m4 m6 m5 hW5 h5d h5w
      go_upto_region 5 with fail
      go_wp2
      go_loopw [35, 7] (fun s35 _ wr => ∃ (j : Nat) (v : Value), j ≤ n ∧ s35 = .int .i64 j ∧ Hid (Us w V wr r V.heap.size x bw (left s.fr x.m.num (x.m.es.take j)) v)) (fun s35 _ _ => n - (intOf s35).toNat)
      case atStart => exact ⟨0, .slice none 0 0, Nat.zero_le _, rfl, HU6.out⟩
      case round =>
        obtain ⟨j, v, hj, rfl, HR⟩ := hrel
        by_cases hlt : j < n
        · obtain ⟨e, hee⟩ : ∃ e, x.m.es[j]? = some e := ⟨_, List.getElem?_eq_getElem (by rw [HN.out]; exact hlt)⟩
          have HT : Hid (left s.fr x.m.num (x.m.es.take (j + 1)) = left s.fr x.m.num (x.m.es.take j) ++ (if named s.fr x.m.num ⟨e.d, e.nm⟩ then [] else [e])) := left_take _ _ _ _ _ hee
          obtain ⟨hi0, hrow0⟩ := HIs.out _ _ _ HR.out
          obtain ⟨ge, rfl, -, -, hgl, hc, -⟩ := owns_entry (show wr.ownsRow 0 57 7 (.slice ae n x.ce) x.m.es.length (ec x.m.es) from hrow0) hee
          obtain ⟨y0, y1, y2, y3, y4, y5, y6⟩ := hc
          have hltz : (j : Int) < (n : Int) := by omega
          obtain ⟨W1, hW1⟩ : ∃ W1, wr.alloc (.cells #[.int .i64 e.d, .string e.nm, .bool e.neg, .int .i64 e.id, .int .i64 e.kind, .int .i64 e.mode, .string e.tg] 57) = W1 := ⟨_, rfl⟩
          have b1 := boxB hW1
          have u1 := HR.out.on b1.2
          have kk : W1.drew.cell? ⟨wr.heap.size, 0, none⟩ = some (.int .i64 e.d) ∧ W1.drew.cell? ⟨wr.heap.size, 1, none⟩ = some (.string e.nm) ∧ W1.drew.cell? ⟨w.heap.size, 4, none⟩ = some (.complex .f64 x.m.re x.m.im) := ⟨by rw [show W1.drew.cell? ⟨wr.heap.size, 0, none⟩ = W1.cell? ⟨wr.heap.size, 0, none⟩ from rfl, cell_of b1.1]; rfl, by rw [show W1.drew.cell? ⟨wr.heap.size, 1, none⟩ = W1.cell? ⟨wr.heap.size, 1, none⟩ from rfl, cell_of b1.1]; rfl, by rw [show W1.drew.cell? ⟨w.heap.size, 4, none⟩ = W1.cell? ⟨w.heap.size, 4, none⟩ from rfl, cell_of u1.box]; rfl⟩
          have ud := u1.on (Below.refl _ _).drew
          have hna := HNa.out ⟨e.d, e.nm⟩ W1.drew (HIs.out _ _ _ ud).1
          have HEB : Hid (W1.drew.heap[wr.heap.size]? = some (.cells #[.int .i64 e.d, .string e.nm, .bool e.neg, .int .i64 e.id, .int .i64 e.kind, .int .i64 e.mode, .string e.tg] 57 (0, 0))) := b1.1
          have HUD : Hid (Us w V W1.drew r V.heap.size x bw (left s.fr x.m.num (x.m.es.take j)) v) := ud
          obtain ⟨bn, hbn⟩ : ∃ bn, named s.fr x.m.num ⟨e.d, e.nm⟩ = bn := ⟨_, rfl⟩
          rw [hbn] at hna HT
          have HNA : Hid (Calls Try.prog 62 #[.pointer (some ⟨t, 5, none⟩), .agg #[.int .i64 e.d, .string e.nm], .complex .f64 x.m.re x.m.im] W1.drew fun e w' => e = .returned (.bool bn) ∧ Below W1.drew.heap.size W1.drew w') := hna
          obtain ⟨L, hL⟩ : ∃ L, left s.fr x.m.num (x.m.es.take j) = L := ⟨_, rfl⟩
          have hLl : L.length ≤ j := by
            rw [← hL]
            refine Nat.le_trans (List.length_filter_le _ _) ?_
            rw [List.length_take]; omega
          rw [hL] at HT HUD
          clear u1 ud hna hbn b1 hee hi0 hrow0 HR hL
          go_upto_region 8 with fail
          clear hW1 y0 y1 y2 y3 y4 y5 y6
          go_region_held3 (fun w' => w'.cell? ⟨wr.heap.size, 0, none⟩ = some (.int .i64 e.d) ∧ w'.cell? ⟨wr.heap.size, 1, none⟩ = some (.string e.nm) ∧ w'.cell? ⟨w.heap.size, 4, none⟩ = some (.complex .f64 x.m.re x.m.im))
            (with_reducible first | exact kk | exact kk2)
            (first | (go_at_call 62; refine HNA.out.mono ?_; rintro q w2 ⟨rfl, hb2⟩; have kk2 : w2.cell? ⟨wr.heap.size, 0, none⟩ = some (.int .i64 e.d) ∧ w2.cell? ⟨wr.heap.size, 1, none⟩ = some (.string e.nm) ∧ w2.cell? ⟨w.heap.size, 4, none⟩ = some (.complex .f64 x.m.re x.m.im) := ⟨(hb2.cell (cellLt kk.1)).trans kk.1, (hb2.cell (cellLt kk.2.1)).trans kk.2.1, (hb2.cell (cellLt kk.2.2)).trans kk.2.2⟩))
          have u2 := HUD.out.on hb2
          have eb2 := hkeep HEB.out hb2
          cases bn with
          | true =>
            have HV : Hid (Us w V w2 r V.heap.size x bw (left s.fr x.m.num (x.m.es.take (j + 1))) v) := by
              rw [HT.out, if_pos rfl, List.append_nil]; exact u2
            clear u2 eb2 kk kk2 hb2
            go_wp2
            exact ⟨⟨j + 1, v, by omega, by simp, HV⟩, by simp [intOf]; omega⟩
          | false =>
            obtain ⟨av, cv, rfl⟩ := owns_len u2.row
            have z6 : w2.cell? ⟨V.heap.size, 6, none⟩ = some (.slice av L.length cv) := by rw [cell_of u2.act]; rfl
            have e0 : w2.cell? ⟨wr.heap.size, 0, none⟩ = some (.int .i64 e.d) := by rw [cell_of eb2]; rfl
            have e1 : w2.cell? ⟨wr.heap.size, 1, none⟩ = some (.string e.nm) := by rw [cell_of eb2]; rfl
            have e2 : w2.cell? ⟨wr.heap.size, 2, none⟩ = some (.bool e.neg) := by rw [cell_of eb2]; rfl
            have e3 : w2.cell? ⟨wr.heap.size, 3, none⟩ = some (.int .i64 e.id) := by rw [cell_of eb2]; rfl
            have e4 : w2.cell? ⟨wr.heap.size, 4, none⟩ = some (.int .i64 e.kind) := by rw [cell_of eb2]; rfl
            have e5 : w2.cell? ⟨wr.heap.size, 5, none⟩ = some (.int .i64 e.mode) := by rw [cell_of eb2]; rfl
            have e6 : w2.cell? ⟨wr.heap.size, 6, none⟩ = some (.string e.tg) := by rw [cell_of eb2]; rfl
            have HU2 : Hid (Us w V w2 r V.heap.size x bw L (.slice av L.length cv)) := u2
            have hsz2 : w.heap.size ≤ w2.heap.size := Nat.le_trans u2.wv u2.bel.size
            have hrow2 : w2.ownsRow w.heap.size 57 7 (.slice av L.length cv) L.length (ec L) := u2.row
            have hL72 : (L.length + 1) * 72 ≤ 140737488355328 := by have := HLE.out; unfold LB at this; have := HN.out; omega
            have HL72 : Hid ((L.length + 1) * 72 ≤ 140737488355328) := hL72
            clear u2 eb2 kk kk2 hb2 hL72
            go_wp2_with (at_builtin; refine wpList_append_own_at _ rfl (.tmp 49) (.tmp 51) 33 rfl w.heap.size 57 i1 _ 7 72 Try.underlying33 hi1 hw0 hw1 hw2 rfl (by decide) _ L.length (ec L) rfl (World.ownsRow.alloc hrow2 _) ⟨w2.heap.size, 0, none⟩ 1 1 e.vals rfl rfl (vals_at _ e _) (vals_one e) (by unfold maxLen; omega) HL72.out (by simp; omega) ?_; intro v5 w5 hown5 hgrow5 _ _; have H5 : Hid _ := HU2.out.push e hown5 hgrow5; obtain ⟨a5, q5, rfl⟩ := owns_len hown5; have z5 : w5.cell? ⟨V.heap.size, 6, none⟩ = some (.slice av L.length cv) := (by rw [cell_of H5.out.1]; rfl); have zf5 := free_of H5.out.1; clear hown5 hgrow5)
            have HV : Hid (Us w V (w5.setCell ⟨V.heap.size, 6, none⟩ (.slice a5 (L.length + 1) q5)) r V.heap.size x bw (left s.fr x.m.num (x.m.es.take (j + 1))) (.slice a5 (L.length + 1) q5)) := by
              rw [HT.out]; exact H5.out.2
            exact ⟨⟨j + 1, _, by omega, by simp, HV⟩, by simp [intOf]; omega⟩
        · obtain rfl : j = n := by omega
          have hltz : ¬ (j : Int) < (j : Int) := by omega
          have hfull : x.m.es.take j = x.m.es := List.take_of_length_le (by rw [HN.out]; exact Nat.le_refl _)
          obtain ⟨L, hL⟩ : ∃ L, left s.fr x.m.num (x.m.es.take j) = L := ⟨_, rfl⟩
          have hLe : L = left s.fr x.m.num x.m.es := by rw [← hL, hfull]
          have uu := HR.out
          rw [hL] at uu
          obtain ⟨av, cv, rfl⟩ := owns_len uu.row
          have isw := (HIs.out _ _ _ uu).1
          obtain ⟨-, -, -, -, t4, t5, t6, t7, -, -, tf⟩ := isw.cells
          obtain ⟨W6, hW6⟩ : ∃ W6, (((wr.setCell ⟨t, 4, none⟩ (.int .i64 0)).setCell ⟨t, 5, none⟩ (.complex .f64 0 0)).setCell ⟨t, 6, none⟩ (.complex .f64 0 0)).setCell ⟨t, 7, none⟩ (.map none) = W6 := ⟨_, rfl⟩
          obtain ⟨W7, hW7⟩ : ∃ W7, W6.setRow r #[.bool false, .bool false, .bool true, .bool bw, .slice none 0 0, .int .i64 x.m.err, .slice av L.length cv] = W7 := ⟨_, rfl⟩
          have hend := use_end (es := L) (W6 := W6) (W7 := W7) (by rw [HBW.out]; exact uu) H2.out.2.2.1 AP.out.1.is AP.out.2 HHE.out hLe HLE.out hW6 (by rw [HBW.out]; exact hW7)
          rw [HBW.out] at hend
          obtain ⟨q1, q2, q3, q4, q5, q6⟩ := hend
          have ml := actLd_of q2 rfl
          have ms := actSt_of q1 rfl rfl (by simp [Value.oneCell']) hW7
          have HZ : Hid _ := And.intro q4 (And.intro q5 q6)
          have HR3 : Hid _ := q3
          clear q1 q2 q3 q4 q5 q6 uu isw hL hLe hfull HR
          go_wp2
          refine bodyPost_ret (results_cell_row rfl _ _ r _ _ _ _ rfl HR3.out Try.underlying59 rfl Try.sizeAc) rfl ?_
          exact ⟨_, by rw [HZ.out.2.1], rfl, HZ.out.1, HZ.out.2.2⟩
theorem use_p (t B : Nat) (s : Td) (x : Hm) (w : World) (h : IsT w B t s) (hL : Lists w 0 x) (hm : Mk x.m.re x.m.im (part s.a) x.m.num) :
    Calls Try.prog 47 #[.pointer (some ⟨t, 0, none⟩), .agg x.arr] w fun e w' => ∃ a : Am, e = .returned (.agg a.arr) ∧ a.c = s.say.usedA x.m ∧ ActL w' w.heap.size a ∧ ∃ s', ST w w' B t s s' ∧ s'.say = s.say.used x.m ∧ s'.hs = s.hs := by
  by_cases he : x.m.err = 70
  · exact use_70 t B s x w h hL hm he
  · exact use_ok t B s x w h hL hm he
end
section
open Go.RowKit Go.Shelf
attribute [local go_sem ↓ high] loadMsg storeMsg buildMsg storeAct loadAct
attribute [local go_sem high] run_store_complex eqC

theorem epoch_good {a b : Nat} (h : goodB a b = true) (w : World) : Calls Try.prog 26 #[.complex .f64 a b] w fun e w' => e = .returned (.int .i64 (part a)) ∧ w' = w := by
  have := epoch_any a b w
  rw [h] at this; exact this
set_option maxHeartbeats 4000000 in
set_option maxRecDepth 100000 in
theorem counts_p (t B : Nat) (s : Td) (x : Hm) (w : World) (h : IsT w B t s) : Calls Try.prog 25 #[.pointer (some ⟨t, 0, none⟩), .agg x.arr] w fun e w' => e = .returned (.bool (s.say.counts x.m)) ∧ Below w.heap.size w w' := by
  obtain ⟨X, hX⟩ : ∃ X, x.arr = X := ⟨_, rfl⟩
  rw [hX]
  obtain ⟨W, hW⟩ : ∃ W, w.alloc (.cells X 45) = W := ⟨_, rfl⟩
  have bx := boxB hW
  obtain ⟨c0, c1, c2, -, -, -, -, -, -, -, -⟩ := (h.below bx.2).cells
  have m0 : W.cell? ⟨w.heap.size, 0, none⟩ = some (.int .i64 x.m.kind) := by rw [cell_of bx.1, ← hX]; rfl
  have m1 : W.cell? ⟨w.heap.size, 1, none⟩ = some (.int .i64 x.m.client) := by rw [cell_of bx.1, ← hX]; rfl
  have m2 : W.cell? ⟨w.heap.size, 2, none⟩ = some (.int .i64 x.m.life) := by rw [cell_of bx.1, ← hX]; rfl
  have m4 : W.cell? ⟨w.heap.size, 4, none⟩ = some (.complex .f64 x.m.re x.m.im) := by rw [cell_of bx.1, ← hX]; rfl
  have HB : Hid (Below w.heap.size w W) := bx.2
  have hwi := within_t x.m.kind 2 4
  have hgo := good_any x.m.re x.m.im
  have hep := epoch_good h.mkk.good
  have hC : s.say.counts x.m = (withB x.m.kind 2 4 && (decide (x.m.client = s.client) && (decide (x.m.life = s.life) && (goodB x.m.re x.m.im && decide (part s.a ≤ part x.m.re))))) := by
    unfold Ts.counts withB
    have : decide (2 ≤ x.m.kind ∧ x.m.kind ≤ 4) = (decide (2 ≤ x.m.kind) && decide (x.m.kind ≤ 4)) := by
      by_cases a : 2 ≤ x.m.kind <;> by_cases b : x.m.kind ≤ 4 <;> simp [a, b]
    rw [this]; rfl
  rw [hC]
  clear h bx hX hC
  cases h1 : withB x.m.kind 2 4 with
  | false =>
    rw [h1] at hwi
    rw [Bool.false_and]
    clear h1 hgo hep
    go_enter Try.func25, Try.ntmps25
    go_upto_region 1 with fail
    clear hW
    go_quiet ((first | (go_at_call 18; exact Calls.quiet_of_same (hwi _))))
    go_wp2
    go_ret
    exact ⟨rfl, below_drewN HB.out _⟩
  | true =>
    rw [h1] at hwi
    rw [Bool.true_and]
    clear h1
    by_cases h2 : x.m.client = s.client
    · rw [decide_eq_true h2, Bool.true_and]
      rw [h2] at m1
      clear h2
      by_cases h3 : x.m.life = s.life
      · rw [decide_eq_true h3, Bool.true_and]
        rw [h3] at m2
        clear h3
        cases h4 : goodB x.m.re x.m.im with
        | false =>
          rw [h4] at hgo
          rw [Bool.false_and]
          clear h4 hep
          go_enter Try.func25, Try.ntmps25
          go_upto_region 1 with fail
          clear hW
          go_quiet ((first | (go_at_call 18; exact Calls.quiet_of_same (hwi _)) | (go_at_call 44; exact Calls.quiet_of_same (hgo _))))
          go_wp2
          go_ret
          exact ⟨rfl, below_drewN HB.out _⟩
        | true =>
          have hem := epoch_good h4
          rw [h4] at hgo
          rw [Bool.true_and]
          clear h4
          go_enter Try.func25, Try.ntmps25
          go_upto_region 1 with fail
          clear hW
          go_quiet ((first | (go_at_call 18; exact Calls.quiet_of_same (hwi _)) | (go_at_call 44; exact Calls.quiet_of_same (hgo _)) | (go_at_call_of 26 (Value.complex .f64 x.m.re x.m.im); exact Calls.quiet_of_same (hem _)) | (go_at_call_of 26 (Value.complex .f64 s.a s.b); exact Calls.quiet_of_same (hep _))))
          go_wp2
          go_ret
          exact ⟨rfl, below_drewN HB.out _⟩
      · have q1 : (x.m.life == s.life) = false := beq_eq_false_iff_ne.2 h3
        have q2 : decide (x.m.life = s.life) = false := decide_eq_false h3
        rw [q2, Bool.false_and]
        clear hgo hep h3
        go_enter Try.func25, Try.ntmps25
        go_upto_region 1 with fail
        clear hW
        go_quiet ((first | (go_at_call 18; exact Calls.quiet_of_same (hwi _))))
        go_wp2
        go_ret
        exact ⟨rfl, below_drewN HB.out _⟩
    · have q1 : (x.m.client == s.client) = false := beq_eq_false_iff_ne.2 h2
      have q2 : decide (x.m.client = s.client) = false := decide_eq_false h2
      rw [q2, Bool.false_and]
      clear hgo hep h2
      go_enter Try.func25, Try.ntmps25
      go_upto_region 1 with fail
      clear hW
      go_quiet ((first | (go_at_call 18; exact Calls.quiet_of_same (hwi _))))
      go_wp2
      go_ret
      exact ⟨rfl, below_drewN HB.out _⟩
end
end Go.Proofs.Ytpmcecenhgppbaa
