/- The document's tide: use. -/
import Derived.Test.YtpmcecenhgppbaaJTEpt33
namespace Go.Proofs.Ytpmcecenhgppbaa
section
open Go.RowKit Go.Shelf
attribute [local go_sem ↓ high] loadMsg storeMsg buildMsg storeAct loadAct buildAct
attribute [local go_sem high] run_store_complex eqC

set_option maxHeartbeats 8000000 in
set_option maxRecDepth 100000 in
theorem use_no70 (t B : Nat) (s : Dt) (x : Hm) (w : World) (h : IsD w B t s) (hL : Lists w 0 x) (hf : s.fs.length * 56 ≤ 140737488351232) (he : x.m.err ≠ 70) : Calls Try.prog 35 #[.pointer (some ⟨t, 0, none⟩), .agg x.arr, .int .i64 x.m.num] w fun e w' => UseR w B t s x.m e w' := by
  obtain ⟨W1, hW1⟩ : ∃ W1, w.alloc (.cells x.arr 45) = W1 := ⟨_, rfl⟩
  have b1 := boxB hW1
  have i1 := h.below b1.2
  obtain ⟨g1, hg1⟩ : ∃ g, w.heap.size = g := ⟨_, rfl⟩
  rw [hg1] at b1
  obtain ⟨D2, hD2⟩ : ∃ D2, ({ s with ver := max s.ver x.m.vers } : Dt) = D2 := ⟨_, rfl⟩
  have hge : ∀ k, s.wr t k → k ≠ g1 := fun k hk e => by have := (h.wlt hk).2; omega
  have c5 : W1.cell? ⟨g1, 5, none⟩ = some (.int .i64 x.m.vers) := cell_of b1.1 5
  have HN : Hid (Calls Try.prog 54 #[.pointer (some ⟨t, 0, none⟩), .int .i64 x.m.vers] W1 fun e w' => e = .returned (.tuple #[]) ∧ SD W1 w' B t s D2) := by
    rw [← hD2]; exact newer_d t B s x.m.vers W1 i1
  obtain ⟨er, her⟩ : ∃ er, x.m.err = er := ⟨_, rfl⟩
  obtain ⟨nm, hnm⟩ : ∃ nm, x.m.num = nm := ⟨_, rfl⟩
  have HAf : Hid (∀ w3, SD W1 w3 B t s D2 → w3.cell? ⟨g1, 6, none⟩ = some (.int .i64 er) ∧ w3.heap[g1]? = some (.cells x.arr 45 (0, 0)) ∧ SD w w3 B t s D2 ∧ Lists w3 0 x) := fun w3 h3 => by
    have bx3 := h3.kept b1.1 hge
    refine ⟨?_, bx3, h3.from (hg1 ▸ b1.2), ?_⟩
    · rw [cell_of bx3 6, ← her]; rfl
    · exact (hL.below (hg1 ▸ b1.2)).only h3.only fun q hq => ⟨i1.wno hq (by decide) (by decide) (by decide), i1.wno hq (by decide) (by decide) (by decide)⟩
  have HX : Hid (D2 = { s with ver := max s.ver x.m.vers } ∧ x.m.err ≠ 70 ∧ x.m.err = er ∧ x.m.num = nm) := ⟨hD2.symm, he, her, hnm⟩
  obtain ⟨nf, hnf⟩ : ∃ nf, s.fs.length = nf := ⟨_, rfl⟩
  obtain ⟨ne, hne⟩ : ∃ ne, x.m.es.length = ne := ⟨_, rfl⟩
  obtain ⟨af, qf, hfv⟩ := owns_len h.fresh
  have hfl : nf ≤ 2000000000000000 := by omega
  have hel : ne ≤ 2000000000000000 := by have := hL.le; unfold LB at this; omega
  have HY : Hid (s.fs.length = nf ∧ x.m.es.length = ne ∧ x.m.es.length * 72 ≤ LB) := ⟨hnf, hne, hL.le⟩
  have HIs : Hid (∀ w3, SD W1 w3 B t s D2 → ∀ V, Below w3.heap.size w3 V → V.cell? ⟨t, 8, none⟩ = some (.slice af nf qf) ∧ V.cell? ⟨g1, 14, none⟩ = some (.slice x.ae ne x.ce) ∧ RowF V B (.slice af nf qf) s.fs ∧ (∀ f ∈ s.fs, RowK V B f.vk f.ks ∧ f.ks.length * 24 ≤ LB ∧ goodB f.re f.im = true) ∧ Row7 V 0 (.slice x.ae ne x.ce) x.m.es ∧ IsD V B t D2) := fun w3 h3 V hV => by
    obtain ⟨-, bx3, S3, L3⟩ := HAf.out w3 h3
    have iV := S3.is.below hV
    have e8 := cell_of iV.head 8
    have eF := iV.fresh
    have eE := iV.eachF
    rw [← hD2] at e8 eF eE
    have hfv' : s.fv = .slice af nf qf := by rw [hfv, hnf]
    replace e8 : V.cell? ⟨t, 8, none⟩ = some s.fv := e8
    replace eF : RowF V B s.fv s.fs := eF
    rw [hfv'] at e8 eF
    refine ⟨e8, ?_, eF, fun f hf => ⟨(eE f hf).1, (eE f hf).2.1, (eE f hf).2.2.good⟩, ?_, iV⟩
    · rw [cell_of (hkeep bx3 hV) 14, ← hne]; rfl
    · have := (L3.below hV).es
      unfold Hm.ve at this
      rw [hne] at this; exact this
  obtain ⟨ae, hae⟩ : ∃ ae, x.ae = ae := ⟨_, rfl⟩
  rw [hae] at HIs
  clear hae
  obtain ⟨X, hX⟩ : ∃ X, x.arr = X := ⟨_, rfl⟩
  have heq : (er == 70) = false := by rw [beq_eq_false_iff_ne, ← her]; exact he
  rw [hX] at hW1
  rw [hX, hnm]
  clear h b1 i1 hge hX hD2 he hL hf hnf hne hfv her hnm
  go_enter Try.func35, Try.ntmps35
  go_upto_region 2 with (go_at_call 54; refine HN.out.mono ?_; rintro q w3 ⟨rfl, h3⟩; have R3 : Hid (SD W1 w3 B t s D2) := h3; clear h3 c5 hW1)
  obtain ⟨d6, -, -, -⟩ := HAf.out w3 R3.out
  obtain ⟨g7, hg7⟩ : ∃ g, w3.heap.size = g := ⟨_, rfl⟩
  obtain ⟨W4, hW4⟩ : ∃ W4, w3.alloc (.cells #[.bool false, .bool false, .bool false, .bool false, .slice none 0 0, .int .i64 0, .slice none 0 0] 59) = W4 := ⟨_, rfl⟩
  have b4 := boxB hW4
  rw [hg7] at b4
  obtain ⟨W5, hW5⟩ : ∃ W5, W4.setRow g7 #[.bool false, .bool false, .bool true, .bool true, .slice none 0 0, .int .i64 er, .slice none 0 0] = W5 := ⟨_, rfl⟩
  have ms := actSt_of (cs := #[.bool false, .bool false, .bool true, .bool true, .slice none 0 0, .int .i64 er, .slice none 0 0]) b4.1 rfl rfl (by simp [Value.oneCell']) hW5
  have HU : Hid (Ug w3 W5 g7 true er (.slice none 0 0) []) := by
    have o5 : Only (· = g7) W4 W5 := by rw [← hW5]; exact onlyR _ _ _
    refine ⟨hg7, o5.below (hg7 ▸ b4.2) (hg7 ▸ b4.2).size (fun k hk => by rw [hk, hg7]; exact Nat.le_refl _), ?_, World.ownsRow_nil _ _ _ _⟩
    rw [← hW5]; exact setRow_heap _ _ _ _ _ _ b4.1
  have HG : Hid (w3.heap.size = g7) := hg7
  clear b4 hW5
  go_wp2
  clear d6 ms hW4 hg7
  go_loopw [8] (fun s8 wr => ∃ i : Nat, i ≤ nf ∧ s8 = .int .i64 i ∧ Hid (Ug w3 wr g7 (wholeF ((s.fs.take i).map Fm.b) nm) er (.slice none 0 0) [])) (fun s8 _ => nf - (intOf s8).toNat)
  case atStart => exact ⟨0, Nat.zero_le _, rfl, HU.out⟩
  case round =>
    obtain ⟨i, hi, rfl, HR⟩ := hrel
    obtain ⟨c8, c14, rF, rE, rX, -⟩ := HIs.out w3 R3.out wr HR.out.bel
    by_cases hlt : i < nf
    · have hlz : (i : Int) < (nf : Int) := by omega
      have hi0 : (0 : Int) ≤ (i : Int) := by omega
      obtain ⟨f, hfi⟩ : ∃ f, s.fs[i]? = some f := ⟨_, List.getElem?_eq_getElem (by rw [HY.out.1]; exact hlt)⟩
      obtain ⟨g, rfl, -, -, -, qq⟩ := owns_fm rF hfi
      have e0 : wr.cell? ⟨g, i * 4, none⟩ = some (.complex .f64 f.re f.im) := qq 0 _ rfl
      have hP := parts_any f.re f.im wr
      rw [(rE f (List.mem_of_getElem? hfi)).2.2] at hP
      have HP : Hid (Calls Try.prog 34 #[.complex .f64 f.re f.im] wr fun e w' => e = .returned (.tuple #[.int .i64 (part f.re), .int .i64 (part f.im), .bool true]) ∧ w' = wr) := hP
      have HT : Hid (wholeF ((s.fs.take (i + 1)).map Fm.b) nm = (wholeF ((s.fs.take i).map Fm.b) nm && decide (part f.im ≤ nm))) := whole_take hfi
      obtain ⟨pf, hpf⟩ : ∃ pf, part f.im = pf := ⟨_, rfl⟩
      rw [hpf] at HP HT
      obtain ⟨W6, hW6⟩ : ∃ W6, wr.setCell ⟨g7, 3, none⟩ (.bool false) = W6 := ⟨_, rfl⟩
      have R6 : Hid _ := HR.out.part hW6
      have d3 := cell_of HR.out.act 3
      have d3f := free_of HR.out.act
      clear rF rE rX qq hP hfi c14 hpf
      by_cases hgt : pf > nm
      · go_wp2_with (go_at_call 34; refine HP.out.mono ?_; rintro e w' ⟨rfl, rfl⟩)
        refine ⟨⟨i + 1, by omega, by simp, ?_⟩, by simp [intOf]; omega⟩
        show Ug _ _ _ _ _ _ _
        rw [HT.out, decide_eq_false (by omega : ¬ pf ≤ nm), Bool.and_false]
        first | exact R6.out | (rw [hW6]; exact R6.out)
      · go_wp2_with (go_at_call 34; refine HP.out.mono ?_; rintro e w' ⟨rfl, rfl⟩)
        refine ⟨⟨i + 1, by omega, by simp, ?_⟩, by simp [intOf]; omega⟩
        show Ug _ _ _ _ _ _ _
        rw [HT.out, decide_eq_true (by omega : pf ≤ nm), Bool.and_true]
        exact HR.out
    · have hlz : ¬ (i : Int) < (nf : Int) := by omega
      obtain rfl : i = nf := by omega
      have hall : s.fs.take i = s.fs := List.take_of_length_le (by rw [HY.out.1]; exact Nat.le_refl _)
      obtain ⟨bw, hbw⟩ : ∃ bw, wholeF (s.fs.map Fm.b) nm = bw := ⟨_, rfl⟩
      have HBW : Hid (wholeF (s.fs.map Fm.b) nm = bw) := hbw
      have HU1 : Hid (Ug w3 wr g7 bw er (.slice none 0 0) []) := by
        have := HR.out
        rw [hall, hbw] at this; exact this
      clear HU HR rF rE rX hall hbw hi
      go_wp2
      clear c8 c14
      go_loopw [12] (fun s12 wr => ∃ (k : Nat) (v : Value), k ≤ ne ∧ s12 = .int .i64 k ∧ Hid (Ug w3 wr g7 bw er v (left (s.fs.map Fm.b) nm (x.m.es.take k)))) (fun s12 _ => ne - (intOf s12).toNat)
      case atStart => exact ⟨0, _, Nat.zero_le _, rfl, HU1.out⟩
      case round =>
        obtain ⟨k, v, hk, rfl, HR⟩ := hrel
        obtain ⟨-, c14, -, -, -, -⟩ := HIs.out w3 R3.out wr HR.out.bel
        by_cases hkt : k < ne
        · have hkz : (k : Int) < (ne : Int) := by omega
          obtain ⟨e, hee⟩ : ∃ e, x.m.es[k]? = some e := ⟨_, List.getElem?_eq_getElem (by rw [HY.out.2.1]; exact hkt)⟩
          have HE : Hid (x.m.es[k]? = some e) := hee
          clear hee
          go_wp2
          clear c14
          go_loopw [13, 14] (fun s13 s14 wr => ∃ (b : Bool) (j : Nat), j ≤ i ∧ s13 = .bool b ∧ s14 = .int .i64 j ∧ Hid (named ((s.fs.take j).map Fm.b) nm ⟨e.d, e.nm⟩ = (!b) ∧ Ug w3 wr g7 bw er v (left (s.fs.map Fm.b) nm (x.m.es.take k)))) (fun _ s14 _ => i - (intOf s14).toNat)
          case atStart => exact ⟨true, 0, Nat.zero_le _, rfl, rfl, rfl, HR.out⟩
          case round =>
            obtain ⟨b, j, hj, rfl, rfl, HQ⟩ := hrel
            obtain ⟨c8, -, rF, rE, -, -⟩ := HIs.out w3 R3.out wr HQ.out.2.bel
            have hd : Below wr.heap.size wr wr.drew := (Below.refl _ _).drew
            have HD : Hid (Below wr.heap.size wr wr.drew) := hd
            have k0 : (0 : Int) ≤ (k : Int) := by omega
            by_cases hjt : j < i
            · have hjz : (j : Int) < (i : Int) := by omega
              have j0 : (0 : Int) ≤ (j : Int) := by omega
              obtain ⟨f, hfi⟩ : ∃ f, s.fs[j]? = some f := ⟨_, List.getElem?_eq_getElem (by rw [HY.out.1]; exact hjt)⟩
              obtain ⟨g, rfl, -, -, -, qq⟩ := owns_fm rF hfi
              have e0 : wr.cell? ⟨g, j * 4, none⟩ = some (.complex .f64 f.re f.im) := qq 0 _ rfl
              have hP := parts_any f.re f.im wr
              rw [(rE f (List.mem_of_getElem? hfi)).2.2] at hP
              have HP : Hid (Calls Try.prog 34 #[.complex .f64 f.re f.im] wr fun e w' => e = .returned (.tuple #[.int .i64 (part f.re), .int .i64 (part f.im), .bool true]) ∧ w' = wr) := hP
              have HT : Hid (named ((s.fs.take (j + 1)).map Fm.b) nm ⟨e.d, e.nm⟩ = (named ((s.fs.take j).map Fm.b) nm ⟨e.d, e.nm⟩ || (decide (nm < part f.im) && f.b.names ⟨e.d, e.nm⟩))) := named_take hfi
              obtain ⟨bn, hbn⟩ : ∃ bn, f.b.names ⟨e.d, e.nm⟩ = bn := ⟨_, rfl⟩
              have hna := names_d f ⟨e.d, e.nm⟩ B wr.drew ((rE f (List.mem_of_getElem? hfi)).1.below hd) (rE f (List.mem_of_getElem? hfi)).2.1
              rw [hbn] at hna HT
              obtain ⟨nk, hnk⟩ : ∃ nk, f.ks.length = nk := ⟨_, rfl⟩
              have HNA : Hid (Calls Try.prog 55 #[.agg #[.complex .f64 f.re f.im, .int .i64 0, .bool f.all, .slice f.ak nk f.ck], .agg #[.int .i64 e.d, .string e.nm]] wr.drew fun q w' => q = .returned (.bool bn) ∧ Below wr.drew.heap.size wr.drew w') := by
                have := hna
                unfold Fm.arr Fm.vk at this
                rw [hnk] at this; exact this
              obtain ⟨c8d, c14d, rFd, -, rXd, -⟩ := HIs.out w3 R3.out wr.drew (HQ.out.2.on hd).bel
              obtain ⟨g', e', -, -, -, qd⟩ := owns_fm rFd hfi
              cases e'
              have q0 : wr.drew.cell? ⟨g, j * 4, none⟩ = some (.complex .f64 f.re f.im) := qd 0 _ rfl
              have q1 : wr.drew.cell? ⟨g, j * 4 + 1, none⟩ = some (.int .i64 0) := qd 1 _ rfl
              have q2 : wr.drew.cell? ⟨g, j * 4 + 2, none⟩ = some (.bool f.all) := qd 2 _ rfl
              have q3 : wr.drew.cell? ⟨g, j * 4 + 3, none⟩ = some (.slice f.ak nk f.ck) := by rw [← hnk]; exact qd 3 _ rfl
              obtain ⟨ge, rfl, -, -, -, hc, -⟩ := owns_entry (show wr.drew.ownsRow 0 57 7 (.slice ae ne x.ce) x.m.es.length (ec x.m.es) from rXd) HE.out
              obtain ⟨y0, y1, -, -, -, -, -⟩ := hc
              obtain ⟨pf, hpf⟩ : ∃ pf, part f.im = pf := ⟨_, rfl⟩
              rw [hpf] at HP HT
              have HS19 : Hid (∀ W, Below wr.drew.heap.size wr.drew W → W.cell? ⟨t, 8, none⟩ = some (.slice (some ⟨g, 0, none⟩) i qf) ∧ W.cell? ⟨g, j * 4, none⟩ = some (.complex .f64 f.re f.im) ∧ W.cell? ⟨g, j * 4 + 1, none⟩ = some (.int .i64 0) ∧ W.cell? ⟨g, j * 4 + 2, none⟩ = some (.bool f.all) ∧ W.cell? ⟨g, j * 4 + 3, none⟩ = some (.slice f.ak nk f.ck) ∧ W.cell? ⟨g1, 14, none⟩ = some (.slice (some ⟨ge, 0, none⟩) ne x.ce) ∧ W.cell? ⟨ge, k * 7, none⟩ = some (.int .i64 e.d) ∧ W.cell? ⟨ge, k * 7 + 1, none⟩ = some (.string e.nm)) := fun W hW => ⟨(hW.cell (cellLt c8d)).trans c8d, (hW.cell (cellLt q0)).trans q0, (hW.cell (cellLt q1)).trans q1, (hW.cell (cellLt q2)).trans q2, (hW.cell (cellLt q3)).trans q3, (hW.cell (cellLt c14d)).trans c14d, (hW.cell (cellLt y0)).trans y0, (hW.cell (cellLt y1)).trans y1⟩
              clear rF rE qq hP hfi hna hbn hnk rFd rXd qd q0 q1 q2 q3 hpf hd y0 y1 c8d c14d
              cases b with
              | false =>
                go_upto_region 19 with (go_at_call 34; refine HP.out.mono ?_; rintro e w' ⟨rfl, rfl⟩)
                go_quiet (fail)
                go_wp2
                exact ⟨⟨false, j + 1, by omega, rfl, by simp, by rw [HT.out, HQ.out.1]; rfl, HQ.out.2.on (below_drewN (Below.refl _ _) _)⟩, by simp [intOf]; omega⟩
              | true =>
                by_cases hle : pf ≤ nm
                · go_upto_region 19 with (go_at_call 34; refine HP.out.mono ?_; rintro e w' ⟨rfl, rfl⟩)
                  go_quiet (fail)
                  go_wp2
                  exact ⟨⟨true, j + 1, by omega, rfl, by simp, by rw [HT.out, HQ.out.1, decide_eq_false (by omega : ¬ nm < pf)]; rfl, HQ.out.2.on (below_drewN (Below.refl _ _) _)⟩, by simp [intOf]; omega⟩
                · have hlb : decide (pf ≤ nm) = false := decide_eq_false hle
                  go_upto_region 19 with (go_at_call 34; refine HP.out.mono ?_; rintro e w' ⟨rfl, rfl⟩)
                  refine wp_region_held_drew (S := fun W => W.cell? ⟨t, 8, none⟩ = some (.slice (some ⟨g, 0, none⟩) i qf) ∧ W.cell? ⟨g, j * 4, none⟩ = some (.complex .f64 f.re f.im) ∧ W.cell? ⟨g, j * 4 + 1, none⟩ = some (.int .i64 0) ∧ W.cell? ⟨g, j * 4 + 2, none⟩ = some (.bool f.all) ∧ W.cell? ⟨g, j * 4 + 3, none⟩ = some (.slice f.ak nk f.ck) ∧ W.cell? ⟨g1, 14, none⟩ = some (.slice (some ⟨ge, 0, none⟩) ne x.ce) ∧ W.cell? ⟨ge, k * 7, none⟩ = some (.int .i64 e.d) ∧ W.cell? ⟨ge, k * 7 + 1, none⟩ = some (.string e.nm)) (by kernel_rfl) (HS19.out _ (Below.refl _ _)) (fun hHeld => ?_)
                  refine wpAnyH_take (i := 0) (oi := { dst := some 85, op := Op.move (Operand.tmp 13), type := 4, pos := "ref.go:96", after := #[], guard := none }) (v := ?_) rfl (by kernel_rfl) (by kernel_rfl) (by kernel_rfl) (fun _ _ _ h => h) (Or.inl ⟨by rfl, ?_⟩) (by assumption) ?_
                  rotate_left
                  · rintro W ⟨s0, s1, s2, s3, s4, s5, s6, s7⟩; go_simp; try (with_reducible rfl)
                  try simp only [Act.put, List.setIfInBounds_toArray, List.set_cons_zero, List.set_cons_succ]
                  refine wpAnyH_take (i := 1) (oi := { dst := some 86, op := Op.move (Operand.tmp 85), type := 4, pos := "ref.go:96", after := #[{ on := 0, ground := Ground.data }], guard := none }) (v := ?_) rfl (by kernel_rfl) (by kernel_rfl) (by kernel_rfl) (fun _ _ _ h => h) (Or.inl ⟨by rfl, ?_⟩) (by assumption) ?_
                  rotate_left
                  · rintro W ⟨s0, s1, s2, s3, s4, s5, s6, s7⟩; go_simp; try (with_reducible rfl)
                  try simp only [Act.put, List.setIfInBounds_toArray, List.set_cons_zero, List.set_cons_succ]
                  refine wpAnyH_take (i := 2) (oi := { dst := some 87, op := Op.move (Operand.tmp 16), type := 3, pos := "ref.go:96", after := #[{ on := 1, ground := Ground.guard }], guard := some (1, true) }) (v := ?_) rfl (by kernel_rfl) (by kernel_rfl) (by kernel_rfl) (fun _ _ _ h => h) (Or.inl ⟨by rfl, ?_⟩) (by assumption) ?_
                  rotate_left
                  · rintro W ⟨s0, s1, s2, s3, s4, s5, s6, s7⟩; go_simp; try (with_reducible rfl)
                  try simp only [Act.put, List.setIfInBounds_toArray, List.set_cons_zero, List.set_cons_succ]
                  refine wpAnyH_take (i := 3) (oi := { dst := some 88, op := Op.move (Operand.tmp 2), type := 3, pos := "ref.go:96", after := #[{ on := 1, ground := Ground.guard }], guard := some (1, true) }) (v := ?_) rfl (by kernel_rfl) (by kernel_rfl) (by kernel_rfl) (fun _ _ _ h => h) (Or.inl ⟨by rfl, ?_⟩) (by assumption) ?_
                  rotate_left
                  · rintro W ⟨s0, s1, s2, s3, s4, s5, s6, s7⟩; go_simp; try (with_reducible rfl)
                  try simp only [Act.put, List.setIfInBounds_toArray, List.set_cons_zero, List.set_cons_succ]
                  refine wpAnyH_take (i := 4) (oi := { dst := some 89, op := Op.binOp BinOp.leq 3 (Operand.tmp 87) (Operand.tmp 88) 3, type := 4, pos := "ref.go:96", after := #[{ on := 2, ground := Ground.data }, { on := 3, ground := Ground.data }, { on := 1, ground := Ground.guard }], guard := some (1, true) }) (v := ?_) rfl (by kernel_rfl) (by kernel_rfl) (by kernel_rfl) (fun _ _ _ h => h) (Or.inl ⟨by rfl, ?_⟩) (by assumption) ?_
                  rotate_left
                  · rintro W ⟨s0, s1, s2, s3, s4, s5, s6, s7⟩; go_simp; try (with_reducible rfl)
                  try simp only [Act.put, List.setIfInBounds_toArray, List.set_cons_zero, List.set_cons_succ]
                  refine wpAnyH_take (i := 5) (oi := { dst := some 90, op := Op.move (Operand.tmp 89), type := 4, pos := "ref.go:96", after := #[{ on := 4, ground := Ground.data }, { on := 1, ground := Ground.chain }, { on := 1, ground := Ground.guard }], guard := some (1, true) }) (v := ?_) rfl (by kernel_rfl) (by kernel_rfl) (by kernel_rfl) (fun _ _ _ h => h) (Or.inl ⟨by rfl, ?_⟩) (by assumption) ?_
                  rotate_left
                  · rintro W ⟨s0, s1, s2, s3, s4, s5, s6, s7⟩; go_simp; try (with_reducible rfl)
                  try simp only [Act.put, List.setIfInBounds_toArray, List.set_cons_zero, List.set_cons_succ]
                  refine wpAnyH_take (i := 6) (oi := { dst := some 91, op := Op.move (Operand.tmp 0), type := 27, pos := "ref.go:96", after := #[{ on := 5, ground := Ground.guard }], guard := some (5, false) }) (v := ?_) rfl (by kernel_rfl) (by kernel_rfl) (by kernel_rfl) (fun _ _ _ h => h) (Or.inl ⟨by rfl, ?_⟩) (by assumption) ?_
                  rotate_left
                  · rintro W ⟨s0, s1, s2, s3, s4, s5, s6, s7⟩; go_simp; try (with_reducible rfl)
                  try simp only [Act.put, List.setIfInBounds_toArray, List.set_cons_zero, List.set_cons_succ]
                  refine wpAnyH_take (i := 7) (oi := { dst := some 92, op := Op.nilCheck (Operand.tmp 91), type := 0, pos := "ref.go:96", after := #[{ on := 6, ground := Ground.data }, { on := 5, ground := Ground.guard }], guard := some (5, false) }) (v := ?_) rfl (by kernel_rfl) (by kernel_rfl) (by kernel_rfl) (fun _ _ _ h => h) (Or.inl ⟨by rfl, ?_⟩) (by assumption) ?_
                  rotate_left
                  · rintro W ⟨s0, s1, s2, s3, s4, s5, s6, s7⟩; go_simp; try (with_reducible rfl)
                  try simp only [Act.put, List.setIfInBounds_toArray, List.set_cons_zero, List.set_cons_succ]
                  refine wpAnyH_take (i := 8) (oi := { dst := some 93, op := Op.fieldAddr 71 (Operand.tmp 92) 8, type := 0, pos := "ref.go:96", after := #[{ on := 7, ground := Ground.data }, { on := 5, ground := Ground.guard }], guard := some (5, false) }) (v := ?_) rfl (by kernel_rfl) (by kernel_rfl) (by kernel_rfl) (fun _ _ _ h => h) (Or.inl ⟨by rfl, ?_⟩) (by assumption) ?_
                  rotate_left
                  · rintro W ⟨s0, s1, s2, s3, s4, s5, s6, s7⟩; go_simp; try (with_reducible rfl)
                  try simp only [Act.put, List.setIfInBounds_toArray, List.set_cons_zero, List.set_cons_succ]
                  refine wpAnyH_take (i := 9) (oi := { dst := some 94, op := Op.load 69 (Operand.tmp 93), type := 69, pos := "ref.go:96", after := #[{ on := 8, ground := Ground.data }, { on := 5, ground := Ground.guard }], guard := some (5, false) }) (v := ?_) rfl (by kernel_rfl) (by kernel_rfl) (by kernel_rfl) (fun _ _ _ h => h) (Or.inl ⟨by rfl, ?_⟩) (by assumption) ?_
                  rotate_left
                  · rintro W ⟨s0, s1, s2, s3, s4, s5, s6, s7⟩; go_simp; try (with_reducible rfl)
                  try simp only [Act.put, List.setIfInBounds_toArray, List.set_cons_zero, List.set_cons_succ]
                  refine wpAnyH_take (i := 10) (oi := { dst := some 95, op := Op.move (Operand.tmp 14), type := 3, pos := "ref.go:96", after := #[{ on := 5, ground := Ground.guard }], guard := some (5, false) }) (v := ?_) rfl (by kernel_rfl) (by kernel_rfl) (by kernel_rfl) (fun _ _ _ h => h) (Or.inl ⟨by rfl, ?_⟩) (by assumption) ?_
                  rotate_left
                  · rintro W ⟨s0, s1, s2, s3, s4, s5, s6, s7⟩; go_simp; try (with_reducible rfl)
                  try simp only [Act.put, List.setIfInBounds_toArray, List.set_cons_zero, List.set_cons_succ]
                  refine wpAnyH_take (i := 11) (oi := { dst := some 96, op := Op.indexAddr 69 (Operand.tmp 94) (Operand.tmp 95), type := 0, pos := "ref.go:96", after := #[{ on := 9, ground := Ground.data }, { on := 10, ground := Ground.data }, { on := 5, ground := Ground.guard }], guard := some (5, false) }) (v := ?_) rfl (by kernel_rfl) (by kernel_rfl) (by kernel_rfl) (fun _ _ _ h => h) (Or.inl ⟨by rfl, ?_⟩) (by assumption) ?_
                  rotate_left
                  · rintro W ⟨s0, s1, s2, s3, s4, s5, s6, s7⟩; go_simp; try (with_reducible rfl)
                  try simp only [Act.put, List.setIfInBounds_toArray, List.set_cons_zero, List.set_cons_succ]
                  refine wpAnyH_take (i := 12) (oi := { dst := some 97, op := Op.load 100 (Operand.tmp 96), type := 100, pos := "ref.go:96", after := #[{ on := 11, ground := Ground.data }, { on := 5, ground := Ground.guard }], guard := some (5, false) }) (v := ?_) rfl (by kernel_rfl) (by kernel_rfl) (by kernel_rfl) (fun _ _ _ h => h) (Or.inl ⟨by rfl, ?_⟩) (by assumption) ?_
                  rotate_left
                  · rintro W ⟨s0, s1, s2, s3, s4, s5, s6, s7⟩; go_simp; try (with_reducible rfl)
                  try simp only [Act.put, List.setIfInBounds_toArray, List.set_cons_zero, List.set_cons_succ]
                  refine wpAnyH_take (i := 13) (oi := { dst := some 98, op := Op.fieldAddr 45 (Operand.tmp 4) 8, type := 0, pos := "ref.go:96", after := #[{ on := 5, ground := Ground.guard }], guard := some (5, false) }) (v := ?_) rfl (by kernel_rfl) (by kernel_rfl) (by kernel_rfl) (fun _ _ _ h => h) (Or.inl ⟨by rfl, ?_⟩) (by assumption) ?_
                  rotate_left
                  · rintro W ⟨s0, s1, s2, s3, s4, s5, s6, s7⟩; go_simp; try (with_reducible rfl)
                  try simp only [Act.put, List.setIfInBounds_toArray, List.set_cons_zero, List.set_cons_succ]
                  refine wpAnyH_take (i := 14) (oi := { dst := some 99, op := Op.load 33 (Operand.tmp 98), type := 33, pos := "ref.go:96", after := #[{ on := 13, ground := Ground.data }, { on := 5, ground := Ground.guard }], guard := some (5, false) }) (v := ?_) rfl (by kernel_rfl) (by kernel_rfl) (by kernel_rfl) (fun _ _ _ h => h) (Or.inl ⟨by rfl, ?_⟩) (by assumption) ?_
                  rotate_left
                  · rintro W ⟨s0, s1, s2, s3, s4, s5, s6, s7⟩; go_simp; try (with_reducible rfl)
                  try simp only [Act.put, List.setIfInBounds_toArray, List.set_cons_zero, List.set_cons_succ]
                  refine wpAnyH_take (i := 15) (oi := { dst := some 100, op := Op.move (Operand.tmp 12), type := 3, pos := "ref.go:96", after := #[{ on := 5, ground := Ground.guard }], guard := some (5, false) }) (v := ?_) rfl (by kernel_rfl) (by kernel_rfl) (by kernel_rfl) (fun _ _ _ h => h) (Or.inl ⟨by rfl, ?_⟩) (by assumption) ?_
                  rotate_left
                  · rintro W ⟨s0, s1, s2, s3, s4, s5, s6, s7⟩; go_simp; try (with_reducible rfl)
                  try simp only [Act.put, List.setIfInBounds_toArray, List.set_cons_zero, List.set_cons_succ]
                  refine wpAnyH_take (i := 16) (oi := { dst := some 101, op := Op.indexAddr 33 (Operand.tmp 99) (Operand.tmp 100), type := 0, pos := "ref.go:96", after := #[{ on := 14, ground := Ground.data }, { on := 15, ground := Ground.data }, { on := 5, ground := Ground.guard }], guard := some (5, false) }) (v := ?_) rfl (by kernel_rfl) (by kernel_rfl) (by kernel_rfl) (fun _ _ _ h => h) (Or.inl ⟨by rfl, ?_⟩) (by assumption) ?_
                  rotate_left
                  · rintro W ⟨s0, s1, s2, s3, s4, s5, s6, s7⟩; go_simp; try (with_reducible rfl)
                  try simp only [Act.put, List.setIfInBounds_toArray, List.set_cons_zero, List.set_cons_succ]
                  refine wpAnyH_take (i := 17) (oi := { dst := some 102, op := Op.fieldAddr 57 (Operand.tmp 101) 0, type := 0, pos := "ref.go:96", after := #[{ on := 16, ground := Ground.data }, { on := 5, ground := Ground.guard }], guard := some (5, false) }) (v := ?_) rfl (by kernel_rfl) (by kernel_rfl) (by kernel_rfl) (fun _ _ _ h => h) (Or.inl ⟨by rfl, ?_⟩) (by assumption) ?_
                  rotate_left
                  · rintro W ⟨s0, s1, s2, s3, s4, s5, s6, s7⟩; go_simp; try (with_reducible rfl)
                  try simp only [Act.put, List.setIfInBounds_toArray, List.set_cons_zero, List.set_cons_succ]
                  refine wpAnyH_take (i := 18) (oi := { dst := some 103, op := Op.load 53 (Operand.tmp 102), type := 53, pos := "ref.go:96", after := #[{ on := 17, ground := Ground.data }, { on := 5, ground := Ground.guard }], guard := some (5, false) }) (v := ?_) rfl (by kernel_rfl) (by kernel_rfl) (by kernel_rfl) (fun _ _ _ h => h) (Or.inl ⟨by rfl, ?_⟩) (by assumption) ?_
                  rotate_left
                  · rintro W ⟨s0, s1, s2, s3, s4, s5, s6, s7⟩; go_simp; try (with_reducible rfl)
                  try simp only [Act.put, List.setIfInBounds_toArray, List.set_cons_zero, List.set_cons_succ]
                  refine wpAnyH_ready (rs := [19]) (by kernel_rfl) (by simp) ?_
                  refine AllReadyH.cons (o := { dst := some 104, op := Op.call { callee := Callee.value (Operand.func 55), args := #[Operand.tmp 97, Operand.tmp 103], argTypes := #[100, 53] }, type := 4, pos := "ref.go:96", after := #[{ on := 12, ground := Ground.data }, { on := 18, ground := Ground.data }, { on := 5, ground := Ground.chain }, { on := 5, ground := Ground.guard }], guard := some (5, false) }) rfl (fun K hK => ?_) AllReadyH.nil
                  go_simp
                  go_at_call 55; refine HNA.out.mono ?_; rintro q w8 ⟨rfl, hb8⟩; have H8 : Hid (Below w'.drew.heap.size w'.drew w8) := hb8; clear hb8
                  refine hK.out _ _ (HS19.out _ H8.out) (fun hHeld => ?_)
                  clear hK K
                  try simp only [Act.put, List.setIfInBounds_toArray, List.set_cons_zero, List.set_cons_succ]
                  refine wpAnyH_take (i := 20) (oi := { dst := some 105, op := Op.unOp UnOp.not 4 (Operand.tmp 104), type := 4, pos := "ref.go:96", after := #[{ on := 19, ground := Ground.data }, { on := 5, ground := Ground.guard }], guard := some (5, false) }) (v := ?_) rfl (by kernel_rfl) (by kernel_rfl) (by kernel_rfl) (fun _ _ _ h => h) (Or.inl ⟨by rfl, ?_⟩) (by assumption) ?_
                  rotate_left
                  · rintro W ⟨s0, s1, s2, s3, s4, s5, s6, s7⟩; go_simp; try (with_reducible rfl)
                  try simp only [Act.put, List.setIfInBounds_toArray, List.set_cons_zero, List.set_cons_succ]
                  refine wpAnyH_take (i := 21) (oi := { dst := some 106, op := Op.pick (Operand.tmp 90) (Operand.const (Value.bool true)) (Operand.tmp 105), type := 4, pos := "ref.go:96", after := #[{ on := 5, ground := Ground.data }, { on := 20, ground := Ground.data }, { on := 1, ground := Ground.guard }], guard := some (1, true) }) (v := ?_) rfl (by kernel_rfl) (by kernel_rfl) (by kernel_rfl) (fun _ _ _ h => h) (Or.inl ⟨by rfl, ?_⟩) (by assumption) ?_
                  rotate_left
                  · rintro W ⟨s0, s1, s2, s3, s4, s5, s6, s7⟩; go_simp; try (with_reducible rfl)
                  try simp only [Act.put, List.setIfInBounds_toArray, List.set_cons_zero, List.set_cons_succ]
                  refine wpAnyH_take (i := 22) (oi := { dst := some 107, op := Op.pick (Operand.tmp 86) (Operand.tmp 106) (Operand.const (Value.bool false)), type := 4, pos := "ref.go:96", after := #[{ on := 1, ground := Ground.data }, { on := 21, ground := Ground.data }], guard := none }) (v := ?_) rfl (by kernel_rfl) (by kernel_rfl) (by kernel_rfl) (fun _ _ _ h => h) (Or.inl ⟨by rfl, ?_⟩) (by assumption) ?_
                  rotate_left
                  · rintro W ⟨s0, s1, s2, s3, s4, s5, s6, s7⟩; go_simp; try (with_reducible rfl)
                  try simp only [Act.put, List.setIfInBounds_toArray, List.set_cons_zero, List.set_cons_succ]
                  refine wpAnyH_take (i := 23) (oi := { dst := some 13, op := Op.assign (Operand.tmp 107), type := 4, pos := "ref.go:96", after := #[{ on := 22, ground := Ground.data }, { on := 19, ground := Ground.chain }, { on := 0, ground := Ground.phase }, { on := 1, ground := Ground.phase }, { on := 2, ground := Ground.phase }, { on := 3, ground := Ground.phase }, { on := 4, ground := Ground.phase }, { on := 5, ground := Ground.phase }, { on := 6, ground := Ground.phase }, { on := 7, ground := Ground.phase }, { on := 8, ground := Ground.phase }, { on := 9, ground := Ground.phase }, { on := 10, ground := Ground.phase }, { on := 11, ground := Ground.phase }, { on := 12, ground := Ground.phase }, { on := 13, ground := Ground.phase }, { on := 14, ground := Ground.phase }, { on := 15, ground := Ground.phase }, { on := 16, ground := Ground.phase }, { on := 17, ground := Ground.phase }, { on := 18, ground := Ground.phase }, { on := 19, ground := Ground.phase }, { on := 20, ground := Ground.phase }, { on := 21, ground := Ground.phase }, { on := 22, ground := Ground.phase }], guard := none }) (v := ?_) rfl (by kernel_rfl) (by kernel_rfl) (by kernel_rfl) (fun _ _ _ h => h) (Or.inl ⟨by rfl, ?_⟩) (by assumption) ?_
                  rotate_left
                  · rintro W ⟨s0, s1, s2, s3, s4, s5, s6, s7⟩; go_simp; try (with_reducible rfl)
                  try simp only [Act.put, List.setIfInBounds_toArray, List.set_cons_zero, List.set_cons_succ]
                  refine wpAnyH_done (by kernel_rfl) ?_ _
                  go_wp2
                  exact ⟨⟨!bn, j + 1, by omega, by simp, by simp, by rw [HT.out, HQ.out.1, decide_eq_true (by omega : nm < pf)]; cases bn <;> rfl, HQ.out.2.on (chainB HD.out H8.out)⟩, by simp [intOf]; omega⟩
            · have hjz : ¬ (j : Int) < (i : Int) := by omega
              obtain rfl : j = i := by omega
              have hallf : s.fs.take j = s.fs := List.take_of_length_le (by rw [HY.out.1]; exact Nat.le_refl _)
              have hnb : named (s.fs.map Fm.b) nm ⟨e.d, e.nm⟩ = (!b) := by have := HQ.out.1; rw [hallf] at this; exact this
              have HLT : Hid (left (s.fs.map Fm.b) nm (x.m.es.take (k + 1)) = left (s.fs.map Fm.b) nm (x.m.es.take k) ++ (if (!b) = true then [] else [e])) := by
                have := left_take (s.fs.map Fm.b) nm x.m.es k e HE.out
                rw [hnb] at this; exact this
              have HU2 : Hid (Ug w3 wr g7 bw er v (left (s.fs.map Fm.b) nm (x.m.es.take k))) := HQ.out.2
              clear hallf hnb rF rE hd
              cases b with
              | false =>
                go_wp2
                exact ⟨⟨k + 1, v, by omega, by simp, by show Ug _ _ _ _ _ _ _; rw [HLT.out]; simpa using HU2.out⟩, by simp [intOf]; omega⟩
              | true =>
                obtain ⟨l, hl⟩ : ∃ l, left (s.fs.map Fm.b) nm (x.m.es.take k) = l := ⟨_, rfl⟩
                have hll : l.length ≤ k := by
                  rw [← hl]
                  refine Nat.le_trans (List.length_filter_le _ _) ?_
                  rw [List.length_take]; omega
                have u2 := HU2.out
                rw [hl] at u2
                obtain ⟨av, cv, rfl⟩ := owns_len u2.row
                obtain ⟨W5, hW5⟩ : ∃ W5, wr.drew.alloc (.cells e.vals.toArray 57) = W5 := ⟨_, rfl⟩
                obtain ⟨a6, q6, W6, happ, act6, hst⟩ := u2.push e hW5 (by have := HY.out.2.2; have := HY.out.2.1; unfold LB at *; omega)
                obtain ⟨n0, hn0⟩ : ∃ n0, l.length = n0 := ⟨_, rfl⟩
                obtain ⟨n6, hn6⟩ : ∃ n6, l.length + 1 = n6 := ⟨_, rfl⟩
                obtain ⟨W7, hW7⟩ : ∃ W7, W6.setCell ⟨g7, 6, none⟩ (.slice a6 (l.length + 1) q6) = W7 := ⟨_, rfl⟩
                have R7 : Hid (Ug w3 W7 g7 bw er (.slice a6 n6 q6) (left (s.fs.map Fm.b) nm (x.m.es.take (k + 1)))) := by
                  have := hst W7 hW7
                  rw [hn6] at this
                  show Ug _ _ _ _ _ _ _
                  rw [HLT.out, hl]; exact this
                have hb5 : Below wr.heap.size wr W5 := chainB HD.out (boxB hW5).2
                have d6 : wr.drew.cell? ⟨g7, 6, none⟩ = some (.slice av n0 cv) := by rw [← hn0]; exact cell_of (u2.on HD.out).act 6
                have d6' : W5.cell? ⟨g7, 6, none⟩ = some (.slice av n0 cv) := by rw [← hn0]; exact cell_of (u2.on hb5).act 6
                have h6 : W6.cell? ⟨g7, 6, none⟩ = some (.slice av n0 cv) := by rw [← hn0]; exact cell_of act6 6
                have f6 := free_of act6
                obtain ⟨-, c14d, -, -, rXd, -⟩ := HIs.out w3 R3.out wr.drew (u2.on HD.out).bel
                obtain ⟨ge, rfl, -, -, -, hc, -⟩ := owns_entry (show wr.drew.ownsRow 0 57 7 (.slice ae ne x.ce) x.m.es.length (ec x.m.es) from rXd) HE.out
                obtain ⟨y0, y1, y2, y3, y4, y5, y6⟩ := hc
                have hW5' : wr.drew.alloc (.cells #[.int .i64 e.d, .string e.nm, .bool e.neg, .int .i64 e.id, .int .i64 e.kind, .int .i64 e.mode, .string e.tg] 57) = W5 := hW5
                rw [hn6] at happ hW7
                have happ' : ∀ ty, (Builtin.append_ #[33, 33] ty #[.slice av n0 cv, .slice (some ⟨wr.heap.size, 0, none⟩) 1 1]).run Try.prog W5 = .ok (.slice a6 n6 q6) W6 := fun ty => by have := happ ty; rw [hn0] at this; exact this
                clear hl hll u2 hW5 happ act6 hst hn0 hn6 hb5 rXd
                go_upto_region 21 with fail
                clear c8
                go_region_law (refine step_append_run rfl (.tmp 110) (.tmp 116) 33 rfl (.slice av n0 cv) (.slice (some ⟨wr.heap.size, 0, none⟩) 1 1) (.slice a6 n6 q6) W6 (by simp [Act.eval]) (by simp [Act.eval]) happ' ?_)
                all_goals
                  go_wp2
                  exact ⟨⟨k + 1, _, by omega, by simp, R7.out⟩, by simp [intOf]; omega⟩
        · have hkz : ¬ (k : Int) < (ne : Int) := by omega
          obtain rfl : k = ne := by omega
          have hfull : x.m.es.take k = x.m.es := List.take_of_length_le (by rw [HY.out.2.1]; exact Nat.le_refl _)
          obtain ⟨l, hl⟩ : ∃ l, left (s.fs.map Fm.b) nm x.m.es = l := ⟨_, rfl⟩
          have u := HR.out
          rw [hfull, hl] at u
          obtain ⟨av, cv, rfl⟩ := owns_len u.row
          obtain ⟨W8, hW8⟩ : ∃ W8, wr.setCell ⟨t, 6, none⟩ (.int .i64 0) = W8 := ⟨_, rfl⟩
          obtain ⟨W9, hW9⟩ : ∃ W9, W8.setCell ⟨t, 8, none⟩ (.slice none 0 0) = W9 := ⟨_, rfl⟩
          have hu : Ug w3 wr g7 (wholeF (s.fs.map Fm.b) x.m.num) x.m.err (.slice av l.length cv) l := by rw [HX.out.2.2.1, HX.out.2.2.2, HBW.out]; exact u
          obtain ⟨a9, t8, hend⟩ := use_endD (HAf.out w3 R3.out).2.2.1 HX.out.1 hu (by rw [HX.out.2.2.2, hl]) HY.out.2.2 HX.out.2.1 hW8 hW9
          rw [HX.out.2.2.1, HX.out.2.2.2, HBW.out] at a9 hend
          obtain ⟨-, -, -, -, -, iV⟩ := HIs.out w3 R3.out wr u.bel
          have f6 := cell_of iV.head 6
          have ff := free_of iV.head
          have f8 := cell_of t8 8
          have ff8 := free_of t8
          have ml := actLd_of a9 rfl
          have ao := actOne_of (useA bw er (.slice av l.length cv)) rfl W9
          have HF : Hid _ := hend
          obtain ⟨A, hA⟩ : ∃ A, useA bw er (.slice av l.length cv) = A := ⟨_, rfl⟩
          rw [hA] at ml ao
          clear hfull hl u hu a9 t8 hend iV
          go_wp2
          go_ret
          rw [← hA]
          exact HF.out
end
end Go.Proofs.Ytpmcecenhgppbaa
