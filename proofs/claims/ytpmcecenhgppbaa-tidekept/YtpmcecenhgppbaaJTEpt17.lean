/- Take, walked. -/
import Derived.Test.YtpmcecenhgppbaaJTEpt16
namespace Go.Proofs.Ytpmcecenhgppbaa
section
open Go.RowKit Go.Shelf
attribute [local go_sem ↓ high] loadMsg storeMsg buildMsg storeAct loadAct buildAct
attribute [local go_sem high] run_store_complex eqC

theorem meet_len (s : Ts) (m : Pm) : (s.meet m).1.held.length ≤ s.held.length + 1 := by
  have hh : (s.holds m).held.length ≤ s.held.length + 1 := by
    unfold Ts.holds
    split
    · simp
    · exact Nat.le_succ _
  have hu := (used_held s m).1
  unfold Ts.meet
  split
  · split
    · split
      · rw [hu]; exact Nat.le_succ _
      · exact hh
    · exact Nat.le_succ _
  · split
    · exact Nat.le_succ _
    · split
      · exact Nat.le_succ _
      · exact hh
theorem counts_of {s : Ts} {m : Pm} (h : s.counts m = true) : (2 ≤ m.kind ∧ m.kind ≤ 4) ∧ goodB m.re m.im = true ∧ s.e ≤ m.ep := by
  unfold Ts.counts at h
  simp only [Bool.and_eq_true, decide_eq_true_eq] at h
  exact ⟨h.1, h.2.2.2.1, h.2.2.2.2⟩
theorem good_mk {m : Pm} (h : goodB m.re m.im = true) : Mk m.re m.im m.ep m.num := by
  obtain ⟨p1, p2, p3, p4, h1, h2⟩ := good_parts h
  exact ⟨h1, h2, p1, p2, p3, p4⟩
theorem TkM.on {w w' w2 : World} {B t : Nat} {s s2 : Td} {m0 : Pm} {vA : Value} {l : List Am} {n : Nat} {X : Array Value} (h : TkM w w' B t s s2 m0 vA l n X) (hb : Below w'.heap.size w' w2) : TkM w w2 B t s s2 m0 vA l n X := ⟨h.st.on hb, h.nb, hkeep h.box hb, h.acts.below hb, h.said, h.len, h.few, h.afar⟩
theorem tk_restart {w V w5 W3 : World} {B t : Nat} {s s5 : Td} {x : Hm} {m0 : Pm} {X : Array Value} {v3 : Value} (h : IsT w B t s) (hX : x.arr = X) (hb0 : Below w.heap.size w V) (hV1 : IsT V B t s) (hV2 : V.heap[w.heap.size]? = some (.cells X 45 (0, 0))) (hV3 : Lists V 0 x) (hst5 : ST V w5 B t s s5) (hsay5 : s5.say = { s.say with e := part x.m.re, n := 0, fr := [], held := [] })
    (hac : Acts W3 w.heap.size v3 ([] ++ [plainAm allA rfl rfl])) (hon : Only (fun k => (Value.slice none 0 0).ownBlock = some k) (w5.alloc (.cells (plainAm allA rfl rfl).arr 59)) W3) (hk : 2 ≤ x.m.kind ∧ x.m.kind ≤ 4) (hmk : Mk x.m.re x.m.im x.m.ep x.m.num) (hc : s.say.counts x.m = true) (hm0 : x.m = m0) (hlt : part s.a < part x.m.re) :
    TkS w W3 B t s s5 m0 x v3 ([] ++ [plainAm allA rfl rfl]) 100 := by
  have st5 : ST w w5 B t s s5 := ST.pre hb0 h hst5
  have hbV := (Array.getElem?_eq_some_iff.1 hV2).1
  have o3 : Below w5.heap.size w5 W3 := by
    have b1 := below_alloc w5 (.cells (plainAm allA rfl rfl).arr 59)
    exact hon.below b1 b1.size (fun k hk => by cases hk)
  have hsr : s5.say = s.say.restart x.m := hsay5
  have hp : part s5.a = part x.m.re := congrArg Ts.e hsay5
  have nb5 : ∀ k, s5.blk t k → k ≠ w.heap.size := fun k hk => by
    rcases hst5.nblk k hk with e | e
    · have := (h.lt e).2; omega
    · omega
  have bx5 : w5.heap[w.heap.size]? = some (.cells X 45 (0, 0)) := (hst5.only.block _ hbV (fun e => by have := (h.wlt e).2; omega)).trans hV2
  have ls5 : Lists w5 0 x := hV3.only hst5.only fun q e => ⟨hV1.wno e (by decide) (by decide), hV1.wno e (by decide) (by decide)⟩
  have af : Afar ([] ++ [plainAm allA rfl rfl]) t s5 := fun a ha k e _ => by
    rw [List.nil_append] at ha
    rw [List.mem_singleton.1 ha] at e
    rcases e with e | e
    · cases e
    · cases e
  refine ⟨st5.on o3, nb5, by rw [hX]; exact hkeep bx5 o3, ls5.below o3, by rw [hp]; exact hmk, hk, hac, ?_, ?_, by simp, af⟩
  · unfold Ts.take
    rw [← hm0, if_pos hc]
    have hn : s.say.e < x.m.ep := hlt
    have hb : s.say.begun x.m = s5.say := by
      unfold Ts.begun
      rw [if_pos hn, hsr]
    have hbA : s.say.begunA x.m = [allA] := by
      unfold Ts.begunA
      rw [if_pos hn]
    rw [hb, hbA]; rfl
  · have := meet_len s5.say x.m
    have e : s5.say.held.length = s5.hs.length := by simp [Td.say]
    have := st5.is.lh
    have := st5.is.l8
    omega
/-- where the label stands -/
def Jt (w : World) (B t : Nat) (s : Td) (m0 : Pm) (X0 : Array Value) (n : Nat) (a : Act) (w' : World) : Prop :=
  ∃ vA, (∃ u2 u6 u7 u8 u9 u10 u11 u12 u13 u14 u15 u16 u17 u18 u19 u20 u21 u22 u23 u24 u25 u26 u27 u28 u29 u30 u31 u32 u33 u34 u35 u36 u37 u38 u39 u40 u41 u42 u43 u44 u45 u46 u47 u48 u49 u50 u51 u52 u53 u54, a = ⟨#[.pointer (some ⟨t, 0, none⟩), .agg X0, u2, .pointer (some ⟨w.heap.size, 0, none⟩), .slice none 0 0, vA, u6, u7, u8, u9, u10, u11, u12, u13, u14, u15, u16, u17, u18, u19, u20, u21, u22, u23, u24, u25, u26, u27, u28, u29, u30, u31, u32, u33, u34, u35, u36, u37, u38, u39, u40, u41, u42, u43, u44, u45, u46, u47, u48, u49, u50, u51, u52, u53, u54], []⟩) ∧ ∃ s1 x l, TkS w w' B t s s1 m0 x vA l n
def TakeR (w : World) (B t : Nat) (s : Td) (x : Pm) (e : Ending) (w' : World) : Prop := ∃ v l, e = .returned v ∧ Acts w' w.heap.size v l ∧ l.map Am.c = (s.say.take x).2 ∧ ∃ s', ST w w' B t s s' ∧ s'.say = (s.say.take x).1 ∧ Afar l t s'
set_option maxHeartbeats 8000000 in
set_option maxRecDepth 100000 in
theorem take_yes (t B : Nat) (s : Td) (x : Hm) (w : World) (h : IsT w B t s) (hB : B ≤ w.heap.size) (hL : Lists w 0 x) (hc : s.say.counts x.m = true) :
    Calls Try.prog 12 #[.pointer (some ⟨t, 0, none⟩), .agg x.arr] w fun e w' => TakeR w B t s x.m e w' := by
  obtain ⟨X, hX⟩ : ∃ X, x.arr = X := ⟨_, rfl⟩
  have HH : Hid (IsT w B t s ∧ Lists w 0 x ∧ x.arr = X ∧ s.say.counts x.m = true) := ⟨h, hL, hX, hc⟩
  obtain ⟨m0, hm0⟩ : ∃ m0, x.m = m0 := ⟨_, rfl⟩
  have HM0 : Hid (x.m = m0) := hm0
  rw [hX, hm0]
  obtain ⟨W, hW⟩ : ∃ W, w.alloc (.cells X 45) = W := ⟨_, rfl⟩
  have bW := boxB hW
  have HBW : Hid (W.heap[w.heap.size]? = some (.cells X 45 (0, 0)) ∧ Below w.heap.size w W) := bW
  clear h hL hX hc hm0 bW
  go_enter Try.func12, Try.ntmps12
  go_wp2
  refine wp_scope_one (Jt w B t s m0 X) rfl ?_ ?_
  · intro M n a w' hJ hn
    obtain ⟨vA, ⟨u2, u6, u7, u8, u9, u10, u11, u12, u13, u14, u15, u16, u17, u18, u19, u20, u21, u22, u23, u24, u25, u26, u27, u28, u29, u30, u31, u32, u33, u34, u35, u36, u37, u38, u39, u40, u41, u42, u43, u44, u45, u46, u47, u48, u49, u50, u51, u52, u53, u54, rfl⟩, s1, x1, l, hT⟩ := hJ
    obtain ⟨aA, cA, rfl⟩ := owns_len hT.acts.row
    have KS : Hid (TkS w w' B t s s1 m0 x1 (.slice aA l.length cA) l n) := hT
    have hBw : B ≤ w'.heap.size := by have := hT.st.only.size; omega
    have HMe : Hid (Calls Try.prog 28 #[.pointer (some ⟨t, 0, none⟩), .agg x1.arr] w' fun e w2 => MeetR w' B t s1 x1.m e w2) := meet_p t B s1 x1 w' hT.st.is hBw hT.ls hT.mk1 hT.kind
    have ml := msgLd_of hT.box x1.size
    obtain ⟨X1, hX1⟩ : ∃ X1, x1.arr = X1 := ⟨_, rfl⟩
    have HX1 : Hid (x1.arr = X1) := hX1
    rw [hX1] at HMe ml
    clear hT hX1
    go_upto_region 8 with (first
      | (at_builtin; refine wpList_append_run rfl (.tmp 27) (.tmp 30) 41 rfl _ _ _ W3 rfl rfl hr ?_)
      | (go_at_call 28; refine HMe.out.mono ?_; rintro e w1 ⟨v2, l2, rfl, ha2, hc2, s2, hst2, hsay2, hhs2⟩; obtain ⟨a2, c2, rfl⟩ := owns_len ha2.row; obtain ⟨a1, a2', hsz, hfew, hM⟩ := tk_meet KS.out ha2 hc2 hst2 hsay2 hhs2; obtain ⟨v3, W3, hr, hac, hon, -⟩ := acts_append a1 a2' hsz hfew; have KM : Hid (TkM w W3 B t s s2 m0 v3 (l ++ l2) n x1.arr) := hM v3 W3 hac hon; obtain ⟨a3, c3, rfl⟩ := owns_len hac.row; rw [List.length_append] at KM hr; clear ha2 hc2 hst2 hsay2 hhs2 a1 a2' hsz hfew hM hac hon ml HMe)
      | (go_at_call 29; refine (due_p t B s2 _ KM.out.st.is).mono ?_; rintro e w4 ⟨rfl, hb4⟩; have KM4 : Hid (TkM w w4 B t s s2 m0 (.slice a3 (l.length + l2.length) c3) (l ++ l2) n x1.arr) := KM.out.on hb4; clear hb4))
    cases hdue : s2.say.due with
    | none =>
      have hdv : dueV s2.say = -1 := by unfold dueV; rw [hdue]
      rw [hdv]
      have HF : Hid (TakeR w B t s m0 (.returned (.slice a3 (l.length + l2.length) c3)) w4) := by
        have hs := KM4.out.said
        rw [Ts.settle_none hdue, List.append_nil] at hs
        exact ⟨_, l ++ l2, rfl, KM4.out.acts, by rw [hs], s2, KM4.out.st, by rw [hs], KM4.out.afar⟩
      clear hdv hdue hr
      go_wp2
      refine JumpG.ret ?_
      go_ret
      exact HF.out
    | some i =>
      have hdv : dueV s2.say = (i : Int) := by unfold dueV; rw [hdue]
      rw [hdv]
      obtain ⟨m', hm', -⟩ := Ts.due_some hdue
      obtain ⟨y, hy⟩ : ∃ y, s2.hs[i]? = some y := by
        have : (s2.hs.map Hm.m)[i]? = some m' := hm'
        rw [List.getElem?_map] at this
        cases hq : s2.hs[i]? with
        | none => rw [hq] at this; cases this
        | some y => exact ⟨y, rfl⟩
      have hlt : i < s2.hs.length := (List.getElem?_eq_some_iff.1 hy).1
      obtain ⟨ah, ch, hvh⟩ := owns_len KM4.out.st.is.held
      have hrow := KM4.out.st.is.held
      rw [hvh] at hrow
      obtain ⟨g, rfl, -, -, -, hcl⟩ := owns_msg hrow hy
      have c8 := KM4.out.st.is.cells.2.2.2.2.2.2.2.2.1
      rw [hvh] at c8
      have mly := msgLd_at hcl y.size
      obtain ⟨Y, hY⟩ : ∃ Y, y.arr = Y := ⟨_, rfl⟩
      obtain ⟨W5, hW5⟩ : ∃ W5, w4.setRow w.heap.size Y = W5 := ⟨_, rfl⟩
      have hW5' : w4.setRow w.heap.size y.arr = W5 := by rw [hY]; exact hW5
      have hys : Y.size = 16 ∧ Y.all (·.oneCell') = true := by rw [← hY]; exact ⟨rfl, y.one⟩
      have msy := msgSt_of KM4.out.box x1.size hys.1 hys.2 hW5
      rw [hY] at mly
      obtain ⟨hr5, hc5, -⟩ := tk_next (w6 := W5) HH.out.1 KM4.out hdue hy hvh hW5'
      rw [hvh] at hc5
      have HDel : Hid (Calls Try.prog 30 #[.slice (some ⟨g, 0, none⟩) s2.hs.length ch, .int .i64 i, .int .i64 (i + 1)] W5 fun e w' => e = .returned (.slice (some ⟨g, 0, none⟩) (s2.hs.length - 1) ch) ∧ RowM w' B (.slice (some ⟨g, 0, none⟩) (s2.hs.length - 1) ch) (s2.hs.eraseIdx i) ∧ Only (· = g) W5 w') := delete_one g s2.hs.length ch B i s2.hs W5 hr5 rfl (by have := KM4.out.st.is.lh; have := KM4.out.st.is.l8; omega) hlt
      have HNx : Hid (∀ w6, RowM w6 B (.slice (some ⟨g, 0, none⟩) (s2.hs.length - 1) ch) (s2.hs.eraseIdx i) → Only (· = g) W5 w6 → (w6.cell? ⟨t, 8, none⟩ = some (.slice (some ⟨g, 0, none⟩) s2.hs.length ch) ∧ ∀ j, w6.frozen? ⟨t, j, none⟩ = false) ∧ ∃ s3 n', n' < n ∧ TkS w (w6.setCell ⟨t, 8, none⟩ (.slice (some ⟨g, 0, none⟩) (s2.hs.length - 1) ch)) B t s s3 m0 y (.slice a3 (l.length + l2.length) c3) (l ++ l2) n') := fun w6 h1 h2 => by
        have := (tk_next (w6 := w6) HH.out.1 KM4.out hdue hy hvh hW5').2.2 h1 h2
        rw [hvh] at this; exact this
      obtain ⟨N, hN⟩ : ∃ N, s2.hs.length = N := ⟨_, rfl⟩
      have hN8 : N ≤ 8 := by rw [← hN]; exact Nat.le_trans KM4.out.st.is.lh KM4.out.st.is.l8
      rw [hN] at c8 hc5 HDel HNx hlt
      have hiz : (i : Int) < (N : Int) := by omega
      have hi0 : (0 : Int) ≤ (i : Int) := by omega
      clear hr5 hW5' hY hrow hcl hvh hy hm' hdue hdv hr hN hys
      go_wp2_with (go_at_call 30; refine HDel.out.mono ?_; rintro e w6 ⟨rfl, hr6, ho6⟩; obtain ⟨⟨d8, df⟩, hnx⟩ := HNx.out w6 hr6 ho6; have HX6 : Hid _ := hnx; clear hnx hr6 ho6)
      apply wp_goto
      obtain ⟨s3, n', hn', hT'⟩ := HX6.out
      exact ⟨rfl, n', Nat.lt_of_lt_of_le hn' hn, _, ⟨_, _, _, _, _, _, _, _, _, _, _, _, _, _, _, _, _, _, _, _, _, _, _, _, _, _, _, _, _, _, _, _, _, _, _, _, _, _, _, _, _, _, _, _, _, _, _, _, _, _, rfl⟩, s3, y, l ++ l2, hT'⟩
  · intro p0
    refine ⟨100, ?_⟩
    have hI := HH.out.1.below HBW.out.2
    have hcs := counts_of HH.out.2.2.2
    have hmk := good_mk hcs.2.1
    have HCo : Hid (Calls Try.prog 25 #[.pointer (some ⟨t, 0, none⟩), .agg X] W fun e w' => e = .returned (.bool true) ∧ Below W.heap.size W w') := by
      have := counts_p t B s x W hI
      rw [HH.out.2.2.1, HH.out.2.2.2] at this; exact this
    have ml := msgLd_of HBW.out.1 (by rw [← HH.out.2.2.1]; rfl)
    have HV : Hid (∀ V, Below W.heap.size W V → IsT V B t s ∧ V.heap[w.heap.size]? = some (.cells X 45 (0, 0)) ∧ Lists V 0 x ∧ Below w.heap.size w V) := fun V hV => ⟨hI.below hV, hkeep HBW.out.1 hV, (HH.out.2.1.below HBW.out.2).below hV, chainB HBW.out.2 hV⟩
    have HC : Hid (∀ V, Below W.heap.size W V → V.cell? ⟨w.heap.size, 4, none⟩ = some (.complex .f64 x.m.re x.m.im) ∧ V.cell? ⟨t, 2, none⟩ = some (.complex .f64 s.a s.b)) := fun V hV => ⟨by rw [cell_of (HV.out V hV).2.1, ← HH.out.2.2.1]; rfl, (HV.out V hV).1.cells.2.2.1⟩
    have hem := epoch_good hcs.2.1
    have hep := epoch_good HH.out.1.mkk.good
    have hbo : w.heap.size < W.heap.size := (Array.getElem?_eq_some_iff.1 HBW.out.1).1
    obtain ⟨ea, hea⟩ : ∃ e, part s.a = e := ⟨_, rfl⟩
    obtain ⟨eb, heb⟩ : ∃ e, part x.m.re = e := ⟨_, rfl⟩
    rw [hea] at hep
    rw [heb] at hem
    have HE : Hid (part s.a = ea ∧ part x.m.re = eb ∧ ea ≤ eb) := ⟨hea, heb, by have := hcs.2.2; rw [← hea, ← heb]; exact this⟩
    have HK : Hid ((2 ≤ x.m.kind ∧ x.m.kind ≤ 4) ∧ Mk x.m.re x.m.im x.m.ep x.m.num ∧ s.say.counts x.m = true) := ⟨hcs.1, hmk, HH.out.2.2.2⟩
    clear hI hcs hmk hea heb hW
    by_cases hlt : ea < eb
    · go_upto_region 4 with (go_at_call 25; refine HCo.out.mono ?_; rintro e w2 ⟨rfl, hb2⟩; obtain ⟨q4, q2⟩ := HC.out w2 hb2; clear ml HCo)
      go_quiet ((first | (go_at_call_of 26 (Value.complex .f64 x.m.re x.m.im); exact Calls.quiet_of_same (hem _)) | (go_at_call_of 26 (Value.complex .f64 s.a s.b); exact Calls.quiet_of_same (hep _))))
      have hbd : Below W.heap.size W (w2.drewN nq) := below_drewN hb2 _
      obtain ⟨V, hV⟩ : ∃ V, w2.drewN nq = V := ⟨_, rfl⟩
      rw [hV] at hbd ⊢
      obtain ⟨p4, -⟩ := HC.out V hbd
      have HRe : Hid (Calls Try.prog 27 #[.pointer (some ⟨t, 0, none⟩), .complex .f64 x.m.re x.m.im] V fun e w' => e = .returned (.agg (plainAm allA rfl rfl).arr) ∧ ∃ s', ST V w' B t s s' ∧ s'.say = { s.say with e := part x.m.re, n := 0, fr := [], held := [] }) := restart_p t B s x.m.re x.m.im V (HV.out V hbd).1 HK.out.2.1
      clear q4 q2 hV hb2 hem hep
      go_wp2_with (first
        | (at_builtin; refine wpList_append_run rfl (.tmp 20) (.tmp 25) 41 rfl _ _ _ W3 rfl rfl hr ?_)
        | (go_at_call 27; refine HRe.out.mono ?_; rintro e w5 ⟨rfl, s5, hst5, hsay5⟩; have ao := actOne_of (plainAm allA rfl rfl).arr rfl w5; have hs5 := hst5.only.size; have hsV := hbd.size; have a5 := acts_one (plain_l w5 w.heap.size allA rfl rfl) (by omega); obtain ⟨v3, W3, hr, hac, hon, -⟩ := acts_append (Acts.nil _ _) a5 (by have := (below_alloc w5 (.cells (plainAm allA rfl rfl).arr 59)).size; omega) (by simp); obtain ⟨a3, c3, rfl⟩ := owns_len hac.row; have HT : Hid (TkS w W3 B t s s5 m0 x (.slice a3 ([] ++ [plainAm allA rfl rfl]).length c3) ([] ++ [plainAm allA rfl rfl]) 100) := tk_restart HH.out.1 HH.out.2.2.1 (HV.out V hbd).2.2.2 (HV.out V hbd).1 (HV.out V hbd).2.1 (HV.out V hbd).2.2.1 hst5 hsay5 hac hon HK.out.1 HK.out.2.1 HK.out.2.2 HM0.out (by rw [HE.out.1, HE.out.2.1]; exact hlt); clear hst5 hsay5 a5 hac hon))
      apply wp_label
      rename_i K hK
      refine hK _ _ ?_
      exact p0 100 100 _ _ ⟨_, ⟨_, _, _, _, _, _, _, _, _, _, _, _, _, _, _, _, _, _, _, _, _, _, _, _, _, _, _, _, _, _, _, _, _, _, _, _, _, _, _, _, _, _, _, _, _, _, _, _, _, _, rfl⟩, s5, x, _, HT.out⟩ (Nat.le_refl _)
    · go_upto_region 4 with (go_at_call 25; refine HCo.out.mono ?_; rintro e w2 ⟨rfl, hb2⟩; obtain ⟨q4, q2⟩ := HC.out w2 hb2; clear ml HCo)
      go_quiet ((first | (go_at_call_of 26 (Value.complex .f64 x.m.re x.m.im); exact Calls.quiet_of_same (hem _)) | (go_at_call_of 26 (Value.complex .f64 s.a s.b); exact Calls.quiet_of_same (hep _))))
      have hbd : Below W.heap.size W (w2.drewN nq) := below_drewN hb2 _
      obtain ⟨V, hV⟩ : ∃ V, w2.drewN nq = V := ⟨_, rfl⟩
      rw [hV] at hbd ⊢
      have hV' := HV.out V hbd
      have hee : ea = eb := by have := HE.out.2.2; omega
      have HT : Hid (TkS w V B t s s m0 x (.slice none 0 0) [] 100) := by
        refine ⟨ST.stay HH.out.1 hV'.2.2.2, fun k hk => by have := (HH.out.1.lt hk).2; omega, by rw [HH.out.2.2.1]; exact hV'.2.1, hV'.2.2.1, ?_, HK.out.1, Acts.nil _ _, ?_, ?_, by simp, Afar.nil _ _⟩
        · have := HK.out.2.1
          rw [show x.m.ep = part s.a by show part x.m.re = part s.a; rw [HE.out.1, HE.out.2.1, hee]] at this; exact this
        · unfold Ts.take
          rw [← HM0.out, if_pos HK.out.2.2]
          have hn : ¬ s.say.e < x.m.ep := by show ¬ part s.a < part x.m.re; rw [HE.out.1, HE.out.2.1]; omega
          have hb : s.say.begun x.m = s.say := by unfold Ts.begun; rw [if_neg hn]
          have hbA : s.say.begunA x.m = [] := by unfold Ts.begunA; rw [if_neg hn]
          rw [hb, hbA]; rfl
        · have := meet_len s.say x.m
          have e : s.say.held.length = s.hs.length := by simp [Td.say]
          have := HH.out.1.lh
          have := HH.out.1.l8
          omega
      clear q4 q2 hV hb2 hem hep hV' hee
      go_wp2
      apply wp_label
      rename_i K hK
      refine hK _ _ ?_
      exact p0 100 100 _ _ ⟨_, ⟨_, _, _, _, _, _, _, _, _, _, _, _, _, _, _, _, _, _, _, _, _, _, _, _, _, _, _, _, _, _, _, _, _, _, _, _, _, _, _, _, _, _, _, _, _, _, _, _, _, _, rfl⟩, s, x, _, HT.out⟩ (Nat.le_refl _)
set_option maxHeartbeats 4000000 in
theorem take_no (t B : Nat) (s : Td) (x : Hm) (w : World) (h : IsT w B t s) (hc : s.say.counts x.m = false) :
    Calls Try.prog 12 #[.pointer (some ⟨t, 0, none⟩), .agg x.arr] w fun e w' => TakeR w B t s x.m e w' := by
  obtain ⟨X, hX⟩ : ∃ X, x.arr = X := ⟨_, rfl⟩
  obtain ⟨W, hW⟩ : ∃ W, w.alloc (.cells X 45) = W := ⟨_, rfl⟩
  have bW := boxB hW
  have HCo : Hid (Calls Try.prog 25 #[.pointer (some ⟨t, 0, none⟩), .agg X] W fun e w' => e = .returned (.bool false) ∧ Below W.heap.size W w') := by
    have := counts_p t B s x W (h.below bW.2)
    rw [hX, hc] at this; exact this
  have HF : Hid (∀ w', Below w.heap.size w w' → TakeR w B t s x.m (.returned (.slice none 0 0)) w') := fun w' hb => by
    have e : s.say.take x.m = (s.say, []) := by unfold Ts.take; rw [if_neg (by rw [hc]; simp)]
    exact ⟨_, [], rfl, Acts.nil _ _, by rw [e]; rfl, s, ST.stay h hb, by rw [e], Afar.nil _ _⟩
  have ml := msgLd_of bW.1 (by rw [← hX]; rfl)
  have HB : Hid (Below w.heap.size w W) := bW.2
  rw [hX]
  clear h hc hX bW
  go_enter Try.func12, Try.ntmps12
  go_wp2
  refine wp_scope_one (fun _ _ _ => False) rfl ?_ ?_
  · intro M n a w' hJ
    exact hJ.elim
  · intro p0
    refine ⟨0, ?_⟩
    go_wp2_with (go_at_call 25; refine HCo.out.mono ?_; rintro e w2 ⟨rfl, hb2⟩)
    refine JumpG.ret ?_
    go_ret
    exact HF.out _ (chainB HB.out hb2)
theorem take_p (t B : Nat) (s : Td) (x : Hm) (w : World) (h : IsT w B t s) (hB : B ≤ w.heap.size) (hL : Lists w 0 x) :
    Calls Try.prog 12 #[.pointer (some ⟨t, 0, none⟩), .agg x.arr] w fun e w' => TakeR w B t s x.m e w' := by
  cases hc : s.say.counts x.m with
  | false => exact take_no t B s x w h hc
  | true => exact take_yes t B s x w h hB hL hc
end
end Go.Proofs.Ytpmcecenhgppbaa
