/- Both trees answer alike. -/
import Derived.Test.YtmacicpeimlloaaTsJ
namespace Go.Proofs.Ytmacicpeimlloaa
section
open Go.RowKit
attribute [local go_sem high] eqK' neqK' eqE neqE eqN neqN guardK guardE guardN

theorem lk_keep {W0 W W' : World} {d : Nat} {a b c : Value} (h : W.cell? ⟨d, 0, none⟩ = some a ∧ W.cell? ⟨d, 1, none⟩ = some b ∧ W.cell? ⟨d, 2, none⟩ = some c ∧ Below W0.heap.size W0 W) (hb : Below W.heap.size W W') :
    W'.cell? ⟨d, 0, none⟩ = some a ∧ W'.cell? ⟨d, 1, none⟩ = some b ∧ W'.cell? ⟨d, 2, none⟩ = some c ∧ Below W0.heap.size W0 W' :=
  ⟨(hb.cell (cellLt h.1)).trans h.1, (hb.cell (cellLt h.2.1)).trans h.2.1, (hb.cell (cellLt h.2.2.1)).trans h.2.2.1, chainB h.2.2.2 hb⟩
set_option maxRecDepth 20000 in
set_option maxHeartbeats 16000000 in
theorem like_p {w0 w : World} {t d : Nat} {s D : Tr} {k : Int} (h : Twin w0 w t s k d D) :
    Calls Try.prog 14 #[.pointer (some ⟨t, 0, none⟩), .pointer (some ⟨d, 0, none⟩)] w fun e w' => e = .returned (.bool true) ∧ Below w.heap.size w w' := by
  have H : Hid (Twin w0 w t s k d D) := h
  obtain ⟨c0, c1, c2, _⟩ := h.two.cells
  obtain ⟨a, cap, e⟩ := owns_len h.two.row
  obtain ⟨n, hn⟩ : ∃ n, s.es.length = n := ⟨_, rfl⟩
  have hn2 : D.es.length = n := by rw [← hn]; exact h.likes.es.length_eq.symm
  rw [hn2] at e
  rw [e] at c0
  rw [← h.likes.vers] at c1
  rw [← h.likes.next] at c2
  have hn47 : n ≤ 47 := by rw [← hn]; exact h.one.good.wf.len
  have k0 : w.drew.cell? ⟨d, 0, none⟩ = some (.slice a n cap) ∧ w.drew.cell? ⟨d, 1, none⟩ = some (.int .i64 s.vers) ∧ w.drew.cell? ⟨d, 2, none⟩ = some (.int .i64 s.next) ∧ Below w.heap.size w w.drew := ⟨c0, c1, c2, (Below.refl _ _).drew⟩
  have HVe : Hid (∀ W, Below w.heap.size w W → Calls Try.prog 25 #[.pointer (some ⟨t, 0, none⟩)] W fun e w' => e = .returned (.int .i64 s.vers) ∧ W = w') := fun W hb => (version_p t s W (H.out.one.own.is.below hb)).mono fun _ _ h => ⟨h.1, h.2.symm⟩
  have HNx : Hid (∀ W, Below w.heap.size w W → Calls Try.prog 26 #[.pointer (some ⟨t, 0, none⟩)] W fun e w' => e = .returned (.int .i64 s.next) ∧ W = w') := fun W hb => (next_p t s W (H.out.one.own.is.below hb)).mono fun _ _ h => ⟨h.1, h.2.symm⟩
  have HCt : Hid (∀ W, Below w.heap.size w W → Calls Try.prog 37 #[.pointer (some ⟨t, 0, none⟩)] W fun e w' => e = .returned (.int .i64 ((n : Int) + 1)) ∧ W = w') := fun W hb => by rw [← hn]; exact (count_p t s W (H.out.one.own.is.below hb)).mono fun _ _ h => ⟨h.1, h.2.symm⟩
  have HDd : Hid (∀ W, Below w.heap.size w W → Calls Try.prog 38 #[.pointer (some ⟨d, 0, none⟩)] W fun e w' => ∃ v', e = .returned v' ∧ Row7 w' W.heap.size v' s.es ∧ Below W.heap.size W w') := fun W hb => by
    have := dumpD_any d D W (H.out.two.below hb) (H.out.one.good.wf.rises.apart.perm H.out.likes.es)
    rw [H.out.likes.srt H.out.one.good.wf] at this
    exact this
  have hwr : IntKind.i64.wrap ((n : Int) + 1) = (n : Int) + 1 := IntWalk.i64_in _ (by omega)
  clear h c0 c1 c2 e hn hn2
  go_enter Try.func14, Try.ntmps14
  go_upto_region 1 with fail
  go_region_held3 (fun w' => w'.cell? ⟨d, 0, none⟩ = some (.slice a n cap) ∧ w'.cell? ⟨d, 1, none⟩ = some (.int .i64 s.vers) ∧ w'.cell? ⟨d, 2, none⟩ = some (.int .i64 s.next) ∧ Below w.heap.size w w')
    (with_reducible first | exact hK10 | exact hK9 | exact hK8 | exact k0)
    (first
      | (go_at_call 25; refine (HVe.out _ k0.2.2.2).mono ?_; rintro x w4 ⟨rfl, rfl⟩)
      | (go_at_call 26; refine (HNx.out _ k0.2.2.2).mono ?_; rintro x w4 ⟨rfl, rfl⟩)
      | (go_at_call 37; refine (HCt.out _ k0.2.2.2).mono ?_; rintro x w4 ⟨rfl, rfl⟩)
      | (go_at_call 24; refine (dump_p t s _ (H.out.one.own.is.below k0.2.2.2)).mono ?_; rintro x w8 ⟨v8, rfl, hr8, hb8⟩; have hK8 := lk_keep k0 hb8)
      | (go_at_call 38; refine (HDd.out _ hK8.2.2.2).mono ?_; rintro x w9 ⟨v9, rfl, hr9, hb9⟩; have hK9 := lk_keep hK8 hb9)
      | (go_at_call 13; refine (same_yes (hr8.below hb9) hr9 H.out.one.len).mono ?_; rintro x w10 ⟨rfl, hb10⟩; have hK10 := lk_keep hK9 hb10))
  go_wp2
  go_ret
  exact ⟨rfl, hK10.2.2.2⟩
end
section
open Go.RowKit
attribute [local go_sem high] eqK' neqK' eqE neqE eqN neqN guardK guardE guardN

set_option maxRecDepth 20000 in
set_option maxHeartbeats 4000000 in
theorem list1_any (t : Nat) (s : Tr) (d : Int) (w : World) (h : IsT w t s) (ha : Apart s.es) :
    Calls Try.prog 10 #[.pointer (some ⟨t, 0, none⟩), .int .i64 d] w fun e w' => ∃ v', e = .returned (.tuple #[v', .int .i64 (dirE s.es d)]) ∧ Row7 w' w.heap.size v' (if dirE s.es d = 0 then srt (listL s.es d) else []) ∧ Below w.heap.size w w' := by
  obtain ⟨i1, hi1, hw0, hw1, hw2⟩ := info_parts Try.infoE
  obtain ⟨D, hD⟩ : ∃ x, dirE s.es d = x := ⟨_, rfl⟩
  have HD : Hid (∀ w, IsT w t s → Calls Try.prog 34 #[.pointer (some ⟨t, 0, none⟩), .int .i64 d] w fun e w' => e = .returned (.int .i64 D) ∧ Below w.heap.size w w') := by
    intro w hw; rw [← hD]; exact dir_any t s d w hw
  have H : Hid (IsT w t s ∧ Apart s.es) := ⟨h, ha⟩
  rw [hD]
  obtain ⟨c0, _, _, _⟩ := h.cells
  obtain ⟨a, cap, e⟩ := owns_len h.row
  rw [e] at c0
  obtain ⟨n, hn⟩ : ∃ n, s.es.length = n := ⟨_, rfl⟩
  rw [hn] at c0 e
  have hlim := h.lim
  rw [hn] at hlim
  have hlt := h.tt.lt
  have HV : Hid (s.v = .slice a n cap ∧ s.es.length = n) := ⟨e, hn⟩
  clear hD h e hn ha
  by_cases hD0 : D = 0
  · subst hD0
    rw [if_pos rfl]
    go_enter Try.func10, Try.ntmps10
    go_wp2_with (go_at_call 34; refine (HD.out _ H.out.1).mono ?_; rintro x w1 ⟨rfl, hb1⟩; have d0 := (hb1.cell (p := ⟨t, 0, none⟩) hlt).trans c0)
    have HB1 : Hid (Below w.heap.size w w1 ∧ w1.cell? ⟨t, 0, none⟩ = some (.slice a n cap)) := ⟨hb1, d0⟩
    clear hb1 d0 c0
    go_loopw [7, 8] (fun u i wr => ∃ k : Nat, k ≤ n ∧ i = .int .i64 k ∧ wr.ownsRow w.heap.size 32 7 u (listL (s.es.take k) d).length (ec (listL (s.es.take k) d)) ∧ Below w.heap.size w wr ∧ wr.cell? ⟨t, 0, none⟩ = some (.slice a n cap)) (fun _ i _ => n - (intOf i).toNat)
    case atStart => exact ⟨0, Nat.zero_le _, rfl, World.ownsRow_nil _ _ _ _, HB1.out.1, HB1.out.2⟩
    case round =>
      obtain ⟨k, hk, rfl, hown, hb, d0⟩ := hrel
      by_cases hkn : k < n
      · obtain ⟨e, he⟩ : ∃ e, s.es[k]? = some e := ⟨_, List.getElem?_eq_getElem (by rw [HV.out.2]; exact hkn)⟩
        have hrow := (H.out.1.below hb).row
        rw [HV.out.1] at hrow
        obtain ⟨g, rfl, -, -, hg, hc, -⟩ := owns_entry hrow he
        have x0 := hc.c0
        have x1 := hc.c1
        have x2 := hc.c2
        have x3 := hc.c3
        have x4 := hc.c4
        have x5 := hc.c5
        have x6 := hc.c6
        have hki : (k : Int) < (n : Int) := by omega
        have HT := listL_take s.es d k e he
        have hgl := listL_le (s.es.take k) d
        rw [List.length_take] at hgl
        obtain ⟨G, hG⟩ : ∃ G, listL (s.es.take k) d = G := ⟨_, rfl⟩
        rw [hG] at hown HT hgl
        have hGl : G.length ≤ 100 := by omega
        by_cases hq : e.d = d
        · rw [if_pos hq] at HT
          have HE : Hid (listL (s.es.take (k + 1)) d = G ++ [e]) := HT
          have hqb : (e.d == d) = true := by simpa using hq
          clear hrow hc he HT hG hq hgl
          go_wp2_with (at_builtin; refine wpList_append_own_at _ rfl (.tmp 35) (.tmp 43) 38 rfl w.heap.size 32 i1 _ 7 72 Try.underlying38 hi1 hw0 hw1 hw2 rfl (by decide) _ G.length (ec G) rfl (World.ownsRow.alloc hown _) ⟨wr.heap.size, 0, none⟩ 1 1 e.vals rfl rfl (vals_at _ e _) (vals_one e) (by unfold maxLen; omega) (by omega) (by have := hb.size; simp; omega) ?_; intro v5 w5 hown5 hgrow5 _ _; have H5 : Hid (w5.ownsRow w.heap.size 32 7 v5 (G.length + 1) (ec G ++ e.vals) ∧ Below w.heap.size w w5) := ⟨hown5, Below.grown (hb.alloc hb.size _) hgrow5 (by have := hb.size; simp; omega) (fun q hq => (World.ownsRow.lt hown q hq).1)⟩; clear hown5 hgrow5)
          refine ⟨⟨k + 1, by omega, by simp, ?_, H5.out.2, (H5.out.2.cell (p := ⟨t, 0, none⟩) hlt).trans ((hb.cell (p := ⟨t, 0, none⟩) hlt).symm.trans d0)⟩, by simp [intOf]; omega⟩
          rw [HE.out, List.length_append, ec_app]
          have : ec [e] = e.vals := by unfold ec; simp
          rw [this]; exact H5.out.1
        · rw [if_neg hq, List.append_nil] at HT
          have HE : Hid (listL (s.es.take (k + 1)) d = G) := HT
          have HO : Hid (wr.ownsRow w.heap.size 32 7 u7 G.length (ec G)) := hown
          have hqb : (e.d == d) = false := by simpa using hq
          clear hrow hc he HT hG hown hq
          go_wp2
          exact ⟨⟨k + 1, by omega, by simp, by rw [HE.out]; exact HO.out, hb, d0⟩, by simp [intOf]; omega⟩
      · have hkn' : ¬ (k : Int) < (n : Int) := by omega
        have hke : s.es.take k = s.es := List.take_of_length_le (by rw [HV.out.2]; omega)
        rw [hke] at hown
        have hle := listL_le s.es d
        rw [HV.out.2] at hle
        obtain ⟨av, cv, rfl⟩ := owns_len hown
        have HS : Hid (Calls Try.prog 35 #[.slice av (listL s.es d).length cv] wr fun e w' => ∃ v', e = .returned v' ∧ Row7 w' wr.heap.size v' (srt (listL s.es d)) ∧ Below wr.heap.size wr w') := (sorted_any _ (listL s.es d) w.heap.size wr hown (by omega)).mono fun e w' ⟨v', m, he, hr, hs, hb⟩ => ⟨v', he, by
          have hm : srt (listL s.es d) = m := (hs.2 (H.out.2.filter _)).srt hs.1
          rw [hm]; exact hr, hb⟩
        clear hown hke
        go_wp2_with (go_at_call 35; refine HS.out.mono ?_; rintro x w9 ⟨v9, rfl, hr9, hb9⟩; obtain ⟨a9, c9, rfl⟩ := owns_len hr9)
        go_ret2
        exact ⟨_, rfl, owns_le hr9 hb.size, chainB hb hb9⟩
  · have hDb : (D != 0) = true := by simpa using hD0
    rw [if_neg hD0]
    clear hD0
    go_enter Try.func10, Try.ntmps10
    go_wp2_with (go_at_call 34; refine (HD.out _ H.out.1).mono ?_; rintro x w1 ⟨rfl, hb1⟩)
    go_ret2
    exact ⟨.slice none 0 0, rfl, World.ownsRow_nil _ _ _ _, hb1⟩
end
section
open Go.RowKit
attribute [local go_sem high] eqK' neqK' eqE neqE eqN neqN guardK guardE guardN

theorem boxB {w W : World} {cs : Array Value} {ty : TypeId} (hW : w.alloc (.cells cs ty) = W) : W.heap[w.heap.size]? = some (.cells cs ty (0, 0)) ∧ Below w.heap.size w W := by
  subst hW; exact ⟨heap_new _ _, below_alloc _ _⟩
theorem Likes.look {s D : Tr} (h : Likes s D) (wf : WF Mn s.es s.next) (d : Int) (nm : ByteArray) : lookV Mn s.es d nm = lookV Mn D.es d nm := by
  unfold lookV
  rw [namedE_perm wf.ided h.es, nowE_perm wf.keyed h.es]
theorem Likes.find {s D : Tr} (h : Likes s D) (wf : WF Mn s.es s.next) (d : Int) : findV s.es d = findV D.es d := by
  unfold findV
  rw [nodeE_perm wf.ided h.es]
theorem likes_list {s D : Tr} (h : Likes s D) (wf : WF Mn s.es s.next) (d : Int) : listR s.es d = if dirE D.es d = 0 then srt (listL D.es d) else [] := by
  unfold listR
  rw [dirE_perm wf.ided h.es]
  split
  · have hr : Rises (listL s.es d) := wf.rises.filter _
    exact (hr.srt (h.es.filter _)).symm
  · rfl
/-- what both trees answer for one directory -/
structure Both (w1 : World) (t d : Nat) (dir : Int) (nm : ByteArray) (e f : En) (E F D : Int) (G : List En) : Prop where
  look : ∀ W, Below w1.heap.size w1 W → Calls Try.prog 7 #[.pointer (some ⟨t, 0, none⟩), .int .i64 dir, .string nm] W fun x w' => x = .returned (.tuple #[.agg #[.int .i64 e.d, .string e.nm, .bool e.neg, .int .i64 e.id, .int .i64 e.kind, .int .i64 e.mode, .string e.tg], .int .i64 E]) ∧ Below W.heap.size W w'
  look2 : ∀ W, Below w1.heap.size w1 W → Calls Try.prog 8 #[.pointer (some ⟨d, 0, none⟩), .int .i64 dir, .string nm] W fun x w' => x = .returned (.tuple #[.agg #[.int .i64 e.d, .string e.nm, .bool e.neg, .int .i64 e.id, .int .i64 e.kind, .int .i64 e.mode, .string e.tg], .int .i64 E]) ∧ Below W.heap.size W w'
  find : ∀ W, Below w1.heap.size w1 W → Calls Try.prog 11 #[.pointer (some ⟨t, 0, none⟩), .int .i64 dir] W fun x w' => x = .returned (.tuple #[.agg #[.int .i64 f.d, .string f.nm, .bool f.neg, .int .i64 f.id, .int .i64 f.kind, .int .i64 f.mode, .string f.tg], .int .i64 F]) ∧ Below W.heap.size W w'
  find2 : ∀ W, Below w1.heap.size w1 W → Calls Try.prog 12 #[.pointer (some ⟨d, 0, none⟩), .int .i64 dir] W fun x w' => x = .returned (.tuple #[.agg #[.int .i64 f.d, .string f.nm, .bool f.neg, .int .i64 f.id, .int .i64 f.kind, .int .i64 f.mode, .string f.tg], .int .i64 F]) ∧ Below W.heap.size W w'
  list : ∀ W, Below w1.heap.size w1 W → Calls Try.prog 9 #[.pointer (some ⟨t, 0, none⟩), .int .i64 dir] W fun x w' => ∃ a c, x = .returned (.tuple #[.slice a G.length c, .int .i64 D]) ∧ Row7 w' W.heap.size (.slice a G.length c) G ∧ Below W.heap.size W w'
  list2 : ∀ W, Below w1.heap.size w1 W → Calls Try.prog 10 #[.pointer (some ⟨d, 0, none⟩), .int .i64 dir] W fun x w' => ∃ a c, x = .returned (.tuple #[.slice a G.length c, .int .i64 D]) ∧ Row7 w' W.heap.size (.slice a G.length c) G ∧ Below W.heap.size W w'
  few : G.length ≤ 1000000000
theorem Twin.both {w0 w1 : World} {t d : Nat} {s D : Tr} {k : Int} (h : Twin w0 w1 t s k d D) (dir : Int) (nm : ByteArray) : ∃ e f E F Dd G, Both w1 t d dir nm e f E F Dd G := by
  have wf := h.one.good.wf
  have h1 : ∃ (e : En) (E : Int), lookV Mn s.es dir nm = .tuple #[e.agg, .int .i64 E] := by
    unfold lookV; split <;> exact ⟨_, _, rfl⟩
  obtain ⟨e, E, hl⟩ := h1
  obtain ⟨f, F, hf, _⟩ := findV_form s.es dir
  refine ⟨e, f, E, F, dirE s.es dir, listR s.es dir, ⟨fun W hb => ?_, fun W hb => ?_, fun W hb => ?_, fun W hb => ?_, fun W hb => ?_, fun W hb => ?_, ?_⟩⟩
  · have := Look_p Mn nmsP t s dir nm W (h.one.own.is.below hb)
    rw [hl] at this; exact this
  · have := look_any Mn nmsD d D dir nm W (h.two.below hb)
    rw [← h.likes.look wf, hl] at this; exact this
  · have := find_p t s dir W (h.one.own.is.below hb)
    rw [hf] at this; exact this
  · have := find_any d D dir W (h.two.below hb)
    rw [← h.likes.find wf, hf] at this; exact this
  · refine (list_p t s dir W (h.one.own.is.below hb)).mono ?_
    rintro x w' ⟨v', hx, hr, hb'⟩
    obtain ⟨a, c, rfl⟩ := owns_len hr
    exact ⟨a, c, hx, hr, hb'⟩
  · refine (list1_any d D dir W (h.two.below hb) (wf.rises.apart.perm h.likes.es)).mono ?_
    rintro x w' ⟨v', hx, hr, hb'⟩
    rw [← likes_list h.likes wf] at hr
    rw [← dirE_perm wf.ided h.likes.es] at hx
    obtain ⟨a, c, rfl⟩ := owns_len hr
    exact ⟨a, c, hx, hr, hb'⟩
  · have hl : (listR s.es dir).length ≤ s.es.length := by
      unfold listR; split
      · exact listL_le _ _
      · simp
    have := h.one.len
    omega
set_option maxRecDepth 20000 in
set_option maxHeartbeats 16000000 in
theorem walk_TreeLooks (a : Option Addr) (cap : Nat) (ops : List Opn) (dir : Int) (nm : ByteArray) (w : World) (row : RowOps w a ops) (hlen : ops.length ≤ 3000000000000) (_hdir : (Lit.int .i64 dir).wf = true) :
    Calls Try.prog 3 #[.slice a ops.length cap, .int .i64 dir, .string nm] w fun e w' => e = .returned (.bool true) ∧ Below w.heap.size w w' := by
  have HGr : Hid (Calls Try.prog 6 #[.slice a ops.length cap] w fun e w' => ∃ t d, e = .returned (.tuple #[.pointer (some ⟨t, 0, none⟩), .pointer (some ⟨d, 0, none⟩), .bool true]) ∧ Hid (∃ s D, Twin w w' t s ops.length d D)) := (grown_p a cap ops w row hlen).mono fun _ _ ⟨t, s, d, D, he, h⟩ => ⟨t, d, he, s, D, h⟩
  have HAw : Hid (∀ w, Calls Try.prog 15 #[] w fun e w' => e = .returned (.bool true) ∧ Below w.heap.size w w') := awake_p
  clear row
  go_enter Try.func3, Try.ntmps3
  go_wp2_with (go_at_call 6; refine HGr.out.mono ?_; rintro x w1 ⟨t, d, rfl, h1⟩)
  obtain ⟨s, D, h⟩ := h1.out
  have HT : Hid (Twin w w1 t s ops.length d D) := h
  clear h h1 HGr
  go_loopw [10] (fun i wr => ∃ k : Nat, k ≤ 8 ∧ i = .int .i64 ((k : Int) - 1) ∧ Below w1.heap.size w1 wr) (fun i _ => 8 - (intOf i + 1).toNat)
  case atStart => exact ⟨0, by omega, rfl, Below.refl _ _⟩
  case round =>
    obtain ⟨k, hk, rfl, hb⟩ := hrel
    by_cases hkn : k < 8
    · have hk7 : (k : Int) - 1 < 7 := by omega
      have hkw : IntKind.i64.wrap ((k : Int) - 1 + 1) = (k : Int) := by rw [IntWalk.i64_in _ (by omega)]; omega
      by_cases hk0 : (0 : Int) ≤ (k : Int) - 1
      · obtain ⟨e, f, E, F, Dd, G, hB⟩ := HT.out.both ((k : Int) - 1) nm
        have HBo : Hid (Both w1 t d ((k : Int) - 1) nm e f E F Dd G) := hB
        clear hB
        go_upto_region 11 with (go_at_call 7; refine (HBo.out.look _ hb).mono ?_; rintro x w2 ⟨rfl, hb2⟩)
        obtain ⟨W2, hW2⟩ : ∃ W, w2.alloc (.cells #[.int .i64 e.d, .string e.nm, .bool e.neg, .int .i64 e.id, .int .i64 e.kind, .int .i64 e.mode, .string e.tg] 32) = W := ⟨_, rfl⟩
        have hc2 := chainB hb (chainB hb2 (boxB hW2).2)
        have m2 := (boxB hW2).1
        rw [hW2]
        clear hW2
        go_upto_region 12 with (go_at_call 8; refine (HBo.out.look2 _ hc2).mono ?_; rintro x w3 ⟨rfl, hb3⟩)
        obtain ⟨W3, hW3⟩ : ∃ W, w3.alloc (.cells #[.int .i64 e.d, .string e.nm, .bool e.neg, .int .i64 e.id, .int .i64 e.kind, .int .i64 e.mode, .string e.tg] 32) = W := ⟨_, rfl⟩
        have hd3 := chainB hb3 (boxB hW3).2
        have hc3 := chainB hc2 hd3
        have m3 := (boxB hW3).1
        rw [hW3]
        clear hW3
        go_upto_region 13 with (go_at_call 9; refine (HBo.out.list _ hc3).mono ?_; rintro x w4 ⟨a4, c4, rfl, hr4, hb4⟩)
        have hc4 := chainB hc3 hb4
        go_upto_region 14 with (go_at_call 10; refine (HBo.out.list2 _ hc4).mono ?_; rintro x w5 ⟨a5, c5, rfl, hr5, hb5⟩)
        have hc5 := chainB hc4 hb5
        go_upto_region 15 with (go_at_call 11; refine (HBo.out.find _ hc5).mono ?_; rintro x w6 ⟨rfl, hb6⟩)
        obtain ⟨W6, hW6⟩ : ∃ W, w6.alloc (.cells #[.int .i64 f.d, .string f.nm, .bool f.neg, .int .i64 f.id, .int .i64 f.kind, .int .i64 f.mode, .string f.tg] 32) = W := ⟨_, rfl⟩
        have hd6 := chainB hb6 (boxB hW6).2
        have hc6 := chainB hc5 hd6
        have m6 := (boxB hW6).1
        rw [hW6]
        clear hW6
        go_upto_region 16 with (go_at_call 12; refine (HBo.out.find2 _ hc6).mono ?_; rintro x w7 ⟨rfl, hb7⟩)
        obtain ⟨W7, hW7⟩ : ∃ W, w7.alloc (.cells #[.int .i64 f.d, .string f.nm, .bool f.neg, .int .i64 f.id, .int .i64 f.kind, .int .i64 f.mode, .string f.tg] 32) = W := ⟨_, rfl⟩
        have hd7 := chainB hb7 (boxB hW7).2
        have hc7 := chainB hc6 hd7
        have m7 := (boxB hW7).1
        rw [hW7]
        clear hW7
        have n2 := hkeep m2 (chainB hd3 (chainB (chainB hb4 hb5) (chainB hd6 hd7)))
        have n3 := hkeep m3 (chainB (chainB hb4 hb5) (chainB hd6 hd7))
        have n6 := hkeep m6 hd7
        have HR : Hid (Row7 W7 0 (.slice a4 G.length c4) G ∧ Row7 W7 0 (.slice a5 G.length c5) G ∧ Below w1.heap.size w1 W7) := ⟨owns_le (hr4.below (chainB hb5 (chainB hd6 hd7))) (Nat.zero_le _), owns_le (hr5.below (chainB hd6 hd7)) (Nat.zero_le _), hc7⟩
        have n2c0 := cell_of n2 0
        have n2c1 := cell_of n2 1
        have n2c2 := cell_of n2 2
        have n2c3 := cell_of n2 3
        have n2c4 := cell_of n2 4
        have n2c5 := cell_of n2 5
        have n2c6 := cell_of n2 6
        simp at n2c0 n2c1 n2c2 n2c3 n2c4 n2c5 n2c6
        have n3c0 := cell_of n3 0
        have n3c1 := cell_of n3 1
        have n3c2 := cell_of n3 2
        have n3c3 := cell_of n3 3
        have n3c4 := cell_of n3 4
        have n3c5 := cell_of n3 5
        have n3c6 := cell_of n3 6
        simp at n3c0 n3c1 n3c2 n3c3 n3c4 n3c5 n3c6
        have n6c0 := cell_of n6 0
        have n6c1 := cell_of n6 1
        have n6c2 := cell_of n6 2
        have n6c3 := cell_of n6 3
        have n6c4 := cell_of n6 4
        have n6c5 := cell_of n6 5
        have n6c6 := cell_of n6 6
        simp at n6c0 n6c1 n6c2 n6c3 n6c4 n6c5 n6c6
        have m7c0 := cell_of m7 0
        have m7c1 := cell_of m7 1
        have m7c2 := cell_of m7 2
        have m7c3 := cell_of m7 3
        have m7c4 := cell_of m7 4
        have m7c5 := cell_of m7 5
        have m7c6 := cell_of m7 6
        simp at m7c0 m7c1 m7c2 m7c3 m7c4 m7c5 m7c6
        have heE : eqEn e e = true := (eqEn_iff e e).2 rfl
        have heF : eqEn f f = true := (eqEn_iff f f).2 rfl
        clear hb2 hb3 hb4 hb5 hb6 hb7 hd3 hd6 hd7 hc2 hc3 hc4 hc5 hc6 hc7 hr4 hr5 m2 m3 m6 m7 n2 n3 n6
        go_wp2_with (go_at_call 13; refine (same_yes HR.out.1 HR.out.2.1 HBo.out.few).mono ?_; rintro x w8 ⟨rfl, hb8⟩; have n6d0 := (hb8.cell (cellLt n6c0)).trans n6c0; have n6d1 := (hb8.cell (cellLt n6c1)).trans n6c1; have n6d2 := (hb8.cell (cellLt n6c2)).trans n6c2; have n6d3 := (hb8.cell (cellLt n6c3)).trans n6c3; have n6d4 := (hb8.cell (cellLt n6c4)).trans n6c4; have n6d5 := (hb8.cell (cellLt n6c5)).trans n6c5; have n6d6 := (hb8.cell (cellLt n6c6)).trans n6c6; have m7d0 := (hb8.cell (cellLt m7c0)).trans m7c0; have m7d1 := (hb8.cell (cellLt m7c1)).trans m7c1; have m7d2 := (hb8.cell (cellLt m7c2)).trans m7c2; have m7d3 := (hb8.cell (cellLt m7c3)).trans m7c3; have m7d4 := (hb8.cell (cellLt m7c4)).trans m7c4; have m7d5 := (hb8.cell (cellLt m7c5)).trans m7c5; have m7d6 := (hb8.cell (cellLt m7c6)).trans m7c6)
        exact ⟨⟨k + 1, by omega, by simp, chainB HR.out.2.2 hb8⟩, by simp [intOf]; omega⟩
      · obtain ⟨e, f, E, F, Dd, G, hB⟩ := HT.out.both dir nm
        have HBo : Hid (Both w1 t d dir nm e f E F Dd G) := hB
        clear hB
        go_upto_region 11 with (go_at_call 7; refine (HBo.out.look _ hb).mono ?_; rintro x w2 ⟨rfl, hb2⟩)
        obtain ⟨W2, hW2⟩ : ∃ W, w2.alloc (.cells #[.int .i64 e.d, .string e.nm, .bool e.neg, .int .i64 e.id, .int .i64 e.kind, .int .i64 e.mode, .string e.tg] 32) = W := ⟨_, rfl⟩
        have hc2 := chainB hb (chainB hb2 (boxB hW2).2)
        have m2 := (boxB hW2).1
        rw [hW2]
        clear hW2
        go_upto_region 12 with (go_at_call 8; refine (HBo.out.look2 _ hc2).mono ?_; rintro x w3 ⟨rfl, hb3⟩)
        obtain ⟨W3, hW3⟩ : ∃ W, w3.alloc (.cells #[.int .i64 e.d, .string e.nm, .bool e.neg, .int .i64 e.id, .int .i64 e.kind, .int .i64 e.mode, .string e.tg] 32) = W := ⟨_, rfl⟩
        have hd3 := chainB hb3 (boxB hW3).2
        have hc3 := chainB hc2 hd3
        have m3 := (boxB hW3).1
        rw [hW3]
        clear hW3
        go_upto_region 13 with (go_at_call 9; refine (HBo.out.list _ hc3).mono ?_; rintro x w4 ⟨a4, c4, rfl, hr4, hb4⟩)
        have hc4 := chainB hc3 hb4
        go_upto_region 14 with (go_at_call 10; refine (HBo.out.list2 _ hc4).mono ?_; rintro x w5 ⟨a5, c5, rfl, hr5, hb5⟩)
        have hc5 := chainB hc4 hb5
        go_upto_region 15 with (go_at_call 11; refine (HBo.out.find _ hc5).mono ?_; rintro x w6 ⟨rfl, hb6⟩)
        obtain ⟨W6, hW6⟩ : ∃ W, w6.alloc (.cells #[.int .i64 f.d, .string f.nm, .bool f.neg, .int .i64 f.id, .int .i64 f.kind, .int .i64 f.mode, .string f.tg] 32) = W := ⟨_, rfl⟩
        have hd6 := chainB hb6 (boxB hW6).2
        have hc6 := chainB hc5 hd6
        have m6 := (boxB hW6).1
        rw [hW6]
        clear hW6
        go_upto_region 16 with (go_at_call 12; refine (HBo.out.find2 _ hc6).mono ?_; rintro x w7 ⟨rfl, hb7⟩)
        obtain ⟨W7, hW7⟩ : ∃ W, w7.alloc (.cells #[.int .i64 f.d, .string f.nm, .bool f.neg, .int .i64 f.id, .int .i64 f.kind, .int .i64 f.mode, .string f.tg] 32) = W := ⟨_, rfl⟩
        have hd7 := chainB hb7 (boxB hW7).2
        have hc7 := chainB hc6 hd7
        have m7 := (boxB hW7).1
        rw [hW7]
        clear hW7
        have n2 := hkeep m2 (chainB hd3 (chainB (chainB hb4 hb5) (chainB hd6 hd7)))
        have n3 := hkeep m3 (chainB (chainB hb4 hb5) (chainB hd6 hd7))
        have n6 := hkeep m6 hd7
        have HR : Hid (Row7 W7 0 (.slice a4 G.length c4) G ∧ Row7 W7 0 (.slice a5 G.length c5) G ∧ Below w1.heap.size w1 W7) := ⟨owns_le (hr4.below (chainB hb5 (chainB hd6 hd7))) (Nat.zero_le _), owns_le (hr5.below (chainB hd6 hd7)) (Nat.zero_le _), hc7⟩
        have n2c0 := cell_of n2 0
        have n2c1 := cell_of n2 1
        have n2c2 := cell_of n2 2
        have n2c3 := cell_of n2 3
        have n2c4 := cell_of n2 4
        have n2c5 := cell_of n2 5
        have n2c6 := cell_of n2 6
        simp at n2c0 n2c1 n2c2 n2c3 n2c4 n2c5 n2c6
        have n3c0 := cell_of n3 0
        have n3c1 := cell_of n3 1
        have n3c2 := cell_of n3 2
        have n3c3 := cell_of n3 3
        have n3c4 := cell_of n3 4
        have n3c5 := cell_of n3 5
        have n3c6 := cell_of n3 6
        simp at n3c0 n3c1 n3c2 n3c3 n3c4 n3c5 n3c6
        have n6c0 := cell_of n6 0
        have n6c1 := cell_of n6 1
        have n6c2 := cell_of n6 2
        have n6c3 := cell_of n6 3
        have n6c4 := cell_of n6 4
        have n6c5 := cell_of n6 5
        have n6c6 := cell_of n6 6
        simp at n6c0 n6c1 n6c2 n6c3 n6c4 n6c5 n6c6
        have m7c0 := cell_of m7 0
        have m7c1 := cell_of m7 1
        have m7c2 := cell_of m7 2
        have m7c3 := cell_of m7 3
        have m7c4 := cell_of m7 4
        have m7c5 := cell_of m7 5
        have m7c6 := cell_of m7 6
        simp at m7c0 m7c1 m7c2 m7c3 m7c4 m7c5 m7c6
        have heE : eqEn e e = true := (eqEn_iff e e).2 rfl
        have heF : eqEn f f = true := (eqEn_iff f f).2 rfl
        clear hb2 hb3 hb4 hb5 hb6 hb7 hd3 hd6 hd7 hc2 hc3 hc4 hc5 hc6 hc7 hr4 hr5 m2 m3 m6 m7 n2 n3 n6
        go_wp2_with (go_at_call 13; refine (same_yes HR.out.1 HR.out.2.1 HBo.out.few).mono ?_; rintro x w8 ⟨rfl, hb8⟩; have n6d0 := (hb8.cell (cellLt n6c0)).trans n6c0; have n6d1 := (hb8.cell (cellLt n6c1)).trans n6c1; have n6d2 := (hb8.cell (cellLt n6c2)).trans n6c2; have n6d3 := (hb8.cell (cellLt n6c3)).trans n6c3; have n6d4 := (hb8.cell (cellLt n6c4)).trans n6c4; have n6d5 := (hb8.cell (cellLt n6c5)).trans n6c5; have n6d6 := (hb8.cell (cellLt n6c6)).trans n6c6; have m7d0 := (hb8.cell (cellLt m7c0)).trans m7c0; have m7d1 := (hb8.cell (cellLt m7c1)).trans m7c1; have m7d2 := (hb8.cell (cellLt m7c2)).trans m7c2; have m7d3 := (hb8.cell (cellLt m7c3)).trans m7c3; have m7d4 := (hb8.cell (cellLt m7c4)).trans m7c4; have m7d5 := (hb8.cell (cellLt m7c5)).trans m7c5; have m7d6 := (hb8.cell (cellLt m7c6)).trans m7c6)
        exact ⟨⟨k + 1, by omega, by simp, chainB HR.out.2.2 hb8⟩, by simp [intOf]; omega⟩
    · obtain rfl : k = 8 := by omega
      have HT2 : Hid (Twin w wr t s ops.length d D) := HT.out.below hb
      go_wp2_with (first
        | (go_at_call 14; refine (like_p HT2.out).mono ?_; rintro x w2 ⟨rfl, hb2⟩)
        | (go_at_call 15; refine (HAw.out _).mono ?_; rintro x w3 ⟨rfl, hb3⟩))
      go_ret
      exact ⟨rfl, chainB (chainB HT2.out.one.bel hb2) hb3⟩
end
end Go.Proofs.Ytmacicpeimlloaa
