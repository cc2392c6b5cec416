/- PruneWhole. -/
import Derived.Test.YtepgiicbcalkdaaJPOom33
namespace Go.Proofs.Ytepgiicbcalkdaa
section
open Go.RowKit
attribute [local go_sem ↓ high] loadEn storeEn
attribute [local go_sem high] eqK neqK guardK

theorem wf_hi {z : Int} (h : (Lit.int .i64 z).wf = true) : z ≤ 9223372036854775807 := by
  have a1 : IntKind.i64.min = -9223372036854775808 := rfl
  have a2 : IntKind.i64.max = 9223372036854775807 := rfl
  simp only [Lit.wf, Bool.and_eq_true, decide_eq_true_eq] at h
  omega
/-- a directory that is whole behind was whole ahead, and has its names -/
def StaysW (d : Int) (s s' : Cs) : Prop := KeysOk s'.L ∧ (d ∈ s'.W → d ∈ s.W ∧ nameL s'.L d = nameL s.L d)
theorem StaysW.trans {d : Int} {s s' s'' : Cs} (h : StaysW d s s') (h' : StaysW d s' s'') : StaysW d s s'' :=
  ⟨h'.1, fun hd => ⟨(h.2 (h'.2 hd).1).1, (h'.2 hd).2.trans (h.2 (h'.2 hd).1).2⟩⟩
theorem staysW_evict {s : Cs} (hk : KeysOk s.L) (k : Ky) (d : Int) : StaysW d s (s.evict k) := by
  unfold Cs.evict
  cases hg : getL s.L k with
  | none => exact ⟨hk, fun h => ⟨h, rfl⟩⟩
  | some e =>
    refine ⟨hk.filter _, fun hd => ?_⟩
    have he := hk.get.1 hg
    have hd : d ∈ (if e.neg = true then s.W else partW s.W k.d) := hd
    have key : (e.neg = true ∨ e.d ≠ d) → nameL (outL s.L k) d = nameL s.L d := fun hx => by
      unfold nameL outL
      rw [List.filter_filter]
      refine List.filter_congr fun x hxm => ?_
      cases hh : hasK k x with
      | false => simp
      | true =>
        have h2 := hasK_iff.1 hh
        have : getL s.L k = some x := hk.get.2 ⟨hxm, h2.1, h2.2⟩
        rw [hg] at this
        injection this with this
        subst this
        rcases hx with hx | hx
        · simp [hx]
        · simp [hx]
    show d ∈ s.W ∧ nameL (outL s.L k) d = nameL s.L d
    cases hn : e.neg with
    | true =>
      rw [hn, if_pos rfl] at hd
      exact ⟨hd, key (.inl hn)⟩
    | false =>
      rw [hn, if_neg (by decide)] at hd
      have h3 := mem_partW.1 hd
      exact ⟨h3.1, key (.inr fun h => h3.2 (by rw [← he.2.1, h]))⟩
theorem staysW_evN (b : Bool) (d : Int) : ∀ (n : Nat) (s : Cs), KeysOk s.L → StaysW d s (evN b n s).2
  | 0, s, hk => ⟨hk, fun h => ⟨h, rfl⟩⟩
  | n + 1, s, hk => by
    rw [evN]
    cases hv : vicS s b with
    | none => exact ⟨hk, fun h => ⟨h, rfl⟩⟩
    | some e =>
      have h1 := staysW_evict hk e.key d
      exact h1.trans (staysW_evN b d n _ h1.1)
theorem staysW_trim (s : Cs) (most neg d : Int) (hk : KeysOk s.L) : StaysW d s (trimS s most neg).2 := by
  have h1 : StaysW d s (trimA s neg).2 := staysW_evN _ _ _ _ hk
  exact h1.trans (staysW_evN _ _ _ _ h1.1)
set_option maxRecDepth 100000 in
set_option maxHeartbeats 8000000 in
theorem walk_PruneWhole (a : Option Addr) (cap : Nat) (ops : List DOp) (most neg dir : Int) (w : World) (row : RowD w a ops) (hlen : ops.length * 112 ≤ 140737488351232) (w1 : (Lit.int .i64 most).wf = true) (w2 : (Lit.int .i64 neg).wf = true) (_ : (Lit.int .i64 dir).wf = true) :
    Calls Try.prog 6 #[.slice a ops.length cap, .int .i64 most, .int .i64 neg, .int .i64 dir] w fun x w' => x = .returned (.bool true) ∧ Below w.heap.size w w' := by
  have hnb : ops.length < 1290000000000 := by omega
  have hb1 : most ≤ 9223372036854775807 := wf_hi w1
  have hb2 : neg ≤ 9223372036854775807 := wf_hi w2
  have HTr : Hid (Calls Try.prog 17 #[.slice a ops.length cap] w fun x w' => ∃ p m, x = .returned (.tuple #[.pointer (some ⟨p, 0, none⟩), .bool true]) ∧ Ld w w' p (runS (ops.filter upB)) m (fun _ => False) ∧ m ≤ 1290000000000) := (tree_p a cap ops w row hlen).mono fun x w' h => by
    obtain ⟨p, m, h1, h2, h3⟩ := h
    exact ⟨p, m, h1, h2, by omega⟩
  obtain ⟨S, hS⟩ : ∃ S, runS (ops.filter upB) = S := ⟨_, rfl⟩
  rw [hS] at HTr
  obtain ⟨T, hT⟩ : ∃ T, (trimS S most neg).2 = T := ⟨_, rfl⟩
  have HSt : Hid (KeysOk S.L → StaysW dir S T) := fun hk => by rw [← hT]; exact staysW_trim S most neg dir hk
  have HA : Hid (∀ w, Calls Try.prog 16 #[] w fun x w' => x = .returned (.bool true) ∧ Below w.heap.size w w') := awake13_p
  have HWh : Hid (∀ W p m s F, Ld w W p s m F → Calls Try.prog 21 #[.pointer (some ⟨p, 0, none⟩), .int .i64 dir] W fun x w' => x = .returned (.bool (decide (dir ∈ s.W))) ∧ Below W.heap.size W w') := fun W p m s F h => ld_whole h dir
  have HNm : Hid (∀ W p m s F, m ≤ 1290000000000 → Ld w W p s m F → Calls Try.prog 22 #[.pointer (some ⟨p, 0, none⟩), .int .i64 dir] W fun x w' => ∃ v M, x = .returned v ∧ Row7 w' W.heap.size v M ∧ NamesR s.L dir M ∧ M.length ≤ 1290000000000 ∧ Below W.heap.size W w') := fun W p m s F hm h => by
    refine (ld_names h dir (by omega)).mono ?_
    rintro x w' ⟨v, M, rfl, h1, h2, h3⟩
    refine ⟨v, M, rfl, h1, h2, ?_, h3⟩
    have e1 := h2.1.length_eq
    have e2 : (nameL s.L dir).length ≤ s.L.length := List.length_filter_le _ _
    have e3 := h.len
    omega
  have HTm : Hid (∀ W p m F, m ≤ 1290000000000 → Ld w W p S m F → Calls Try.prog 13 #[.pointer (some ⟨p, 0, none⟩), .int .i64 most, .int .i64 neg] W fun r w' => ∃ v, r = .returned v ∧ Ldc w W w' p T m F) := fun W p m F hm h => by
    refine (trim_p h (by omega) most neg hb1 hb2).mono ?_
    rintro r w' ⟨v, rfl, -, h2, -⟩
    rw [hT] at h2
    exact ⟨v, rfl, h2⟩
  have HSe : Hid (∀ W v v' (l : List En) B B', l.length ≤ 1290000000000 → Row7 W B v l → Row7 W B' v' l → Calls Try.prog 23 #[v, v'] W fun r w' => r = .returned (.bool true) ∧ Below W.heap.size W w') := fun W v v' l B B' hl h h' => sameE_yes v v' l B B' W h h' (by omega)
  obtain ⟨b1, hw1⟩ : ∃ b, decide (dir ∈ S.W) = b := ⟨_, rfl⟩
  obtain ⟨b2, hw2⟩ : ∃ b, decide (dir ∈ T.W) = b := ⟨_, rfl⟩
  have HW1 : Hid (∀ W p m F, Ld w W p S m F → Calls Try.prog 21 #[.pointer (some ⟨p, 0, none⟩), .int .i64 dir] W fun x w' => x = .returned (.bool b1) ∧ Below W.heap.size W w') := fun W p m F h => by rw [← hw1]; exact HWh.out W p m S F h
  have HW2 : Hid (∀ W p m F, Ld w W p T m F → Calls Try.prog 21 #[.pointer (some ⟨p, 0, none⟩), .int .i64 dir] W fun x w' => x = .returned (.bool b2) ∧ Below W.heap.size W w') := fun W p m F h => by rw [← hw2]; exact HWh.out W p m T F h
  have HBb : Hid (KeysOk S.L → b2 = true → b1 = true ∧ nameL T.L dir = nameL S.L dir) := fun hk h => by
    have h3 := (HSt.out hk).2 (by rw [← hw2] at h; exact of_decide_eq_true h)
    exact ⟨by rw [← hw1]; exact decide_eq_true h3.1, h3.2⟩
  clear hw1 hw2 HWh HSt hT hS row hlen hnb hb1 hb2
  cases b2 with
  | false =>
    go_enter Try.func6, Try.ntmps6
    go_wp2_with (first
      | (go_at_call 16; have z := H5; refine (HA.out w5).mono ?_; rintro r w6 ⟨rfl, hb⟩; have H6 : Hid (Below w.heap.size w w6) := chainB H5.out.ld.below hb; clear hb z)
      | (go_at_call 21; first
        | (have z := H4; refine (HW2.out w4 p m _ H4.out.ld).mono ?_; rintro r w5 ⟨rfl, hb⟩; have H5 : Hid (Ei w w1 w5 p T m (fun _ => False) (New (New (fun _ => False) w1 w3) w4 w5)) := H4.out.on hb; clear hb z)
        | (have z := H1; refine (HW1.out w1 p m _ H1.out.1.ld).mono ?_; rintro r w2 ⟨rfl, hb⟩; have H2 : Hid (Below w1.heap.size w1 w2) := hb; clear hb z))
      | (go_at_call 13; have z := H3; refine (HTm.out w3 p m _ H1.out.2 H3.out.1.ld).mono ?_; rintro r w4 ⟨v4, rfl, hl⟩; have H4 : Hid (Ei w w1 w4 p T m (fun _ => False) (New (fun _ => False) w1 w3)) := H3.out.1.gone hl; clear hl z)
      | (go_at_call 22; have z := H2; refine (HNm.out w2 p m S _ H1.out.2 (H1.out.1.on H2.out).ld).mono ?_; rintro r w3 ⟨v3, M3, rfl, hr, hM, hl, hb⟩; have H3 : Hid (Ei w w1 w3 p S m (fun _ => False) (New (fun _ => False) w1 w3) ∧ KeysOk S.L) := ⟨H1.out.1.on (chainB H2.out hb), H1.out.1.ld.keys⟩; clear hr hM hl hb z)
      | (go_at_call 17; refine HTr.out.mono ?_; rintro r w1 ⟨p, m, rfl, hl, hm⟩; have H1 : Hid (Ei w w1 w1 p S m (fun _ => False) (fun _ => False) ∧ m ≤ 1290000000000) := ⟨Ei.start hl, hm⟩; clear hl hm))
    go_ret
    exact ⟨rfl, H6.out⟩
  | true =>
    have HN2 : Hid (∀ W p m F M3, m ≤ 1290000000000 → Ld w W p T m F → KeysOk S.L → NamesR S.L dir M3 → Calls Try.prog 22 #[.pointer (some ⟨p, 0, none⟩), .int .i64 dir] W fun x w' => ∃ v, x = .returned v ∧ Row7 w' W.heap.size v M3 ∧ Below W.heap.size W w') := fun W p m F M3 hm h hk h3 => by
      refine (HNm.out W p m T F hm h).mono ?_
      rintro x w' ⟨v, M, rfl, h1, h2, -, h4⟩
      have h5 : NamesR S.L dir M := by
        unfold NamesR at h2 ⊢
        rw [← (HBb.out hk rfl).2]; exact h2
      have e : M = M3 := NamesR.same h5 h3
      rw [e] at h1
      exact ⟨v, rfl, h1, h4⟩
    cases b1 with
    | true =>
      go_enter Try.func6, Try.ntmps6
      go_wp2_with (first
        | (go_at_call 16; have z := H7; refine (HA.out w7).mono ?_; rintro r w8 ⟨rfl, hb⟩; have H8 : Hid (Below w.heap.size w w8) := chainB H7.out hb; clear hb z)
        | (go_at_call 23; have z := H6; refine (HSe.out w6 v6 v3 M3 _ _ H6.out.2.2.2 H6.out.2.1 H6.out.2.2.1).mono ?_; rintro r w7 ⟨rfl, hb⟩; have H7 : Hid (Below w.heap.size w w7) := chainB H6.out.1 hb; clear hb z)
        | (go_at_call 21; first
          | (have z := H4; refine (HW2.out w4 p m _ H4.out.1.ld).mono ?_; rintro r w5 ⟨rfl, hb⟩; have H5 : Hid (Ei w w1 w5 p T m (fun _ => False) (New (New (fun _ => False) w1 w3) w4 w5) ∧ Row7 w5 w2.heap.size v3 M3) := ⟨H4.out.1.on hb, owns_below H4.out.2 hb⟩; clear hb z)
          | (have z := H1; refine (HW1.out w1 p m _ H1.out.1.ld).mono ?_; rintro r w2 ⟨rfl, hb⟩; have H2 : Hid (Below w1.heap.size w1 w2) := hb; clear hb z))
        | (go_at_call 13; have z := H3; refine (HTm.out w3 p m _ H1.out.2 H3.out.1.ld).mono ?_; rintro r w4 ⟨v4, rfl, hl⟩; have H4 : Hid (Ei w w1 w4 p T m (fun _ => False) (New (fun _ => False) w1 w3) ∧ Row7 w4 w2.heap.size v3 M3) := ⟨H3.out.1.gone hl, owns_moved H3.out.2.2.1 fun k hk => hl.kept k (.inr (H3.out.2.2.2.1 k hk))⟩; clear hl z)
        | (go_at_call 22; first
          | (have z := H5; refine (HN2.out w5 p m _ M3 H1.out.2 H5.out.1.ld H3.out.2.1 H3.out.2.2.2.2.1).mono ?_; rintro r w6 ⟨v6, rfl, hr, hb⟩; have H6 : Hid (Below w.heap.size w w6 ∧ Row7 w6 w5.heap.size v6 M3 ∧ Row7 w6 w2.heap.size v3 M3 ∧ M3.length ≤ 1290000000000) := ⟨chainB H5.out.1.ld.below hb, hr, owns_below H5.out.2 hb, H3.out.2.2.2.2.2⟩; clear hr hb z)
          | (have z := H2; refine (HNm.out w2 p m S _ H1.out.2 (H1.out.1.on H2.out).ld).mono ?_; rintro r w3 ⟨v3, M3, rfl, hr, hM, hl, hb⟩; have H3 : Hid (Ei w w1 w3 p S m (fun _ => False) (New (fun _ => False) w1 w3) ∧ KeysOk S.L ∧ Row7 w3 w2.heap.size v3 M3 ∧ (∀ k, v3.ownBlock = some k → New (fun _ => False) w1 w3 k) ∧ NamesR S.L dir M3 ∧ M3.length ≤ 1290000000000) := ⟨H1.out.1.on (chainB H2.out hb), H1.out.1.ld.keys, hr, fun k hk => .inr ⟨Nat.le_trans H2.out.size (World.ownsRow.lt hr k hk).1, (World.ownsRow.lt hr k hk).2⟩, hM, hl⟩; clear hr hM hl hb z))
        | (go_at_call 17; refine HTr.out.mono ?_; rintro r w1 ⟨p, m, rfl, hl, hm⟩; have H1 : Hid (Ei w w1 w1 p S m (fun _ => False) (fun _ => False) ∧ m ≤ 1290000000000) := ⟨Ei.start hl, hm⟩; clear hl hm))
      go_ret
      exact ⟨rfl, H8.out⟩
    | false =>
      have HNo : Hid (KeysOk S.L → False) := fun hk => by have := (HBb.out hk rfl).1; cases this
      go_enter Try.func6, Try.ntmps6
      go_wp2_with (go_at_call 17; refine HTr.out.mono ?_; rintro r w1 ⟨p, m, rfl, hl, hm⟩; exact (HNo.out hl.keys).elim)
end
end Go.Proofs.Ytepgiicbcalkdaa
