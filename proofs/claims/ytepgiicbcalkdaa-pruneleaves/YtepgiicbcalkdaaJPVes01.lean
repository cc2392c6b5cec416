/- PruneLeaves. -/
import Derived.Test.YtepgiicbcalkdaaJPVes00
namespace Go.Proofs.Ytepgiicbcalkdaa
section
open Go.RowKit
attribute [local go_sem ↓ high] loadEn storeEn
attribute [local go_sem high] eqK neqK guardK

/-- what went and is no Neg had nothing below it then, and nothing of it stays -/
def GoneB (s s' : Cs) : Prop := KeysOk s'.L ∧ (∀ x ∈ s'.L, x ∈ s.L) ∧ ∀ e ∈ s.L, e ∉ s'.L → e.neg = false → ∀ x ∈ s'.L, x.d ≠ e.id
theorem GoneB.trans {s s' s'' : Cs} (h : GoneB s s') (h' : GoneB s' s'') : GoneB s s'' :=
  ⟨h'.1, fun x hx => h.2.1 x (h'.2.1 x hx), fun e he hn hg x hx => by
    by_cases h1 : e ∈ s'.L
    · exact h'.2.2 e h1 hn hg x hx
    · exact h.2.2 e he h1 hg x (h'.2.1 x hx)⟩
theorem goneB_refl {s : Cs} (hk : KeysOk s.L) : GoneB s s := ⟨hk, fun _ hx => hx, fun _ he hn => (hn he).elim⟩
theorem goneB_evict {s : Cs} (hk : KeysOk s.L) {b : Bool} {v : En} (hv : vicS s b = some v) : GoneB s (s.evict v.key) := by
  have hvm : v ∈ s.L := List.mem_of_find?_eq_some hv
  have hvp : mayB b s.L v = true := List.find?_some hv
  refine ⟨by rw [evict_L]; exact hk.filter _, fun x hx => ?_, fun e he hn hg x hx => ?_⟩
  · rw [evict_L] at hx
    exact (mem_outL.1 hx).1
  · rw [evict_L] at hx hn
    have hek : e.d = v.d ∧ e.nm = v.nm := by
      by_cases hh : e.d = v.key.d ∧ e.nm = v.key.nm
      · exact hh
      · exact (hn (mem_outL.2 ⟨he, hh⟩)).elim
    have hev : e = v := key_inj hk he hvm (by unfold En.key; rw [hek.1, hek.2])
    subst hev
    cases b with
    | true =>
      have : e.neg = true := hvp
      rw [hg] at this; cases this
    | false =>
      have h1 : leafB s.L e.key = true := hvp
      have h2 := (leaf_iff hk he).1 h1 x (mem_outL.1 hx).1
      unfold idOf at h2
      rw [hg] at h2
      exact h2
theorem goneB_evN (b : Bool) : ∀ (n : Nat) (s : Cs), KeysOk s.L → GoneB s (evN b n s).2
  | 0, s, hk => goneB_refl hk
  | n + 1, s, hk => by
    rw [evN]
    cases hv : vicS s b with
    | none => exact goneB_refl hk
    | some e =>
      have h1 := goneB_evict hk hv
      exact h1.trans (goneB_evN b n _ h1.1)
theorem goneB_trim (s : Cs) (most neg : Int) (hk : KeysOk s.L) : GoneB s (trimS s most neg).2 := by
  have h1 : GoneB s (trimA s neg).2 := goneB_evN _ _ _ hk
  exact h1.trans (goneB_evN _ _ _ h1.1)
set_option maxRecDepth 20000 in
set_option maxHeartbeats 4000000 in
theorem has_p (v : Value) (B : Nat) (M : List En) (k : Ky) (w : World) (h : Row7 w B v M) (hl : M.length ≤ 1400000000000) :
    Calls Try.prog 20 #[v, .agg #[.int .i64 k.d, .string k.nm]] w fun r w' => r = .returned (.bool (M.any (hasK k))) ∧ Below w.heap.size w w' := by
  obtain ⟨a, cap, rfl⟩ := owns_len h
  obtain ⟨n, hn⟩ : ∃ n, M.length = n := ⟨_, rfl⟩
  obtain ⟨W, hW⟩ : ∃ W, w.alloc (.cells #[.int .i64 k.d, .string k.nm] 28) = W := ⟨_, rfl⟩
  have bW := boxO hW
  have HR : Hid (Row7 W B (.slice a n cap) M ∧ M.length = n ∧ Below w.heap.size w W ∧ W.heap[w.heap.size]? = some (.cells #[.int .i64 k.d, .string k.nm] 28 (0, 0))) := ⟨by rw [← hn]; exact owns_below h bW.2.1, hn, bW.2.1, bW.1⟩
  rw [hn] at hl ⊢
  clear h hn bW
  go_enter Try.func20, Try.ntmps20
  go_wp2
  go_loopw [5] (fun s5 wr => ∃ i : Nat, i ≤ n ∧ s5 = .int .i64 (i : Int) ∧ Hid ((∀ x ∈ M.take i, hasK k x = false) ∧ Below W.heap.size W wr)) (fun s5 _ => n - (intOf s5).toNat)
  case atStart => exact ⟨0, Nat.zero_le _, rfl, fun x hx => by simp at hx, Below.refl _ _⟩
  case round =>
    obtain ⟨i, hi, rfl, HJ⟩ := hrel
    have hkb := hkeep HR.out.2.2.2 HJ.out.2
    have kb0 : wr.cell? ⟨w.heap.size, 0, none⟩ = some (.int .i64 k.d) := by rw [cell_of hkb]; rfl
    have kb1 : wr.cell? ⟨w.heap.size, 1, none⟩ = some (.string k.nm) := by rw [cell_of hkb]; rfl
    have HZ : Hid (Below w.heap.size w wr) := chainB HR.out.2.2.1 HJ.out.2
    by_cases hlt : i < n
    · have hltz : (i : Int) < (n : Int) := by omega
      obtain ⟨x, hx⟩ : ∃ x, M[i]? = some x := ⟨_, List.getElem?_eq_getElem (by rw [HR.out.2.1]; exact hlt)⟩
      obtain ⟨g, rfl, -, -, -, hc, -⟩ := owns_entry (HR.out.1.below HJ.out.2) hx
      have c0 := hc.c0
      have c1 := hc.c1
      obtain ⟨b, hb⟩ : ∃ b, hasK k x = b := ⟨_, rfl⟩
      have Hx : Hid (M[i]? = some x ∧ hasK k x = b) := ⟨hx, hb⟩
      cases b with
      | true =>
        obtain ⟨e1, e2⟩ := hasK_iff.1 hb
        rw [e1] at c0
        rw [e2] at c1
        have HE : Hid (M.any (hasK k) = true) := List.any_eq_true.2 ⟨x, List.mem_of_getElem? hx, hb⟩
        clear hx hb hc hkb e1 e2
        go_upto_region 4 with fail
        go_quiet (fail)
        go_wp2
        go_ret
        exact ⟨by rw [HE.out]; rfl, below_drewN HZ.out _⟩
      | false =>
        have hd : decide (x.d = k.d ∧ x.nm = k.nm) = false := by
          rw [decide_eq_false_iff_not]
          intro hh
          rw [hasK_iff.2 hh] at hb; cases hb
        have HE : Hid (∀ y ∈ M.take (i + 1), hasK k y = false) := fun y hy => by
          rw [List.take_add_one, Hx.out.1, List.mem_append] at hy
          rcases hy with hy | hy
          · exact HJ.out.1 y hy
          · simp at hy; rw [hy]; exact Hx.out.2
        clear hx hb hc hkb
        go_upto_region 4 with fail
        go_quiet (fail)
        go_wp2
        go_roundw
        case rel => exact ⟨i + 1, by omega, rfl, HE.out, below_drewN HJ.out.2 _⟩
        case measure => simp [intOf]; omega
    · obtain rfl : i = n := by omega
      have hltz : ¬ (i : Int) < (i : Int) := by omega
      have HE : Hid (M.any (hasK k) = false) := List.any_eq_false.2 fun y hy => by rw [HJ.out.1 y (by rw [List.take_of_length_le (by rw [HR.out.2.1]; exact Nat.le_refl _)]; exact hy)]; decide
      clear hkb HJ
      go_wp2
      go_ret
      exact ⟨by rw [HE.out]; rfl, HZ.out⟩
set_option maxRecDepth 100000 in
set_option maxHeartbeats 8000000 in
theorem walk_PruneLeaves (a : Option Addr) (cap : Nat) (ops : List DOp) (most neg : Int) (w : World) (row : RowD w a ops) (hlen : ops.length * 112 ≤ 140737488351232) (w1 : (Lit.int .i64 most).wf = true) (w2 : (Lit.int .i64 neg).wf = true) :
    Calls Try.prog 5 #[.slice a ops.length cap, .int .i64 most, .int .i64 neg] w fun x w' => x = .returned (.bool true) ∧ Below w.heap.size w w' := by
  have hnb : ops.length < 1290000000000 := by omega
  have hb1 : most ≤ 9223372036854775807 := wf_hi w1
  have hb2 : neg ≤ 9223372036854775807 := wf_hi w2
  have HTr : Hid (Calls Try.prog 17 #[.slice a ops.length cap] w fun x w' => ∃ p m, x = .returned (.tuple #[.pointer (some ⟨p, 0, none⟩), .bool true]) ∧ Ld w w' p (runS (ops.filter upB)) m (fun _ => False) ∧ m ≤ 1290000000000) := (tree_p a cap ops w row hlen).mono fun x w' h => by
    obtain ⟨p, m, h1, h2, h3⟩ := h
    exact ⟨p, m, h1, h2, by omega⟩
  obtain ⟨S, hS⟩ : ∃ S, runS (ops.filter upB) = S := ⟨_, rfl⟩
  rw [hS] at HTr
  obtain ⟨T, hT⟩ : ∃ T, (trimS S most neg).2 = T := ⟨_, rfl⟩
  obtain ⟨ls, hls⟩ : ∃ l, S.L.length = l := ⟨_, rfl⟩
  obtain ⟨lt, hlt⟩ : ∃ l, T.L.length = l := ⟨_, rfl⟩
  have HSt : Hid (KeysOk S.L → ∀ x ∈ S.L, T.L.any (hasK x.key) = false → x.neg = false → ∀ y ∈ T.L, y.d ≠ x.id) := fun hk x hx hh hg => by
    have h1 : GoneB S T := by rw [← hT]; exact goneB_trim S most neg hk
    refine h1.2.2 x hx (fun hm => ?_) hg
    have := List.any_eq_true.2 ⟨x, hm, (hasK_iff (k := x.key)).2 ⟨rfl, rfl⟩⟩
    rw [hh] at this; cases this
  have HA : Hid (∀ w, Calls Try.prog 16 #[] w fun x w' => x = .returned (.bool true) ∧ Below w.heap.size w w') := awake13_p
  have HEs : Hid (∀ W p m F, m ≤ 1290000000000 → Ld w W p S m F → Calls Try.prog 18 #[.pointer (some ⟨p, 0, none⟩)] W fun x w' => ∃ a c, x = .returned (.slice a ls c) ∧ Row7 w' W.heap.size (.slice a ls c) S.L ∧ Below W.heap.size W w' ∧ ls ≤ 1290000000000) := fun W p m F hm h => by
    refine (ld_entries h (by omega)).mono ?_
    rintro x w' ⟨v, rfl, hr, hb⟩
    obtain ⟨a, c, rfl⟩ := owns_len hr
    have := h.len
    rw [hls] at hr ⊢
    exact ⟨a, c, rfl, hr, hb, by omega⟩
  have HEt : Hid (∀ W p m F, m ≤ 1290000000000 → Ld w W p T m F → Calls Try.prog 18 #[.pointer (some ⟨p, 0, none⟩)] W fun x w' => ∃ a c, x = .returned (.slice a lt c) ∧ Row7 w' W.heap.size (.slice a lt c) T.L ∧ Below W.heap.size W w' ∧ lt ≤ 1290000000000) := fun W p m F hm h => by
    refine (ld_entries h (by omega)).mono ?_
    rintro x w' ⟨v, rfl, hr, hb⟩
    obtain ⟨a, c, rfl⟩ := owns_len hr
    have := h.len
    rw [hlt] at hr ⊢
    exact ⟨a, c, rfl, hr, hb, by omega⟩
  have HTm : Hid (∀ W p m F, m ≤ 1290000000000 → Ld w W p S m F → Calls Try.prog 13 #[.pointer (some ⟨p, 0, none⟩), .int .i64 most, .int .i64 neg] W fun r w' => ∃ v, r = .returned v ∧ Ldc w W w' p T m F) := fun W p m F hm h => by
    refine (trim_p h (by omega) most neg hb1 hb2).mono ?_
    rintro r w' ⟨v, rfl, -, h2, -⟩
    rw [hT] at h2
    exact ⟨v, rfl, h2⟩
  have HL : Hid (S.L.length = ls ∧ T.L.length = lt) := ⟨hls, hlt⟩
  have HHs : Hid (∀ W a c B (k : Ky), lt ≤ 1290000000000 → Row7 W B (.slice a lt c) T.L → Calls Try.prog 20 #[.slice a lt c, .agg #[.int .i64 k.d, .string k.nm]] W fun r w' => r = .returned (.bool (T.L.any (hasK k))) ∧ Below W.heap.size W w') := fun W a c B k hl h => has_p _ B T.L k W h (by omega)
  clear hlt hls hT hS row hlen hnb hb1 hb2
  go_enter Try.func5, Try.ntmps5
  go_wp2_with (first
    | (go_at_call 13; have z := H2; refine (HTm.out w2 p m _ H1.out.2 H2.out.1.ld).mono ?_; rintro r w3 ⟨v3, rfl, hl⟩; have H3 : Hid (Ei w w1 w3 p T m (fun _ => False) (New (fun _ => False) w1 w2) ∧ Row7 w3 w1.heap.size (.slice a2 ls c2) S.L) := ⟨H2.out.1.gone hl, owns_moved H2.out.2.1 fun k hk => hl.kept k (.inr (H2.out.2.2.1 k hk))⟩; clear hl z)
    | (go_at_call 18; first
      | (have z := H3; refine (HEt.out w3 p m _ H1.out.2 H3.out.1.ld).mono ?_; rintro r w4 ⟨a4, c4, rfl, hr, hb, hl⟩; have H4 : Hid (Below w.heap.size w w4 ∧ Row7 w4 w1.heap.size (.slice a2 ls c2) S.L ∧ Row7 w4 w3.heap.size (.slice a4 lt c4) T.L) := ⟨chainB H3.out.1.ld.below hb, owns_below H3.out.2 hb, hr⟩; clear hr hb z)
      | (have z := H1; refine (HEs.out w1 p m _ H1.out.2 H1.out.1.ld).mono ?_; rintro r w2 ⟨a2, c2, rfl, hr, hb, hl⟩; have H2 : Hid (Ei w w1 w2 p S m (fun _ => False) (New (fun _ => False) w1 w2) ∧ Row7 w2 w1.heap.size (.slice a2 ls c2) S.L ∧ (∀ k, (Value.slice a2 ls c2).ownBlock = some k → New (fun _ => False) w1 w2 k) ∧ KeysOk S.L) := ⟨H1.out.1.on hb, hr, fun k hk => .inr (World.ownsRow.lt hr k hk), H1.out.1.ld.keys⟩; clear hr hb z))
    | (go_at_call 17; refine HTr.out.mono ?_; rintro r w1 ⟨p, m, rfl, hl, hm⟩; have H1 : Hid (Ei w w1 w1 p S m (fun _ => False) (fun _ => False) ∧ m ≤ 1290000000000) := ⟨Ei.start hl, hm⟩; clear hl hm))
  have HF : Hid (∀ x ∈ S.L, T.L.any (hasK x.key) = false → x.neg = false → ∀ y ∈ T.L, y.d ≠ x.id) := HSt.out H2.out.2.2.2
  have hlb : ls ≤ 1290000000000 := by assumption
  have hlb' : lt ≤ 1290000000000 := by assumption
  clear HSt HEs HEt HTm HTr
  go_loopw [11, 12] (fun s11 _ wr => ∃ i : Nat, i ≤ ls ∧ s11 = .int .i64 (i : Int) ∧ Hid (Below w4.heap.size w4 wr)) (fun s11 _ _ => ls - (intOf s11).toNat)
  case atStart => exact ⟨0, Nat.zero_le _, rfl, Below.refl _ _⟩
  case round =>
    obtain ⟨i, hi, rfl, HJ⟩ := hrel
    have HZ : Hid (Below w.heap.size w wr) := chainB H4.out.1 HJ.out
    by_cases hlt : i < ls
    · have hltz : (i : Int) < (ls : Int) := by omega
      obtain ⟨x, hx⟩ : ∃ x, S.L[i]? = some x := ⟨_, List.getElem?_eq_getElem (by rw [HL.out.1]; exact hlt)⟩
      obtain ⟨g, rfl, -, -, -, hc, -⟩ := owns_entry (H4.out.2.1.below HJ.out) hx
      have c0 := hc.c0
      have c1 := hc.c1
      have c2' := hc.c2
      have c3 := hc.c3
      obtain ⟨b, hb⟩ : ∃ b, T.L.any (hasK x.key) = b := ⟨_, rfl⟩
      have HHx : Hid (Calls Try.prog 20 #[.slice a4 lt c4, .agg #[.int .i64 x.d, .string x.nm]] wr fun r w' => r = .returned (.bool b) ∧ Below wr.heap.size wr w') := by
        rw [← hb]; exact HHs.out wr a4 c4 _ x.key hlb' (H4.out.2.2.below HJ.out)
      have Hx : Hid (x ∈ S.L ∧ T.L.any (hasK x.key) = b) := ⟨List.mem_of_getElem? hx, hb⟩
      clear hx hb hc
      cases hneg : x.neg with
      | true =>
        rw [hneg] at c2'
        go_wp2
        go_roundw
        case rel => exact ⟨i + 1, by omega, rfl, HJ.out⟩
        case measure => simp [intOf]; omega
      | false =>
        rw [hneg] at c2'
        cases b with
        | true =>
          go_wp2_with (go_at_call 20; refine HHx.out.mono ?_; rintro r w5 ⟨rfl, hb⟩; have H5 : Hid (Below w4.heap.size w4 w5) := chainB HJ.out hb; clear hb)
          go_roundw
          case rel => exact ⟨i + 1, by omega, rfl, H5.out⟩
          case measure => simp [intOf]; omega
        | false =>
          have HNo : Hid (∀ y ∈ T.L, y.d ≠ x.id) := HF.out x Hx.out.1 Hx.out.2 hneg
          go_wp2_with (go_at_call 20; refine HHx.out.mono ?_; rintro r w5 ⟨rfl, hb⟩; have H5 : Hid (Below w4.heap.size w4 w5) := chainB HJ.out hb; have c5 := (hb.cell (cellLt c3)).trans c3; clear hb)
          clear c0 c1 c2' c3
          go_loopw [12] (fun s12 wr => ∃ k : Nat, k ≤ lt ∧ s12 = .int .i64 (k : Int) ∧ Hid (Below w5.heap.size w5 wr)) (fun s12 _ => lt - (intOf s12).toNat)
          case atStart => exact ⟨0, Nat.zero_le _, rfl, Below.refl _ _⟩
          case round =>
            obtain ⟨k, hk, rfl, HK⟩ := hrel
            have HY : Hid (Below w4.heap.size w4 wr) := chainB H5.out HK.out
            by_cases hlk : k < lt
            · have hlkz : (k : Int) < (lt : Int) := by omega
              obtain ⟨y, hy⟩ : ∃ y, T.L[k]? = some y := ⟨_, List.getElem?_eq_getElem (by rw [HL.out.2]; exact hlk)⟩
              obtain ⟨g4, rfl, -, -, -, hcy, -⟩ := owns_entry (H4.out.2.2.below HY.out) hy
              have d0 := hcy.c0
              have d3 := (HK.out.cell (cellLt c5)).trans c5
              have hne : y.d ≠ x.id := HNo.out y (List.mem_of_getElem? hy)
              have hd : decide (y.d = x.id) = false := decide_eq_false hne
              have hd2 : (y.d == x.id) = false := by simpa using hne
              clear hy hcy
              go_upto_region 14 with fail
              go_quiet (fail)
              go_wp2
              go_roundw
              case rel => exact ⟨k + 1, by omega, rfl, below_drewN HK.out _⟩
              case measure => simp [intOf]; omega
            · obtain rfl : k = lt := by omega
              have hlkz : ¬ (k : Int) < (k : Int) := by omega
              go_wp2
              go_roundw
              case rel => exact ⟨i + 1, by omega, rfl, HY.out⟩
              case measure => simp [intOf]; omega
    · obtain rfl : i = ls := by omega
      have hltz : ¬ (i : Int) < (i : Int) := by omega
      go_wp2_with (go_at_call 16; refine (HA.out wr).mono ?_; rintro r w9 ⟨rfl, hb⟩; have H9 : Hid (Below w.heap.size w w9) := chainB HZ.out hb; clear hb)
      go_ret
      exact ⟨rfl, H9.out⟩
end
end Go.Proofs.Ytepgiicbcalkdaa
