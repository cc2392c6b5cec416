/- PruneTrims. -/
import Derived.Test.YtabdicbmecgogaaJPIms02
import Derived.Test.YtabdicbmecgogaaJPEpt35
namespace Go.Proofs.Ytabdicbmecgogaa
section
open Go.RowKit
attribute [local go_sem high] eqK neqK guardK

theorem sameK_same (v v' : Value) (l : List Ky) (base base' : Nat) (w : World) (h : RowK w base v l) (h' : RowK w base' v' l) (hl : l.length ≤ 140737488351232) :
    Calls Try.prog 9 #[v, v'] w fun e w' => e = .returned (.bool true) ∧ Below w.heap.size w w' := by
  obtain ⟨a, cap, rfl⟩ := owns_len h
  obtain ⟨a', cap', rfl⟩ := owns_len h'
  obtain ⟨n, hn⟩ : ∃ n, l.length = n := ⟨_, rfl⟩
  rw [hn] at hl
  have HC : Hid (RowK w base (.slice a n cap) l ∧ RowK w base' (.slice a' n cap') l ∧ l.length = n) := ⟨by rw [← hn]; exact h, by rw [← hn]; exact h', hn⟩
  rw [hn]
  clear h h' hn
  go_enter Try.func9, Try.ntmps9
  go_wp2
  go_loopw [5] (fun i wr => ∃ k : Nat, k ≤ n ∧ i = .int .i64 k ∧ Below w.heap.size w wr) (fun i _ => n - (intOf i).toNat)
  case atStart => exact ⟨0, Nat.zero_le _, rfl, Below.refl _ _⟩
  case round =>
    obtain ⟨k, hk, rfl, hb⟩ := hrel
    by_cases hlt : k < n
    · obtain ⟨e, he⟩ : ∃ x, l[k]? = some x := ⟨_, List.getElem?_eq_getElem (by rw [HC.out.2.2]; exact hlt)⟩
      obtain ⟨g, rfl, -, -, x0, x1, -⟩ := (HC.out.1.below hb).key he
      obtain ⟨g', rfl, -, -, y0, y1, -⟩ := (HC.out.2.1.below hb).key he
      have hki : (k : Int) < (n : Int) := by omega
      clear he
      go_upto_region 6 with fail
      go_quiet (fail)
      go_wp2
      exact ⟨⟨k + 1, by omega, by simp, below_drewN hb _⟩, by simp [intOf]; omega⟩
    · obtain rfl : k = n := by omega
      have hki : ¬ (k : Int) < (k : Int) := by omega
      go_wp2
      go_ret
      exact ⟨rfl, hb⟩
/-- what Victim answers, by parts -/
def vicD : Option En → Int
  | none => 0
  | some x => x.d
def vicN : Option En → ByteArray
  | none => ⟨#[]⟩
  | some x => x.nm
theorem vicV_is (o : Option En) : vicV o = .tuple #[.agg #[.int .i64 (vicD o), .string (vicN o)], .bool o.isSome] := by cases o <;> rfl
set_option maxRecDepth 100000 in
set_option maxHeartbeats 8000000 in
theorem walk_PruneTrims (a : Option Addr) (cap : Nat) (ops : List DOp) (most neg : Int) (w : World) (row : RowD w a ops) (hlen : ops.length * 112 ≤ 140737488351232) (w1 : (Lit.int .i64 most).wf = true) (w2 : (Lit.int .i64 neg).wf = true) :
    Calls Try.prog 3 #[.slice a ops.length cap, .int .i64 most, .int .i64 neg] w fun x w' => x = .returned (.bool true) ∧ Below w.heap.size w w' := by
  obtain ⟨n, hn⟩ : ∃ n, ops.length = n := ⟨_, rfl⟩
  have hnb : n < 1290000000000 := by omega
  have hb1 : most ≤ 9223372036854775807 := wf_hi13 w1
  have hb2 : neg ≤ 9223372036854775807 := wf_hi13 w2
  obtain ⟨S, hS⟩ : ∃ S, runS ops = S := ⟨_, rfl⟩
  have HO : Hid (Calls Try.prog 6 #[.slice a n cap] w fun x w2 => ∃ p q, x = .returned (.tuple #[.pointer (some ⟨p, 0, none⟩), .pointer (some ⟨q, 0, none⟩), .bool true]) ∧ Tw w w2 p q S S n (fun _ => False)) := by
    rw [← hn, ← hS]
    exact of_p a cap ops w row (by omega)
  have hSn : S.L.length ≤ n := by rw [← hS, ← hn]; exact (runS_len ops).1
  have HA : Hid (∀ w, Calls Try.prog 13 #[] w fun x w' => x = .returned (.bool true) ∧ Below w.heap.size w w') := awake13_p
  have htl := trimS_len S most neg
  obtain ⟨T, hT⟩ : ∃ T, (trimS S most neg).2 = T := ⟨_, rfl⟩
  obtain ⟨G, hG⟩ : ∃ G, (trimS S most neg).1 = G := ⟨_, rfl⟩
  rw [hG] at htl
  obtain ⟨N, hN⟩ : ∃ N, G.length = N := ⟨_, rfl⟩
  have hNb : N ≤ 2800000000000 := by omega
  have HVp : Hid (∀ W p q b, Tw w W p q S S n (fun _ => False) → Calls Try.prog 7 #[.pointer (some ⟨p, 0, none⟩), .bool b] W fun r w' => r = .returned (.tuple #[.agg #[.int .i64 (vicD (vicS S b)), .string (vicN (vicS S b))], .bool (vicS S b).isSome]) ∧ Tw w w' p q S S n (fun _ => False)) := fun W p q b h => by
    rw [← vicV_is]
    cases b with
    | true => exact (vicT_p h.ld (by omega)).mono fun r w' hh => ⟨hh.1, h.on' hh.2⟩
    | false => exact (vicF_p h.ld (by omega)).mono fun r w' hh => ⟨hh.1, h.on' hh.2⟩
  have HVd : Hid (∀ W p q b, Tw w W p q S S n (fun _ => False) → Calls Try.prog 8 #[.pointer (some ⟨q, 0, none⟩), .bool b] W fun r w' => r = .returned (.tuple #[.agg #[.int .i64 (vicD (vicS S b)), .string (vicN (vicS S b))], .bool (vicS S b).isSome]) ∧ Tw w w' p q S S n (fun _ => False) ∧ Below W.heap.size W w') := fun W p q b h => by
    rw [← vicV_is]
    obtain ⟨k, h1, -, -⟩ := h.ex
    exact (rvic_d b _ q k S W h1 (by have := h.lt; omega)).mono fun r w' hh => ⟨hh.1, h.on' hh.2, hh.2⟩
  have HTm : Hid (∀ W p q, Tw w W p q S S n (fun _ => False) → Calls Try.prog 10 #[.pointer (some ⟨p, 0, none⟩), .int .i64 most, .int .i64 neg] W fun r w' => ∃ a c, r = .returned (.slice a N c) ∧ Tw w w' p q T S n (fun b => (Value.slice a N c).ownBlock = some b) ∧ RowK w' W.heap.size (.slice a N c) G ∧ w.heap.size ≤ W.heap.size ∧ KeysOk S.L) := fun W p q h => by
    refine (tw_trim h (by omega) most neg hb1 hb2).mono ?_
    rintro r w' ⟨v, rfl, hr, -, ht⟩
    rw [hG] at hr
    rw [hT] at ht
    obtain ⟨a, c, rfl⟩ := owns_len hr
    rw [hN] at hr ht ⊢
    exact ⟨a, c, rfl, ht.mono (fun _ hb => .inr hb) (Nat.le_refl _), hr, h.below.size, h.keys⟩
  have HTd : Hid (∀ W p q a c B, Tw w W p q T S n (fun b => (Value.slice a N c).ownBlock = some b) → RowK W B (.slice a N c) G → w.heap.size ≤ B → KeysOk S.L → Calls Try.prog 11 #[.pointer (some ⟨q, 0, none⟩), .int .i64 most, .int .i64 neg] W fun r w' => ∃ a' c', r = .returned (.slice a' N c') ∧ Tw w w' p q T T n (fun _ => False) ∧ RowK w' B (.slice a N c) G ∧ RowK w' W.heap.size (.slice a' N c') G) := fun W p q a c B h hr hB hk => by
    refine (rtrim_d h (fun b hb => Nat.le_trans hB (World.ownsRow.lt hr b hb).1) hk (by omega) most neg).mono ?_
    rintro r w' ⟨v, rfl, hg⟩
    rw [hT, hG] at hg
    obtain ⟨a', c', rfl⟩ := owns_len hg.row
    rw [hN] at hg ⊢
    exact ⟨a', c', rfl, hg.tw.mono (fun _ hb => hb.elim) (Nat.le_refl _), owns_moved hr fun b hb => hg.kept b hb, hg.row⟩
  have HSk : Hid (∀ W a c a' c' B B', RowK W B (.slice a N c) G → RowK W B' (.slice a' N c') G → Calls Try.prog 9 #[.slice a N c, .slice a' N c'] W fun r w' => r = .returned (.bool true) ∧ Below W.heap.size W w') := fun W a c a' c' B B' h h' => sameK_same _ _ G B B' W h h' (by rw [hN]; omega)
  have HLk : Hid (∀ W p q, Tw w W p q T T n (fun _ => False) → Calls Try.prog 12 #[.pointer (some ⟨p, 0, none⟩), .pointer (some ⟨q, 0, none⟩), .slice none 0 0] W fun r w' => r = .returned (.bool true) ∧ Below w.heap.size w w') := fun W p q h => (like_p w W p q T n _ h (by omega) (.slice none 0 0) [] ⟨none, 0, rfl, fun j k hk => by simp at hk⟩ (by simp)).mono fun r w' hh => ⟨hh.1, chainB h.below hh.2⟩
  rw [hn]
  clear row hlen hn hnb hb1 hb2 hSn htl hT hG hN hS
  go_enter Try.func3, Try.ntmps3
  go_wp2_with (go_at_call 6; refine HO.out.mono ?_; rintro r w1 ⟨p, q, rfl, hl⟩; have H1 : Hid (Tw w w1 p q S S n (fun _ => False)) := hl; clear hl)
  go_loopw [10, 11, 12, 13, 14] (fun s10 _ _ _ _ wr => ∃ i : Nat, i ≤ 2 ∧ s10 = .int .i64 (i : Int) ∧ Hid (Tw w wr p q S S n (fun _ => False))) (fun s10 _ _ _ _ _ => 2 - (intOf s10).toNat)
  case atStart => exact ⟨0, Nat.zero_le _, rfl, H1.out⟩
  case round =>
    obtain ⟨i, hi, rfl, HJ⟩ := hrel
    rcases (show i = 0 ∨ i = 1 ∨ i = 2 by omega) with rfl | rfl | rfl
    · obtain ⟨Y, hY⟩ : ∃ Y, vicS S true = Y := ⟨_, rfl⟩
      obtain ⟨yd, hyd⟩ : ∃ y, vicD Y = y := ⟨_, rfl⟩
      obtain ⟨yn, hyn⟩ : ∃ y, vicN Y = y := ⟨_, rfl⟩
      obtain ⟨yb, hyb⟩ : ∃ y, Y.isSome = y := ⟨_, rfl⟩
      have HP1 : Hid (∀ W p q, Tw w W p q S S n (fun _ => False) → Calls Try.prog 7 #[.pointer (some ⟨p, 0, none⟩), .bool true] W fun r w' => r = .returned (.tuple #[.agg #[.int .i64 yd, .string yn], .bool yb]) ∧ Tw w w' p q S S n (fun _ => False)) := fun W p q h => by
        have := HVp.out W p q true h
        rw [hY, hyd, hyn, hyb] at this
        exact this
      have HD1 : Hid (∀ W p q, Tw w W p q S S n (fun _ => False) → Calls Try.prog 8 #[.pointer (some ⟨q, 0, none⟩), .bool true] W fun r w' => r = .returned (.tuple #[.agg #[.int .i64 yd, .string yn], .bool yb]) ∧ Tw w w' p q S S n (fun _ => False) ∧ Below W.heap.size W w') := fun W p q h => by
        have := HVd.out W p q true h
        rw [hY, hyd, hyn, hyb] at this
        exact this
      clear hY hyd hyn hyb
      go_wp2_with (first
        | (go_at_call 8; refine (HD1.out V2 p q H2.out.1).mono ?_; rintro r w3 ⟨rfl, hh, hb⟩; obtain ⟨V3, hV3⟩ : ∃ V, w3.alloc (.cells #[.int .i64 yd, .string yn] 28) = V := ⟨_, rfl⟩; have bV3 := boxO hV3; have H3 : Hid (Tw w V3 p q S S n (fun _ => False)) := hh.on' bV3.2.1; have y0 : V3.cell? ⟨w3.heap.size, 0, none⟩ = some (.int .i64 yd) := (by rw [cell_of bV3.1]; rfl); have y1 : V3.cell? ⟨w3.heap.size, 1, none⟩ = some (.string yn) := (by rw [cell_of bV3.1]; rfl); have hbx := hkeep (hkeep H2.out.2 hb) bV3.2.1; have z0 : V3.cell? ⟨w2.heap.size, 0, none⟩ = some (.int .i64 yd) := (by rw [cell_of hbx]; rfl); have z1 : V3.cell? ⟨w2.heap.size, 1, none⟩ = some (.string yn) := (by rw [cell_of hbx]; rfl); clear hh hb bV3 hbx)
        | (go_at_call 7; refine (HP1.out wr p q HJ.out).mono ?_; rintro r w2 ⟨rfl, hh⟩; obtain ⟨V2, hV2⟩ : ∃ V, w2.alloc (.cells #[.int .i64 yd, .string yn] 28) = V := ⟨_, rfl⟩; have bV2 := boxO hV2; have H2 : Hid (Tw w V2 p q S S n (fun _ => False) ∧ V2.heap[w2.heap.size]? = some (.cells #[.int .i64 yd, .string yn] 28 (0, 0))) := ⟨hh.on' bV2.2.1, bV2.1⟩; clear hh bV2))
      go_roundw
      case rel => exact ⟨1, by omega, rfl, H3.out⟩
      case measure => simp [intOf]
    · obtain ⟨Y, hY⟩ : ∃ Y, vicS S false = Y := ⟨_, rfl⟩
      obtain ⟨yd, hyd⟩ : ∃ y, vicD Y = y := ⟨_, rfl⟩
      obtain ⟨yn, hyn⟩ : ∃ y, vicN Y = y := ⟨_, rfl⟩
      obtain ⟨yb, hyb⟩ : ∃ y, Y.isSome = y := ⟨_, rfl⟩
      have HP1 : Hid (∀ W p q, Tw w W p q S S n (fun _ => False) → Calls Try.prog 7 #[.pointer (some ⟨p, 0, none⟩), .bool false] W fun r w' => r = .returned (.tuple #[.agg #[.int .i64 yd, .string yn], .bool yb]) ∧ Tw w w' p q S S n (fun _ => False)) := fun W p q h => by
        have := HVp.out W p q false h
        rw [hY, hyd, hyn, hyb] at this
        exact this
      have HD1 : Hid (∀ W p q, Tw w W p q S S n (fun _ => False) → Calls Try.prog 8 #[.pointer (some ⟨q, 0, none⟩), .bool false] W fun r w' => r = .returned (.tuple #[.agg #[.int .i64 yd, .string yn], .bool yb]) ∧ Tw w w' p q S S n (fun _ => False) ∧ Below W.heap.size W w') := fun W p q h => by
        have := HVd.out W p q false h
        rw [hY, hyd, hyn, hyb] at this
        exact this
      clear hY hyd hyn hyb
      go_wp2_with (first
        | (go_at_call 8; refine (HD1.out V2 p q H2.out.1).mono ?_; rintro r w3 ⟨rfl, hh, hb⟩; obtain ⟨V3, hV3⟩ : ∃ V, w3.alloc (.cells #[.int .i64 yd, .string yn] 28) = V := ⟨_, rfl⟩; have bV3 := boxO hV3; have H3 : Hid (Tw w V3 p q S S n (fun _ => False)) := hh.on' bV3.2.1; have y0 : V3.cell? ⟨w3.heap.size, 0, none⟩ = some (.int .i64 yd) := (by rw [cell_of bV3.1]; rfl); have y1 : V3.cell? ⟨w3.heap.size, 1, none⟩ = some (.string yn) := (by rw [cell_of bV3.1]; rfl); have hbx := hkeep (hkeep H2.out.2 hb) bV3.2.1; have z0 : V3.cell? ⟨w2.heap.size, 0, none⟩ = some (.int .i64 yd) := (by rw [cell_of hbx]; rfl); have z1 : V3.cell? ⟨w2.heap.size, 1, none⟩ = some (.string yn) := (by rw [cell_of hbx]; rfl); clear hh hb bV3 hbx)
        | (go_at_call 7; refine (HP1.out wr p q HJ.out).mono ?_; rintro r w2 ⟨rfl, hh⟩; obtain ⟨V2, hV2⟩ : ∃ V, w2.alloc (.cells #[.int .i64 yd, .string yn] 28) = V := ⟨_, rfl⟩; have bV2 := boxO hV2; have H2 : Hid (Tw w V2 p q S S n (fun _ => False) ∧ V2.heap[w2.heap.size]? = some (.cells #[.int .i64 yd, .string yn] 28 (0, 0))) := ⟨hh.on' bV2.2.1, bV2.1⟩; clear hh bV2))
      go_roundw
      case rel => exact ⟨2, by omega, rfl, H3.out⟩
      case measure => simp [intOf]
    · go_wp2_with (first
        | (go_at_call 13; refine (HA.out _).mono ?_; rintro r w9 ⟨rfl, hb⟩; have H9 : Hid (Below w.heap.size w w9) := chainB H8.out hb; clear hb)
        | (go_at_call 12; refine (HLk.out w7 p q H7.out).mono ?_; rintro r w8 ⟨rfl, hb⟩; have H8 : Hid (Below w.heap.size w w8) := hb; clear hb)
        | (go_at_call 9; refine (HSk.out w6 _ _ _ _ _ _ H6.out.2.1 H6.out.2.2).mono ?_; rintro r w7 ⟨rfl, hb⟩; have H7 : Hid (Tw w w7 p q T T n (fun _ => False)) := H6.out.1.on' hb; clear hb)
        | (go_at_call 11; refine (HTd.out w5 p q a5 c5 _ H5.out.1 H5.out.2.1 H5.out.2.2.1 H5.out.2.2.2).mono ?_; rintro r w6 ⟨a6, c6, rfl, ht, hr, hr'⟩; have H6 : Hid (Tw w w6 p q T T n (fun _ => False) ∧ RowK w6 wr.heap.size (.slice a5 N c5) G ∧ RowK w6 w5.heap.size (.slice a6 N c6) G) := ⟨ht, hr, hr'⟩; clear ht hr hr')
        | (go_at_call 10; refine (HTm.out wr p q HJ.out).mono ?_; rintro r w5 ⟨a5, c5, rfl, ht, hr, hB, hk⟩; have H5 : Hid (Tw w w5 p q T S n (fun b => (Value.slice a5 N c5).ownBlock = some b) ∧ RowK w5 wr.heap.size (.slice a5 N c5) G ∧ w.heap.size ≤ wr.heap.size ∧ KeysOk S.L) := ⟨ht, hr, hB, hk⟩; clear ht hr hB hk))
      go_ret
      exact ⟨rfl, H9.out⟩
end
end Go.Proofs.Ytabdicbmecgogaa
