/- PruneRoom. -/
import Derived.Test.YtepgiicbcalkdaaJPOom32
namespace Go.Proofs.Ytepgiicbcalkdaa
section
open Go.RowKit
attribute [local go_sem ↓ high] loadEn storeEn
attribute [local go_sem high] eqK neqK guardK

theorem len_out {L : List En} (hk : KeysOk L) {e : En} (he : e ∈ L) : (outL L e.key).length + 1 = L.length := by
  rcases at_cases L e.key with ⟨h, -⟩ | ⟨i, x, -, -, hi, ho⟩
  · rw [hk.get.2 ⟨he, rfl, rfl⟩] at h; cases h
  · have hl := (List.getElem?_eq_some_iff.1 hi).1
    rw [ho hk, List.length_append, List.length_take, List.length_drop]
    omega
theorem trim_none (s : Cs) : trimS s s.L.length (negN s.L) = ([], s) := by
  have h1 : trimA s (negN s.L) = ([], s) := by
    unfold trimA
    rw [show ((negN s.L : Int) - max (negN s.L : Int) 0).toNat = 0 by omega]
    rfl
  unfold trimS
  rw [h1]
  have h2 : trimB s s.L.length = ([], s) := by
    unfold trimB
    rw [show ((s.L.length : Int) - max (s.L.length : Int) 0).toNat = 0 by omega]
    rfl
  rw [h2]; rfl
theorem trim_one {s : Cs} {k : Nat} {e : En} (hl : s.L.length = k + 1) (hv : vicS s false = some e) : trimS s k (negN s.L) = ([e.key], s.evict e.key) := by
  have h1 : trimA s (negN s.L) = ([], s) := by
    unfold trimA
    rw [show ((negN s.L : Int) - max (negN s.L : Int) 0).toNat = 0 by omega]
    rfl
  unfold trimS
  rw [h1]
  have h2 : trimB s k = ([e.key], s.evict e.key) := by
    unfold trimB
    rw [hl, show (((k + 1 : Nat) : Int) - max (k : Int) 0).toNat = 1 by omega, evN, hv]
    rfl
  rw [h2]; rfl
theorem up_victim {ops : List DOp} {k : Nat} (hl : (runS (ops.filter upB)).L.length = k + 1) : ∃ e, KeysOk (runS (ops.filter upB)).L → vicS (runS (ops.filter upB)) false = some e ∧ e ∈ (runS (ops.filter upB)).L := by
  by_cases hk : KeysOk (runS (ops.filter upB)).L
  · cases hv : vicS (runS (ops.filter upB)) false with
    | some e => exact ⟨e, fun _ => ⟨rfl, List.mem_of_find?_eq_some hv⟩⟩
    | none =>
      have hn : ∀ e ∈ (runS (ops.filter upB)).L, leafB (runS (ops.filter upB)).L e.key = false := fun e he => by
        have := List.find?_eq_none.1 hv e he
        simpa using this
      have := some_leaf hk (fun e he => by
        obtain ⟨x, hx, rfl⟩ := mem_runS he
        exact upB_ok (List.mem_filter.1 hx).2) hn
      rw [this] at hl
      cases hl
  · exact ⟨⟨0, ⟨#[]⟩, false, 0, 0, 0, ⟨#[]⟩⟩, fun h => (hk h).elim⟩
set_option maxRecDepth 100000 in
set_option maxHeartbeats 8000000 in
theorem walk_PruneRoom (a : Option Addr) (cap : Nat) (ops : List DOp) (w : World) (row : RowD w a ops) (hlen : ops.length * 112 ≤ 140737488351232) :
    Calls Try.prog 8 #[.slice a ops.length cap] w fun x w' => x = .returned (.bool true) ∧ Below w.heap.size w w' := by
  have hnb : ops.length < 1290000000000 := by omega
  have HTr : Hid (Calls Try.prog 17 #[.slice a ops.length cap] w fun x w' => ∃ p m, x = .returned (.tuple #[.pointer (some ⟨p, 0, none⟩), .bool true]) ∧ Ld w w' p (runS (ops.filter upB)) m (fun _ => False) ∧ m ≤ 1290000000000) := (tree_p a cap ops w row hlen).mono fun x w' h => by
    obtain ⟨p, m, h1, h2, h3⟩ := h
    exact ⟨p, m, h1, h2, by omega⟩
  have HVx := fun k => @up_victim ops k
  obtain ⟨S, hS⟩ : ∃ S, runS (ops.filter upB) = S := ⟨_, rfl⟩
  rw [hS] at HTr HVx
  obtain ⟨lq, hlq⟩ : ∃ lq, S.L.length = lq := ⟨_, rfl⟩
  obtain ⟨q, hq⟩ : ∃ q, negN S.L = q := ⟨_, rfl⟩
  have hqs : ∀ {W W' : World} {p m : Nat} {F : Nat → Prop}, Ld W W' p S m F → m ≤ 1290000000000 → lq ≤ 1290000000000 ∧ q ≤ 1290000000000 := fun h hm => by
    have h1 := h.len
    have h2 : negN S.L ≤ S.L.length := by unfold negN; exact List.length_filter_le _ _
    omega
  have HA : Hid (∀ w, Calls Try.prog 16 #[] w fun x w' => x = .returned (.bool true) ∧ Below w.heap.size w w') := awake13_p
  have HLn : Hid (∀ W p m F, m ≤ 1290000000000 → Ld w W p S m F → Calls Try.prog 25 #[.pointer (some ⟨p, 0, none⟩)] W fun x w' => x = .returned (.int .i64 lq) ∧ Below W.heap.size W w') := fun W p m F hm h => by
    rw [← hlq]; exact ld_len h (by omega)
  have HNg : Hid (∀ W p m F, m ≤ 1290000000000 → Ld w W p S m F → Calls Try.prog 19 #[.pointer (some ⟨p, 0, none⟩)] W fun x w' => x = .returned (.int .i64 q) ∧ Below W.heap.size W w') := fun W p m F hm h => by
    rw [← hq]; exact ld_neg h (by omega)
  have HEn : Hid (∀ W p m F, m ≤ 1290000000000 → Ld w W p S m F → Calls Try.prog 18 #[.pointer (some ⟨p, 0, none⟩)] W fun x w' => ∃ a c, x = .returned (.slice a lq c) ∧ Row7 w' W.heap.size (.slice a lq c) S.L ∧ Below W.heap.size W w') := fun W p m F hm h => by
    refine (ld_entries h (by omega)).mono ?_
    rintro x w' ⟨v, rfl, hr, hb⟩
    obtain ⟨a, c, rfl⟩ := owns_len hr
    rw [hlq] at hr ⊢
    exact ⟨a, c, rfl, hr, hb⟩
  have HSe : Hid (∀ W a c a' c' B B', lq ≤ 1290000000000 → Row7 W B (.slice a lq c) S.L → Row7 W B' (.slice a' lq c') S.L → Calls Try.prog 23 #[.slice a lq c, .slice a' lq c'] W fun r w' => r = .returned (.bool true) ∧ Below W.heap.size W w') := fun W a c a' c' B B' hl h h' => sameE_yes _ _ S.L B B' W h h' (by rw [hlq]; omega)
  have HT0 : Hid (∀ W p m F, m ≤ 1290000000000 → Ld w W p S m F → Calls Try.prog 13 #[.pointer (some ⟨p, 0, none⟩), .int .i64 lq, .int .i64 q] W fun r w' => ∃ a c, r = .returned (.slice a 0 c) ∧ Ldc w W w' p S m F) := fun W p m F hm h => by
    have hb := hqs h hm
    refine (trim_p h (by omega) lq q (by omega) (by omega)).mono ?_
    rintro r w' ⟨v, rfl, h1, h2, -⟩
    rw [← hlq, ← hq, trim_none] at h1 h2
    obtain ⟨a, c, rfl⟩ := owns_len h1
    exact ⟨a, c, rfl, h2⟩
  have HB : Hid (∀ {W W' : World} {p m : Nat} {F : Nat → Prop}, Ld W W' p S m F → m ≤ 1290000000000 → lq ≤ 1290000000000 ∧ q ≤ 1290000000000) := hqs
  cases lq with
  | zero =>
    clear hlq hq hqs hS row hlen hnb HVx
    go_enter Try.func8, Try.ntmps8
    go_wp2_with (first
      | (go_at_call 16; have z := H7; refine (HA.out w7).mono ?_; rintro r w8 ⟨rfl, hb⟩; have H8 : Hid (Below w.heap.size w w8) := chainB H7.out.1.ld.below hb; clear hb z)
      | (go_at_call 23; have z := H6; refine (HSe.out w6 _ _ _ _ _ _ (by omega) H6.out.2.1 H6.out.2.2).mono ?_; rintro r w7 ⟨rfl, hb⟩; have H7 : Hid (Ei w w1 w7 p S m (fun _ => False) (New (New (New (fun _ => False) w1 w4) w5 w6) w6 w7) ∧ m ≤ 1290000000000) := ⟨H6.out.1.on hb, H1.out.2⟩; clear hb z)
      | (go_at_call 13; have z := H4; refine (HT0.out w4 p m _ H1.out.2 H4.out.1.ld).mono ?_; rintro r w5 ⟨a5, c5, rfl, hl⟩; have H5 : Hid (Ei w w1 w5 p S m (fun _ => False) (New (fun _ => False) w1 w4) ∧ Row7 w5 w3.heap.size (.slice a4 0 c4) S.L) := ⟨H4.out.1.gone hl, owns_moved H4.out.2.1 fun k hk => hl.kept k (.inr (H4.out.2.2 k hk))⟩; clear hl z)
      | (go_at_call 18; first
        | (have z := H5; refine (HEn.out w5 p m _ H1.out.2 H5.out.1.ld).mono ?_; rintro r w6 ⟨a6, c6, rfl, hr, hb⟩; have H6 : Hid (Ei w w1 w6 p S m (fun _ => False) (New (New (fun _ => False) w1 w4) w5 w6) ∧ Row7 w6 w5.heap.size (.slice a6 0 c6) S.L ∧ Row7 w6 w3.heap.size (.slice a4 0 c4) S.L) := ⟨H5.out.1.on hb, hr, owns_below H5.out.2 hb⟩; clear hb hr z)
        | (have z := H3; refine (HEn.out w3 p m _ H1.out.2 (H1.out.1.on H3.out).ld).mono ?_; rintro r w4 ⟨a4, c4, rfl, hr, hb⟩; have H4 : Hid (Ei w w1 w4 p S m (fun _ => False) (New (fun _ => False) w1 w4) ∧ Row7 w4 w3.heap.size (.slice a4 0 c4) S.L ∧ ∀ k, (Value.slice a4 0 c4).ownBlock = some k → New (fun _ => False) w1 w4 k) := ⟨H1.out.1.on (chainB H3.out hb), hr, fun k hk => .inr ⟨Nat.le_trans H3.out.size (World.ownsRow.lt hr k hk).1, (World.ownsRow.lt hr k hk).2⟩⟩; clear hb hr z))
      | (go_at_call 19; have z := H2; refine (HNg.out w2 p m _ H1.out.2 (H1.out.1.on H2.out).ld).mono ?_; rintro r w3 ⟨rfl, hb⟩; have H3 : Hid (Below w1.heap.size w1 w3) := chainB H2.out hb; clear hb z)
      | (go_at_call 25; have z := H1; refine (HLn.out w1 p m _ H1.out.2 H1.out.1.ld).mono ?_; rintro r w2 ⟨rfl, hb⟩; have H2 : Hid (Below w1.heap.size w1 w2) := hb; clear hb z)
      | (go_at_call 17; refine HTr.out.mono ?_; rintro r w1 ⟨p, m, rfl, hl, hm⟩; have H1 : Hid (Ei w w1 w1 p S m (fun _ => False) (fun _ => False) ∧ m ≤ 1290000000000) := ⟨Ei.start hl, hm⟩; clear hl hm))
    go_ret
    exact ⟨rfl, H8.out⟩
  | succ kk =>
    obtain ⟨e, he⟩ := HVx kk hlq
    have HV : Hid (∀ W p m F, m ≤ 1290000000000 → Ld w W p S m F → Calls Try.prog 10 #[.pointer (some ⟨p, 0, none⟩), .bool false] W fun r w' => r = .returned (.tuple #[.agg #[.int .i64 e.d, .string e.nm], .bool true]) ∧ Below W.heap.size W w') := fun W p m F hm h => by
      have := vicF_p h (by omega)
      rw [(he h.keys).1] at this
      exact this
    have HT1 : Hid (∀ W p m F, m ≤ 1290000000000 → Ld w W p S m F → Calls Try.prog 13 #[.pointer (some ⟨p, 0, none⟩), .int .i64 kk, .int .i64 q] W fun r w' => ∃ g c, r = .returned (.slice (some ⟨g, 0, none⟩) 1 c) ∧ (w'.cell? ⟨g, 0, none⟩ = some (.int .i64 e.d) ∧ w'.cell? ⟨g, 1, none⟩ = some (.string e.nm)) ∧ Ldc w W w' p (S.evict e.key) m F) := fun W p m F hm h => by
      have hb := hqs h hm
      refine (trim_p h (by omega) kk q (by omega) (by omega)).mono ?_
      rintro r w' ⟨v, rfl, h1, h2, -⟩
      rw [← hq, trim_one hlq (he h.keys).1] at h1 h2
      obtain ⟨a, c, rfl⟩ := owns_len h1
      obtain ⟨g, rfl, -, -, k0, k1, -⟩ := RowK.key (i := 0) (p := e.key) h1 rfl
      exact ⟨g, c, rfl, ⟨k0, k1⟩, h2⟩
    have HL1 : Hid (∀ W p m F, m ≤ 1290000000000 → KeysOk S.L → Ld w W p (S.evict e.key) m F → Calls Try.prog 25 #[.pointer (some ⟨p, 0, none⟩)] W fun x w' => x = .returned (.int .i64 kk) ∧ Below W.heap.size W w') := fun W p m F hm hk h => by
      have h1 := ld_len h (by omega)
      rw [evict_L, show (outL S.L e.key).length = kk by have := len_out hk (he hk).2; omega] at h1
      exact h1
    clear hlq hq hqs hS row hlen hnb HVx he
    go_enter Try.func8, Try.ntmps8
    go_upto_region 13 with (first
      | (go_at_call 10; have z := H7; refine (HV.out w7 p m _ H1.out.2 H7.out.1.ld).mono ?_; rintro r w8 ⟨rfl, hb⟩; obtain ⟨V, hV⟩ : ∃ V, w8.alloc (.cells #[.int .i64 e.d, .string e.nm] 28) = V := ⟨_, rfl⟩; have bV := boxO hV; have H8 : Hid (Ei w w1 V p S m (fun _ => False) (New (New (New (New (fun _ => False) w1 w4) w5 w6) w6 w7) w7 V) ∧ V.heap[w8.heap.size]? = some (.cells #[.int .i64 e.d, .string e.nm] 28 (0, 0)) ∧ New (New (New (New (fun _ => False) w1 w4) w5 w6) w6 w7) w7 V w8.heap.size ∧ KeysOk S.L) := ⟨H7.out.1.on (chainB hb bV.2.1), bV.1, .inr ⟨hb.size, by have := bV.2.2; omega⟩, H7.out.1.ld.keys⟩; clear hb z bV)
      | (go_at_call 23; have z := H6; refine (HSe.out w6 _ _ _ _ _ _ (HB.out H6.out.1.ld H1.out.2).1 H6.out.2.1 H6.out.2.2).mono ?_; rintro r w7 ⟨rfl, hb⟩; have H7 : Hid (Ei w w1 w7 p S m (fun _ => False) (New (New (New (fun _ => False) w1 w4) w5 w6) w6 w7) ∧ m ≤ 1290000000000) := ⟨H6.out.1.on hb, H1.out.2⟩; have hkk := (HB.out H6.out.1.ld H1.out.2).1; clear hb z)
      | (go_at_call 13; first
        | (have z := H8; refine (HT1.out V p m _ H1.out.2 H8.out.1.ld).mono ?_; rintro r w9 ⟨g9, c9, rfl, ⟨y0, y1⟩, hl⟩; have H9 : Hid (Ei w w1 w9 p (S.evict e.key) m (fun _ => False) (New (New (New (New (fun _ => False) w1 w4) w5 w6) w6 w7) w7 V)) := H8.out.1.gone hl; have hbx : w9.heap[w8.heap.size]? = some (.cells #[.int .i64 e.d, .string e.nm] 28 (0, 0)) := (hl.kept _ (.inr H8.out.2.2.1)).trans H8.out.2.1; have u0 : w9.cell? ⟨w8.heap.size, 0, none⟩ = some (.int .i64 e.d) := (by rw [cell_of hbx]; rfl); have u1 : w9.cell? ⟨w8.heap.size, 1, none⟩ = some (.string e.nm) := (by rw [cell_of hbx]; rfl); clear hl z hbx)
        | (have z := H4; refine (HT0.out w4 p m _ H1.out.2 H4.out.1.ld).mono ?_; rintro r w5 ⟨a5, c5, rfl, hl⟩; have H5 : Hid (Ei w w1 w5 p S m (fun _ => False) (New (fun _ => False) w1 w4) ∧ Row7 w5 w3.heap.size (.slice a4 (kk + 1) c4) S.L) := ⟨H4.out.1.gone hl, owns_moved H4.out.2.1 fun k hk => hl.kept k (.inr (H4.out.2.2 k hk))⟩; clear hl z))
      | (go_at_call 18; first
        | (have z := H5; refine (HEn.out w5 p m _ H1.out.2 H5.out.1.ld).mono ?_; rintro r w6 ⟨a6, c6, rfl, hr, hb⟩; have H6 : Hid (Ei w w1 w6 p S m (fun _ => False) (New (New (fun _ => False) w1 w4) w5 w6) ∧ Row7 w6 w5.heap.size (.slice a6 (kk + 1) c6) S.L ∧ Row7 w6 w3.heap.size (.slice a4 (kk + 1) c4) S.L) := ⟨H5.out.1.on hb, hr, owns_below H5.out.2 hb⟩; clear hb hr z)
        | (have z := H3; refine (HEn.out w3 p m _ H1.out.2 (H1.out.1.on H3.out).ld).mono ?_; rintro r w4 ⟨a4, c4, rfl, hr, hb⟩; have H4 : Hid (Ei w w1 w4 p S m (fun _ => False) (New (fun _ => False) w1 w4) ∧ Row7 w4 w3.heap.size (.slice a4 (kk + 1) c4) S.L ∧ ∀ k, (Value.slice a4 (kk + 1) c4).ownBlock = some k → New (fun _ => False) w1 w4 k) := ⟨H1.out.1.on (chainB H3.out hb), hr, fun k hk => .inr ⟨Nat.le_trans H3.out.size (World.ownsRow.lt hr k hk).1, (World.ownsRow.lt hr k hk).2⟩⟩; clear hb hr z))
      | (go_at_call 19; have z := H2; refine (HNg.out w2 p m _ H1.out.2 (H1.out.1.on H2.out).ld).mono ?_; rintro r w3 ⟨rfl, hb⟩; have H3 : Hid (Below w1.heap.size w1 w3) := chainB H2.out hb; clear hb z)
      | (go_at_call 25; have z := H1; refine (HLn.out w1 p m _ H1.out.2 H1.out.1.ld).mono ?_; rintro r w2 ⟨rfl, hb⟩; have H2 : Hid (Below w1.heap.size w1 w2) := hb; clear hb z)
      | (go_at_call 17; refine HTr.out.mono ?_; rintro r w1 ⟨p, m, rfl, hl, hm⟩; have H1 : Hid (Ei w w1 w1 p S m (fun _ => False) (fun _ => False) ∧ m ≤ 1290000000000) := ⟨Ei.start hl, hm⟩; clear hl hm))
    have hwk : IntKind.i64.wrap ((kk : Int) + 1 - 1) = kk := by rw [show (kk : Int) + 1 - 1 = kk by omega]; exact IntWalk.i64_in _ (by omega)
    have hwj : IntKind.i64.wrap (kk : Int) = kk := IntWalk.i64_in _ (by omega)
    clear hkk
    have s0 : w9.drew.cell? ⟨g9, 0, none⟩ = some (.int .i64 e.d) ∧ w9.drew.cell? ⟨g9, 1, none⟩ = some (.string e.nm) ∧ w9.drew.cell? ⟨w8.heap.size, 0, none⟩ = some (.int .i64 e.d) ∧ w9.drew.cell? ⟨w8.heap.size, 1, none⟩ = some (.string e.nm) := ⟨y0, y1, u0, u1⟩
    go_region_held3 (fun W => W.cell? ⟨g9, 0, none⟩ = some (.int .i64 e.d) ∧ W.cell? ⟨g9, 1, none⟩ = some (.string e.nm) ∧ W.cell? ⟨w8.heap.size, 0, none⟩ = some (.int .i64 e.d) ∧ W.cell? ⟨w8.heap.size, 1, none⟩ = some (.string e.nm))
      (with_reducible first | exact s2 | exact s1 | exact s0)
      (first
        | (go_at_call 16; have z := H10; refine (HA.out w10).mono ?_; rintro r w11 ⟨rfl, hb⟩; have H11 : Hid (Below w.heap.size w w11) := chainB H10.out hb; have s2 : w11.cell? ⟨g9, 0, none⟩ = some (.int .i64 e.d) ∧ w11.cell? ⟨g9, 1, none⟩ = some (.string e.nm) ∧ w11.cell? ⟨w8.heap.size, 0, none⟩ = some (.int .i64 e.d) ∧ w11.cell? ⟨w8.heap.size, 1, none⟩ = some (.string e.nm) := ⟨(hb.cell (cellLt s1.1)).trans s1.1, (hb.cell (cellLt s1.2.1)).trans s1.2.1, (hb.cell (cellLt s1.2.2.1)).trans s1.2.2.1, (hb.cell (cellLt s1.2.2.2)).trans s1.2.2.2⟩; clear hb z)
        | (go_at_call 25; refine (HL1.out w9.drew p m _ H1.out.2 H8.out.2.2.2 (H9.out.ld.on' (below_drewN (Below.refl _ _) 1))).mono ?_; rintro r w10 ⟨rfl, hb⟩; have H10 : Hid (Below w.heap.size w w10) := chainB (H9.out.ld.on' (below_drewN (Below.refl _ _) 1)).below hb; have s1 : w10.cell? ⟨g9, 0, none⟩ = some (.int .i64 e.d) ∧ w10.cell? ⟨g9, 1, none⟩ = some (.string e.nm) ∧ w10.cell? ⟨w8.heap.size, 0, none⟩ = some (.int .i64 e.d) ∧ w10.cell? ⟨w8.heap.size, 1, none⟩ = some (.string e.nm) := ⟨(hb.cell (cellLt s0.1)).trans s0.1, (hb.cell (cellLt s0.2.1)).trans s0.2.1, (hb.cell (cellLt s0.2.2.1)).trans s0.2.2.1, (hb.cell (cellLt s0.2.2.2)).trans s0.2.2.2⟩; clear hb))
    go_wp2
    go_ret
    exact ⟨rfl, H11.out⟩
end
end Go.Proofs.Ytepgiicbcalkdaa
