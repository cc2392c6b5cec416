/- The walk of the law ScrollBack. -/
import Derived.Test.YtpifjfhlelekjaaSbR
namespace Go.Proofs.Ytpifjfhlelekjaa
open Go.RowKit

theorem OwnB.law {w0 w w' : World} {b g sb G Hh u : Nat} {s : Dsk} {R : List (List Int)} {N : Nat} {K : Int} {base : Nat} {v : Value} {l : List Int} (hv : OwnB w base v l) (h : Lw w0 w b g sb G Hh u s R N K) (ho : Only (fun x => x = b ∨ x = g ∨ x = sb) w w') : OwnB w' base v l :=
  hv.moved fun k hk => ho.block k (hv.at k hk).2 (fun e => by
    rcases e with e | e | e
    · exact (hv.tag hk).ne h.dk.tagb (by decide) e
    · exact (hv.tag hk).ne h.dk.tagg (by decide) e
    · exact (hv.tag hk).ne h.ss.tag (by decide) e)
theorem keep2 {W W' : World} {p q : Addr} {x y : Value} (h : W.cell? p = some x ∧ W.cell? q = some y) (hb : Below W.heap.size W W') : W'.cell? p = some x ∧ W'.cell? q = some y :=
  ⟨(hb.cell (cellLt h.1)).trans h.1, (hb.cell (cellLt h.2)).trans h.2⟩
theorem lw_room {w0 w : World} {b g sb G Hh u : Nat} {s : Dsk} {R : List (List Int)} {N : Nat} {K : Int} (h : Lw w0 w b g sb G Hh u s R N K) (hN : 3 ≤ N) :
    Calls Try.prog 26 #[.pointer (some ⟨sb, 0, none⟩)] w fun e w' => e = .returned (.int .i64 (((N - 1) / 2 - u : Nat) : Int)) ∧ Below w.heap.size w w' := by
  have := room_any sb b G Hh R.length u g s w h.ss h.dk (by rw [h.len]; omega) h.bound.1
  rw [h.hS] at this
  exact this.mono fun e w' hq => ⟨hq.1, hq.2.below⟩

set_option maxRecDepth 100000 in
set_option maxHeartbeats 16000000 in
theorem walk_ScrollBack (n : Int) (a : Option Addr) (len cap : Nat) (K A L F M : Nat → Int) (w : World) (_ : (Lit.int .i64 n).wf = true) (row : RowV w a len K A L F M) (hlen : len * 40 ≤ 140737488351232) :
    Calls Try.prog 5 #[.int .i64 n, .slice a len cap] w fun e w' => e = .returned (.bool true) ∧ Below w.heap.size w w' := by
  have HR : Hid (RowV w a len K A L F M) := row
  have HLn : Hid (len * 40 ≤ 140737488351232) := hlen
  obtain ⟨i1, hi1, hw0, hw1, hw2⟩ := info_parts Try.infoS
  have hp := pl_lt n 97 (by decide)
  obtain ⟨N, hN⟩ : ∃ N, 3 + pl n 97 = N := ⟨_, rfl⟩
  have HN2 : Hid (N ≤ 1024 ∧ 3 ≤ N) := by show _ ∧ _; omega
  have HF : Hid (∀ w, Calls Try.prog 31 #[.int .i64 n] w fun e w' => ∃ b g sb s, e = .returned (.tuple #[.pointer (some ⟨b, 0, none⟩), .pointer (some ⟨sb, 0, none⟩), .bool true]) ∧ Lw w w' b g sb 1 0 0 s [] N 1 ∧ s.on = true ∧ s.burns = false) := fun w => (fresh_any n w).mono fun e w' ⟨b, g, sb, s, h1, h2, h3, h4⟩ => ⟨b, g, sb, s, h1, by rw [← hN]; exact h2, h3, h4⟩
  clear row hp hN hlen
  go_enter Try.func5, Try.ntmps5
  go_wp2_with (go_at_call 31; refine (HF.out _).mono ?_; rintro e w1 ⟨b, g, sb, s0, rfl, hL0, hon0, hbu0⟩)
  clear HF
  go_loopw [8, 9] (fun v i wr => ∃ k : Nat, k ≤ len ∧ i = .int .i64 k ∧ ∃ u s R, Lw w wr b g sb 1 0 u s R N (1 + 1000 * k) ∧ s.on = true ∧ s.burns = false ∧ OwnR wr w.heap.size wr.heap.size v R ∧ Sm R) (fun _ i _ => len - (intOf i).toNat)
  case atStart => exact ⟨0, Nat.zero_le _, rfl, 0, s0, [], hL0, hon0, hbu0, OwnR.nil _ _ _, fun _ h => by cases h⟩
  case round =>
    clear hL0 hon0 hbu0
    obtain ⟨k, hk, rfl, u, s, R, hLw, hon, hbu, hW, hSm⟩ := hrel
    by_cases hlt : k < len
    · obtain ⟨ab, off, rfl, hab, r0, r1, r2, r3, r4, -⟩ := HR.out.at hLw.bel hlt
      have hki : (k : Int) < (len : Int) := by omega
      have HlK : Hid (k < len) := hlt
      obtain ⟨xl, hxl⟩ : ∃ x, L k = x := ⟨_, rfl⟩
      obtain ⟨xf, hxf⟩ : ∃ x, F k = x := ⟨_, rfl⟩
      rw [hxl] at r2
      rw [hxf] at r3
      have HK9 : Hid (1 + 1000 * (k : Int) + 9000 < 9223372036854775807) := by show _ < _; have := HLn.out; omega
      have HW1 : Hid (wrap64 ((k : Int) + 1) = ((k + 1 : Nat) : Int)) := by show _ = _; have := HLn.out; unfold wrap64; omega
      have H : Hid (Lw w wr b g sb 1 0 u s R N (1 + 1000 * k) ∧ s.on = true ∧ s.burns = false ∧ OwnR wr w.heap.size wr.heap.size u8 R ∧ Sm R) := ⟨hLw, hon, hbu, hW, hSm⟩
      have hbl : (bl (bn xl) xf).length ≤ 1000000 := by rw [bl_len]; have := bn_le xl; omega
      obtain ⟨l, hl⟩ : ∃ l, bl (bn xl) xf = l := ⟨_, rfl⟩
      have hby : Byt l := by rw [← hl]; exact bl_byt _ _
      rw [hl] at hbl
      have HRc : Hid (∀ w, Calls Try.prog 14 #[.int .i64 xl, .int .i64 xf] w fun e w' => ∃ v, e = .returned v ∧ OwnB w' w.heap.size v l ∧ Below w.heap.size w w') := fun w => by
        have := record_any xl xf w; rw [hl] at this; exact this
      have HBl : Hid (Byt l ∧ l.length ≤ 1000000) := ⟨hby, hbl⟩
      obtain ⟨c, hc⟩ : ∃ c, nb l.length = c := ⟨_, rfl⟩
      have HC : Hid (nb l.length = c) := hc
      obtain ⟨rm, hrm⟩ : ∃ rm, (N - 1) / 2 - u = rm := ⟨_, rfl⟩
      have HRm : Hid (u + rm = (N - 1) / 2 ∧ (N - 1) / 2 - u = rm ∧ rm ≤ 1024) := by
        have h1 := hLw.bound; have h2 := hLw.hS; have h3 := HN2.out; show _ ∧ _ ∧ _; omega
      have HS : Hid (hS s.cs = (N - 1) / 2) := hLw.hS
      clear hxl hxf hLw hon hbu hW hSm hl hby hbl hc hrm hlt hk r0 r1 r4
      go_upto_region 8 with fail
      go_region_held3 (fun w' => w'.cell? ⟨ab, off + k * 5 + 2, none⟩ = some (.int .i64 xl) ∧ w'.cell? ⟨ab, off + k * 5 + 3, none⟩ = some (.int .i64 xf))
        (first | exact ⟨r2, r3⟩ | exact keep2 (by assumption) (by assumption) | assumption)
        (first | (go_at_call 14; refine (HRc.out _).mono ?_; rintro e w2 ⟨v2, rfl, ho2, hb2⟩))
      have hb1 : Below wr.heap.size wr w2 := chainB (Below.refl _ _).drew hb2
      have ho1 : OwnB w2 wr.heap.size v2 l := ho2
      clear ho2 hb2
      obtain ⟨a2, n2, e2⟩ := owns_len ho1
      subst e2
      have H2 : Hid (Lw w w2 b g sb 1 0 u s R N (1 + 1000 * k) ∧ OwnR w2 w.heap.size wr.heap.size u8 R ∧ OwnB w2 wr.heap.size (.slice a2 l.length n2) l ∧ wr.heap.size ≤ w2.heap.size) := ⟨H.out.1.below hb1, H.out.2.2.2.1.below hb1, ho1, hb1.size⟩
      clear ho1 hb1
      go_upto_region 14 with (first
        | (go_at_call 26; refine (lw_room H2.out.1 HN2.out.2).mono ?_; rintro e w3 ⟨rfl, hb3⟩; rw [HRm.out.2.1])
        | (go_at_call 13; refine (lw_append (H2.out.1.below hb3) H.out.2.1 HN2.out HK9.out _ l (H2.out.2.2.1.below hb3).rt HBl.out.1 HBl.out.2).mono ?_; rintro e w4 ⟨E, s4, R4, u4', rfl, hL4, hO4, -, hcase, hc61, hc2, hc0, hkeep⟩))
      have hW4 : OwnR w4 w.heap.size wr.heap.size u8 R := (H2.out.2.1.below hb3).only hO4 (H2.out.1.below hb3).els
      have hV4 : OwnB w4 wr.heap.size (.slice a2 l.length n2) l := (H2.out.2.2.1.below hb3).law (H2.out.1.below hb3) hO4
      have hz4 : wr.heap.size ≤ w4.heap.size := Nat.le_trans H2.out.2.2.2 (Nat.le_trans hb3.size hO4.size)
      have HV : Hid (OwnR w4 w.heap.size wr.heap.size u8 R ∧ OwnB w4 wr.heap.size (.slice a2 l.length n2) l ∧ wr.heap.size ≤ w4.heap.size) := ⟨hW4, hV4, hz4⟩
      rw [HS.out, HC.out] at hc2 hc0 hcase
      clear hO4 hb3 hW4 hV4 hz4
      by_cases hok : okR l
      · have hok' : 1 ≤ l.length ∧ l.length ≤ 424 := hok
        have h64 : ((l.length : Int) == 0) = false := beq_eq_false_iff_ne.2 (by omega)
        have h68 : decide ((424 : Int) < (l.length : Int)) = false := decide_eq_false (by omega)
        clear hok'
        by_cases hfit : (N - 1) / 2 < u + c
        · have hE := hc2 hok hfit
          subst hE
          have hk4 := hkeep (by decide) H.out.2.2.1
          obtain ⟨rfl, rfl⟩ : R4 = R ∧ u4' = u := by
            rcases hcase with h | h
            · exact absurd h.1 (by decide)
            · exact h.2
          have h82 : decide (rm < c) = true := decide_eq_true (by have := HRm.out; omega)
          have H4 : Hid (Lw w w4 b g sb 1 0 u4' s4 R4 N (1 + 1000 * k + 8) ∧ s4.on = true ∧ s4.burns = false ∧ OwnR w4 w.heap.size wr.heap.size u8 R4 ∧ Sm R4) := ⟨hL4, hk4.1, hk4.2, HV.out.1, H.out.2.2.2.2⟩
          clear hL4 hk4 hcase hc61 hc2 hc0 hkeep hok hfit
          have H82 : Hid (decide (rm < c) = true) := h82
          clear h82
          go_upto_if 78 with (first
            | (go_at_call 29; refine (blocks_any _ l _ HV.out.2.1.rb HBl.out.2).mono ?_; rintro e w6 ⟨rfl, rfl⟩; rw [HC.out]))
          rw [H82.out]
          clear h64 h68
          go_wp2_with (first
            | (go_at_call 29; refine (blocks_any _ l _ HV.out.2.1.rb HBl.out.2).mono ?_; rintro e w6 ⟨rfl, rfl⟩; rw [HC.out])
            | (go_at_call 26; refine (lw_room H4.out.1 HN2.out.2).mono ?_; rintro e w5 ⟨rfl, hb5⟩; rw [HRm.out.2.1]))
          exact ⟨⟨k + 1, HlK.out, by rw [HW1.out], _, s4, _, (H4.out.1.below hb5).le (by push_cast; omega), H4.out.2.1, H4.out.2.2.1, OwnR.up (H4.out.2.2.2.1.below hb5) (Nat.le_trans HV.out.2.2 hb5.size), H4.out.2.2.2.2⟩, by have := HlK.out; rw [HW1.out]; simp [intOf]; omega⟩
        · have hk4 := hc0 hok hfit H.out.2.2.1
          obtain ⟨rfl, hon4, hbu4⟩ := hk4
          obtain ⟨rfl, rfl⟩ : R4 = R ++ [l] ∧ u4' = u + c := by
            rcases hcase with h | h
            · exact ⟨h.2.1, h.2.2.2.2⟩
            · exact absurd rfl h.1
          have h82 : decide (rm < c) = false := decide_eq_false (by have := HRm.out; omega)
          have HRm2 : Hid ((((N - 1) / 2 - (u + c) : Nat) : Int) = (rm : Int) - (c : Int)) := by show _ = _; have := HRm.out; omega
          have hwr : wrap64 ((rm : Int) - (c : Int)) = (rm : Int) - (c : Int) := by have := HRm.out; unfold wrap64; omega
          have H4 : Hid (Lw w w4 b g sb 1 0 (u + c) s4 (R ++ [l]) N (1 + 1000 * k + 8) ∧ s4.on = true ∧ s4.burns = false ∧ OwnR w4 w.heap.size wr.heap.size u8 R ∧ Sm R) := ⟨hL4, hon4, hbu4, HV.out.1, H.out.2.2.2.2⟩
          clear hL4 hcase hc61 hc2 hc0 hkeep hok hfit hon4 hbu4
          have H82 : Hid (decide (rm < c) = false) := h82
          clear h82
          go_upto_if 78 with (first
            | (go_at_call 29; refine (blocks_any _ l _ HV.out.2.1.rb HBl.out.2).mono ?_; rintro e w6 ⟨rfl, rfl⟩; rw [HC.out]))
          rw [H82.out]
          clear h64 h68
          go_upto_if 56 with (first
            | (go_at_call 29; refine (blocks_any _ l _ (HV.out.2.1.below hb5).rb HBl.out.2).mono ?_; rintro e w7 ⟨rfl, rfl⟩; rw [HC.out])
            | (go_at_call 26; refine (lw_room H4.out.1 HN2.out.2).mono ?_; rintro e w5 ⟨rfl, hb5⟩; rw [HRm2.out]))
          have hW7 : OwnR w7 w.heap.size wr.heap.size u8 R := H4.out.2.2.2.1.below hb5
          have hV7 : OwnB w7 wr.heap.size (.slice a2 l.length n2) l := HV.out.2.1.below hb5
          have hL7 := H4.out.1.below hb5
          have hz7 : wr.heap.size ≤ w7.heap.size := Nat.le_trans HV.out.2.2 hb5.size
          have hz0 : w.heap.size ≤ wr.heap.size := H.out.1.bel.size
          have hRl : R.length ≤ 1024 := H.out.1.few HN2.out.1
          obtain ⟨vs, hrow, hels⟩ := id hW7
          have H7 : Hid (OwnR w7 w.heap.size wr.heap.size u8 R ∧ OwnB w7 wr.heap.size (.slice a2 l.length n2) l ∧ Lw w w7 b g sb 1 0 (u + c) s4 (R ++ [l]) N (1 + 1000 * k + 8) ∧ w7.ownsRow w.heap.size 22 1 u8 R.length vs ∧ Els w7 w.heap.size wr.heap.size vs R) := ⟨hW7, hV7, hL7, hrow, hels⟩
          clear hW7 hV7 hL7 hrow hels hwr
          go_wp2_with (at_builtin; refine wpList_append_own_at _ rfl _ _ 41 rfl w.heap.size 22 i1 (.slice none 0 0) 1 24 Try.underlying41 hi1 hw0 hw1 hw2 rfl (by decide) _ R.length vs rfl (World.ownsRow.alloc H7.out.2.2.2.1 _) ⟨w7.heap.size, 0, none⟩ 1 1 [_] rfl rfl (one_at _ _ _) (one_cell _ rfl) (by unfold maxLen; omega) (by omega) (by simp; omega) ?_; intro v9 w9 hown9 hgrow9 _ _)
          have h9 := OwnR.app H7.out.2.2.2.1 H7.out.2.2.2.2 hz0 hz7 H7.out.2.1 hown9 hgrow9
          have hL9 := H7.out.2.2.1.list H7.out.1 h9.2.2
          exact ⟨⟨k + 1, HlK.out, by rw [HW1.out], _, s4, _, hL9.le (by push_cast; omega), H4.out.2.1, H4.out.2.2.1, h9.1, H4.out.2.2.2.2.app HBl.out.2⟩, by have := HlK.out; rw [HW1.out]; simp [intOf]; omega⟩
      · have hE := hc61 hok
        subst hE
        have hk4 := hkeep (by decide) H.out.2.2.1
        obtain ⟨rfl, rfl⟩ : R4 = R ∧ u4' = u := by
          rcases hcase with h | h
          · exact absurd h.1 (by decide)
          · exact h.2
        have H4 : Hid (Lw w w4 b g sb 1 0 u4' s4 R4 N (1 + 1000 * k + 8) ∧ s4.on = true ∧ s4.burns = false ∧ OwnR w4 w.heap.size wr.heap.size u8 R4 ∧ Sm R4) := ⟨hL4, hk4.1, hk4.2, HV.out.1, H.out.2.2.2.2⟩
        have HOk : Hid (¬ (1 ≤ l.length ∧ l.length ≤ 424)) := hok
        clear hL4 hk4 hcase hc61 hc2 hc0 hkeep hok
        by_cases h0 : l.length = 0
        · have h64 : ((l.length : Int) == 0) = true := by rw [h0]; rfl
          clear h0
          go_wp2_with (go_at_call 26; refine (lw_room H4.out.1 HN2.out.2).mono ?_; rintro e w5 ⟨rfl, hb5⟩; rw [HRm.out.2.1])
          exact ⟨⟨k + 1, HlK.out, by rw [HW1.out], _, s4, _, (H4.out.1.below hb5).le (by push_cast; omega), H4.out.2.1, H4.out.2.2.1, OwnR.up (H4.out.2.2.2.1.below hb5) (Nat.le_trans HV.out.2.2 hb5.size), H4.out.2.2.2.2⟩, by have := HlK.out; rw [HW1.out]; simp [intOf]; omega⟩
        · have h64 : ((l.length : Int) == 0) = false := beq_eq_false_iff_ne.2 (by omega)
          have h68 : decide ((424 : Int) < (l.length : Int)) = true := decide_eq_true (by have := HOk.out; omega)
          clear h0
          go_wp2_with (go_at_call 26; refine (lw_room H4.out.1 HN2.out.2).mono ?_; rintro e w5 ⟨rfl, hb5⟩; rw [HRm.out.2.1])
          exact ⟨⟨k + 1, HlK.out, by rw [HW1.out], _, s4, _, (H4.out.1.below hb5).le (by push_cast; omega), H4.out.2.1, H4.out.2.2.1, OwnR.up (H4.out.2.2.2.1.below hb5) (Nat.le_trans HV.out.2.2 hb5.size), H4.out.2.2.2.2⟩, by have := HlK.out; rw [HW1.out]; simp [intOf]; omega⟩
    · have hki : ¬ ((k : Int) < (len : Int)) := by omega
      have hF2 : R.length ≤ 1000000 := by have := hLw.few HN2.out.1; omega
      have HSR : Hid (∀ v v' w, Rs w v R → Rs w v' R → Calls Try.prog 33 #[v, v'] w fun e w' => e = .returned (.bool true) ∧ Below w.heap.size w w') := fun v v' w h h' => by
        have := sameRows_any v v' R R w h h' hF2 hF2 hSm hSm; rw [decide_eq_true (rfl : R = R)] at this; exact this
      have H2 : Hid (Lw w wr b g sb 1 0 u s R N (1 + 1000 * k) ∧ OwnR wr w.heap.size wr.heap.size u8 R ∧ 3 ≤ N) := ⟨hLw, hW, HN2.out.2⟩
      clear hLw hW hSm hF2 hon hbu
      go_wp2_with (first
        | (go_at_call 32; refine (lw_open H2.out.1 H2.out.2.2).mono ?_; rintro e w6 ⟨sb6, vR, rfl, hL6, hR6, hB6⟩; have hW6 := OwnR.go H2.out.2.1 hB6)
        | (go_at_call 33; refine (HSR.out vR u8 _ hR6.rs hW6.rs).mono ?_; rintro e w7 ⟨rfl, hB7⟩)
        | (go_at_call 10; refine (awake_any _).mono ?_; rintro e w8 ⟨rfl, hB8⟩))
      go_ret
      exact ⟨rfl, chainB (chainB hL6.bel hB7) hB8⟩
end Go.Proofs.Ytpifjfhlelekjaa
