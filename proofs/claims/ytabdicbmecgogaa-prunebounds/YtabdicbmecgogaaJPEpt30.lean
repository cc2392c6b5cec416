/- prune's evict. (Written by genpri.py.) -/
import Derived.Test.YtabdicbmecgogaaJPEpt29
namespace Go.Proofs.Ytabdicbmecgogaa
section
open Go.RowKit
attribute [local go_sem ↓ high] loadEn storeEn

set_option maxRecDepth 100000 in
set_option maxHeartbeats 8000000 in
theorem evict1_p {w0 w : World} {p : Nat} {s : Cs} {n : Nat} {F : Nat → Prop} (h : Ld w0 w p s n F) (hn : n ≤ 1400000000000) (cnt : Nat) (hcnt : 0 < cnt) (hc62 : cnt ≤ 1400000000000) :
    Calls Try.prog 35 #[.pointer (some ⟨p, 0, none⟩), .int .i64 (cnt : Int), .func (.func 53) #[] #[]] w fun r w' => EvR true s cnt w0 w p n F r w' := by
  have HMay : Hid (∀ wr s' G, Ei w0 w wr p s' n F G → ∀ x : En, Calls Try.prog 53 #[x.agg] wr fun r w' => r = .returned (.bool (mayB true s'.L x)) ∧ Below wr.heap.size wr w') := fun wr s' G hei x => by
    exact may1_p x wr
  have HEn : Hid (Calls Try.prog 15 #[.pointer (some ⟨p, 0, none⟩)] w fun x w' => ∃ v, x = .returned v ∧ Row7 w' w.heap.size v s.L ∧ Below w.heap.size w w') := ld_entries h hn
  have HSo : Hid (∀ w1 v, Row7 w1 w.heap.size v s.L → Below w.heap.size w w1 → Calls Try.prog 55 #[v, .func (.func 53) #[] #[]] w1 fun r w' => SoR (mayB true s.L) s.L s.L.length w1 r w') := fun w1 v hr hb => by
    refine sort1_p (mayB true s.L) v w.heap.size s.L w1 hr (Nat.le_trans h.len hn) fun W x hW => ?_
    exact HMay.out W s _ ((Ei.start h).on (chainB hb hW)) x
  have HS : Hid (Ld w0 w p s n F ∧ KeysOk s.L ∧ s.L.length ≤ 1400000000000) := ⟨h, h.keys, Nat.le_trans h.len hn⟩
  have hcz : ¬ (cnt : Int) ≤ 0 := by omega
  clear h hn
  go_enter Try.func35, Try.ntmps35
  go_wp2_with (first
    | (go_at_call 55; refine (HSo.out w1 v1 H1.out.1 H1.out.2).mono ?_; rintro r w3 ⟨vn, gh, hm, rfl, so⟩; have H3 : Hid (Ev w0 w w3 p s n F (New (fun _ => False) w w3) v1 s.L vn (plcs (mayB true s.L) s.L s.L.length) gh hm (heldL (mayB true s.L) s.L s.L.length) (.slice none 0 0) []) := Ev.start HS.out.1 H1.out.2 H1.out.1 so; clear so)
    | (go_at_call 15; refine HEn.out.mono ?_; rintro r w1 ⟨v1, rfl, hr, hb⟩; have H1 : Hid (Row7 w1 w.heap.size v1 s.L ∧ Below w.heap.size w w1) := ⟨hr, hb⟩; clear hr hb))
  obtain ⟨a0, c0, hv0⟩ := H3.out.nx.sl
  obtain ⟨n0, hn0⟩ : ∃ n0, (plcs (mayB true s.L) s.L s.L.length).length = n0 := ⟨_, rfl⟩
  rw [hn0] at hv0
  subst hv0
  obtain ⟨ao, co, hvo⟩ := owns_len H1.out.1
  subst hvo
  have HP0 : Hid (Pe true s cnt s (plcs (mayB true s.L) s.L s.L.length) []) := Pe.start _ _ _
  clear HSo HEn hn0
  go_loopw [8, 10] (fun s8 s10 wr => ∃ a8 n8 c8 a10 n10 c10, s8 = .slice a8 n8 c8 ∧ s10 = .slice a10 n10 c10 ∧ ∃ (s' : Cs) (G : Nat → Prop) (next : List Nat) (gone : List Ky), Hid (Ev w0 w wr p s' n F G (.slice ao s.L.length co) s.L (.slice a8 n8 c8) next gh hm (heldL (mayB true s.L) s.L s.L.length) (.slice a10 n10 c10) gone ∧ Pe true s cnt s' next gone)) (fun _ s10 _ => cnt - slN s10)
  case atStart => exact ⟨_, _, _, _, _, _, rfl, rfl, s, _, _, [], H3.out, HP0.out⟩
  case round =>
    obtain ⟨a8, n8, c8, a10, n10, c10, rfl, rfl, s', G, next, gone, HJ⟩ := hrel
    have hg10 : gone.length = n10 := by
      obtain ⟨_, _, e⟩ := owns_len HJ.out.1.gn
      injection e with _ e _
      exact e.symm
    have hg8 : next.length = n8 := by
      obtain ⟨_, _, e⟩ := HJ.out.1.nx.sl
      injection e with _ e _
      exact e.symm
    have HG : Hid (gone.length = n10 ∧ next.length = n8) := ⟨hg10, hg8⟩
    have hle : n10 ≤ cnt := by have := HJ.out.2.le; omega
    clear hg10 hg8 H3 HP0 H1
    cases next with
    | nil =>
      obtain rfl : n8 = 0 := HG.out.2.symm
      have HF : Hid (EvR true s cnt w0 w p n F (.returned (.slice a10 n10 c10)) wr) := HJ.out.1.fin HJ.out.2.stop
      clear HJ
      go_wp2
      go_ret
      exact HF.out
    | cons p0 t =>
      have h8 : (0 : Int) < (n8 : Int) := by have := HG.out.2; simp at this; omega
      by_cases hlt : n10 < cnt
      · have hltz : (n10 : Int) < (cnt : Int) := by omega
        obtain ⟨e0, he0, hm0, hv0⟩ := HJ.out.2.vic
        obtain ⟨g, off, cap, e8, hcap, hcell, hview⟩ := HJ.out.1.nx.head
        injection e8 with e8a e8b e8c
        subst e8a e8c
        obtain ⟨tl, htl⟩ : ∃ tl, t.length = tl := ⟨_, rfl⟩
        rw [htl] at e8b hcap
        obtain ⟨go', hgo, -, -, -, hc0, -⟩ := owns_entry HJ.out.1.ord he0
        subst hgo
        have x0 := hc0.c0
        have x1 := hc0.c1
        have hp0 : (p0 : Int) < (s.L.length : Int) := by have := (List.getElem?_eq_some_iff.1 he0).1; omega
        have hp00 : (0 : Int) ≤ (p0 : Int) := by omega
        have h18 : (1 : Int) ≤ (n8 : Int) := by omega
        obtain ⟨W7, hW7⟩ : ∃ W, wr.alloc (.cells #[.int .i64 e0.d, .string e0.nm] 28) = W := ⟨_, rfl⟩
        have b7 := boxO hW7
        have H7 : Hid (Ev w0 w W7 p s' n F (New G wr W7) (.slice (some ⟨go', 0, none⟩) s.L.length co) s.L (.slice (some ⟨g, off, none⟩) n8 c8) (p0 :: t) gh hm (heldL (mayB true s.L) s.L s.L.length) (.slice a10 n10 c10) gone) := HJ.out.1.on b7.2.1
        have HK : Hid (W7.heap[wr.heap.size]? = some (.cells #[.int .i64 e0.d, .string e0.nm] 28 (0, 0)) ∧ New G wr W7 wr.heap.size) := ⟨b7.1, .inr ⟨Nat.le_refl _, by omega⟩⟩
        have HE : Hid (s.L[p0]? = some e0 ∧ vicS s' true = some e0 ∧ Pe true s cnt s' (p0 :: t) gone ∧ t.length = tl) := ⟨he0, hv0, HJ.out.2, htl⟩
        have HV : Hid (∀ v', (c8 = 1 → v' = .slice (some ⟨g, off, none⟩) tl 0) → (c8 ≠ 1 → v' = .slice (some ⟨g, off + 1, none⟩) tl (c8 - 1)) → NxV W7 w.heap.size v' t ∧ v'.ownBlock = (Value.slice (some ⟨g, off, none⟩) n8 c8).ownBlock) := fun v' q1 q2 => by
          rw [← htl] at q1 q2
          obtain ⟨h1, h2⟩ := hview v' q1 q2
          refine ⟨h1.moved fun k hk => b7.2.1.block k (h1.tag hk).2.1, ?_⟩
          rw [h2, e8b]
        have kb0 : W7.cell? ⟨wr.heap.size, 0, none⟩ = some (.int .i64 e0.d) := by rw [cell_of b7.1]; rfl
        have kb1 : W7.cell? ⟨wr.heap.size, 1, none⟩ = some (.string e0.nm) := by rw [cell_of b7.1]; rfl
        have HGn : Hid (∀ b, (Value.slice a10 n10 c10).ownBlock = some b → b < wr.heap.size) := fun b hb => (World.ownsRow.lt HJ.out.1.gn b hb).2
        clear HJ he0 hm0 hv0 hview hc0 b7 htl
        go_upto_region 9 with fail
        obtain ⟨A8, hA8⟩ : ∃ A, (if c8 = 1 then some (⟨g, off, none⟩ : Addr) else some ⟨g, off + 1, none⟩) = A := ⟨_, rfl⟩
        obtain ⟨C8, hC8⟩ : ∃ C, c8 - 1 = C := ⟨_, rfl⟩
        have hvv := HV.out (.slice A8 tl C8) (fun e => by rw [← hA8, ← hC8, if_pos e, e]) (fun e => by rw [← hA8, ← hC8, if_neg e])
        have H8 : Hid (Ev w0 w W7 p s' n F (New G wr W7) (.slice (some ⟨go', 0, none⟩) s.L.length co) s.L (.slice A8 tl C8) t gh hm (heldL (mayB true s.L) s.L s.L.length) (.slice a10 n10 c10) gone) := H7.out.view hvv.1 hvv.2
        have HA8 : Hid (∃ gg oo, A8 = some (⟨gg, oo, none⟩ : Addr)) := by
          show ∃ gg oo, A8 = _
          rw [← hA8]
          by_cases hc : c8 = 1
          · rw [if_pos hc]; exact ⟨_, _, rfl⟩
          · rw [if_neg hc]; exact ⟨_, _, rfl⟩
        rw [hA8, hC8]
        clear hA8 hC8 hvv HV hcell x0 x1 hW7 h18 hp0 hp00 h8
        obtain ⟨s2, hs2⟩ : ∃ s2, s'.evict e0.key = s2 := ⟨_, rfl⟩
        have HEv : Hid (Calls Try.prog 29 #[.pointer (some ⟨p, 0, none⟩), .agg #[.int .i64 e0.d, .string e0.nm]] W7 fun x w' => ∃ b, x = .returned (.bool b) ∧ Ldc w0 W7 w' p s2 n (fun k => F k ∨ New G wr W7 k)) := by
          rw [← hs2]
          exact (ld_evict H8.out.ei.ld e0.key).mono fun x w' hx => ⟨_, hx⟩
        have HS2 : Hid (s'.evict e0.key = s2 ∧ s2.L = outL s'.L e0.key) := ⟨hs2, by rw [← hs2, evict_L]⟩
        have HGo : Hid (∀ b, (Value.slice a10 n10 c10).ownBlock = some b → b < wr.heap.size) := HGn
        clear hs2 HGn
        have onek := @keepK2
        go_upto_region 10 with (go_at_call 29; refine HEv.out.mono ?_; rintro r w9 ⟨b9, rfl, hc⟩; have H9 : Hid (Ev w0 w w9 p s2 n F (New G wr W7) (.slice (some ⟨go', 0, none⟩) s.L.length co) s.L (.slice A8 tl C8) t gh hm (heldL (mayB true s.L) s.L s.L.length) (.slice a10 n10 c10) gone ∧ w9.heap[wr.heap.size]? = some (.cells #[.int .i64 e0.d, .string e0.nm] 28 (0, 0))) := ⟨H8.out.gone hc, (hc.kept _ (.inr HK.out.2)).trans HK.out.1⟩; clear hc)
        have y0 : w9.cell? ⟨wr.heap.size, 0, none⟩ = some (.int .i64 e0.d) := by rw [cell_of H9.out.2]; rfl
        have y1 : w9.cell? ⟨wr.heap.size, 1, none⟩ = some (.string e0.nm) := by rw [cell_of H9.out.2]; rfl
        obtain ⟨a6, N6, c6, Z, r6, row6, o6, n6, l6⟩ := keepK2 e0.key H9.out.1.gn H9.out.1.ei.size (by rw [HG.out.1]; omega)
        have H10 : Hid (Ev w0 w Z p s2 n F (New (New G wr W7) w9 Z) (.slice (some ⟨go', 0, none⟩) s.L.length co) s.L (.slice A8 tl C8) t gh hm (heldL (mayB true s.L) s.L s.L.length) (.slice a6 N6 c6) (gone ++ [e0.key])) := H9.out.1.more row6 o6 n6
        have hN6 : Hid (N6 = n10 + 1) := by show N6 = _; rw [l6, HG.out.1]
        have hZk : Z.heap[wr.heap.size]? = some (.cells #[.int .i64 e0.d, .string e0.nm] 28 (0, 0)) := (o6.block _ (Array.getElem?_eq_some_iff.1 H9.out.2).1 fun e => by have := HGo.out _ e; omega).trans H9.out.2
        have z0 : Z.cell? ⟨wr.heap.size, 0, none⟩ = some (.int .i64 e0.d) := by rw [cell_of hZk]; rfl
        have r6' : ∀ ty, (Builtin.append_ #[33, 33] ty #[.slice a10 n10 c10, .slice (some ⟨w9.heap.size, 0, none⟩) 1 1]).run Try.prog (w9.alloc (.cells #[.int .i64 e0.d, .string e0.nm] 28)) = .ok (.slice a6 N6 c6) Z := r6
        obtain ⟨q1, -, q3⟩ := H10.out.hd.get e0.d
        obtain ⟨ah, ch, hh⟩ := owns_len q1
        obtain ⟨hd, hhd⟩ : ∃ l, heldL (mayB true s.L) s.L s.L.length e0.d = l := ⟨_, rfl⟩
        obtain ⟨mh, hmh⟩ : ∃ m, hd.length = m := ⟨_, rfl⟩
        rw [ints_len, hhd, hmh] at hh
        rw [hh] at q3
        have HH : Hid (hget hm e0.d = .slice ah mh ch ∧ heldL (mayB true s.L) s.L s.L.length e0.d = hd ∧ hd.length = mh) := ⟨hh, hhd, hmh⟩
        have HNj : Hid (Nj true s.L (outL s'.L e0.key) t (hd.take 0) t ∧ A8 ≠ none) := ⟨Nj.start (List.pairwise_cons.1 HE.out.2.2.1.nx.rise).2, fun e => by obtain ⟨_, _, e'⟩ := HA8.out; rw [e'] at e; cases e⟩
        have hmhb : mh ≤ 1400000000000 := by rw [← hmh, ← hhd]; exact Nat.le_trans (plcs_len _ _ _) HS.out.2.2
        clear hZk row6 o6 n6 l6 r6 q1 hh hhd hmh onek kb0 kb1 H7 H8 HEv HA8
        obtain ⟨wa, hwa⟩ : ∃ W, W = wr := ⟨_, rfl⟩
        subst hwa
        go_wp2_with (at_builtin; refine wpList_apR rfl (.tmp 45) (.tmp 47) 33 rfl _ _ (.slice a6 N6 c6) Z (by simp [Act.eval]) (by simp [Act.eval]) r6' ?_)
        go_loopw [8, 54] (fun s8 s54 wj => ∃ j : Nat, j ≤ mh ∧ s54 = .int .i64 (j : Int) ∧ ∃ ai ni ci, s8 = .slice ai ni ci ∧ ∃ (Gj : Nat → Prop) (nextj : List Nat), Hid (Ev w0 w wj p s2 n F Gj (.slice (some ⟨go', 0, none⟩) s.L.length co) s.L (.slice ai ni ci) nextj gh hm (heldL (mayB true s.L) s.L s.L.length) (.slice a6 N6 c6) (gone ++ [e0.key]) ∧ Nj true s.L (outL s'.L e0.key) t (hd.take j) nextj ∧ ai ≠ none)) (fun _ s54 _ => mh - (intOf s54).toNat)
        case atStart => exact ⟨0, Nat.zero_le _, rfl, _, _, _, rfl, _, t, H10.out, HNj.out.1, HNj.out.2⟩
        case round =>
          clear q3 z0 y0 y1 r6' H9 H10 HNj
          obtain ⟨j, hj, rfl, ai, ni, ci, rfl, Gj, nextj, HI⟩ := hrel
          have hni : nextj.length = ni := by
            obtain ⟨_, _, e⟩ := HI.out.1.nx.sl
            injection e with _ e _
            exact e.symm
          by_cases hjm : j < mh
          · have hjz : (j : Int) < (mh : Int) := by omega
            obtain ⟨q, hq⟩ : ∃ q, hd[j]? = some q := ⟨_, List.getElem?_eq_getElem (by rw [HH.out.2.2]; exact hjm)⟩
            obtain ⟨r1, -, -⟩ := HI.out.1.hd.get e0.d
            rw [HH.out.1, HH.out.2.1] at r1
            obtain ⟨gr, er, hcr⟩ := RowI.cellN r1 hq
            subst er
            have hheld : heldP true s.L e0.d q := held_mem.1 (by rw [HH.out.2.1]; exact List.mem_of_getElem? hq)
            obtain ⟨eq, heq, -, -⟩ := id hheld
            obtain ⟨go2, hgo2, -, -, -, hc2, -⟩ := owns_entry HI.out.1.ord heq
            injection hgo2 with hgo2
            injection hgo2 with hgo2
            subst hgo2
            have lq := enLd_at hc2
            have hqz : (q : Int) < (s.L.length : Int) := by have := (List.getElem?_eq_some_iff.1 heq).1; omega
            have hq0 : (0 : Int) ≤ (q : Int) := by omega
            obtain ⟨mb, hmb⟩ : ∃ b, mayB true s2.L eq = b := ⟨_, rfl⟩
            have HMq : Hid (Calls Try.prog 53 #[eq.agg] wr fun r w' => r = .returned (.bool mb) ∧ Below wr.heap.size wr w') := by rw [← hmb]; exact HMay.out wr s2 _ HI.out.1.ei eq
            have HQ : Hid (hd[j]? = some q ∧ s.L[q]? = some eq ∧ mayB true (outL s'.L e0.key) eq = mb ∧ q ∉ nextj ∧ nextj.length = ni) := by
              refine ⟨hq, heq, by rw [← HS2.out.2]; exact hmb, HI.out.2.1.new ?_ hq (held_out HS.out.2.1 HE.out.2.2.1.sub HE.out.2.2.1.nx HE.out.1 hheld), hni⟩
              rw [← HH.out.2.1]
              exact plcs_rise _ _ _
            clear hq hheld heq hmb hni r1 hc2
            cases mb with
            | false =>
              go_wp2_with (go_at_call 53; refine HMq.out.mono ?_; rintro r w12 ⟨rfl, hb⟩; have H12 : Hid (Ev w0 w w12 p s2 n F (New Gj wr w12) (.slice (some ⟨go', 0, none⟩) s.L.length co) s.L (.slice ai ni ci) nextj gh hm (heldL (mayB true s.L) s.L s.L.length) (.slice a6 N6 c6) (gone ++ [e0.key]) ∧ Nj true s.L (outL s'.L e0.key) t (hd.take (j + 1)) nextj) := ⟨HI.out.1.on hb, by rw [List.take_add_one, HQ.out.1]; exact HI.out.2.1.skip HQ.out.2.1 HQ.out.2.2.1⟩; clear hb)
              go_roundw
              case rel => exact ⟨j + 1, by omega, rfl, _, _, _, rfl, _, nextj, H12.out.1, H12.out.2, HI.out.2.2⟩
              case measure => simp [intOf]; omega
            | true =>
              have HIn : Hid (∀ w12, Below wr.heap.size wr w12 → Calls Try.prog 56 #[.slice ai ni ci, .int .i64 (q : Int)] w12 fun e w' => ∃ a9 n9 c9, e = .returned (.slice a9 n9 c9) ∧ a9 ≠ none ∧ Ev w0 w w' p s2 n F (New (New Gj wr w12) w12 w') (.slice (some ⟨go', 0, none⟩) s.L.length co) s.L (.slice a9 n9 c9) (insP nextj q) gh hm (heldL (mayB true s.L) s.L s.L.length) (.slice a6 N6 c6) (gone ++ [e0.key])) := fun w12 hb => by
                have h12 := HI.out.1.on hb
                have hin : IsNx w12 w.heap.size (.slice ai ni ci) nextj := by
                  rcases h12.nx with ⟨e, _⟩ | h
                  · injection e with e
                    exact absurd e HI.out.2.2
                  · exact h
                refine (insert_p hin HI.out.2.1.rise h12.ei.size ?_).mono ?_
                · have hb1 := HI.out.2.1.rise
                  have hb2 : ∀ x ∈ nextj, x < s.L.length := fun x hx => by
                    rcases (HI.out.2.1.mem x).1 hx with h1 | ⟨_, e', he', _⟩
                    · obtain ⟨e', he', _⟩ := (HE.out.2.2.1.nx.mem x).1 (List.mem_cons_of_mem _ h1)
                      exact (List.getElem?_eq_some_iff.1 he').1
                    · exact (List.getElem?_eq_some_iff.1 he').1
                  exact Nat.le_trans (rise_len hb1 hb2) HS.out.2.2
                · rintro e w' ⟨v', rfl, i1, i2, i3⟩
                  obtain ⟨g9, o9, c9, cur9, e9, _⟩ := id i1
                  subst e9
                  exact ⟨_, _, _, rfl, (fun e => by cases e), h12.ins (.inr i1) i2 i3⟩
              go_wp2_with (first
                | (go_at_call 56; refine (HIn.out w12 H12.out).mono ?_; rintro r w13 ⟨a9, n9, c9, rfl, hne, hev⟩; have H13 : Hid (Ev w0 w w13 p s2 n F (New (New Gj wr w12) w12 w13) (.slice (some ⟨go', 0, none⟩) s.L.length co) s.L (.slice a9 n9 c9) (insP nextj q) gh hm (heldL (mayB true s.L) s.L s.L.length) (.slice a6 N6 c6) (gone ++ [e0.key]) ∧ Nj true s.L (outL s'.L e0.key) t (hd.take (j + 1)) (insP nextj q) ∧ a9 ≠ none) := ⟨hev, by rw [List.take_add_one, HQ.out.1]; exact HI.out.2.1.take HQ.out.2.1 HQ.out.2.2.1 HQ.out.2.2.2.1, hne⟩; clear hev hne)
                | (go_at_call 53; refine HMq.out.mono ?_; rintro r w12 ⟨rfl, hb⟩; have H12 : Hid (Below wr.heap.size wr w12) := hb; clear hb))
              go_roundw
              case rel => exact ⟨j + 1, by omega, rfl, _, _, _, rfl, _, _, H13.out⟩
              case measure => simp [intOf]; omega
          · obtain rfl : j = mh := by omega
            have hjz : ¬ (j : Int) < (j : Int) := by omega
            have HPe : Hid (Pe true s cnt s2 nextj (gone ++ [e0.key])) := by
              have h1 := HI.out.2.1
              rw [List.take_of_length_le (by rw [HH.out.2.2]; exact Nat.le_refl _)] at h1
              have := HE.out.2.2.1.next HS.out.2.1 HE.out.1 HE.out.2.1 (by rw [HG.out.1]; exact hlt) (held := hd) (fun q => by rw [← HH.out.2.1]; exact held_mem) h1
              rw [HS2.out.1] at this
              exact this
            go_wp2
            go_roundw
            case rel => exact ⟨_, _, _, _, _, _, rfl, rfl, s2, Gj, nextj, _, ⟨HI.out.1, HPe.out⟩⟩
            case measure => have := hN6.out; simp [slN]; omega
      · have hltz : ¬ (n10 : Int) < (cnt : Int) := by omega
        have HF : Hid (EvR true s cnt w0 w p n F (.returned (.slice a10 n10 c10)) wr) := HJ.out.1.fin (by
          have := HJ.out.2.run
          rw [HG.out.1, show n10 = cnt by omega] at this
          exact this)
        clear HJ
        go_wp2
        go_ret
        exact HF.out
set_option maxRecDepth 100000 in
set_option maxHeartbeats 8000000 in
theorem evict2_p {w0 w : World} {p : Nat} {s : Cs} {n : Nat} {F : Nat → Prop} (gc : Nat) (h : Ld w0 w p s n F) (hn : n ≤ 1400000000000) (cnt : Nat) (hcnt : 0 < cnt) (hc62 : cnt ≤ 1400000000000) (hgc : w.heap[gc]? = some (.cells #[.pointer (some ⟨p, 0, none⟩)] 23 (0, 0))) (hF : F gc) :
    Calls Try.prog 35 #[.pointer (some ⟨p, 0, none⟩), .int .i64 (cnt : Int), .func (.func 54) #[] #[.pointer (some ⟨gc, 0, none⟩)]] w fun r w' => EvR false s cnt w0 w p n F r w' := by
  have HMay : Hid (∀ wr s' G, Ei w0 w wr p s' n F G → ∀ x : En, Calls Try.prog 54 #[x.agg, .pointer (some ⟨gc, 0, none⟩)] wr fun r w' => r = .returned (.bool (mayB false s'.L x)) ∧ Below wr.heap.size wr w') := fun wr s' G hei x => by
    obtain ⟨c, h1, h2, h3, h4⟩ := hei.ld.ex
    exact may2_p x gc p c s' wr ((hei.kept gc hF).trans hgc) h1 h2
  have HEn : Hid (Calls Try.prog 15 #[.pointer (some ⟨p, 0, none⟩)] w fun x w' => ∃ v, x = .returned v ∧ Row7 w' w.heap.size v s.L ∧ Below w.heap.size w w') := ld_entries h hn
  have HSo : Hid (∀ w1 v, Row7 w1 w.heap.size v s.L → Below w.heap.size w w1 → Calls Try.prog 55 #[v, .func (.func 54) #[] #[.pointer (some ⟨gc, 0, none⟩)]] w1 fun r w' => SoR (mayB false s.L) s.L s.L.length w1 r w') := fun w1 v hr hb => by
    refine sort2_p gc (mayB false s.L) v w.heap.size s.L w1 hr (Nat.le_trans h.len hn) fun W x hW => ?_
    exact HMay.out W s _ ((Ei.start h).on (chainB hb hW)) x
  have HS : Hid (Ld w0 w p s n F ∧ KeysOk s.L ∧ s.L.length ≤ 1400000000000) := ⟨h, h.keys, Nat.le_trans h.len hn⟩
  have hcz : ¬ (cnt : Int) ≤ 0 := by omega
  clear h hn hgc hF
  go_enter Try.func35, Try.ntmps35
  go_wp2_with (first
    | (go_at_call 55; refine (HSo.out w1 v1 H1.out.1 H1.out.2).mono ?_; rintro r w3 ⟨vn, gh, hm, rfl, so⟩; have H3 : Hid (Ev w0 w w3 p s n F (New (fun _ => False) w w3) v1 s.L vn (plcs (mayB false s.L) s.L s.L.length) gh hm (heldL (mayB false s.L) s.L s.L.length) (.slice none 0 0) []) := Ev.start HS.out.1 H1.out.2 H1.out.1 so; clear so)
    | (go_at_call 15; refine HEn.out.mono ?_; rintro r w1 ⟨v1, rfl, hr, hb⟩; have H1 : Hid (Row7 w1 w.heap.size v1 s.L ∧ Below w.heap.size w w1) := ⟨hr, hb⟩; clear hr hb))
  obtain ⟨a0, c0, hv0⟩ := H3.out.nx.sl
  obtain ⟨n0, hn0⟩ : ∃ n0, (plcs (mayB false s.L) s.L s.L.length).length = n0 := ⟨_, rfl⟩
  rw [hn0] at hv0
  subst hv0
  obtain ⟨ao, co, hvo⟩ := owns_len H1.out.1
  subst hvo
  have HP0 : Hid (Pe false s cnt s (plcs (mayB false s.L) s.L s.L.length) []) := Pe.start _ _ _
  clear HSo HEn hn0
  go_loopw [8, 10] (fun s8 s10 wr => ∃ a8 n8 c8 a10 n10 c10, s8 = .slice a8 n8 c8 ∧ s10 = .slice a10 n10 c10 ∧ ∃ (s' : Cs) (G : Nat → Prop) (next : List Nat) (gone : List Ky), Hid (Ev w0 w wr p s' n F G (.slice ao s.L.length co) s.L (.slice a8 n8 c8) next gh hm (heldL (mayB false s.L) s.L s.L.length) (.slice a10 n10 c10) gone ∧ Pe false s cnt s' next gone)) (fun _ s10 _ => cnt - slN s10)
  case atStart => exact ⟨_, _, _, _, _, _, rfl, rfl, s, _, _, [], H3.out, HP0.out⟩
  case round =>
    obtain ⟨a8, n8, c8, a10, n10, c10, rfl, rfl, s', G, next, gone, HJ⟩ := hrel
    have hg10 : gone.length = n10 := by
      obtain ⟨_, _, e⟩ := owns_len HJ.out.1.gn
      injection e with _ e _
      exact e.symm
    have hg8 : next.length = n8 := by
      obtain ⟨_, _, e⟩ := HJ.out.1.nx.sl
      injection e with _ e _
      exact e.symm
    have HG : Hid (gone.length = n10 ∧ next.length = n8) := ⟨hg10, hg8⟩
    have hle : n10 ≤ cnt := by have := HJ.out.2.le; omega
    clear hg10 hg8 H3 HP0 H1
    cases next with
    | nil =>
      obtain rfl : n8 = 0 := HG.out.2.symm
      have HF : Hid (EvR false s cnt w0 w p n F (.returned (.slice a10 n10 c10)) wr) := HJ.out.1.fin HJ.out.2.stop
      clear HJ
      go_wp2
      go_ret
      exact HF.out
    | cons p0 t =>
      have h8 : (0 : Int) < (n8 : Int) := by have := HG.out.2; simp at this; omega
      by_cases hlt : n10 < cnt
      · have hltz : (n10 : Int) < (cnt : Int) := by omega
        obtain ⟨e0, he0, hm0, hv0⟩ := HJ.out.2.vic
        obtain ⟨g, off, cap, e8, hcap, hcell, hview⟩ := HJ.out.1.nx.head
        injection e8 with e8a e8b e8c
        subst e8a e8c
        obtain ⟨tl, htl⟩ : ∃ tl, t.length = tl := ⟨_, rfl⟩
        rw [htl] at e8b hcap
        obtain ⟨go', hgo, -, -, -, hc0, -⟩ := owns_entry HJ.out.1.ord he0
        subst hgo
        have x0 := hc0.c0
        have x1 := hc0.c1
        have hp0 : (p0 : Int) < (s.L.length : Int) := by have := (List.getElem?_eq_some_iff.1 he0).1; omega
        have hp00 : (0 : Int) ≤ (p0 : Int) := by omega
        have h18 : (1 : Int) ≤ (n8 : Int) := by omega
        obtain ⟨W7, hW7⟩ : ∃ W, wr.alloc (.cells #[.int .i64 e0.d, .string e0.nm] 28) = W := ⟨_, rfl⟩
        have b7 := boxO hW7
        have H7 : Hid (Ev w0 w W7 p s' n F (New G wr W7) (.slice (some ⟨go', 0, none⟩) s.L.length co) s.L (.slice (some ⟨g, off, none⟩) n8 c8) (p0 :: t) gh hm (heldL (mayB false s.L) s.L s.L.length) (.slice a10 n10 c10) gone) := HJ.out.1.on b7.2.1
        have HK : Hid (W7.heap[wr.heap.size]? = some (.cells #[.int .i64 e0.d, .string e0.nm] 28 (0, 0)) ∧ New G wr W7 wr.heap.size) := ⟨b7.1, .inr ⟨Nat.le_refl _, by omega⟩⟩
        have HE : Hid (s.L[p0]? = some e0 ∧ vicS s' false = some e0 ∧ Pe false s cnt s' (p0 :: t) gone ∧ t.length = tl) := ⟨he0, hv0, HJ.out.2, htl⟩
        have HV : Hid (∀ v', (c8 = 1 → v' = .slice (some ⟨g, off, none⟩) tl 0) → (c8 ≠ 1 → v' = .slice (some ⟨g, off + 1, none⟩) tl (c8 - 1)) → NxV W7 w.heap.size v' t ∧ v'.ownBlock = (Value.slice (some ⟨g, off, none⟩) n8 c8).ownBlock) := fun v' q1 q2 => by
          rw [← htl] at q1 q2
          obtain ⟨h1, h2⟩ := hview v' q1 q2
          refine ⟨h1.moved fun k hk => b7.2.1.block k (h1.tag hk).2.1, ?_⟩
          rw [h2, e8b]
        have kb0 : W7.cell? ⟨wr.heap.size, 0, none⟩ = some (.int .i64 e0.d) := by rw [cell_of b7.1]; rfl
        have kb1 : W7.cell? ⟨wr.heap.size, 1, none⟩ = some (.string e0.nm) := by rw [cell_of b7.1]; rfl
        have HGn : Hid (∀ b, (Value.slice a10 n10 c10).ownBlock = some b → b < wr.heap.size) := fun b hb => (World.ownsRow.lt HJ.out.1.gn b hb).2
        clear HJ he0 hm0 hv0 hview hc0 b7 htl
        go_upto_region 9 with fail
        obtain ⟨A8, hA8⟩ : ∃ A, (if c8 = 1 then some (⟨g, off, none⟩ : Addr) else some ⟨g, off + 1, none⟩) = A := ⟨_, rfl⟩
        obtain ⟨C8, hC8⟩ : ∃ C, c8 - 1 = C := ⟨_, rfl⟩
        have hvv := HV.out (.slice A8 tl C8) (fun e => by rw [← hA8, ← hC8, if_pos e, e]) (fun e => by rw [← hA8, ← hC8, if_neg e])
        have H8 : Hid (Ev w0 w W7 p s' n F (New G wr W7) (.slice (some ⟨go', 0, none⟩) s.L.length co) s.L (.slice A8 tl C8) t gh hm (heldL (mayB false s.L) s.L s.L.length) (.slice a10 n10 c10) gone) := H7.out.view hvv.1 hvv.2
        have HA8 : Hid (∃ gg oo, A8 = some (⟨gg, oo, none⟩ : Addr)) := by
          show ∃ gg oo, A8 = _
          rw [← hA8]
          by_cases hc : c8 = 1
          · rw [if_pos hc]; exact ⟨_, _, rfl⟩
          · rw [if_neg hc]; exact ⟨_, _, rfl⟩
        rw [hA8, hC8]
        clear hA8 hC8 hvv HV hcell x0 x1 hW7 h18 hp0 hp00 h8
        obtain ⟨s2, hs2⟩ : ∃ s2, s'.evict e0.key = s2 := ⟨_, rfl⟩
        have HEv : Hid (Calls Try.prog 29 #[.pointer (some ⟨p, 0, none⟩), .agg #[.int .i64 e0.d, .string e0.nm]] W7 fun x w' => ∃ b, x = .returned (.bool b) ∧ Ldc w0 W7 w' p s2 n (fun k => F k ∨ New G wr W7 k)) := by
          rw [← hs2]
          exact (ld_evict H8.out.ei.ld e0.key).mono fun x w' hx => ⟨_, hx⟩
        have HS2 : Hid (s'.evict e0.key = s2 ∧ s2.L = outL s'.L e0.key) := ⟨hs2, by rw [← hs2, evict_L]⟩
        have HGo : Hid (∀ b, (Value.slice a10 n10 c10).ownBlock = some b → b < wr.heap.size) := HGn
        clear hs2 HGn
        have onek := @keepK2
        go_upto_region 10 with (go_at_call 29; refine HEv.out.mono ?_; rintro r w9 ⟨b9, rfl, hc⟩; have H9 : Hid (Ev w0 w w9 p s2 n F (New G wr W7) (.slice (some ⟨go', 0, none⟩) s.L.length co) s.L (.slice A8 tl C8) t gh hm (heldL (mayB false s.L) s.L s.L.length) (.slice a10 n10 c10) gone ∧ w9.heap[wr.heap.size]? = some (.cells #[.int .i64 e0.d, .string e0.nm] 28 (0, 0))) := ⟨H8.out.gone hc, (hc.kept _ (.inr HK.out.2)).trans HK.out.1⟩; clear hc)
        have y0 : w9.cell? ⟨wr.heap.size, 0, none⟩ = some (.int .i64 e0.d) := by rw [cell_of H9.out.2]; rfl
        have y1 : w9.cell? ⟨wr.heap.size, 1, none⟩ = some (.string e0.nm) := by rw [cell_of H9.out.2]; rfl
        obtain ⟨a6, N6, c6, Z, r6, row6, o6, n6, l6⟩ := keepK2 e0.key H9.out.1.gn H9.out.1.ei.size (by rw [HG.out.1]; omega)
        have H10 : Hid (Ev w0 w Z p s2 n F (New (New G wr W7) w9 Z) (.slice (some ⟨go', 0, none⟩) s.L.length co) s.L (.slice A8 tl C8) t gh hm (heldL (mayB false s.L) s.L s.L.length) (.slice a6 N6 c6) (gone ++ [e0.key])) := H9.out.1.more row6 o6 n6
        have hN6 : Hid (N6 = n10 + 1) := by show N6 = _; rw [l6, HG.out.1]
        have hZk : Z.heap[wr.heap.size]? = some (.cells #[.int .i64 e0.d, .string e0.nm] 28 (0, 0)) := (o6.block _ (Array.getElem?_eq_some_iff.1 H9.out.2).1 fun e => by have := HGo.out _ e; omega).trans H9.out.2
        have z0 : Z.cell? ⟨wr.heap.size, 0, none⟩ = some (.int .i64 e0.d) := by rw [cell_of hZk]; rfl
        have r6' : ∀ ty, (Builtin.append_ #[33, 33] ty #[.slice a10 n10 c10, .slice (some ⟨w9.heap.size, 0, none⟩) 1 1]).run Try.prog (w9.alloc (.cells #[.int .i64 e0.d, .string e0.nm] 28)) = .ok (.slice a6 N6 c6) Z := r6
        obtain ⟨q1, -, q3⟩ := H10.out.hd.get e0.d
        obtain ⟨ah, ch, hh⟩ := owns_len q1
        obtain ⟨hd, hhd⟩ : ∃ l, heldL (mayB false s.L) s.L s.L.length e0.d = l := ⟨_, rfl⟩
        obtain ⟨mh, hmh⟩ : ∃ m, hd.length = m := ⟨_, rfl⟩
        rw [ints_len, hhd, hmh] at hh
        rw [hh] at q3
        have HH : Hid (hget hm e0.d = .slice ah mh ch ∧ heldL (mayB false s.L) s.L s.L.length e0.d = hd ∧ hd.length = mh) := ⟨hh, hhd, hmh⟩
        have HNj : Hid (Nj false s.L (outL s'.L e0.key) t (hd.take 0) t ∧ A8 ≠ none) := ⟨Nj.start (List.pairwise_cons.1 HE.out.2.2.1.nx.rise).2, fun e => by obtain ⟨_, _, e'⟩ := HA8.out; rw [e'] at e; cases e⟩
        have hmhb : mh ≤ 1400000000000 := by rw [← hmh, ← hhd]; exact Nat.le_trans (plcs_len _ _ _) HS.out.2.2
        clear hZk row6 o6 n6 l6 r6 q1 hh hhd hmh onek kb0 kb1 H7 H8 HEv HA8
        obtain ⟨wa, hwa⟩ : ∃ W, W = wr := ⟨_, rfl⟩
        subst hwa
        go_wp2_with (at_builtin; refine wpList_apR rfl (.tmp 45) (.tmp 47) 33 rfl _ _ (.slice a6 N6 c6) Z (by simp [Act.eval]) (by simp [Act.eval]) r6' ?_)
        go_loopw [8, 54] (fun s8 s54 wj => ∃ j : Nat, j ≤ mh ∧ s54 = .int .i64 (j : Int) ∧ ∃ ai ni ci, s8 = .slice ai ni ci ∧ ∃ (Gj : Nat → Prop) (nextj : List Nat), Hid (Ev w0 w wj p s2 n F Gj (.slice (some ⟨go', 0, none⟩) s.L.length co) s.L (.slice ai ni ci) nextj gh hm (heldL (mayB false s.L) s.L s.L.length) (.slice a6 N6 c6) (gone ++ [e0.key]) ∧ Nj false s.L (outL s'.L e0.key) t (hd.take j) nextj ∧ ai ≠ none)) (fun _ s54 _ => mh - (intOf s54).toNat)
        case atStart => exact ⟨0, Nat.zero_le _, rfl, _, _, _, rfl, _, t, H10.out, HNj.out.1, HNj.out.2⟩
        case round =>
          clear q3 z0 y0 y1 r6' H9 H10 HNj
          obtain ⟨j, hj, rfl, ai, ni, ci, rfl, Gj, nextj, HI⟩ := hrel
          have hni : nextj.length = ni := by
            obtain ⟨_, _, e⟩ := HI.out.1.nx.sl
            injection e with _ e _
            exact e.symm
          by_cases hjm : j < mh
          · have hjz : (j : Int) < (mh : Int) := by omega
            obtain ⟨q, hq⟩ : ∃ q, hd[j]? = some q := ⟨_, List.getElem?_eq_getElem (by rw [HH.out.2.2]; exact hjm)⟩
            obtain ⟨r1, -, -⟩ := HI.out.1.hd.get e0.d
            rw [HH.out.1, HH.out.2.1] at r1
            obtain ⟨gr, er, hcr⟩ := RowI.cellN r1 hq
            subst er
            have hheld : heldP false s.L e0.d q := held_mem.1 (by rw [HH.out.2.1]; exact List.mem_of_getElem? hq)
            obtain ⟨eq, heq, -, -⟩ := id hheld
            obtain ⟨go2, hgo2, -, -, -, hc2, -⟩ := owns_entry HI.out.1.ord heq
            injection hgo2 with hgo2
            injection hgo2 with hgo2
            subst hgo2
            have lq := enLd_at hc2
            have hqz : (q : Int) < (s.L.length : Int) := by have := (List.getElem?_eq_some_iff.1 heq).1; omega
            have hq0 : (0 : Int) ≤ (q : Int) := by omega
            obtain ⟨mb, hmb⟩ : ∃ b, mayB false s2.L eq = b := ⟨_, rfl⟩
            have HMq : Hid (Calls Try.prog 54 #[eq.agg, .pointer (some ⟨gc, 0, none⟩)] wr fun r w' => r = .returned (.bool mb) ∧ Below wr.heap.size wr w') := by rw [← hmb]; exact HMay.out wr s2 _ HI.out.1.ei eq
            have HQ : Hid (hd[j]? = some q ∧ s.L[q]? = some eq ∧ mayB false (outL s'.L e0.key) eq = mb ∧ q ∉ nextj ∧ nextj.length = ni) := by
              refine ⟨hq, heq, by rw [← HS2.out.2]; exact hmb, HI.out.2.1.new ?_ hq (held_out HS.out.2.1 HE.out.2.2.1.sub HE.out.2.2.1.nx HE.out.1 hheld), hni⟩
              rw [← HH.out.2.1]
              exact plcs_rise _ _ _
            clear hq hheld heq hmb hni r1 hc2
            cases mb with
            | false =>
              go_wp2_with (go_at_call 54; refine HMq.out.mono ?_; rintro r w12 ⟨rfl, hb⟩; have H12 : Hid (Ev w0 w w12 p s2 n F (New Gj wr w12) (.slice (some ⟨go', 0, none⟩) s.L.length co) s.L (.slice ai ni ci) nextj gh hm (heldL (mayB false s.L) s.L s.L.length) (.slice a6 N6 c6) (gone ++ [e0.key]) ∧ Nj false s.L (outL s'.L e0.key) t (hd.take (j + 1)) nextj) := ⟨HI.out.1.on hb, by rw [List.take_add_one, HQ.out.1]; exact HI.out.2.1.skip HQ.out.2.1 HQ.out.2.2.1⟩; clear hb)
              go_roundw
              case rel => exact ⟨j + 1, by omega, rfl, _, _, _, rfl, _, nextj, H12.out.1, H12.out.2, HI.out.2.2⟩
              case measure => simp [intOf]; omega
            | true =>
              have HIn : Hid (∀ w12, Below wr.heap.size wr w12 → Calls Try.prog 56 #[.slice ai ni ci, .int .i64 (q : Int)] w12 fun e w' => ∃ a9 n9 c9, e = .returned (.slice a9 n9 c9) ∧ a9 ≠ none ∧ Ev w0 w w' p s2 n F (New (New Gj wr w12) w12 w') (.slice (some ⟨go', 0, none⟩) s.L.length co) s.L (.slice a9 n9 c9) (insP nextj q) gh hm (heldL (mayB false s.L) s.L s.L.length) (.slice a6 N6 c6) (gone ++ [e0.key])) := fun w12 hb => by
                have h12 := HI.out.1.on hb
                have hin : IsNx w12 w.heap.size (.slice ai ni ci) nextj := by
                  rcases h12.nx with ⟨e, _⟩ | h
                  · injection e with e
                    exact absurd e HI.out.2.2
                  · exact h
                refine (insert_p hin HI.out.2.1.rise h12.ei.size ?_).mono ?_
                · have hb1 := HI.out.2.1.rise
                  have hb2 : ∀ x ∈ nextj, x < s.L.length := fun x hx => by
                    rcases (HI.out.2.1.mem x).1 hx with h1 | ⟨_, e', he', _⟩
                    · obtain ⟨e', he', _⟩ := (HE.out.2.2.1.nx.mem x).1 (List.mem_cons_of_mem _ h1)
                      exact (List.getElem?_eq_some_iff.1 he').1
                    · exact (List.getElem?_eq_some_iff.1 he').1
                  exact Nat.le_trans (rise_len hb1 hb2) HS.out.2.2
                · rintro e w' ⟨v', rfl, i1, i2, i3⟩
                  obtain ⟨g9, o9, c9, cur9, e9, _⟩ := id i1
                  subst e9
                  exact ⟨_, _, _, rfl, (fun e => by cases e), h12.ins (.inr i1) i2 i3⟩
              go_wp2_with (first
                | (go_at_call 56; refine (HIn.out w12 H12.out).mono ?_; rintro r w13 ⟨a9, n9, c9, rfl, hne, hev⟩; have H13 : Hid (Ev w0 w w13 p s2 n F (New (New Gj wr w12) w12 w13) (.slice (some ⟨go', 0, none⟩) s.L.length co) s.L (.slice a9 n9 c9) (insP nextj q) gh hm (heldL (mayB false s.L) s.L s.L.length) (.slice a6 N6 c6) (gone ++ [e0.key]) ∧ Nj false s.L (outL s'.L e0.key) t (hd.take (j + 1)) (insP nextj q) ∧ a9 ≠ none) := ⟨hev, by rw [List.take_add_one, HQ.out.1]; exact HI.out.2.1.take HQ.out.2.1 HQ.out.2.2.1 HQ.out.2.2.2.1, hne⟩; clear hev hne)
                | (go_at_call 54; refine HMq.out.mono ?_; rintro r w12 ⟨rfl, hb⟩; have H12 : Hid (Below wr.heap.size wr w12) := hb; clear hb))
              go_roundw
              case rel => exact ⟨j + 1, by omega, rfl, _, _, _, rfl, _, _, H13.out⟩
              case measure => simp [intOf]; omega
          · obtain rfl : j = mh := by omega
            have hjz : ¬ (j : Int) < (j : Int) := by omega
            have HPe : Hid (Pe false s cnt s2 nextj (gone ++ [e0.key])) := by
              have h1 := HI.out.2.1
              rw [List.take_of_length_le (by rw [HH.out.2.2]; exact Nat.le_refl _)] at h1
              have := HE.out.2.2.1.next HS.out.2.1 HE.out.1 HE.out.2.1 (by rw [HG.out.1]; exact hlt) (held := hd) (fun q => by rw [← HH.out.2.1]; exact held_mem) h1
              rw [HS2.out.1] at this
              exact this
            go_wp2
            go_roundw
            case rel => exact ⟨_, _, _, _, _, _, rfl, rfl, s2, Gj, nextj, _, ⟨HI.out.1, HPe.out⟩⟩
            case measure => have := hN6.out; simp [slN]; omega
      · have hltz : ¬ (n10 : Int) < (cnt : Int) := by omega
        have HF : Hid (EvR false s cnt w0 w p n F (.returned (.slice a10 n10 c10)) wr) := HJ.out.1.fin (by
          have := HJ.out.2.run
          rw [HG.out.1, show n10 = cnt by omega] at this
          exact this)
        clear HJ
        go_wp2
        go_ret
        exact HF.out
end
end Go.Proofs.Ytabdicbmecgogaa
