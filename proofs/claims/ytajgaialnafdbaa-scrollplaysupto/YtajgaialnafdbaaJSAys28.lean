/- The document's own scroll: Append. -/
import Derived.Test.YtajgaialnafdbaaJSAys27
import Derived.Test.YtajgaialnafdbaaJSAys15
namespace Go.Proofs.Ytajgaialnafdbaa
section
open Go.RowKit Go.Lib

theorem append_badD (q : Nat) (a : Option Addr) (n c : Nat) (w : World) (hb : ¬ (1 ≤ n ∧ n ≤ 424)) :
    Calls Try.prog 10 #[.pointer (some ⟨q, 0, none⟩), .slice a n c] w fun e w' => e = .returned (.int .i64 61) ∧ w = w' := by
  have HR : Hid (Calls Try.prog 39 #[.slice a n c] w fun e w' => e = .returned (.bool true) ∧ w = w') := by
    have := rwrong_d a n c w
    rw [decide_eq_false hb] at this
    exact this
  clear hb
  go_enter Try.func10, Try.ntmps10
  go_wp2_with (go_at_call 39; refine HR.out.mono ?_; rintro e w1 ⟨rfl, rfl⟩)
  go_ret
  exact ⟨rfl, rfl⟩
theorem append_fullD (q r G H u n M : Nat) (a : Option Addr) (N c : Nat) (w : World) (h : IsT w q r G H u n) (hM : M ≤ 1024) (hu : u ≤ M) (HH : Hid (∀ W, Below w.heap.size w W → Calls Try.prog 35 #[.pointer (some ⟨r, 0, none⟩)] W fun e w' => e = .returned (.int .i64 (M : Nat)) ∧ W = w')) (hg : 1 ≤ N ∧ N ≤ 424) (hf : M < u + nb N) :
    Calls Try.prog 10 #[.pointer (some ⟨q, 0, none⟩), .slice a N c] w fun e w' => e = .returned (.int .i64 2) ∧ Below w.heap.size w w' := by
  have HR : Hid (Calls Try.prog 39 #[.slice a N c] w fun e w' => e = .returned (.bool false) ∧ w = w') := by
    have := rwrong_d a N c w
    rw [decide_eq_true hg] at this
    exact this
  have HB : Hid (Calls Try.prog 40 #[.slice a N c] w fun e w' => e = .returned (.int .i64 (nb N)) ∧ w = w') := rblocks_d a N c w (by omega)
  have HM : Hid (Calls Try.prog 22 #[.pointer (some ⟨q, 0, none⟩)] w fun e w' => e = .returned (.int .i64 ((M - u : Nat) : Int)) ∧ Below w.heap.size w w') := room_d q r G H u n M w h hM hu HH
  obtain ⟨B, hB⟩ : ∃ B, nb N = B := ⟨_, rfl⟩
  obtain ⟨X, hX⟩ : ∃ X, M - u = X := ⟨_, rfl⟩
  rw [hB] at HB hf
  rw [hX] at HM
  have hd : (X : Int) < (B : Int) := by omega
  clear h HH hB hX hf hg hM hu
  go_enter Try.func10, Try.ntmps10
  go_wp2_with (first
    | (go_at_call 39; refine HR.out.mono ?_; rintro e w1 ⟨rfl, rfl⟩)
    | (go_at_call 40; refine HB.out.mono ?_; rintro e w1 ⟨rfl, rfl⟩)
    | (go_at_call 22; refine HM.out.mono ?_; rintro e w2 ⟨rfl, hb2⟩))
  go_ret
  exact ⟨rfl, hb2⟩
/-- what a call on the document's scroll leaves -/
structure Dl (w w' : World) (q r N : Nat) (R0 : Rf) (T : Dsk) (k : Nat) (R : Rf) : Prop where
  rf : IsRf w' r R
  sim : Sim T R
  n : R.n = N
  few : R.did.length ≤ R0.did.length + k
  only : Only (fun x => x = r ∨ R0.v.ownBlock = some x ∨ x = q) w w'
  own : R.v.ownBlock = R0.v.ownBlock ∨ ∀ b, R.v.ownBlock = some b → w.heap.size ≤ b
theorem rf_sc {w w' : World} {r r' q G H u n : Nat} {R : Rf} (h : IsRf w r R) (ht : IsT w q r' G H u n) (hO : Only (fun x => x = q) w w') : IsRf w' r R :=
  h.moved (hO.block r h.tr.lt (fun e => h.tr.ne ht.tag (by decide) e)) (fun k hk => hO.block k (h.tv hk).lt (fun e => (h.tv hk).ne ht.tag (by decide) e)) (fun k hk => hO.block k hk.lt (fun e => hk.ne ht.tag (by decide) e))
theorem sc_rf {w w' : World} {r r' q G H u n : Nat} {R : Rf} (ht : IsT w q r' G H u n) (h : IsRf w r R) (hO : Only (fun x => x = r ∨ R.v.ownBlock = some x) w w') : IsT w' q r' G H u n :=
  ht.only hO (by
    rintro (e | e)
    · exact h.tr.ne ht.tag (by decide) e.symm
    · exact (h.tv e).ne ht.tag (by decide) rfl)
theorem Dl.of {w W w' : World} {q r N k : Nat} {R0 R : Rf} {T : Dsk} (hb : Below w.heap.size w W) (h : Ly W w' r R0 T N k R) : Dl w w' q r N R0 T k R :=
  ⟨h.rf, h.sim, h.n, h.few, (Only.of hb).trans (h.only.mono fun _ hx => by rcases hx with e | e; exact .inl e; exact .inr (.inl e)), h.own.imp id fun e b hb' => Nat.le_trans hb.size (e b hb')⟩
theorem Dl.sc {w w' w'' : World} {q r r' N k G H u n : Nat} {R0 R : Rf} {T : Dsk} (h : Dl w w' q r N R0 T k R) (ht : IsT w' q r' G H u n) (hO : Only (fun x => x = q) w' w'') : Dl w w'' q r N R0 T k R :=
  ⟨rf_sc h.rf ht hO, h.sim, h.n, h.few, h.only.trans (hO.mono fun _ hx => .inr (.inr hx)), h.own⟩
set_option maxRecDepth 100000 in
set_option maxHeartbeats 4000000 in
theorem append_goD (q r G H u n N : Nat) (R0 : Rf) (s : Dsk) (K : Int) (hok : s.ok K) (v : Value) (l : List Int) (w : World) (ht : IsT w q r G H u n) (HI : Hid (Ly w w r R0 s N 0 R0)) (HV : Hid (∀ w', Only (fun x => x = r ∨ R0.v.ownBlock = some x) w w' → RC w' v l)) (hg : 1 ≤ l.length ∧ l.length ≤ 424) (hG : G < 4294967296) (hn : n < 1000000) (hh : H ≤ 1) (hu : u + nb l.length ≤ hS s.cs) (hN : 1 ≤ N) (hN2 : N ≤ 1024) (hbig : (R0.did.length + 9) * 32 ≤ 140737488355328) :
    Calls Try.prog 10 #[.pointer (some ⟨q, 0, none⟩), v] w fun e w' => ∃ T R', T = layD s (1 + H * hS s.cs + u) G n (nb l.length) l (nb l.length) ∧ e = .returned (.int .i64 (pwE T.on)) ∧ Dl w w' q r N R0 T (nb l.length) R' ∧ IsT w' q r G H (if T.on then u + nb l.length else u) (if T.on then n + 1 else n) := by
  obtain ⟨M, hM⟩ : ∃ M, hS s.cs = M := ⟨_, rfl⟩
  have hcs : s.cs.length = N := by rw [HI.out.sim.n, HI.out.n]
  have hM2 : M = (N - 1) / 2 := by rw [← hM]; unfold hS; rw [hcs]
  obtain ⟨C, hC⟩ : ∃ C, nb l.length = C := ⟨_, rfl⟩
  have hC8 : C ≤ 8 := by rw [← hC]; exact nb_le hg.2
  have HLy : Hid (∀ W, Below w.heap.size w W → Calls Try.prog 41 #[.pointer (some ⟨r, 0, none⟩), .int .i64 G, .int .i64 H, .int .i64 u, .int .i64 n, v] W fun e w' => ∃ T R', T = layD s (1 + H * M + u) G n C l C ∧ e = .returned (.int .i64 (pwE T.on)) ∧ Ly W w' r R0 T N C R') := fun W hb => by
    have := lay_d r R0 s K hok W N (1 + H * M + u) (H * M) G H u n C v l hg.1 hg.2 hC hG (by omega) hh (by rw [hM]) rfl (by rw [← hC]; exact hu) hN hN2 hbig (fun w' ho => HV.out w' ((Only.of hb).trans ho)) ⟨HI.out.rf.below hb, HI.out.sim, HI.out.n, HI.out.few, Only.refl _ _, .inl rfl⟩
    exact this
  obtain ⟨av, cv, hv, _⟩ := HV.out w (Only.refl _ _)
  subst hv
  obtain ⟨nL, hnL⟩ : ∃ n, l.length = n := ⟨_, rfl⟩
  rw [hC, hM]
  rw [hC, hM] at hu
  rw [hnL] at HLy hg hC ⊢
  have HR : Hid (Calls Try.prog 39 #[.slice av nL cv] w fun e w' => e = .returned (.bool false) ∧ w = w') := by
    have := rwrong_d av nL cv w
    rw [decide_eq_true hg] at this
    exact this
  have HB : Hid (∀ W, Calls Try.prog 40 #[.slice av nL cv] W fun e w' => e = .returned (.int .i64 (C : Nat)) ∧ W = w') := fun W => by
    have := rblocks_d av nL cv W (by omega)
    rw [hC] at this
    exact this
  have hM3 : M ≤ 1024 := by omega
  have HM : Hid (Calls Try.prog 22 #[.pointer (some ⟨q, 0, none⟩)] w fun e w' => e = .returned (.int .i64 ((M - u : Nat) : Int)) ∧ Below w.heap.size w w') := room_d q r G H u n M w ht hM3 (by omega) fun W hb => by
    have := rhalf_d r R0 W (HI.out.rf.below hb) (by rw [HI.out.n]; exact hN) (by rw [HI.out.n]; exact hN2)
    rw [HI.out.n, ← hM2] at this
    exact this
  obtain ⟨X, hX⟩ : ∃ X, M - u = X := ⟨_, rfl⟩
  rw [hX] at HM
  have hd : ¬ (X : Int) < (C : Int) := by omega
  have HTc : Hid (∀ W, Below w.heap.size w W → IsT W q r G H u n) := fun W hb => ht.below hb
  have HRf : Hid (∀ W, Below w.heap.size w W → IsRf W r R0) := fun W hb => HI.out.rf.below hb
  have hwu : IntKind.i64.wrap ((u : Int) + (C : Int)) = (u : Int) + (C : Int) := IntWalk.i64_in _ (by omega)
  have hwn : IntKind.i64.wrap ((n : Int) + 1) = (n : Int) + 1 := IntWalk.i64_in _ (by omega)
  clear ht HI HV hM hX hC hnL hg hu hcs hM2 hok
  go_enter Try.func10, Try.ntmps10
  go_upto_region 5 with (first
    | (go_at_call 39; refine HR.out.mono ?_; rintro e w1 ⟨rfl, rfl⟩)
    | (go_at_call 40; refine (HB.out _).mono ?_; rintro e w1 ⟨rfl, rfl⟩)
    | (go_at_call 22; refine HM.out.mono ?_; rintro e w2 ⟨rfl, hb2⟩))
  have hbd : Below w.heap.size w w2.drew := chainB hb2 (below_drewN (Below.refl _ _) 1)
  have HBd : Hid (Below w.heap.size w w2.drew) := hbd
  have f0 := (HTc.out _ hbd).cells
  clear hb2 hbd
  go_region_held3 (fun W => W.cell? ⟨q, 0, none⟩ = some (.pointer (some ⟨r, 0, none⟩)) ∧ W.cell? ⟨q, 1, none⟩ = some (.int .i64 G) ∧ W.cell? ⟨q, 2, none⟩ = some (.int .i64 H) ∧ W.cell? ⟨q, 3, none⟩ = some (.int .i64 u) ∧ W.cell? ⟨q, 4, none⟩ = some (.int .i64 n))
    (with_reducible first | exact f0 | exact f1)
    (first | (go_at_call 41; refine (HLy.out _ HBd.out).mono ?_; rintro e w3 ⟨T, R', hT, rfl, hL⟩; obtain ⟨E, hE⟩ : ∃ E, pwE T.on = E := ⟨_, rfl⟩; rw [hE]; have H3 : Hid (T = layD s (1 + H * M + u) G n C l C ∧ pwE T.on = E ∧ Ly w2.drew w3 r R0 T N C R' ∧ IsT w3 q r G H u n) := ⟨hT, hE, hL, sc_rf (HTc.out _ HBd.out) (HRf.out _ HBd.out) hL.only⟩; have f1 := H3.out.2.2.2.cells; clear hT hE hL) | fail)
  cases hon : T.on with
  | true =>
    have hE0 : E = 0 := by rw [← H3.out.2.1, hon]; rfl
    subst hE0
    have z3 := H3.out.2.2.2.cells.2.2.2.1
    have z4 := H3.out.2.2.2.cells.2.2.2.2
    have zf := free_of H3.out.2.2.2
    have HF : Hid (Dl w ((w3.setCell ⟨q, 3, none⟩ (.int .i64 ((u : Int) + (C : Int)))).setCell ⟨q, 4, none⟩ (.int .i64 ((n : Int) + 1))) q r N R0 T C R' ∧ IsT ((w3.setCell ⟨q, 3, none⟩ (.int .i64 ((u : Int) + (C : Int)))).setCell ⟨q, 4, none⟩ (.int .i64 ((n : Int) + 1))) q r G H (u + C) (n + 1)) := by
      have hO : Only (fun x => x = q) w3 ((w3.setCell ⟨q, 3, none⟩ (.int .i64 ((u : Int) + (C : Int)))).setCell ⟨q, 4, none⟩ (.int .i64 ((n : Int) + 1))) := (only1 _ q 3 _).trans (only1 _ q 4 _)
      refine ⟨(Dl.of HBd.out H3.out.2.2.1).sc H3.out.2.2.2 hO, ?_⟩
      show _ = _
      rw [show ((u + C : Nat) : Int) = (u : Int) + (C : Int) by omega, show ((n + 1 : Nat) : Int) = (n : Int) + 1 by omega]
      exact (heap_set (heap_set H3.out.2.2.2 3 _) 4 _).trans rfl
    clear f0 f1 HTc HRf HLy HM HR
    go_upto_region 8 with fail
    go_region_law (go_simp; go_at_call 40; refine (HB.out _).mono ?_; rintro e w' ⟨rfl, rfl⟩)
    all_goals
      go_wp2
      go_ret
      first
      | exact ⟨T, R', H3.out.1, by rw [hon]; rfl, HF.out.1, by rw [hon]; exact HF.out.2⟩
      | exact ⟨T, R', H3.out.1, by rw [hon]; rfl, ⟨HF.out.1.rf.drew, HF.out.1.sim, HF.out.1.n, HF.out.1.few, HF.out.1.only.trans (Only.of (below_drewN (Below.refl _ _) 1)), HF.out.1.own⟩, by rw [hon]; exact HF.out.2.below (below_drewN (Below.refl _ _) 1)⟩
  | false =>
    have hE0 : E = 21 := by rw [← H3.out.2.1, hon]; rfl
    subst hE0
    clear f0 f1 HTc HRf HLy HM HR
    go_wp2
    go_ret
    exact ⟨T, R', H3.out.1, by rw [hon]; rfl, Dl.of HBd.out H3.out.2.2.1, by rw [hon]; exact H3.out.2.2.2⟩
end
section
open Go.RowKit Go.Lib

/-- rows of bytes that can be read -/
def RrL (w : World) (a : Option Addr) (L : List (List Int)) : Prop := ∀ (i : Nat) (l : List Int), L[i]? = some l → ∃ g off x, a = some ⟨g, off, none⟩ ∧ w.cell? ⟨g, off + i, none⟩ = some x ∧ RC w x l
theorem RrL.below {w w' : World} {a : Option Addr} {L : List (List Int)} (h : RrL w a L) (hb : Below w.heap.size w w') : RrL w' a L := fun i l hl => by
  obtain ⟨g, off, x, e, hc, hx⟩ := h i l hl
  exact ⟨g, off, x, e, (hb.cell (cellLt hc)).trans hc, hx.below hb⟩
theorem OwnR.rrl {w : World} {base m n cap : Nat} {a : Option Addr} {R : List (List Int)} (h : OwnR w base m (.slice a n cap) R) : RrL w a R := fun i l hl => by
  obtain ⟨vs, hr, he⟩ := h
  have hi : i < R.length := (List.getElem?_eq_some_iff.1 hl).1
  obtain ⟨x, hx⟩ : ∃ x, vs[i]? = some x := ⟨_, List.getElem?_eq_getElem (by rw [he.len]; exact hi)⟩
  obtain ⟨k, hk⟩ : ∃ k, R.length = k + 1 := ⟨R.length - 1, by omega⟩
  have hr2 := hr
  rw [hk] at hr2
  obtain ⟨g, c, e⟩ := owns_form hr2
  cases e
  exact ⟨g, 0, x, rfl, by rw [Nat.zero_add]; exact (owns_cells hr2).1 i x hx, (he.own i x l hx hl).rc⟩
set_option maxRecDepth 20000 in
set_option maxHeartbeats 2000000 in
theorem pieces_d (a : Option Addr) (n cap : Nat) (L : List (List Int)) (w : World) (hr : RrL w a L) (hn : L.length = n) (hb : ∀ l ∈ L, okR l) (hL : n ≤ 1000) (ht : tot L ≤ 8000) :
    Calls Try.prog 44 #[.slice a n cap] w fun e w' => e = .returned (.int .i64 (tot L : Nat)) ∧ w = w' := by
  have H : Hid (RrL w a L ∧ L.length = n ∧ (∀ l ∈ L, okR l) ∧ tot L ≤ 8000) := ⟨hr, hn, hb, ht⟩
  clear hr hn hb ht
  go_enter Try.func44, Try.ntmps44
  go_wp2
  go_loopw [3, 4] (fun p i wr => ∃ k : Nat, k ≤ n ∧ i = .int .i64 k ∧ p = .int .i64 (tot (L.take k) : Nat) ∧ w = wr) (fun _ i _ => n - (RowKit.intOf i).toNat)
  case atStart => exact ⟨0, Nat.zero_le _, rfl, rfl, rfl⟩
  case round =>
    obtain ⟨k, hk, rfl, rfl, rfl⟩ := hrel
    by_cases hlt : k < n
    · obtain ⟨l, hl⟩ : ∃ l, L[k]? = some l := ⟨_, List.getElem?_eq_getElem (by rw [H.out.2.1]; omega)⟩
      obtain ⟨g', off, x, rfl, hx, hrc⟩ := H.out.1 k l hl
      have hlb := H.out.2.2.1 l (List.mem_of_getElem? hl)
      obtain ⟨ax, cx, rfl, _⟩ := hrc
      have hkn : (k : Int) < (n : Int) := by omega
      have ht1 := tot_take hl
      have ht2 := tot_le L k
      have hn2 := (nb_le424 hlb).2
      have HB0 := rblocks_d ax l.length cx w (by have := hlb.2; omega)
      obtain ⟨P, hP⟩ : ∃ P, tot (L.take k) = P := ⟨_, rfl⟩
      obtain ⟨C, hC⟩ : ∃ C, nb l.length = C := ⟨_, rfl⟩
      have HT : Hid (tot (L.take (k + 1)) = P + C) := by show _ = _; rw [← hP, ← hC]; exact ht1
      rw [hC] at HB0 hn2
      have HB : Hid (Calls Try.prog 40 #[.slice ax l.length cx] w fun e w' => e = .returned (.int .i64 (C : Nat)) ∧ w = w') := HB0
      rw [hP] at ht2 ⊢
      have h8 := H.out.2.2.2
      clear ht1 hP hC hl hlb HB0
      go_wp2_with (go_at_call 40; refine HB.out.mono ?_; rintro e w3 ⟨rfl, rfl⟩)
      go_roundw
      case rel => exact ⟨k + 1, by omega, by go_num, by rw [HT.out, Int.natCast_add], trivial⟩
      case measure => simp [RowKit.intOf]; omega
    · obtain rfl : n = k := by omega
      have hPk : tot (L.take n) = tot L := by rw [List.take_of_length_le (by rw [H.out.2.1]; exact Nat.le_refl _)]
      rw [hPk]
      clear hPk hlt
      go_wp2
      go_ret
      exact ⟨rfl, rfl⟩
theorem Ly.trans {w wq w' : World} {r N j k : Nat} {R0 R1 R2 : Rf} {T1 T2 : Dsk} (h : Ly w wq r R0 T1 N j R1) (h2 : Ly wq w' r R1 T2 N k R2) : Ly w w' r R0 T2 N (j + k) R2 := by
  refine ⟨h2.rf, h2.sim, h2.n, by have := h.few; have := h2.few; omega, ?_, ?_⟩
  · have hO := h2.only
    refine ⟨hO.os.trans h.only.os, hO.tape.trans h.only.tape, hO.output.trans h.only.output, Nat.le_trans h.only.size hO.size, fun b hb hn => ?_⟩
    rw [hO.block b (Nat.lt_of_lt_of_le hb h.only.size) ?_]
    · exact h.only.block b hb hn
    · rintro (e | e)
      · exact hn (.inl e)
      · rcases h.own with e2 | e2
        · exact hn (.inr (e2 ▸ e))
        · have := e2 b e; omega
  · rcases h2.own with e | e
    · rw [e]; exact h.own
    · exact .inr fun b hb => Nat.le_trans h.only.size (e b hb)
theorem Ly.again {w wr : World} {r N j : Nat} {R0 R : Rf} {T : Dsk} (h : Ly w wr r R0 T N j R) : Ly wr wr r R T N 0 R := ⟨h.rf, h.sim, h.n, Nat.le_refl _, Only.refl _ _, .inl rfl⟩
end
end Go.Proofs.Ytajgaialnafdbaa
