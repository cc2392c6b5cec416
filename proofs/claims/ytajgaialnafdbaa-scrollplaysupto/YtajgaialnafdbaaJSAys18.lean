/- The contracts of the laws' records, fresh and awake. -/
import Derived.Test.YtajgaialnafdbaaJSAys17
namespace Go.Proofs.Ytajgaialnafdbaa
section
open Go.RowKit

theorem OwnR.app {w' w9 : World} {base m : Nat} {v v9 x : Value} {R : List (List Int)} {l : List Int} {vs : List Value} {o : Obj} (hrow : w'.ownsRow base 22 1 v R.length vs) (hels : Els w' base m vs R) (hbm : base ≤ m) (hm : m ≤ w'.heap.size) (hO : OwnB w' m x l)
    (hown : w9.ownsRow base 22 1 v9 (R.length + 1) (vs ++ [x])) (hgrow : (w'.alloc o).grownBy w9 v.ownBlock) :
    OwnR w9 base w9.heap.size v9 (R ++ [l]) ∧ (∀ k t, Tag w' k t → t ≠ 22 → w9.heap[k]? = w'.heap[k]?) ∧ Only (fun x => v.ownBlock = some x) w' w9 := by
  have key : ∀ k t, Tag w' k t → t ≠ 22 → w9.heap[k]? = w'.heap[k]? := fun k t ht hn => by
    have hlt := ht.lt
    rw [hgrow.block k (by simp; omega) (fun e => (Tag.own hrow e.symm).ne ht (fun e => hn e.symm) rfl), Below.heap_alloc _ _ _ hlt]
  have hsz : w'.heap.size ≤ w9.heap.size := by have := hgrow.size; simp at this; omega
  refine ⟨OwnR.snoc hels hO hbm (fun k hk => Nat.lt_of_lt_of_le (hO.at k hk).2 hsz) (Nat.le_trans hm hsz) hown (fun k ht => key k _ ht (by decide)), key, ⟨by rw [hgrow.os]; rfl, by rw [hgrow.tape]; rfl, by rw [hgrow.output]; rfl, hsz, fun k hk hn => ?_⟩⟩
  rw [hgrow.block k (by simp; omega) (fun e => hn e.symm), Below.heap_alloc _ _ _ hk]

def cM (m : Int) : Nat := min m.toNat 300
def recsL (ln fl : Int) (n : Nat) : List (List Int) := (List.range n).map fun (i : Nat) => bl (bn ln) (wrap64 (fl + (i : Int)))
theorem recsL_len (ln fl : Int) (n : Nat) : (recsL ln fl n).length = n := by unfold recsL; simp
theorem recsL_succ (ln fl : Int) (n : Nat) : recsL ln fl (n + 1) = recsL ln fl n ++ [bl (bn ln) (wrap64 (fl + (n : Int)))] := by unfold recsL; rw [List.range_succ, List.map_append]; rfl
theorem recsL_mem {ln fl : Int} {n : Nat} {l : List Int} (h : l ∈ recsL ln fl n) : l.length = bn ln ∧ Byt l := by
  unfold recsL at h
  obtain ⟨i, _, rfl⟩ := List.mem_map.1 h
  exact ⟨bl_len _ _, bl_byt _ _⟩
set_option maxRecDepth 100000 in
set_option maxHeartbeats 2000000 in
theorem records_any (kd nn ln fl mn : Int) (w : World) (hfl : (Lit.int .i64 fl).wf = true) :
    Calls Try.prog 12 #[.agg #[.int .i64 kd, .int .i64 nn, .int .i64 ln, .int .i64 fl, .int .i64 mn]] w fun e w' => ∃ v, e = .returned v ∧ OwnR w' w.heap.size w'.heap.size v (recsL ln fl (cM mn)) ∧ Below w.heap.size w w' := by
  have hf := bounds_i64 hfl
  obtain ⟨i1, hi1, hw0, hw1, hw2⟩ := info_parts Try.infoS
  obtain ⟨n, hn⟩ : ∃ n, cM mn = n := ⟨_, rfl⟩
  have hn1 : n ≤ 300 := by rw [← hn]; unfold cM; omega
  have HN : Hid (∀ k : Nat, k < n ↔ (k : Int) < mn ∧ k < 300) := fun k => by rw [← hn]; unfold cM; omega
  rw [hn]
  clear hn hfl
  go_enter Try.func12, Try.ntmps12
  go_wp2
  go_loopw [3, 4] (fun v i wr => ∃ k : Nat, k ≤ n ∧ i = .int .i64 k ∧ OwnR wr w.heap.size wr.heap.size v (recsL ln fl k) ∧ Below w.heap.size w wr ∧ wr.heap[w.heap.size]? = some (.cells #[.int .i64 kd, .int .i64 nn, .int .i64 ln, .int .i64 fl, .int .i64 mn] 34 (0, 0))) (fun _ i _ => n - (intOf i).toNat)
  case atStart => exact ⟨0, Nat.zero_le _, rfl, (OwnR.nil _ _ _ : OwnR _ _ _ _ []), below_alloc _ _, heap_new _ _⟩
  case round =>
    obtain ⟨k, hk, rfl, hO, hB, hx⟩ := hrel
    have c2 : wr.cell? ⟨w.heap.size, 2, none⟩ = some (.int .i64 ln) := by rw [cell_of hx]; rfl
    have c3 : wr.cell? ⟨w.heap.size, 3, none⟩ = some (.int .i64 fl) := by rw [cell_of hx]; rfl
    have c4 : wr.cell? ⟨w.heap.size, 4, none⟩ = some (.int .i64 mn) := by rw [cell_of hx]; rfl
    have hsz : w.heap.size < wr.heap.size := (Array.getElem?_eq_some_iff.1 hx).1
    by_cases hlt : k < n
    · have h1 := (HN.out k).1 hlt
      have e1 : decide ((k : Int) < mn) = true := decide_eq_true h1.1
      have e2 : decide ((k : Int) < 300) = true := decide_eq_true (by omega)
      have H : Hid (OwnR wr w.heap.size wr.heap.size u3 (recsL ln fl k) ∧ Below w.heap.size w wr ∧ wr.heap[w.heap.size]? = some (.cells #[.int .i64 kd, .int .i64 nn, .int .i64 ln, .int .i64 fl, .int .i64 mn] 34 (0, 0))) := ⟨hO, hB, hx⟩
      clear hO hB hx h1
      go_wp2_with (first
        | (go_at_call 9; refine (record_any _ _ _).mono ?_; rintro e w2 ⟨v2, rfl, ho2, hb2⟩; obtain ⟨vs, hrow, hels⟩ := H.out.1.below hb2; have HV : Hid (w2.ownsRow w.heap.size 22 1 u3 (recsL ln fl k).length vs ∧ Els w2 w.heap.size wr.heap.size vs (recsL ln fl k)) := ⟨hrow, hels⟩; obtain ⟨a2, n2, e2'⟩ := owns_len ho2; subst e2'; have hs2 := hb2.size; clear hrow hels)
        | (at_builtin; refine wpList_append_own_at _ rfl _ _ 41 rfl w.heap.size 22 i1 (.slice none 0 0) 1 24 Try.underlying41 hi1 hw0 hw1 hw2 rfl (by decide) _ (recsL ln fl k).length vs rfl (World.ownsRow.alloc HV.out.1 _) ⟨w2.heap.size, 0, none⟩ 1 1 [_] rfl rfl (one_at _ _ _) (one_cell _ rfl) (by rw [recsL_len]; unfold maxLen; omega) (by rw [recsL_len]; omega) (by simp; omega) ?_; intro v9 w9 hown9 hgrow9 _ _))
      have h9 : OwnR w9 w.heap.size w9.heap.size v9 (recsL ln fl k ++ [bl (bn ln) (wrap64 (fl + (k : Int)))]) ∧ (∀ q t, Tag w2 q t → t ≠ 22 → w9.heap[q]? = w2.heap[q]?) ∧ Only (fun x => u3.ownBlock = some x) w2 w9 := OwnR.app HV.out.1 HV.out.2 (by omega) hs2 ho2 hown9 hgrow9
      have hx2 : w2.heap[w.heap.size]? = some (.cells #[.int .i64 kd, .int .i64 nn, .int .i64 ln, .int .i64 fl, .int .i64 mn] 34 (0, 0)) := (hb2.block _ hsz).trans H.out.2.2
      go_roundw
      case rel =>
        refine ⟨k + 1, by omega, by go_num, by rw [recsL_succ]; exact h9.1, ?_, (h9.2.1 _ _ ⟨_, _, hx2⟩ (by decide)).trans hx2⟩
        have hB2 := chainB H.out.2.1 hb2
        exact h9.2.2.below hB2 hB2.size (fun q hq => (H.out.1.at hq).1)
      case measure => simp [intOf]; omega
    · obtain rfl : n = k := by omega
      have h1 : ¬ ((n : Int) < mn ∧ n < 300) := fun h => hlt ((HN.out n).2 h)
      have H : Hid (OwnR wr w.heap.size wr.heap.size u3 (recsL ln fl n) ∧ Below w.heap.size w wr) := ⟨hO, hB⟩
      clear hO hB hx hlt
      by_cases h2 : (n : Int) < mn
      · have e1 : decide ((n : Int) < mn) = true := decide_eq_true h2
        have e2 : decide ((n : Int) < 300) = false := decide_eq_false (by omega)
        clear h1
        go_wp2
        go_ret
        exact ⟨_, rfl, H.out.1, H.out.2⟩
      · have e1 : decide ((n : Int) < mn) = false := decide_eq_false h2
        clear h1
        go_wp2
        go_ret
        exact ⟨_, rfl, H.out.1, H.out.2⟩

/-- a disk of the law's own, and a scroll on it, as the document has it -/
structure Lw (w0 w : World) (b g sb G Hh u : Nat) (s : Dsk) (R : List (List Int)) (N : Nat) (K : Int) : Prop where
  dk : IsD w b g s
  ss : IsS w sb b G Hh R.length u
  sc : Sc s.cs G Hh R u
  ok : s.ok K
  by' : BytC s.cs
  len : s.cs.length = N
  bel : Below w0.heap.size w0 w
  lb : w0.heap.size ≤ b
  lg : w0.heap.size ≤ g
  ls : w0.heap.size ≤ sb
theorem Lw.below {w0 w w' : World} {b g sb G Hh u : Nat} {s : Dsk} {R : List (List Int)} {N : Nat} {K : Int} (h : Lw w0 w b g sb G Hh u s R N K) (hb : Below w.heap.size w w') : Lw w0 w' b g sb G Hh u s R N K :=
  ⟨h.dk.below hb, h.ss.below hb, h.sc, h.ok, h.by', h.len, chainB h.bel hb, h.lb, h.lg, h.ls⟩
set_option maxRecDepth 100000 in
set_option maxHeartbeats 2000000 in
theorem open_new (b g N : Nat) (s : Dsk) (w : World) (h : IsD w b g s) (hl : s.cs.length = N) (hN : 3 ≤ N) (hb : BytC s.cs) {G Hh u : Nat} {R : List (List Int)} (hsc : Sc s.cs G Hh R u) :
    Calls Try.prog 29 #[.pointer (some ⟨b, 0, none⟩)] w fun e w' => ∃ sb vR, e = .returned (.tuple #[.pointer (some ⟨sb, 0, none⟩), vR, .int .i64 0]) ∧ w.heap.size ≤ sb ∧ IsD w' b g s ∧ IsS w' sb b G Hh R.length u ∧ OwnR w' w.heap.size w'.heap.size vR R ∧ Below w.heap.size w w' := by
  refine (open_yes b g s w h (by omega) hb G Hh (by unfold hS; omega) hsc.hdr).mono ?_
  rintro e w' ⟨sb, vR, R', u', rfl, hT, h1, h2, h3, h4, h5⟩
  obtain ⟨rfl, rfl⟩ := hT.one hsc.hf.told
  exact ⟨sb, vR, rfl, h1, h2, h3, h4, h5⟩
/-- with power and without a fuse all is written -/
theorem wr_keeps {s : Dsk} (h1 : s.on = true) (h2 : s.burns = false) (i : Int) (l : List Int) : (s.wr i l).on = true ∧ (s.wr i l).burns = false := by
  have e : s.spend = s := by unfold Dsk.spend; rw [h2]; rfl
  unfold Dsk.wr
  rw [e]
  split
  · split
    · exact ⟨h1, h2⟩
    · exact ⟨h1, h2⟩
  · exact ⟨h1, h2⟩
theorem layD_keeps {s : Dsk} (h1 : s.on = true) (h2 : s.burns = false) (a g r c : Nat) (l : List Int) (m : Nat) : (layD s a g r c l m).on = true ∧ (layD s a g r c l m).burns = false := by
  induction m with
  | zero => exact ⟨h1, h2⟩
  | succ m ih => exact wr_keeps ih.1 ih.2 _ _
theorem laysD_keeps {s : Dsk} (h1 : s.on = true) (h2 : s.burns = false) (A G n u : Nat) (ls : List (List Int)) : (laysD s A G n u ls).on = true ∧ (laysD s A G n u ls).burns = false := by
  induction ls generalizing s n u with
  | nil => exact ⟨h1, h2⟩
  | cons a ls ih => exact ih (layD_keeps h1 h2 _ _ _ _ _ _).1 (layD_keeps h1 h2 _ _ _ _ _ _).2 _ _
theorem nb_two : nb ([7, 8] : List Int).length = 1 := by decide
theorem cut_two : cutP [7, 8] 0 = [7, 8] := by decide
theorem OwnR.one {w : World} {base m : Nat} {v : Value} {l : List Int} (h : OwnR w base m v [l]) : ∃ g cap x, v = .slice (some ⟨g, 0, none⟩) 1 cap ∧ w.cell? ⟨g, 0, none⟩ = some x ∧ OwnB w base x l := by
  obtain ⟨vs, hr, he⟩ := h
  obtain ⟨g, cap, rfl⟩ := owns_form hr
  have hi : 0 < vs.length := by rw [he.len]; simp
  have hx : vs[0]? = some (vs[0]'hi) := List.getElem?_eq_getElem hi
  exact ⟨g, cap, _, rfl, (owns_cells hr).1 0 _ hx, he.own 0 _ l hx rfl⟩
theorem pieceB_0 : (pieceB 1 0 0 1 [7, 8])[0]? = some 1 ∧ (pieceB 1 0 0 1 [7, 8])[11]? = some 7 := by decide
set_option maxRecDepth 100000 in
set_option maxHeartbeats 4000000 in
theorem awake_any (w : World) : Calls Try.prog 5 #[] w fun e w' => e = .returned (.bool true) ∧ Below w.heap.size w w' := by
  obtain ⟨hE, T, hT, hsc, hok, hon, hbu, hlen, hby, hSS, _⟩ := fmt_new 7 (by decide)
  have hSS : hS T.cs = 3 := hSS
  have HNw : Hid (∀ w, Calls Try.prog 24 #[.int .i64 7] w fun e w' => ∃ b g, e = .returned (.tuple #[.pointer (some ⟨b, 0, none⟩), .int .i64 0]) ∧ w.heap.size ≤ b ∧ w.heap.size ≤ g ∧ IsD w' b g (Dsk.new 7) ∧ Below w.heap.size w w') := fun w => new_yes 7 w (by decide) (by decide)
  have HFm : Hid (∀ b g w, IsD w b g (Dsk.new 7) → Calls Try.prog 18 #[.pointer (some ⟨b, 0, none⟩)] w fun e w' => e = .returned (.int .i64 0) ∧ IsD w' b g T ∧ Only (fun x => x = b ∨ x = g) w w') := fun b g w h => by
    have := format_any b g (Dsk.new 7) w h ⟨(fun e => by cases e), show (0 : Int) ≤ 0 by decide, show (0 : Int) < 9223372036854775807 by decide⟩ (by show 1 ≤ (List.replicate 7 zeros).length; decide) (fun l hl => by rw [(List.mem_replicate.1 hl).2]; exact byt_zs 64)
    rw [hE, hT] at this; exact this
  have hokR : okR [7, 8] := by unfold okR; decide
  have hbyt : Byt [7, 8] := byt_cons (by decide) (byt_cons (by decide) byt_nil)
  obtain ⟨T2, hT2⟩ : ∃ T2, layD T (1 + 0 * hS T.cs + 0) 1 ([] : List (List Int)).length (nb ([7, 8] : List Int).length) [7, 8] (nb ([7, 8] : List Int).length) = T2 := ⟨_, rfl⟩
  obtain ⟨a1, _, a3, a4, a5, _⟩ := hsc.app hok hokR hbyt hby (by rw [hSS]; decide) hT2.symm
  have hon2 : T2.on = true := by rw [← hT2]; exact (layD_keeps hon hbu _ _ _ _ _ _).1
  have hsc2 := a1 hon2
  have hcs1 : T2.cs[1]? = some (pieceB 1 0 0 1 [7, 8]) := by
    obtain ⟨j, hj, e, h1, _⟩ := layD_cs (s := T) (1 + 0 * hS T.cs + 0) 1 ([] : List (List Int)).length (nb ([7, 8] : List Int).length) [7, 8] (nb ([7, 8] : List Int).length) (by rw [hlen, nb_two]; omega)
    rw [hT2] at e h1
    have := h1 hon2
    subst this
    have e1 : 1 + 0 * hS T.cs + 0 = 1 := by omega
    rw [e, e1, putP_get, if_pos (by rw [hlen, nb_two]; omega)]
    rfl
  have hpw : pwE T2.on = 0 := by rw [hon2]; rfl
  have HAp : Hid (∀ sb b g v w, IsS w sb b 1 0 0 0 → IsD w b g T → RT w v [7, 8] → Calls Try.prog 8 #[.pointer (some ⟨sb, 0, none⟩), v] w fun e w' => e = .returned (.int .i64 0) ∧ IsD w' b g T2 ∧ IsS w' sb b 1 0 1 1 ∧ Only (fun x => x = b ∨ x = g ∨ x = sb) w w') := fun sb b g v w hs hd hv => by
    refine (append_go sb b 1 0 0 0 g T 1 v [7, 8] w hs hd hok (by decide) hv hokR (by decide) (by decide) (by decide) (by rw [hSS]; decide)).mono ?_
    rintro e w' ⟨T', h1, rfl, h3, h4, h5⟩
    have h1 : T' = T2 := h1.trans hT2
    subst h1
    rw [hon2] at h4
    exact ⟨by rw [hpw], h3, h4, h5⟩
  have HF : Hid (Sc T.cs 1 0 [] 0 ∧ T.cs.length = 7 ∧ BytC T.cs ∧ Sc T2.cs 1 0 [[7, 8]] 1 ∧ T2.cs.length = 7 ∧ BytC T2.cs ∧ T2.cs[1]? = some (pieceB 1 0 0 1 [7, 8]) ∧ hS T.cs = 3 ∧ hS T2.cs = 3) := ⟨hsc, hlen, hby, hsc2, a4.trans hlen, a3, hcs1, hSS, by rw [← hSS]; exact hS_len a4⟩
  clear hE hT hsc hok hon hbu hlen hby hSS hT2 a1 a3 a4 a5 hon2 hsc2 hcs1 hpw hokR hbyt
  go_enter Try.func5, Try.ntmps5
  go_wp2_with (first
    | (go_at_call 24; refine (HNw.out _).mono ?_; rintro e w2 ⟨b, g, rfl, hb, hg, hD, hB⟩)
    | (go_at_call 18; refine (HFm.out b g _ hD).mono ?_; rintro e w3 ⟨rfl, hD3, hO3⟩)
    | (go_at_call 29; have _q := hD6; refine (open_new b g 7 T2 _ hD6 HF.out.2.2.2.2.1 (by decide) HF.out.2.2.2.2.2.1 HF.out.2.2.2.1).mono ?_; rintro e w7 ⟨sb2, vR2, rfl, hsb2, hD7, hS7', hO7, hB7⟩; obtain ⟨g7, c7, x7, rfl, k7, ho7⟩ := hO7.one)
    | (go_at_call 29; refine (open_new b g 7 T _ hD3 HF.out.2.1 (by decide) HF.out.2.2.1 HF.out.1).mono ?_; rintro e w4 ⟨sb, vR, rfl, hsb, hD4, hS4, hO4, hB4⟩; obtain ⟨a4, c4, e4⟩ : ∃ a c, vR = .slice a 0 c := (by obtain ⟨vs, h1, _⟩ := hO4; exact owns_len h1); subst e4)
    | (go_at_call 21; have _q := hS8; refine (room_any sb b 1 0 1 1 g T2 _ hS8 hD8 (by rw [HF.out.2.2.2.2.1]; decide) (by rw [HF.out.2.2.2.2.2.2.2.2]; decide)).mono ?_; rintro e w9 ⟨rfl, hSm9⟩; rw [HF.out.2.2.2.2.2.2.2.2])
    | (go_at_call 21; refine (room_any sb b 1 0 0 0 g T _ hS4 hD4 (by rw [HF.out.2.1]; decide) (Nat.zero_le _)).mono ?_; rintro e w5 ⟨rfl, hSm⟩; rw [HF.out.2.2.2.2.2.2.2.1])
    | (go_at_call 8; refine (HAp.out sb b g _ _ ((hS4.below hSm.below).below (below_alloc _ _)) ((hD4.below hSm.below).below (below_alloc _ _)) (by exact (OwnB.built w5 [7, 8] w5.heap.size (Nat.le_refl _) (by decide)).rt)).mono ?_; rintro e w6 ⟨rfl, hD5, hS5, hO5⟩)
    | (go_at_call 30; refine (read_at b g T2 1 _ HF.out.2.2.2.2.2.2.1 _ hD5).mono ?_; rintro e w6r ⟨q, cq, rfl, hcq, hoq, hcl, hBq⟩; have hD6 := hD5.below hBq; have i0 := hcl.2 0 _ pieceB_0.1; have i11 := hcl.2 11 _ pieceB_0.2)
    | (go_at_call 31; refine (same_any _ _ [7, 8] [7, 8] _ ((ho7.rb.below (below_alloc _ _))) (by exact (OwnB.built w7 [7, 8] w7.heap.size (Nat.le_refl _) (by decide)).rb) (by decide) (by decide)).mono ?_; rintro e w8 ⟨rfl, hB8⟩; have hD8 := (hD7.below (below_alloc _ _)).below hB8; have hS8 := (((hS5.below hBq).below hB7).below (below_alloc _ _)).below hB8; have BB : Below w6r.heap.size w6r w8 := chainB (chainB hB7 (below_alloc _ _)) hB8; have j0 := (BB.cell (p := ⟨q, 0, none⟩) hcl.1).trans i0; have j11 := (BB.cell (p := ⟨q, 11, none⟩) hcl.1).trans i11; clear i0 i11))
  go_ret
  have hB3 := hO3.below hB hB.size (fun k hk => by omega)
  have hB5 := chainB (chainB hB3 hB4) hSm.below
  have hs3 := hB3.size
  have hB6 : Below w.heap.size w w6 := hO5.below (chainB hB5 (below_alloc _ _)) (chainB hB5 (below_alloc _ _)).size (fun k hk => by omega)
  exact ⟨rfl, chainB (chainB (chainB hB6 hBq) BB) hSm9.below⟩
end
section
open Go.RowKit

/-- the document's disk: its size, the writes that were done (place, slice, bytes), whether it is on, its fuse -/
structure Rf where
  n : Nat
  v : Value
  did : List (Nat × Value × List Int)
  lit : Bool
  fz : Int
def wcells (did : List (Nat × Value × List Int)) : List Value := did.flatMap fun p => [.int .i64 p.1, p.2.1]
structure IsRf (w : World) (r : Nat) (R : Rf) : Prop where
  head : w.heap[r]? = some (.cells #[.int .i64 R.n, R.v, .bool R.lit, .int .i64 R.fz] 85 (0, 0))
  row : w.ownsRow 0 92 2 R.v R.did.length (wcells R.did)
  each : ∀ p ∈ R.did, OwnB w 0 p.2.1 p.2.2 ∧ p.2.2.length = 64

theorem IsD.tb {w : World} {b g : Nat} {s : Dsk} (h : IsD w b g s) : Tag w b 82 := ⟨_, _, h.head⟩
theorem IsD.tg {w : World} {b g : Nat} {s : Dsk} (h : IsD w b g s) : Tag w g 90 := ⟨_, _, h.body⟩
theorem IsRf.tr {w : World} {r : Nat} {R : Rf} (h : IsRf w r R) : Tag w r 85 := ⟨_, _, h.head⟩
theorem IsRf.tv {w : World} {r : Nat} {R : Rf} (h : IsRf w r R) {k : Nat} (hk : R.v.ownBlock = some k) : Tag w k 92 := Tag.own h.row hk
theorem IsRf.moved {w w' : World} {r : Nat} {R : Rf} (h : IsRf w r R) (hr : w'.heap[r]? = w.heap[r]?) (hv : ∀ k, R.v.ownBlock = some k → w'.heap[k]? = w.heap[k]?) (hb : ∀ k, Tag w k 5 → w'.heap[k]? = w.heap[k]?) : IsRf w' r R :=
  ⟨hr.trans h.head, owns_moved h.row hv, fun p hp => ⟨(h.each p hp).1.moved fun k hk => hb k ((h.each p hp).1.tag hk), (h.each p hp).2⟩⟩
theorem IsRf.below {w w' : World} {r : Nat} {R : Rf} (h : IsRf w r R) (hb : Below w.heap.size w w') : IsRf w' r R :=
  h.moved (hb.block r h.tr.lt) (fun k hk => hb.block k (h.tv hk).lt) (fun k hk => hb.block k hk.lt)
/-- a write into a disk leaves the document's -/
theorem IsRf.disk {w w' : World} {r b g : Nat} {R : Rf} {s : Dsk} (h : IsRf w r R) (hD : IsD w b g s) (hO : Only (fun x => x = b ∨ x = g) w w') : IsRf w' r R := by
  have key : ∀ k t, Tag w k t → t ≠ 82 → t ≠ 90 → w'.heap[k]? = w.heap[k]? := fun k t ht h1 h2 =>
    hO.block k ht.lt (fun e => e.elim (ht.ne hD.tb h1) (ht.ne hD.tg h2))
  exact h.moved (key r _ h.tr (by decide) (by decide)) (fun k hk => key k _ (h.tv hk) (by decide) (by decide)) (fun k hk => key k _ hk (by decide) (by decide))
/-- a write into a document's disk leaves the others -/
theorem IsRf.other {w w' : World} {r r0 : Nat} {R R0 : Rf} (h : IsRf w r R) (h0 : IsRf w r0 R0) (hr : r ≠ r0) (hv : ∀ k, R.v.ownBlock = some k → R0.v.ownBlock ≠ some k) (hO : Only (fun x => x = r0 ∨ R0.v.ownBlock = some x) w w') : IsRf w' r R :=
  h.moved (hO.block r h.tr.lt (fun e => e.elim hr (fun e => h.tr.ne (h0.tv e) (by decide) rfl)))
    (fun k hk => hO.block k (h.tv hk).lt (fun e => e.elim (fun e => (h.tv hk).ne h0.tr (by decide) e) (hv k hk)))
    (fun k hk => hO.block k hk.lt (fun e => e.elim (fun e => hk.ne h0.tr (by decide) e) (fun e => hk.ne (h0.tv e) (by decide) rfl)))
theorem IsD.ref {w w' : World} {r b g : Nat} {R : Rf} {s : Dsk} (h : IsD w b g s) (h0 : IsRf w r R) (hO : Only (fun x => x = r ∨ R.v.ownBlock = some x) w w') : IsD w' b g s :=
  h.only hO (fun e => e.elim (fun e => h.tb.ne h0.tr (by decide) e) (fun e => h.tb.ne (h0.tv e) (by decide) rfl)) (fun e => e.elim (fun e => h.tg.ne h0.tr (by decide) e) (fun e => h.tg.ne (h0.tv e) (by decide) rfl))
theorem IsD.other {w w' : World} {b g b0 g0 : Nat} {s s0 : Dsk} (h : IsD w b g s) (h0 : IsD w b0 g0 s0) (hb : b ≠ b0) (hg : g ≠ g0) (hO : Only (fun x => x = b0 ∨ x = g0) w w') : IsD w' b g s :=
  h.only hO (fun e => e.elim hb (fun e => h.tb.ne h0.tg (by decide) e)) (fun e => e.elim (fun e => h.tg.ne h0.tb (by decide) e) hg)

theorem IsRf.cells {w : World} {r : Nat} {R : Rf} (h : IsRf w r R) :
    w.cell? ⟨r, 0, none⟩ = some (.int .i64 R.n) ∧ w.cell? ⟨r, 1, none⟩ = some R.v ∧ w.cell? ⟨r, 2, none⟩ = some (.bool R.lit) ∧ w.cell? ⟨r, 3, none⟩ = some (.int .i64 R.fz) ∧ ∀ i, w.frozen? ⟨r, i, none⟩ = false :=
  ⟨by rw [cell_of h.head]; rfl, by rw [cell_of h.head]; rfl, by rw [cell_of h.head]; rfl, by rw [cell_of h.head]; rfl, free_of h.head⟩
theorem IsRf.form {w : World} {r : Nat} {R : Rf} (h : IsRf w r R) : ∃ a cap, R.v = .slice a R.did.length cap := by
  rcases h.row.2 with ⟨e, e2⟩ | ⟨g, cap, cur, e, _⟩
  · exact ⟨none, 0, by rw [e, e2]⟩
  · exact ⟨_, _, e⟩
/-- the head turned -/
theorem IsRf.put {w : World} {r : Nat} {R R' : Rf} (h : IsRf w r R) (i : Nat) (x : Value) (hc : (#[.int .i64 R.n, R.v, .bool R.lit, .int .i64 R.fz] : Array Value).setIfInBounds i x = #[.int .i64 R'.n, R'.v, .bool R'.lit, .int .i64 R'.fz]) (hv : R'.v = R.v) (hd : R'.did = R.did) : IsRf (w.setCell ⟨r, i, none⟩ x) r R' := by
  have hne : ∀ k t, Tag w k t → t ≠ 85 → (w.setCell ⟨r, i, none⟩ x).heap[k]? = w.heap[k]? := fun k t ht h1 => heap_set_ne (ht.ne h.tr h1)
  refine ⟨(heap_set h.head i x).trans (by rw [hc]), ?_, ?_⟩
  · rw [hv, hd]; exact owns_moved h.row fun k hk => hne k _ (h.tv hk) (by decide)
  · rw [hd]; exact fun p hp => ⟨(h.each p hp).1.moved fun k hk => hne k _ ((h.each p hp).1.tag hk) (by decide), (h.each p hp).2⟩
theorem IsRf.lit {w : World} {r : Nat} {R : Rf} (h : IsRf w r R) (x : Bool) : IsRf (w.setCell ⟨r, 2, none⟩ (.bool x)) r { R with lit := x } := h.put 2 _ rfl rfl rfl
theorem IsRf.fz {w : World} {r : Nat} {R : Rf} (h : IsRf w r R) (x : Int) : IsRf (w.setCell ⟨r, 3, none⟩ (.int .i64 x)) r { R with fz := x } := h.put 3 _ rfl rfl rfl

def Rf.new (n : Nat) : Rf := ⟨n, .slice none 0 0, [], true, -1⟩
def Rf.cut (R : Rf) : Rf := { R with lit := false, fz := -1 }
def Rf.power (R : Rf) : Rf := { R with lit := true, fz := -1 }
def Rf.fuseE (R : Rf) (n : Int) : Int := if n < 0 then 1 else if R.lit then 0 else 21
def Rf.fuse (R : Rf) (n : Int) : Rf := if n < 0 then R else if R.lit then { R with fz := n } else R

theorem rnew_no (n : Int) (w : World) (h : n < 1 ∨ 1024 < n) :
    Calls Try.prog 25 #[.int .i64 n] w fun e w' => e = .returned (.tuple #[.pointer none, .int .i64 1]) ∧ w' = w := by
  rcases h with h | h
  · go_enter Try.func25, Try.ntmps25
    go_wp2
    go_ret2
    exact ⟨rfl, rfl⟩
  · have h' : ¬ n < 1 := by omega
    go_enter Try.func25, Try.ntmps25
    go_wp2
    go_ret2
    exact ⟨rfl, rfl⟩
theorem rnew_yes (n : Nat) (w : World) (h1 : 1 ≤ n) (h2 : n ≤ 1024) :
    Calls Try.prog 25 #[.int .i64 n] w fun e w' => ∃ r, e = .returned (.tuple #[.pointer (some ⟨r, 0, none⟩), .int .i64 0]) ∧ w.heap.size ≤ r ∧ IsRf w' r (Rf.new n) ∧ Below w.heap.size w w' := by
  go_enter Try.func25, Try.ntmps25
  go_wp2
  go_ret2
  exact ⟨w.heap.size, rfl, Nat.le_refl _, ⟨heap_new _ _, World.ownsRow_nil _ _ _ _, fun p hp => by cases hp⟩, (Below.refl _ _).alloc (Nat.le_refl _) _⟩
theorem rpower_any (r : Nat) (R : Rf) (w : World) (h : IsRf w r R) :
    Calls Try.prog 17 #[.pointer (some ⟨r, 0, none⟩)] w fun e w' => e = .returned (.tuple #[]) ∧ IsRf w' r R.power ∧ Only (· = r) w w' := by
  obtain ⟨_, _, c2, c3, hf⟩ := h.cells
  have H : Hid (IsRf w r R) := h
  clear h
  go_enter Try.func17, Try.ntmps17
  go_wp2
  go_end0
  exact ⟨rfl, (H.out.lit true).fz (-1), (only1 _ r 2 _).trans (only1 _ r 3 _)⟩
theorem rfuse_any (r : Nat) (R : Rf) (n : Int) (w : World) (h : IsRf w r R) :
    Calls Try.prog 15 #[.pointer (some ⟨r, 0, none⟩), .int .i64 n] w fun e w' => e = .returned (.int .i64 (R.fuseE n)) ∧ IsRf w' r (R.fuse n) ∧ Only (· = r) w w' := by
  obtain ⟨_, _, c2, c3, hf⟩ := h.cells
  unfold Rf.fuseE Rf.fuse
  have H : Hid (IsRf w r R) := h
  clear h
  by_cases hn : n < 0
  · rw [if_pos hn, if_pos hn]
    go_enter Try.func15, Try.ntmps15
    go_wp2
    go_ret
    exact ⟨rfl, H.out, Only.refl _ _⟩
  · rw [if_neg hn, if_neg hn]
    by_cases ho : R.lit = true
    · rw [if_pos ho, if_pos ho]
      rw [ho] at c2
      clear ho
      go_enter Try.func15, Try.ntmps15
      go_wp2
      go_ret
      exact ⟨rfl, H.out.fz n, only1 _ r 3 _⟩
    · rw [if_neg ho, if_neg ho]
      rw [Bool.eq_false_iff.2 ho] at c2
      clear ho
      go_enter Try.func15, Try.ntmps15
      go_wp2
      go_ret
      exact ⟨rfl, H.out, Only.refl _ _⟩
end
end Go.Proofs.Ytajgaialnafdbaa
