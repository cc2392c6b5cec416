/- The walk of the law NameKept: it returns true. -/
import Derived.Test.YtehpaanpkiidaabNmLE
import Derived.OneCell
namespace Go.Proofs.Ytehpaanpkiidaab
open Go.RowKit

theorem cutL_len (s : ByteArray) (b : Bool) : (cutL s b).length ≤ 97 := by
  unfold cutL
  split
  · rename_i h
    have := ((cut_ok s b).1 h).1
    exact Nat.le_trans (pcs_len s _) (by omega)
  · exact Nat.zero_le _
theorem parL_len (s : ByteArray) : (parL s).length ≤ 97 := by
  by_cases h : parE s = 0
  · have h0 : cutE s (rootB s) = 0 := by
      by_cases c : cutE s (rootB s) = 0
      · exact c
      · unfold parE at h; rw [if_neg c] at h; exact h
    have := cutL_len s (rootB s)
    rw [(cut_zero h0).2] at this
    rw [(par_of h).1, List.length_dropLast]; omega
  · rw [(par_not h).1]; exact Nat.zero_le _

/-- a list of texts of some length that a call has made -/
def OwnN (w : World) (v : Value) (n : Nat) : Prop := ∃ l : List ByteArray, l.length = n ∧ Own w 0 v l
def Far (x y : Value) : Prop := ∀ k, x.ownBlock = some k → y.ownBlock ≠ some k
theorem Far.symm {x y : Value} (h : Far x y) : Far y x := fun k hy hx => h k hx hy
theorem OwnN.lt {w : World} {v : Value} {n : Nat} (h : OwnN w v n) : ∀ k, v.ownBlock = some k → k < w.heap.size := by
  obtain ⟨l, _, h⟩ := h
  exact fun k hk => (World.ownsRow.lt h k hk).2
theorem Own.moved {w w' : World} {base : Nat} {v : Value} {l : List ByteArray} (h : Own w base v l) (hk : ∀ k, v.ownBlock = some k → w'.heap[k]? = w.heap[k]?) : Own w' base v l := by
  refine ⟨h.1, ?_⟩
  rcases h.2 with h2 | ⟨g, cap, cur, hv, hg, hh, r⟩
  · exact .inl h2
  · subst hv
    exact .inr ⟨g, cap, cur, rfl, hg, (hk g rfl).trans hh, r⟩

/-- three lists of the law's own, and what must stay -/
structure Inv (S : Nat → Prop) (w5 wr : World) (x y z : Value) (a b c : Nat) : Prop where
  os : wr.os = w5.os
  tape : wr.tape = w5.tape
  output : wr.output = w5.output
  size : w5.heap.size ≤ wr.heap.size
  keep : ∀ k, S k → wr.heap[k]? = w5.heap[k]?
  small : ∀ k, S k → k < w5.heap.size
  ox : OwnN wr x a
  oy : OwnN wr y b
  oz : OwnN wr z c
  xy : Far x y
  yz : Far y z
  zx : Far z x
  fx : ∀ k, x.ownBlock = some k → ¬ S k
  fy : ∀ k, y.ownBlock = some k → ¬ S k
  fz : ∀ k, z.ownBlock = some k → ¬ S k
theorem Inv.rot {S : Nat → Prop} {w5 wr : World} {x y z : Value} {a b c : Nat} (h : Inv S w5 wr x y z a b c) : Inv S w5 wr y z x b c a :=
  ⟨h.os, h.tape, h.output, h.size, h.keep, h.small, h.oy, h.oz, h.ox, h.yz, h.zx, h.xy, h.fy, h.fz, h.fx⟩
/-- the first of them has been written, or has grown -/
theorem Inv.step {S : Nat → Prop} {w5 wr w' : World} {x y z x' : Value} {a b c a' : Nat} (h : Inv S w5 wr x y z a b c)
    (o1 : w'.os = wr.os) (o2 : w'.tape = wr.tape) (o3 : w'.output = wr.output) (o4 : wr.heap.size ≤ w'.heap.size)
    (hk : ∀ k, k < wr.heap.size → x.ownBlock ≠ some k → w'.heap[k]? = wr.heap[k]?) (hx : OwnN w' x' a') (hat : ∀ k, x'.ownBlock = some k → x.ownBlock = some k ∨ wr.heap.size ≤ k) : Inv S w5 w' x' y z a' b c where
  os := o1.trans h.os
  tape := o2.trans h.tape
  output := o3.trans h.output
  size := Nat.le_trans h.size o4
  keep := fun k hS => (hk k (Nat.lt_of_lt_of_le (h.small k hS) h.size) (fun e => h.fx k e hS)).trans (h.keep k hS)
  small := h.small
  ox := hx
  oy := by
    obtain ⟨l, e, o⟩ := h.oy
    exact ⟨l, e, o.moved fun k hy => hk k (h.oy.lt k hy) (fun e => h.xy k e hy)⟩
  oz := by
    obtain ⟨l, e, o⟩ := h.oz
    exact ⟨l, e, o.moved fun k hz => hk k (h.oz.lt k hz) (fun e => h.zx k hz e)⟩
  xy := fun k hx' hy => by
    rcases hat k hx' with e | e
    · exact h.xy k e hy
    · have := h.oy.lt k hy; omega
  yz := h.yz
  zx := fun k hz hx' => by
    rcases hat k hx' with e | e
    · exact h.zx k hz e
    · have := h.oz.lt k hz; omega
  fx := fun k hx' hS => by
    rcases hat k hx' with e | e
    · exact h.fx k e hS
    · have := h.small k hS; have := h.size; omega
  fy := h.fy
  fz := h.fz
/-- a text more -/
theorem Inv.add {S : Nat → Prop} {w5 wr w1 : World} {x y z v' : Value} {a b c : Nat} {l : List ByteArray} {t : ByteArray} (h : Inv S w5 wr x y z a b c) (hl : l.length = a)
    (ho : w1.ownsRow 0 9 1 v' (l.length + 1) (l.map Value.string ++ [Value.string t])) (hg : (wr.alloc (.cells #[.string t] 9)).grownBy w1 x.ownBlock)
    (hat : v'.ownBlock = x.ownBlock ∨ v'.ownBlock = some (wr.alloc (.cells #[.string t] 9)).heap.size) : Inv S w5 w1 v' y z (a + 1) b c :=
  h.step hg.os hg.tape hg.output (Nat.le_trans (by simp) hg.size)
    (fun k hk hne => (hg.block k (by simp; omega) (fun e => hne e.symm)).trans (Below.heap_alloc _ _ _ hk))
    ⟨l ++ [t], by simp [hl], by unfold Own; rw [List.length_append, List.map_append]; exact ho⟩
    (fun k hk => by
      rcases hat with e | e
      · exact .inl (by rw [← e]; exact hk)
      · rw [e] at hk; simp at hk; exact .inr (by omega))
/-- one of its texts written -/
theorem Inv.put {S : Nat → Prop} {w5 wr : World} {y z : Value} {g a cap b c : Nat} (h : Inv S w5 wr (.slice (some ⟨g, 0, none⟩) a cap) y z a b c) (i : Nat) (_ : i < a) (t : ByteArray) :
    Inv S w5 (wr.setCell ⟨g, i, none⟩ (.string t)) (.slice (some ⟨g, 0, none⟩) a cap) y z a b c := by
  obtain ⟨l, hl, ho⟩ := h.ox
  have ho' : wr.ownsRow 0 9 1 (.slice (some ⟨g, 0, none⟩) a cap) a (l.map Value.string) := by rw [← hl]; unfold Own at ho; rw [← hl] at ho; exact ho
  obtain ⟨s1, s2⟩ := ho'.stored i (.string t)
  refine h.step s2.os s2.tape s2.output s2.size (fun k hk hne => s2.block k hk (fun e => hne e.symm)) ⟨l.set i t, by rw [List.length_set, hl], ?_⟩ (fun k hk => .inl hk)
  unfold Own
  rw [List.length_set, hl, List.map_set]; exact s1
/-- what a list looks like, and its cells -/
theorem OwnN.cell {w : World} {g n cap : Nat} (h : OwnN w (.slice (some ⟨g, 0, none⟩) n cap) n) (i : Nat) (hi : i < n) : (∃ x, w.cell? ⟨g, i, none⟩ = some (.string x)) ∧ w.frozen? ⟨g, i, none⟩ = false := by
  obtain ⟨l, hl, ho⟩ := h
  have ho' : w.ownsRow 0 9 1 (.slice (some ⟨g, 0, none⟩) n cap) n (l.map Value.string) := by unfold Own at ho; rw [hl] at ho; exact ho
  refine ⟨⟨l[i]'(by omega), ?_⟩, ho'.frozenAt i⟩
  rw [ho'.cellAt i (by omega), List.getElem?_map, List.getElem?_eq_getElem (by omega)]; rfl
theorem OwnN.form {w : World} {v : Value} {n : Nat} (h : OwnN w v n) : (v = .slice none 0 0 ∧ n = 0) ∨ ∃ g cap, v = .slice (some ⟨g, 0, none⟩) n cap := by
  obtain ⟨l, hl, ho⟩ := h
  rcases ho.2 with ⟨rfl, h2⟩ | ⟨g, cap, cur, rfl, _⟩
  · exact .inl ⟨rfl, by omega⟩
  · exact .inr ⟨g, cap, by rw [hl]⟩
theorem Own.N {w : World} {base : Nat} {v : Value} {l : List ByteArray} (h : Own w base v l) : OwnN w v l.length := ⟨l, rfl, h.le (Nat.zero_le _)⟩
theorem Own.at {w : World} {base : Nat} {v : Value} {l : List ByteArray} (h : Own w base v l) : ∀ k, v.ownBlock = some k → base ≤ k ∧ k < w.heap.size := fun k hk => World.ownsRow.lt h k hk

/-- what stands behind the law's first five calls -/
theorem inv_start {w w1 w2 w3 w4 w5 : World} {x m y z q : Value} {L T P : List ByteArray} (b1 : Below w.heap.size w w1) (b2 : Below w1.heap.size w1 w2) (b3 : Below w2.heap.size w2 w3) (b4 : Below w3.heap.size w3 w4) (b5 : Below w4.heap.size w4 w5)
    (ox : Own w1 w.heap.size x L) (om : Own w2 w1.heap.size m L) (oy : Own w3 w2.heap.size y T) (oz : Own w4 w3.heap.size z P) (oq : Own w5 w4.heap.size q L) :
    ∃ S : Nat → Prop, Inv S w5 w5 x y z L.length T.length P.length ∧ ∀ wr x y z a b c, Inv S w5 wr x y z a b c → Own wr 0 m L ∧ Own wr 0 q L ∧ Below w.heap.size w wr := by
  have s1 := b1.size; have s2 := b2.size; have s3 := b3.size; have s4 := b4.size; have s5 := b5.size
  refine ⟨fun k => k < w.heap.size ∨ (w1.heap.size ≤ k ∧ k < w2.heap.size) ∨ (w4.heap.size ≤ k ∧ k < w5.heap.size), ?_, ?_⟩
  · refine ⟨rfl, rfl, rfl, Nat.le_refl _, fun k _ => rfl, fun k h => by omega, (ox.below (chainB b2 (chainB b3 (chainB b4 b5)))).N, (oy.below (chainB b4 b5)).N, (oz.below b5).N, ?_, ?_, ?_, ?_, ?_, ?_⟩
    · intro k h1 h2; have := ox.at k h1; have := oy.at k h2; omega
    · intro k h1 h2; have := oy.at k h1; have := oz.at k h2; omega
    · intro k h1 h2; have := oz.at k h1; have := ox.at k h2; omega
    · intro k h1 h2; have := ox.at k h1; omega
    · intro k h1 h2; have := oy.at k h1; omega
    · intro k h1 h2; have := oz.at k h1; omega
  · intro wr x' y' z' a b c h
    refine ⟨?_, ?_, ?_⟩
    · refine Own.moved ((om.below (chainB b3 (chainB b4 b5))).le (Nat.zero_le _)) fun k hk => h.keep k ?_
      have := om.at k hk
      exact .inr (.inl this)
    · refine Own.moved (oq.le (Nat.zero_le _)) fun k hk => h.keep k ?_
      exact .inr (.inr (oq.at k hk))
    · have hB := chainB b1 (chainB b2 (chainB b3 (chainB b4 b5)))
      exact ⟨h.os.trans hB.os, h.tape.trans hB.tape, h.output.trans hB.output, Nat.le_trans hB.size h.size, fun k hk => (h.keep k (.inl hk)).trans (hB.block k hk)⟩

set_option maxHeartbeats 8000000 in
theorem walk_NameKept (s : ByteArray) (w : World) :
    Calls Try.prog 6 #[.string s] w fun e w' => e = .returned (.bool true) ∧ Below w.heap.size w w' := by
  obtain ⟨i0, hi, hz0, hz1, hz2⟩ := info_parts Try.infoS
  have hLl : (cutL s (rootB s)).length ≤ 97 := cutL_len s _
  have hTl : (cutL s (fullB s)).length ≤ 97 := cutL_len s _
  have hPl : (parL s).length ≤ 97 := parL_len s
  obtain ⟨L, hL⟩ : ∃ L, cutL s (rootB s) = L := ⟨_, rfl⟩
  obtain ⟨T, hT⟩ : ∃ T, cutL s (fullB s) = T := ⟨_, rfl⟩
  obtain ⟨P, hP⟩ : ∃ P, parL s = P := ⟨_, rfl⟩
  rw [hL] at hLl; rw [hT] at hTl; rw [hP] at hPl
  have HL : Hid (cutL s (rootB s) = L) := hL
  have HT : Hid (cutL s (fullB s) = T) := hT
  have HP : Hid (parL s = P) := hP
  clear hL hT hP
  go_enter Try.func6, Try.ntmps6
  go_wp2_with (first
    | (go_at_call 7; have _q := hown1; refine (split_any s _).mono ?_; rintro e w2 ⟨v2, rfl, hown2, hb2⟩; rw [HL.out] at hown2)
    | (go_at_call 7; refine (split_any s _).mono ?_; rintro e w1 ⟨v1, rfl, hown1, hb1⟩; rw [HL.out] at hown1)
    | (go_at_call 8; refine (target_any s _).mono ?_; rintro e w3 ⟨v3, rfl, hown3, hb3⟩; rw [HT.out] at hown3)
    | (go_at_call 12; refine (parent_any s _).mono ?_; rintro e w4 ⟨v4, rfl, hown4, hb4⟩; rw [HP.out] at hown4)
    | (go_at_call 13; refine (copy_any _ L _ _ (hown2.below (chainB hb3 hb4)) (by omega)).mono ?_; rintro e w5 ⟨v5, rfl, hown5, hb5⟩))
  obtain ⟨S, hI, hM⟩ := inv_start hb1 hb2 hb3 hb4 hb5 hown1 hown2 hown3 hown4 hown5
  have HM : Hid (∀ wr x y z a b c, Inv S w5 wr x y z a b c → Own wr 0 v2 L ∧ Own wr 0 v5 L ∧ Below w.heap.size w wr) := hM
  obtain ⟨a1, cap1, rfl, _⟩ := hown1.row
  obtain ⟨a2, cap2, rfl, _⟩ := hown2.row
  obtain ⟨a5, cap5, rfl, _⟩ := hown5.row
  clear hM hb1 hb2 hb3 hb4 hb5 hown1 hown2 hown3 hown4 hown5 _q
  go_loopw [17] (fun i wr => ∃ k : Nat, k ≤ L.length ∧ i = .int .i64 k ∧ Inv S w5 wr (.slice a1 L.length cap1) v3 v4 L.length T.length P.length) (fun i _ => L.length - (intOf i).toNat)
  case atStart => exact ⟨0, Nat.zero_le _, rfl, hI⟩
  case round =>
    clear hI
    obtain ⟨k, hk, rfl, hI⟩ := hrel
    by_cases hlt : k < L.length
    · rcases hI.ox.form with ⟨e, e2⟩ | ⟨g, cap', e⟩
      · omega
      · cases e
        obtain ⟨⟨x0, hcell⟩, hfr⟩ := hI.ox.cell k hlt
        have hI2 := hI.put k hlt
        have hki : (k : Int) < (L.length : Int) := by omega
        clear hI
        go_wp2
        go_roundw
        case rel => exact ⟨k + 1, by omega, by go_num, hI2 _⟩
        case measure => simp [intOf]; omega
    · obtain rfl : k = L.length := by omega
      go_wp2
      go_loopw [3, 9, 13, 18] (fun x y z i wr => ∃ k : Nat, k ≤ 40 ∧ i = .int .i64 k ∧ Inv S w5 wr x y z (L.length + k) (T.length + k) (P.length + k)) (fun _ _ _ i _ => 40 - (intOf i).toNat)
      case atStart => exact ⟨0, Nat.zero_le _, rfl, hI⟩
      case round =>
        clear hI
        obtain ⟨k, hk, rfl, hI⟩ := hrel
        by_cases hlt : k < 40
        · obtain ⟨l1, hl1, o1⟩ := hI.ox
          have o1' : World.ownsRow _ _ _ _ _ _ _ := o1
          have hki : (k : Int) < 40 := by omega
          go_wp2_with (first
            | (at_builtin; have _q := hJ2; go_must (refine wpList_append_own_at _ rfl _ _ 22 rfl 0 9 i0 (.string ⟨#[]⟩) 1 16 Try.underlying22 hi hz0 hz1 hz2 rfl (by decide) _ _ _ rfl (World.ownsRow.alloc o3' _) ⟨_, 0, none⟩ 1 1 [.string _] rfl rfl (one_text _ _) (one_cell _) (by unfold maxLen; omega) (by omega) (Nat.zero_le _) ?_; intro v3' w3' q3 g3 _ t3; have hJ3 := (hJ2.add hl3 q3 g3 t3).rot; clear hJ2 o3 o3' hl3 q3 g3 t3 _q))
            | (at_builtin; have _q := hJ1; go_must (refine wpList_append_own_at _ rfl _ _ 22 rfl 0 9 i0 (.string ⟨#[]⟩) 1 16 Try.underlying22 hi hz0 hz1 hz2 rfl (by decide) _ _ _ rfl (World.ownsRow.alloc o2' _) ⟨_, 0, none⟩ 1 1 [.string _] rfl rfl (one_text _ _) (one_cell _) (by unfold maxLen; omega) (by omega) (Nat.zero_le _) ?_; intro v2' w2' q2 g2 _ t2; have hJ2 := (hJ1.add hl2 q2 g2 t2).rot; clear hJ1 o2 o2' hl2 q2 g2 t2 _q; obtain ⟨l3, hl3, o3⟩ := hJ2.ox; have o3' : World.ownsRow _ _ _ _ _ _ _ := o3))
            | (at_builtin; go_must (refine wpList_append_own_at _ rfl _ _ 22 rfl 0 9 i0 (.string ⟨#[]⟩) 1 16 Try.underlying22 hi hz0 hz1 hz2 rfl (by decide) _ _ _ rfl (World.ownsRow.alloc o1' _) ⟨_, 0, none⟩ 1 1 [.string _] rfl rfl (one_text _ _) (one_cell _) (by unfold maxLen; omega) (by omega) (Nat.zero_le _) ?_; intro v1' w1' q1 g1 _ t1; have hJ1 := (hI.add hl1 q1 g1 t1).rot; clear hI o1 o1' hl1 q1 g1 t1; obtain ⟨l2, hl2, o2⟩ := hJ1.ox; have o2' : World.ownsRow _ _ _ _ _ _ _ := o2)))
          go_roundw
          case rel => exact ⟨k + 1, by omega, by go_num, hJ3⟩
          case measure => simp [intOf]; omega
        · obtain rfl : k = 40 := by omega
          rcases hI.oy.form with ⟨e, e2⟩ | ⟨gy, capy, rfl⟩
          · omega
          rcases hI.oz.form with ⟨e, e2⟩ | ⟨gz, capz, rfl⟩
          · omega
          have hI' := hI.rot
          clear hI
          go_wp2
          go_loopw [19] (fun i wr => ∃ k : Nat, k ≤ T.length + 40 ∧ i = .int .i64 k ∧ Inv S w5 wr (.slice (some ⟨gy, 0, none⟩) (T.length + 40) capy) (.slice (some ⟨gz, 0, none⟩) (P.length + 40) capz) u3 (T.length + 40) (P.length + 40) (L.length + 40)) (fun i _ => T.length + 40 - (intOf i).toNat)
          case atStart => exact ⟨0, Nat.zero_le _, rfl, hI'⟩
          case round =>
            clear hI'
            obtain ⟨k, hk, rfl, hI⟩ := hrel
            by_cases hlt : k < T.length + 40
            · obtain ⟨⟨x0, hcell⟩, hfr⟩ := hI.ox.cell k hlt
              have hI2 := hI.put k hlt
              have hki : (k : Int) < ((T.length + 40 : Nat) : Int) := by omega
              clear hI
              go_wp2
              go_roundw
              case rel => exact ⟨k + 1, by omega, by go_num, hI2 _⟩
              case measure => simp [intOf]; omega
            · obtain rfl : k = T.length + 40 := by omega
              have hI' := hI.rot
              clear hI
              go_wp2
              go_loopw [20] (fun i wr => ∃ k : Nat, k ≤ P.length + 40 ∧ i = .int .i64 k ∧ Inv S w5 wr (.slice (some ⟨gz, 0, none⟩) (P.length + 40) capz) u3 (.slice (some ⟨gy, 0, none⟩) (T.length + 40) capy) (P.length + 40) (L.length + 40) (T.length + 40)) (fun i _ => P.length + 40 - (intOf i).toNat)
              case atStart => exact ⟨0, Nat.zero_le _, rfl, hI'⟩
              case round =>
                clear hI'
                obtain ⟨k, hk, rfl, hI⟩ := hrel
                by_cases hlt : k < P.length + 40
                · obtain ⟨⟨x0, hcell⟩, hfr⟩ := hI.ox.cell k hlt
                  have hI2 := hI.put k hlt
                  have hki : (k : Int) < ((P.length + 40 : Nat) : Int) := by omega
                  clear hI
                  go_wp2
                  go_roundw
                  case rel => exact ⟨k + 1, by omega, by go_num, hI2 _⟩
                  case measure => simp [intOf]; omega
                · obtain rfl : k = P.length + 40 := by omega
                  obtain ⟨om, oq, hB⟩ := HM.out _ _ _ _ _ _ _ hI
                  obtain ⟨_, _, e2, r2⟩ := om.row
                  obtain ⟨_, _, e5, r5⟩ := oq.row
                  cases e2
                  cases e5
                  have hl5 : L.length ≤ 140737488355328 := by omega
                  clear hI om oq HM
                  go_wp2_with (go_at_call 7; refine (split_any s _).mono ?_; rintro e w6 ⟨v6, rfl, hown6, hb6⟩; rw [HL.out] at hown6; obtain ⟨a6, cap6, rfl, r6⟩ := hown6.row)
                  have r2' := RowS.below r2 hb6
                  have r5' := RowS.below r5 hb6
                  clear r2 r5 hown6
                  go_wp2_with (first
                    | (go_at_call 11; have _q := r5''; refine (same_any a6 a5 L cap6 cap5 _ r6' r5'' hl5).mono ?_; rintro e w8 ⟨rfl, hb8⟩)
                    | (go_at_call 11; refine (same_any a2 a5 L cap2 cap5 _ r2' r5' hl5).mono ?_; rintro e w7 ⟨rfl, hb7⟩; have r5'' := RowS.below r5' hb7; have r6' := RowS.below r6 hb7)
                    | (go_at_call 10; refine (awake_any _).mono ?_; rintro e w9 ⟨rfl, hb9⟩))
                  go_ret
                  exact ⟨rfl, chainB hB (chainB hb6 (chainB hb7 (chainB hb8 hb9)))⟩
end Go.Proofs.Ytehpaanpkiidaab
