/- The contracts of package name's small functions. -/
import Derived.Test.YtppbbddlbfgpfaaProg
import Derived.Test.YtppbbddlbfgpfaaJWUps04
import Derived.WalkKit
import Derived.WalkSpells
import Derived.WalkLawsBesides
import Derived.WalkSmall
import Derived.Lib.OthersKept
import Derived.Lib.SmallJoins
import Derived.Maps.AppendAt
import Derived.Laws.DeepStrings4
namespace Go.Proofs.Ytppbbddlbfgpfaa
section
open Go.RowKit

theorem chainM {w W w' : World} (h : Below w.heap.size w W) (hb : Below W.heap.size W w') : Below w.heap.size w w' := h.trans (hb.mono h.size)

/-- a list of texts that a call has made -/
def Own (w : World) (base : Nat) (v : Value) (l : List ByteArray) : Prop := w.ownsRow base 9 1 v l.length (l.map Value.string)
theorem Own.nil (w : World) (base : Nat) : Own w base (.slice none 0 0) [] := World.ownsRow_nil _ _ _ _
theorem Own.below {w w' : World} {base : Nat} {v : Value} {l : List ByteArray} (h : Own w base v l) (hb : Below w.heap.size w w') : Own w' base v l := by
  refine ⟨h.1, ?_⟩
  rcases h.2 with h2 | ⟨g, cap, cur, hv, hg, hh, r⟩
  · exact .inl h2
  · exact .inr ⟨g, cap, cur, hv, hg, (hb.block g (Array.getElem?_eq_some_iff.1 hh).1).trans hh, r⟩
theorem Own.le {w : World} {base base' : Nat} {v : Value} {l : List ByteArray} (h : Own w base v l) (hb : base' ≤ base) : Own w base' v l := by
  refine ⟨h.1, ?_⟩
  rcases h.2 with h2 | ⟨g, cap, cur, hv, hg, hh, r⟩
  · exact .inl h2
  · exact .inr ⟨g, cap, cur, hv, by omega, hh, r⟩
theorem Own.row {w : World} {base : Nat} {v : Value} {l : List ByteArray} (h : Own w base v l) : ∃ a cap, v = .slice a l.length cap ∧ RowS w a l := by
  have h' := h
  unfold Own at h'
  rcases h.2 with ⟨rfl, h2⟩ | ⟨g, cap, cur, rfl, hg, hh, r⟩
  · rw [h2]; exact ⟨none, 0, rfl, .inl (List.length_eq_zero_iff.1 h2)⟩
  · refine ⟨some ⟨g, 0, none⟩, cap, rfl, .inr ⟨g, 0, rfl, (h'.lt g rfl).2, ?_⟩⟩
    intro i x hx
    have hi : i < l.length := (List.getElem?_eq_some_iff.1 hx).1
    rw [Nat.zero_add, h'.cellAt i (by omega), List.getElem?_map, hx]
    rfl
theorem RowS.below {w w' : World} {a : Option Addr} {l : List ByteArray} (h : RowS w a l) (hb : Below w.heap.size w w') : RowS w' a l := by
  rcases h with h | ⟨b, off, rfl, hs, hc⟩
  · exact .inl h
  · exact .inr ⟨b, off, rfl, Nat.lt_of_lt_of_le hs hb.size, fun i x hx => (hb.cell (by exact hs)).trans (hc i x hx)⟩

theorem dots_any (s : ByteArray) (w : World) : Calls Try.prog 41 #[.string s] w fun e w' => e = .returned (.bool (dotsB s)) ∧ w' = w := by
  unfold dotsB
  go_enter Try.func41, Try.ntmps41
  cases h : s.toList == [46]
  · go_wp2
    go_ret
    exact ⟨rfl, rfl⟩
  · go_wp2
    go_ret
    exact ⟨rfl, rfl⟩

theorem int_beq (n : Nat) (c : Nat) : ((n : Int) == (c : Int)) = decide (n = c) := by
  rw [Bool.eq_iff_iff]; simp; omega
theorem rooted_any (s : ByteArray) (w : World) : Calls Try.prog 27 #[.string s] w fun e w' => e = .returned (.bool (rootB s)) ∧ w' = w := by
  unfold rootB
  go_enter Try.func27, Try.ntmps27
  cases h : s.toList == []
  · have hs : 0 < s.size := by rw [toList_nil] at h; have := of_decide_eq_false h; omega
    have hb : ((s[0].toNat : Int) == 47) = decide (bt s 0 = 47) := by rw [bt_at s 0 hs]; exact int_beq _ 47
    have hd : decide (0 < s.size) = true := decide_eq_true hs
    go_wp2
    go_ret
    rw [hd, Bool.true_and]
    exact ⟨rfl, rfl⟩
  · have hd : decide (0 < s.size) = false := by rw [toList_nil] at h; have := of_decide_eq_true h; exact decide_eq_false (by omega)
    rw [hd]
    go_wp2
    go_ret
    exact ⟨rfl, rfl⟩

theorem lastT_get {l : List ByteArray} (h : l ≠ []) : l[l.length - 1]? = some (lastT l) := by
  unfold lastT
  rw [List.getLast?_eq_getElem?]
  have : 0 < l.length := List.length_pos_iff.2 h
  rw [List.getElem?_eq_getElem (by omega)]; rfl

theorem end_any (a : Option Addr) (l : List ByteArray) (cap : Nat) (w : World) (h : RowS w a l) (hl : l.length ≤ 1000) :
    Calls Try.prog 42 #[.slice a l.length cap] w fun e w' => e = .returned (.string (lastT l)) ∧ w' = w := by
  go_enter Try.func42, Try.ntmps42
  cases l with
  | nil =>
    go_wp2
    go_ret
    exact ⟨rfl, rfl⟩
  | cons x l =>
    rcases h with h | ⟨b, off, rfl, hs, hc⟩
    · cases h
    have hg := hc l.length _ (lastT_get (l := x :: l) (by simp))
    clear hc
    rw [List.length_cons] at hl ⊢
    go_wp2
    go_ret
    exact ⟨rfl, rfl⟩
end
section
open Go.RowKit

theorem below_iter (w : World) (s : ByteArray) (p : Nat) : Below w.heap.size w (w.iter s p) := (Below.refl _ _).alloc (Nat.le_refl _) _

set_option maxHeartbeats 1000000 in
theorem has_any (s : ByteArray) (c : Nat) (w : World) (hc : c < 128) :
    Calls Try.prog 39 #[.string s, .int .i32 c] w fun e w' => e = .returned (.bool (hasB s c)) ∧ Below w.heap.size w w' := by
  go_enter Try.func39, Try.ntmps39
  go_wp2
  go_loopw [] (fun w' => ∃ pos : Nat, w' = w.iter s pos ∧ pos ≤ s.size ∧ hasF s c pos = false) (fun w' => s.size - w'.iterPos w.heap.size)
  case atStart => exact ⟨0, rfl, Nat.zero_le _, rfl⟩
  case round =>
    obtain ⟨pos, rfl, hps, hf⟩ := hrel
    by_cases hp : pos < s.size
    · have hnx : ∀ ty, (Instr.next (.pointer (some ⟨w.heap.size, 0, none⟩)) true ty).run Try.prog (w.iter s pos) = _ := fun ty => run_next_any w s pos ty hp
      obtain ⟨h1, h2, h3, h4⟩ := dec_step s pos hp
      obtain ⟨R, hR⟩ : ∃ R, (Utf8.decode s pos).1 = R := ⟨_, rfl⟩
      obtain ⟨K, hK⟩ : ∃ K, (Utf8.decode s pos).2 = K := ⟨_, rfl⟩
      rw [hR, hK] at hnx h4
      rw [hK] at h1 h2 h3
      clear hR hK
      by_cases he : bt s pos = c
      · have hRc : ((R : Int) == (c : Int)) = true := by rw [int_beq]; exact decide_eq_true (by omega)
        have hh := hasB_of hp he
        clear h4 h3 hf he
        go_wp2
        go_ret
        exact ⟨by rw [hh]; rfl, below_iter _ _ _⟩
      · have hRc : ((R : Int) == (c : Int)) = false := by rw [int_beq]; exact decide_eq_false (by omega)
        have hf2 : hasF s c (pos + K) = false := hasF_no hf fun i hi1 hi2 => by
          by_cases hi : i = pos
          · subst hi; exact he
          · have := h3 i (by omega) hi2; omega
        clear h4 h3 hf he
        go_wp2
        go_roundw
        case rel => exact ⟨pos + K, rfl, h2, hf2⟩
        case measure => simp; omega
    · have hnx : ∀ ty, (Instr.next (.pointer (some ⟨w.heap.size, 0, none⟩)) true ty).run Try.prog (w.iter s pos) = _ := fun ty => run_next_end w s pos ty hp
      have hh : hasB s c = false := by unfold hasB; have : pos = s.size := by omega
                                       rw [← this]; exact hf
      clear hf
      go_wp2
      go_ret
      exact ⟨by rw [hh]; rfl, below_iter _ _ _⟩

theorem Try.infoS : (Try.prog.info? 9).map (fun i => (i.zero, i.size, i.bytes)) = some (some (.string ⟨#[]⟩), 1, 16) := by kernel_rfl

set_option maxRecDepth 20000 in
set_option maxHeartbeats 2000000 in
theorem pieces_any (s : ByteArray) (w : World) (hs : s.size ≤ 1000) :
    Calls Try.prog 40 #[.string s] w fun e w' => ∃ v, e = .returned v ∧ Own w' w.heap.size v (pieces s) ∧ Below w.heap.size w w' := by
  obtain ⟨i0, hi, hz0, hz1, hz2⟩ := info_parts Try.infoS
  obtain ⟨t, ht⟩ : ∃ t, s ++ (⟨#[47]⟩ : ByteArray) = t := ⟨_, rfl⟩
  have hts : t.size = s.size + 1 := by rw [← ht]; exact size_slash s
  have htb : ∀ i, i < s.size + 1 → bt t i = bt s i := fun i h => by rw [← ht]; exact bt_slash s i h
  go_enter Try.func40, Try.ntmps40
  go_wp2
  go_loopw [3, 4] (fun v f wr => ∃ pos : Nat, f = .int .i64 (frm s pos) ∧ pos ≤ s.size + 1 ∧ wr.heap[w.heap.size]? = some (.stringIter t pos) ∧ Own wr (w.heap.size + 1) v (pcs s pos) ∧ Below w.heap.size w wr ∧ w.heap.size + 1 ≤ wr.heap.size) (fun _ _ wr => t.size - wr.iterPos w.heap.size)
  case atStart => exact ⟨0, rfl, Nat.zero_le _, by rw [← ht]; exact World.iter_heap w _ 0, Own.nil _ _, below_iter _ _ _, by simp [World.iter]⟩
  case round =>
    obtain ⟨pos, rfl, hps, hit, hown, hb, hsz⟩ := hrel
    by_cases hp : pos < t.size
    · have hnx : ∀ ty, (Instr.next (.pointer (some ⟨w.heap.size, 0, none⟩)) true ty).run Try.prog wr = _ := fun ty => Lib.run_next_any_at wr w.heap.size t pos ty hit hp
      obtain ⟨h1, h2, h3, h4⟩ := dec_step t pos hp
      obtain ⟨R, hR⟩ : ∃ R, (Utf8.decode t pos).1 = R := ⟨_, rfl⟩
      obtain ⟨K, hK⟩ : ∃ K, (Utf8.decode t pos).2 = K := ⟨_, rfl⟩
      rw [hR, hK] at hnx h4
      rw [hK] at h1 h2 h3
      rw [htb pos (by omega)] at h4
      have hit2 := Lib.iterAt_heap wr w.heap.size t pos (pos + K) hit
      have hb2 := Lib.below_iterAt hb (Nat.le_refl _) t (pos + K)
      have hown2 : Own (wr.iterAt w.heap.size t (pos + K)) (w.heap.size + 1) u3 (pcs s pos) := ownsRow_iterAt hown (by omega) t (pos + K)
      have hsz2 : w.heap.size + 1 ≤ (wr.iterAt w.heap.size t (pos + K)).heap.size := by rw [Lib.iterAt_size]; exact hsz
      have hmeas := iterPos_of hit
      have hmeas2 := iterPos_of hit2
      clear hR hK hown hb hit
      obtain ⟨W, hW⟩ : ∃ W, wr.iterAt w.heap.size t (pos + K) = W := ⟨_, rfl⟩
      rw [hW] at hnx hit2 hb2 hown2 hsz2 hmeas2
      clear hW
      by_cases he : bt s pos = 47
      · obtain ⟨rfl, rfl⟩ : R = 47 ∧ K = 1 := by omega
        have e1 := frm_succ_cut he
        have hfl := frm_le s pos
        by_cases hf : frm s pos < pos
        · have e2 := pcs_succ_cut he hf
          have hlen := pcs_len s pos
          have hfi : ((frm s pos : Nat) : Int) < (pos : Int) := by omega
          have hx : s.extract (frm s pos) pos = s.extract ((frm s pos : Nat) : Int).toNat ((pos : Nat) : Int).toNat := rfl
          clear h4 h3 h1 he
          go_wp2_with (first
            | (at_builtin; refine wpList_append_own _ rfl _ _ 36 rfl (w.heap.size + 1) 9 i0 (.string ⟨#[]⟩) 1 16 Try.underlying36 hi hz0 hz1 hz2 rfl (by decide) _ _ _ rfl (hown2.alloc _) ⟨W.heap.size, 0, none⟩ 1 1 [.string (s.extract (frm s pos) pos)] rfl rfl ?c1 ?c2 ?c3 ?c4 ?c5 ?_))
          case c1 =>
            intro j u hj
            match j, hj with
            | 0, hj => simp at hj; subst hj; simp [Addr.add]
          case c2 => intro u hu; simp at hu; subst hu; rfl
          case c3 => unfold maxLen; omega
          case c4 => omega
          case c5 => simp; omega
          intro v' w1 hown' hgrow _
          have hb3 : Below w.heap.size w w1 := Below.grown (hb2.alloc (by omega) _) hgrow (by simp; omega) (fun q hq => by have := (hown2.lt q hq).1; omega)
          have hown3 : Own w1 (w.heap.size + 1) v' (pcs s (pos + 1)) := by
            unfold Own
            rw [e2, List.length_append, List.map_append]; exact hown'
          have hit3 : w1.heap[w.heap.size]? = some (.stringIter t (pos + 1)) := (hgrow.block w.heap.size (by simp; omega) (fun e => by have := (hown2.lt _ e.symm).1; omega)).trans ((Below.heap_alloc _ _ _ (by omega)).trans hit2)
          have hsz3 : w.heap.size + 1 ≤ w1.heap.size := by have := hgrow.size; simp at this; omega
          have hmeas3 := iterPos_of hit3
          clear hown' hgrow hown2 hit2 hb2 hsz2 hmeas2 hnx
          go_wp2
          go_roundw
          case rel => exact ⟨pos + 1, by rw [e1]; go_num, by omega, hit3, hown3, hb3, hsz3⟩
          case measure => rw [hmeas, hmeas3]; omega
        · have e2 := pcs_succ_not (s := s) (i := pos) (fun h => hf h.2)
          clear h4 h3 h1 he
          rw [← e2] at hown2
          go_wp2
          go_roundw
          case rel => exact ⟨pos + 1, by rw [e1]; go_num, by omega, hit2, hown2, hb2, hsz2⟩
          case measure => rw [hmeas, hmeas2]; omega
      · have hRc : ((R : Int) == 47) = false := by rw [show (47 : Int) = ((47 : Nat) : Int) from rfl, int_beq]; exact decide_eq_false (by omega)
        have e1 := frm_skip (s := s) (n := pos) (m := pos + K) (by omega) (fun i hi1 hi2 => by
          by_cases hi : i = pos
          · subst hi; exact he
          · have := h3 i (by omega) hi2; rw [htb i (by omega)] at this; omega)
        rw [← e1.2] at hown2
        have e3 := e1.1
        clear h4 h3 he e1
        go_wp2
        go_roundw
        case rel => exact ⟨pos + K, by rw [e3], by omega, hit2, hown2, hb2, hsz2⟩
        case measure => rw [hmeas, hmeas2]; omega
    · have hnx : ∀ ty, (Instr.next (.pointer (some ⟨w.heap.size, 0, none⟩)) true ty).run Try.prog wr = _ := fun ty => Lib.run_next_end_at wr w.heap.size t pos ty hit hp
      have hpe : pos = s.size + 1 := by omega
      subst hpe
      clear hit hts htb
      go_wp2
      go_ret
      exact ⟨_, rfl, hown.le (by omega), hb⟩
end
section
open Go.RowKit

theorem has0 (s : ByteArray) (w : World) : Calls Try.prog 39 #[.string s, .int .i32 0] w fun e w' => e = .returned (.bool (hasB s 0)) ∧ Below w.heap.size w w' := has_any s 0 w (by decide)
theorem has_z (s : ByteArray) (z : Int) (w : World) (h0 : 0 ≤ z) (h1 : z < 128) : Calls Try.prog 39 #[.string s, .int .i32 z] w fun e w' => e = .returned (.bool (hasB s z.toNat)) ∧ Below w.heap.size w w' := by
  obtain ⟨c, rfl⟩ : ∃ c : Nat, z = c := ⟨z.toNat, by omega⟩
  exact has_any s c w (by omega)

set_option maxHeartbeats 2000000 in
theorem check_any (s : ByteArray) (w : World) : Calls Try.prog 43 #[.string s] w fun e w' => e = .returned (.int .i64 (chkE s)) ∧ Below w.heap.size w w' := by
  go_enter Try.func43, Try.ntmps43
  by_cases h1 : 12 < s.size
  · have he : chkE s = 11 := by unfold chkE; rw [if_pos h1]
    go_wp2
    go_ret
    exact ⟨by rw [he]; rfl, Below.refl _ _⟩
  · cases h2 : s.toList == []
    · have hz : ¬ s.size = 0 := by rw [toList_nil] at h2; exact of_decide_eq_false h2
      cases h3 : dotsB s
      · cases h4 : hasB s 0
        · cases h5 : hasB s 47
          · have he : chkE s = 0 := by unfold chkE; rw [if_neg h1, if_neg (by rw [h3, h4, h5]; simp [hz])]
            go_wp2_with (first
              | (go_at_call 41; refine (dots_any _ _).mono ?_; rintro e w' ⟨rfl, rfl⟩; rw [h3])
              | (go_at_call 39; refine (has_z _ _ _ (by decide) (by decide)).mono ?_; first | (rintro e w1 ⟨rfl, hb1⟩; rw [show hasB s (0 : Int).toNat = false from h4]) | (rintro e w2 ⟨rfl, hb2⟩; rw [show hasB s (47 : Int).toNat = _ from h5])))
            go_ret
            exact ⟨by rw [he]; rfl, chainM hb1 hb2⟩
          · have he : chkE s = 10 := by unfold chkE; rw [if_neg h1, if_pos (by rw [h5]; simp)]
            go_wp2_with (first
              | (go_at_call 41; refine (dots_any _ _).mono ?_; rintro e w' ⟨rfl, rfl⟩; rw [h3])
              | (go_at_call 39; refine (has_z _ _ _ (by decide) (by decide)).mono ?_; first | (rintro e w1 ⟨rfl, hb1⟩; rw [show hasB s (0 : Int).toNat = false from h4]) | (rintro e w2 ⟨rfl, hb2⟩; rw [show hasB s (47 : Int).toNat = _ from h5])))
            go_ret
            exact ⟨by rw [he]; rfl, chainM hb1 hb2⟩
        · have he : chkE s = 10 := by unfold chkE; rw [if_neg h1, if_pos (by rw [h4]; simp)]
          go_wp2_with (first
            | (go_at_call 41; refine (dots_any _ _).mono ?_; rintro e w' ⟨rfl, rfl⟩; rw [h3])
            | (go_at_call 39; refine (has0 _ _).mono ?_; rintro e w1 ⟨rfl, hb1⟩; rw [h4]))
          go_ret
          exact ⟨by rw [he]; rfl, hb1⟩
      · have he : chkE s = 10 := by unfold chkE; rw [if_neg h1, if_pos (by rw [h3]; simp)]
        go_wp2_with (go_at_call 41; refine (dots_any _ _).mono ?_; rintro e w' ⟨rfl, rfl⟩; rw [h3])
        go_ret
        exact ⟨by rw [he]; rfl, Below.refl _ _⟩
    · have hz : s.size = 0 := by rw [toList_nil] at h2; exact of_decide_eq_true h2
      have he : chkE s = 10 := by unfold chkE; rw [if_neg h1, if_pos (.inl hz)]
      go_wp2
      go_ret
      exact ⟨by rw [he]; rfl, Below.refl _ _⟩

/-- a component among the first ones is too long -/
theorem long_of {l : List ByteArray} {i : Nat} {x : ByteArray} (h : l[i]? = some x) (hx : 12 < x.size) : longB l = true := by
  unfold longB; rw [List.any_eq_true]
  exact ⟨x, List.mem_of_getElem? h, decide_eq_true hx⟩
theorem long_not {l : List ByteArray} (h : ∀ (i : Nat) (x : ByteArray), l[i]? = some x → x.size ≤ 12) : longB l = false := by
  unfold longB; rw [List.any_eq_false]
  intro x hx
  obtain ⟨i, hi⟩ := List.getElem?_of_mem hx
  have := h i x hi
  simp; omega

set_option maxHeartbeats 2000000 in
theorem cut_any (s : ByteArray) (b : Bool) (w : World) (hb0 : b = true → 0 < s.size) :
    Calls Try.prog 26 #[.string s, .bool b] w fun e w' => ∃ v, e = .returned (.tuple #[v, .bool (cutD s b), .int .i64 (cutE s b)]) ∧ Own w' w.heap.size v (cutL s b) ∧ Below w.heap.size w w' := by
  go_enter Try.func26, Try.ntmps26
  by_cases h1 : 96 < s.size
  · have he : cutE s b = 13 := by unfold cutE; rw [if_pos h1]
    have hd : cutD s b = false := by unfold cutD; rw [he]; rfl
    have hl : cutL s b = [] := by unfold cutL; rw [he]; rfl
    rw [he, hd, hl]
    go_wp2
    go_ret3
    exact ⟨_, rfl, Own.nil _ _, Below.refl _ _⟩
  cases b with
  | false =>
    have he : cutE s false = 12 := by unfold cutE; rw [if_neg h1, if_pos (.inl rfl)]
    have hd : cutD s false = false := by unfold cutD; rw [he]; rfl
    have hl : cutL s false = [] := by unfold cutL; rw [he]; rfl
    rw [he, hd, hl]
    go_wp2
    go_ret3
    exact ⟨_, rfl, Own.nil _ _, Below.refl _ _⟩
  | true =>
  have hpos := hb0 rfl
  clear hb0
  cases h2 : hasB s 0
  · have hpl : (pieces s).length ≤ s.size + 1 := pcs_len s _
    go_wp2_with (first
      | (go_at_call 39; refine (has0 _ _).mono ?_; rintro e w1 ⟨rfl, hb1⟩; rw [h2])
      | (go_at_call 40; refine (pieces_any _ _ (by omega)).mono ?_; rintro e w2 ⟨v, rfl, hown, hb2⟩; obtain ⟨a, cap, rfl, hrow⟩ := hown.row))
    have hb := chainM hb1 hb2
    have hown1 := hown.le hb1.size
    clear hown hb1 hb2
    go_loop [4, 22] (fun v i => v = .slice a (pieces s).length cap ∧ ∃ k : Nat, k ≤ (pieces s).length ∧ i = .int .i64 k ∧ ∀ j x, j < k → (pieces s)[j]? = some x → x.size ≤ 12) (fun _ i => (pieces s).length - (intOf i).toNat)
    case atStart => exact ⟨rfl, 0, Nat.zero_le _, rfl, fun j x h => by omega⟩
    case round =>
      obtain ⟨rfl, k, hk, rfl, hall⟩ := hrel
      by_cases hlt : k < (pieces s).length
      · rcases hrow with h0 | ⟨g, off, rfl, hbs, hc⟩
        · rw [h0] at hlt; simp at hlt
        obtain ⟨x, hx⟩ : ∃ x, (pieces s)[k]? = some x := ⟨_, List.getElem?_eq_getElem hlt⟩
        have hcell := hc k x hx
        by_cases hlong : 12 < x.size
        · have he : cutE s true = 11 := by unfold cutE; rw [if_neg h1, if_neg (by rw [h2]; simp), if_pos (long_of hx hlong)]
          have hd : cutD s true = false := by unfold cutD; rw [he]; rfl
          have hl : cutL s true = [] := by unfold cutL; rw [he]; rfl
          clear hc hall hown1 hx
          have HE : Hid (cutE s true = 11 ∧ cutD s true = false ∧ cutL s true = []) := ⟨he, hd, hl⟩
          clear he hd hl
          go_wp2
          go_ret3
          rw [HE.out.1, HE.out.2.1, HE.out.2.2]
          exact ⟨_, rfl, Own.nil _ _, hb⟩
        · have hall2 : ∀ j y, j < k + 1 → (pieces s)[j]? = some y → y.size ≤ 12 := fun j y hj hy => by
            by_cases hjk : j = k
            · subst hjk; rw [hx] at hy; cases hy; omega
            · exact hall j y (by omega) hy
          clear hc hall hown1 hx
          go_wp2
          go_round
          case rel => exact ⟨rfl, k + 1, by omega, by go_num, hall2⟩
          case measure => simp [intOf]; omega
      · have hkl : k = (pieces s).length := by omega
        have hnl : longB (pieces s) = false := long_not fun i x hx => hall i x (by have := (List.getElem?_eq_some_iff.1 hx).1; omega) hx
        have he : cutE s true = 0 := by unfold cutE; rw [if_neg h1, if_neg (by rw [h2]; simp), hnl]; rfl
        have hd : cutD s true = dirB s := by unfold cutD; rw [he]; rfl
        have hl : cutL s true = pieces s := by unfold cutL; rw [he]; rfl
        have HE : Hid (cutE s true = 0 ∧ cutD s true = dirB s ∧ cutL s true = pieces s) := ⟨he, hd, hl⟩
        clear hall hnl he hd hl
        subst hkl
        have hix : s.size - 1 < s.size := by omega
        have hbt : ((s[s.size - 1].toNat : Int) == 47) = decide (bt s (s.size - 1) = 47) := by rw [bt_at s _ hix]; exact int_beq _ 47
        have HD : Hid (dirB s = (decide (bt s (s.size - 1) = 47) || dotsB (lastT (pieces s)))) := (rfl : dirB s = _)
        cases h6 : decide (bt s (s.size - 1) = 47)
        · rw [h6] at hbt
          go_wp2_with (first
            | (go_at_call 42; refine (end_any _ _ _ _ hrow (by omega)).mono ?_; rintro e w' ⟨rfl, rfl⟩)
            | (go_at_call 41; refine (dots_any _ _).mono ?_; rintro e w' ⟨rfl, rfl⟩))
          go_ret3
          rw [HE.out.1, HE.out.2.1, HE.out.2.2, HD.out, h6]
          exact ⟨_, rfl, hown1, hb⟩
        · rw [h6] at hbt
          go_wp2
          go_ret3
          rw [HE.out.1, HE.out.2.1, HE.out.2.2, HD.out, h6]
          exact ⟨_, rfl, hown1, hb⟩
  · have he : cutE s true = 12 := by unfold cutE; rw [if_neg h1, if_pos (.inr h2)]
    have hd : cutD s true = false := by unfold cutD; rw [he]; rfl
    have hl : cutL s true = [] := by unfold cutL; rw [he]; rfl
    rw [he, hd, hl]
    go_wp2_with (go_at_call 39; refine (has0 _ _).mono ?_; rintro e w1 ⟨rfl, hb1⟩; rw [h2])
    go_ret3
    exact ⟨_, rfl, Own.nil _ _, hb1⟩
end
end Go.Proofs.Ytppbbddlbfgpfaa
