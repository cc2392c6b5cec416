/- The contracts of package name's has and pieces. -/
import Derived.Test.YtjkgafbknjpjbaaNmP
namespace Go.Proofs.Ytjkgafbknjpjbaa
open Go.RowKit

theorem below_iter (w : World) (s : ByteArray) (p : Nat) : Below w.heap.size w (w.iter s p) := (Below.refl _ _).alloc (Nat.le_refl _) _

set_option maxHeartbeats 1000000 in
theorem has_any (s : ByteArray) (c : Nat) (w : World) (hc : c < 128) :
    Calls Try.prog 56 #[.string s, .int .i32 c] w fun e w' => e = .returned (.bool (hasB s c)) ∧ Below w.heap.size w w' := by
  go_enter Try.func56, Try.ntmps56
  go_wp2
  go_loopw [] (fun w' => ∃ pos : Nat, w' = w.iter s pos ∧ pos ≤ s.size ∧ hasF s c pos = false) (fun w' => s.size - w'.iterPos w.heap.size)
  case atStart => exact ⟨0, rfl, Nat.zero_le _, rfl⟩
  case round =>
    obtain ⟨pos, rfl, hps, hf⟩ := hrel
    by_cases hp : pos < s.size
    · have hnx : ∀ ty, (Instr.next (.pointer (some ⟨w.heap.size, 0, none⟩)) true ty).run Try.prog (w.iter s pos) = _ := fun ty => run_next_any w s pos ty hp
      obtain ⟨h1, h2, h3, h4⟩ := dec_step s pos hp
      obtain ⟨R, hR⟩ : ∃ R, (Utf8.decode s pos).1 = R := ⟨_, rfl⟩
      obtain ⟨K, hK⟩ : ∃ K, (Utf8.decode s pos).2 = K := ⟨_, rfl⟩
      rw [hR, hK] at hnx h4
      rw [hK] at h1 h2 h3
      clear hR hK
      by_cases he : bt s pos = c
      · have hRc : ((R : Int) == (c : Int)) = true := by rw [int_beq]; exact decide_eq_true (by omega)
        have hh := hasB_of hp he
        clear h4 h3 hf he
        go_wp2
        go_ret
        exact ⟨by rw [hh]; rfl, below_iter _ _ _⟩
      · have hRc : ((R : Int) == (c : Int)) = false := by rw [int_beq]; exact decide_eq_false (by omega)
        have hf2 : hasF s c (pos + K) = false := hasF_no hf fun i hi1 hi2 => by
          by_cases hi : i = pos
          · subst hi; exact he
          · have := h3 i (by omega) hi2; omega
        clear h4 h3 hf he
        go_wp2
        go_roundw
        case rel => exact ⟨pos + K, rfl, h2, hf2⟩
        case measure => simp; omega
    · have hnx : ∀ ty, (Instr.next (.pointer (some ⟨w.heap.size, 0, none⟩)) true ty).run Try.prog (w.iter s pos) = _ := fun ty => run_next_end w s pos ty hp
      have hh : hasB s c = false := by unfold hasB; have : pos = s.size := by omega
                                       rw [← this]; exact hf
      clear hf
      go_wp2
      go_ret
      exact ⟨by rw [hh]; rfl, below_iter _ _ _⟩

theorem Try.infoS : (Try.prog.info? 9).map (fun i => (i.zero, i.size, i.bytes)) = some (some (.string ⟨#[]⟩), 1, 16) := by kernel_rfl

set_option maxRecDepth 20000 in
set_option maxHeartbeats 2000000 in
theorem pieces_any (s : ByteArray) (w : World) (hs : s.size ≤ 1000) :
    Calls Try.prog 105 #[.string s] w fun e w' => ∃ v, e = .returned v ∧ Own w' w.heap.size v (pieces s) ∧ Below w.heap.size w w' := by
  obtain ⟨i0, hi, hz0, hz1, hz2⟩ := info_parts Try.infoS
  obtain ⟨t, ht⟩ : ∃ t, s ++ (⟨#[47]⟩ : ByteArray) = t := ⟨_, rfl⟩
  have hts : t.size = s.size + 1 := by rw [← ht]; exact size_slash s
  have htb : ∀ i, i < s.size + 1 → bt t i = bt s i := fun i h => by rw [← ht]; exact bt_slash s i h
  go_enter Try.func105, Try.ntmps105
  go_wp2
  go_loopw [3, 4] (fun v f wr => ∃ pos : Nat, f = .int .i64 (frm s pos) ∧ pos ≤ s.size + 1 ∧ wr.heap[w.heap.size]? = some (.stringIter t pos) ∧ Own wr (w.heap.size + 1) v (pcs s pos) ∧ Below w.heap.size w wr ∧ w.heap.size + 1 ≤ wr.heap.size) (fun _ _ wr => t.size - wr.iterPos w.heap.size)
  case atStart => exact ⟨0, rfl, Nat.zero_le _, by rw [← ht]; exact World.iter_heap w _ 0, Own.nil _ _, below_iter _ _ _, by simp [World.iter]⟩
  case round =>
    obtain ⟨pos, rfl, hps, hit, hown, hb, hsz⟩ := hrel
    by_cases hp : pos < t.size
    · have hnx : ∀ ty, (Instr.next (.pointer (some ⟨w.heap.size, 0, none⟩)) true ty).run Try.prog wr = _ := fun ty => Lib.run_next_any_at wr w.heap.size t pos ty hit hp
      obtain ⟨h1, h2, h3, h4⟩ := dec_step t pos hp
      obtain ⟨R, hR⟩ : ∃ R, (Utf8.decode t pos).1 = R := ⟨_, rfl⟩
      obtain ⟨K, hK⟩ : ∃ K, (Utf8.decode t pos).2 = K := ⟨_, rfl⟩
      rw [hR, hK] at hnx h4
      rw [hK] at h1 h2 h3
      rw [htb pos (by omega)] at h4
      have hit2 := Lib.iterAt_heap wr w.heap.size t pos (pos + K) hit
      have hb2 := Lib.below_iterAt hb (Nat.le_refl _) t (pos + K)
      have hown2 : Own (wr.iterAt w.heap.size t (pos + K)) (w.heap.size + 1) u3 (pcs s pos) := ownsRow_iterAt hown (by omega) t (pos + K)
      have hsz2 : w.heap.size + 1 ≤ (wr.iterAt w.heap.size t (pos + K)).heap.size := by rw [Lib.iterAt_size]; exact hsz
      have hmeas := iterPos_of hit
      have hmeas2 := iterPos_of hit2
      clear hR hK hown hb hit
      obtain ⟨W, hW⟩ : ∃ W, wr.iterAt w.heap.size t (pos + K) = W := ⟨_, rfl⟩
      rw [hW] at hnx hit2 hb2 hown2 hsz2 hmeas2
      clear hW
      by_cases he : bt s pos = 47
      · obtain ⟨rfl, rfl⟩ : R = 47 ∧ K = 1 := by omega
        have e1 := frm_succ_cut he
        have hfl := frm_le s pos
        by_cases hf : frm s pos < pos
        · have e2 := pcs_succ_cut he hf
          have hlen := pcs_len s pos
          have hfi : ((frm s pos : Nat) : Int) < (pos : Int) := by omega
          have hx : s.extract (frm s pos) pos = s.extract ((frm s pos : Nat) : Int).toNat ((pos : Nat) : Int).toNat := rfl
          clear h4 h3 h1 he
          go_wp2_with (first
            | (at_builtin; refine wpList_append_own _ rfl _ _ 84 rfl (w.heap.size + 1) 9 i0 (.string ⟨#[]⟩) 1 16 Try.underlying84 hi hz0 hz1 hz2 rfl (by decide) _ _ _ rfl (hown2.alloc _) ⟨W.heap.size, 0, none⟩ 1 1 [.string (s.extract (frm s pos) pos)] rfl rfl ?c1 ?c2 ?c3 ?c4 ?c5 ?_))
          case c1 =>
            intro j u hj
            match j, hj with
            | 0, hj => simp at hj; subst hj; simp [Addr.add]
          case c2 => intro u hu; simp at hu; subst hu; rfl
          case c3 => unfold maxLen; omega
          case c4 => omega
          case c5 => simp; omega
          intro v' w1 hown' hgrow _
          have hb3 : Below w.heap.size w w1 := Below.grown (hb2.alloc (by omega) _) hgrow (by simp; omega) (fun q hq => by have := (hown2.lt q hq).1; omega)
          have hown3 : Own w1 (w.heap.size + 1) v' (pcs s (pos + 1)) := by
            unfold Own
            rw [e2, List.length_append, List.map_append]; exact hown'
          have hit3 : w1.heap[w.heap.size]? = some (.stringIter t (pos + 1)) := (hgrow.block w.heap.size (by simp; omega) (fun e => by have := (hown2.lt _ e.symm).1; omega)).trans ((Below.heap_alloc _ _ _ (by omega)).trans hit2)
          have hsz3 : w.heap.size + 1 ≤ w1.heap.size := by have := hgrow.size; simp at this; omega
          have hmeas3 := iterPos_of hit3
          clear hown' hgrow hown2 hit2 hb2 hsz2 hmeas2 hnx
          go_wp2
          go_roundw
          case rel => exact ⟨pos + 1, by rw [e1]; go_num, by omega, hit3, hown3, hb3, hsz3⟩
          case measure => rw [hmeas, hmeas3]; omega
        · have e2 := pcs_succ_not (s := s) (i := pos) (fun h => hf h.2)
          clear h4 h3 h1 he
          rw [← e2] at hown2
          go_wp2
          go_roundw
          case rel => exact ⟨pos + 1, by rw [e1]; go_num, by omega, hit2, hown2, hb2, hsz2⟩
          case measure => rw [hmeas, hmeas2]; omega
      · have hRc : ((R : Int) == 47) = false := by rw [show (47 : Int) = ((47 : Nat) : Int) from rfl, int_beq]; exact decide_eq_false (by omega)
        have e1 := frm_skip (s := s) (n := pos) (m := pos + K) (by omega) (fun i hi1 hi2 => by
          by_cases hi : i = pos
          · subst hi; exact he
          · have := h3 i (by omega) hi2; rw [htb i (by omega)] at this; omega)
        rw [← e1.2] at hown2
        have e3 := e1.1
        clear h4 h3 he e1
        go_wp2
        go_roundw
        case rel => exact ⟨pos + K, by rw [e3], by omega, hit2, hown2, hb2, hsz2⟩
        case measure => rw [hmeas, hmeas2]; omega
    · have hnx : ∀ ty, (Instr.next (.pointer (some ⟨w.heap.size, 0, none⟩)) true ty).run Try.prog wr = _ := fun ty => Lib.run_next_end_at wr w.heap.size t pos ty hit hp
      have hpe : pos = s.size + 1 := by omega
      subst hpe
      clear hit hts htb
      go_wp2
      go_ret
      exact ⟨_, rfl, hown.le (by omega), hb⟩
end Go.Proofs.Ytjkgafbknjpjbaa
