/- Both trees behind a script. -/
import Derived.Test.YtmacicpeimlloaaTsI
import Derived.Test.YtmacicpeimlloaaTpX
namespace Go.Proofs.Ytmacicpeimlloaa
open Go.RowKit
attribute [local go_sem high] eqK' neqK' eqE neqE eqN neqN guardK guardE guardN

theorem sameK_yes {v v' : Value} {l : List Ky} {B B' : Nat} {w : World} (h : RowK w B v l) (h' : RowK w B' v' l) (hl : l.length ≤ 1000000000) :
    Calls Try.prog 21 #[v, v'] w fun e w' => e = .returned (.bool true) ∧ Below w.heap.size w w' := by
  have := sameK_any v v' l l B B' w h h' hl hl
  rw [(sameKs_iff l l).2 rfl] at this
  exact this
theorem told_few {M : Nms} {s : Tr} (o : Opn) : (toldE M s o).length ≤ 1000000000 := by
  unfold toldE tellL
  split
  · repeat' split
    all_goals simp
  · simp
theorem toldK_few {M : Nms} {s : Tr} (o : Opn) : (toldK M s o).length ≤ 1000000000 := by
  unfold toldK keysL
  split
  · repeat' split
    all_goals simp
  · simp
/-- what grown answers -/
def GrowR (n : Int) (w w' : World) (e : Ending) : Prop := ∃ t s d D, e = .returned (.tuple #[.pointer (some ⟨t, 0, none⟩), .pointer (some ⟨d, 0, none⟩), .bool true]) ∧ Twin w w' t s n d D
set_option maxRecDepth 20000 in
set_option maxHeartbeats 16000000 in
theorem grown_p (a : Option Addr) (cap : Nat) (ops : List Opn) (w : World) (row : RowOps w a ops) (hlen : ops.length ≤ 3000000000000) :
    Calls Try.prog 6 #[.slice a ops.length cap] w fun e w' => GrowR ops.length w w' e := by
  obtain ⟨n, hn⟩ : ∃ n, ops.length = n := ⟨_, rfl⟩
  rw [hn] at hlen ⊢
  have H : Hid (RowOps w a ops ∧ ops.length = n) := ⟨row, hn⟩
  clear row hn
  go_enter Try.func6, Try.ntmps6
  go_upto_region 5 with (first
    | (go_at_call 28; refine (new_p _).mono ?_; rintro x w1 ⟨rfl, hi1, hb1⟩; have H1 : Hid (Law w w1 w.heap.size emptyT 0) := ⟨⟨hi1, Nat.le_refl _, fun q hq => by cases hq⟩, hb1, Good.new Mn⟩; clear hi1 hb1)
    | (go_at_call 29; refine (newD_any _).mono ?_; rintro x w2 ⟨rfl, hi2, hb2⟩; have H2 : Hid (Twin w w2 w.heap.size emptyT 0 w1.heap.size ⟨.slice none 0 0, [], 0, 2⟩) := ⟨H1.out.below hb2, hi2, ⟨List.Perm.refl _, rfl, rfl⟩, fun q hq => by cases hq⟩; clear hi2 hb2))
  clear H1
  go_wp2
  go_loopw [6, 7] (fun u i wr => ∃ (k : Nat) (s : Tr) (d : Nat) (D : Tr), k ≤ n ∧ u = .pointer (some ⟨d, 0, none⟩) ∧ i = .int .i64 k ∧ Hid (Twin w wr w.heap.size s k d D)) (fun _ i _ => n - (intOf i).toNat)
  case atStart => exact ⟨0, emptyT, _, _, Nat.zero_le _, rfl, rfl, H2.out⟩
  case round =>
    obtain ⟨k, s, d, D, hk, rfl, rfl, hI⟩ := hrel
    by_cases hkn : k < n
    · obtain ⟨o, ho⟩ : ∃ o, ops[k]? = some o := ⟨_, List.getElem?_eq_getElem (by rw [H.out.2]; exact hkn)⟩
      rcases H.out.1 with h0 | ⟨b, off, rfl, hbl, hcs⟩
      · rw [h0] at ho; simp at ho
      · have HOc : Hid (CellsO w b (off + k * 7) o ∧ b < w.heap.size) := ⟨hcs k o ho, hbl⟩
        have hki : (k : Int) < (n : Int) := by omega
        obtain ⟨E, hE⟩ : ∃ x, doesE Mn s o = x := ⟨_, rfl⟩
        have hc := HOc.out.1.below HOc.out.2 hI.out.one.bel
        have x0 := hc.c0
        have x1 := hc.c1
        have x2 := hc.c2
        have x3 := hc.c3
        have x4 := hc.c4
        have x5 := hc.c5
        have x6 := hc.c6
        have HAp : Hid (Calls Try.prog 19 #[.pointer (some ⟨w.heap.size, 0, none⟩), .agg #[.int .i64 o.kind, .int .i64 o.dir, .string o.nm, .int .i64 o.dst, .string o.new, .int .i64 o.mode, .string o.tg]] wr fun e w' => ∃ v kv s', e = .returned (.tuple #[v, kv, .int .i64 E]) ∧ Hid (Mid w w' w.heap.size s s' k d D o v kv)) := (hI.out.one.apply o (by omega)).mono fun e w' hh => by
          obtain ⟨v, kv, s', he, hd⟩ := hI.out.mid hh
          exact ⟨v, kv, s', by rw [← hE]; exact he, hd⟩
        clear ho hcs hc
        go_upto_region 9 with (go_at_call 19; refine HAp.out.mono ?_; rintro x w7 ⟨v7, k7, s7, rfl, h7⟩)
        clear x0 x1 x2 x3 x4 x5 x6 HAp
        have hc := HOc.out.1.below HOc.out.2 h7.out.one.bel
        have x0 := hc.c0
        have x1 := hc.c1
        have x2 := hc.c2
        have x3 := hc.c3
        have x4 := hc.c4
        have x5 := hc.c5
        have x6 := hc.c6
        have hgd := hI.out.one.good
        have hD1 : -9223372036854775808 ≤ D.next ∧ D.next < 9223372036854775807 := by rw [← hI.out.likes.next]; have := hgd.n1; have := hgd.wf.next2; omega
        have hD2 : 0 ≤ D.vers := by rw [← hI.out.likes.vers]; exact hgd.v0
        have hD3 : D.vers < 9223372036854775807 := by rw [← hI.out.likes.vers]; have := hgd.v1; omega
        have HAd : Hid (Calls Try.prog 20 #[.pointer (some ⟨d, 0, none⟩), .agg #[.int .i64 o.kind, .int .i64 o.dir, .string o.nm, .int .i64 o.dst, .string o.new, .int .i64 o.mode, .string o.tg]] w7 fun e w' => ∃ d' D' ev kv', e = .returned (.tuple #[.pointer (some ⟨d', 0, none⟩), ev, kv', .int .i64 E]) ∧ Hid (Twin w w' w.heap.size s7 ((k : Int) + 1) d' D' ∧ Row7 w' w.heap.size ev (toldE Mn s o) ∧ RowK w' w.heap.size kv' (toldK Mn s o) ∧ Below w7.heap.size w7 w')) := (applyD_any d D o w7 h7.out.two hD1 hD2 hD3).mono fun e w' hh => by
          obtain ⟨d', D', ev, kv', he, h⟩ := h7.out.doc hh
          exact ⟨d', D', ev, kv', by rw [← hE]; exact he, h⟩
        clear hc hgd hD1 hD2 hD3 hE
        go_wp2_with (first
          | (go_at_call 20; refine HAd.out.mono ?_; rintro x w8 ⟨d8, D8, e8, k8, rfl, h8⟩)
          | (go_at_call 13; refine (same_yes (h7.out.told.below h8.out.2.2.2) h8.out.2.1 (told_few o)).mono ?_; rintro x w9 ⟨rfl, hb9⟩)
          | (go_at_call 21; refine (sameK_yes ((h7.out.keys.below h8.out.2.2.2).below hb9) (h8.out.2.2.1.below hb9) (toldK_few o)).mono ?_; rintro x w10 ⟨rfl, hb10⟩))
        refine ⟨⟨k + 1, s7, d8, D8, by omega, rfl, by simp, ?_⟩, by simp [intOf]; omega⟩
        rw [show ((k + 1 : Nat) : Int) = (k : Int) + 1 by omega]
        exact h8.out.1.below (chainB hb9 hb10)
    · have hkn' : ¬ (k : Int) < (n : Int) := by omega
      have hkn2 : k = n := by omega
      subst hkn2
      go_wp2
      go_ret3
      exact ⟨_, s, d, D, rfl, hI.out⟩
end Go.Proofs.Ytmacicpeimlloaa
