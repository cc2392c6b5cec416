/- The walk of the law NameLimits: it returns true. -/
import Derived.Test.YtehpaanpkiidaabNmE
import Derived.Test.YtehpaanpkiidaabNmFacts
import Derived.Deep.RegionHeld3
namespace Go.Proofs.Ytehpaanpkiidaab
open Go.RowKit

def rep (c : ByteArray) : Nat → ByteArray
  | 0 => ⟨#[]⟩
  | k + 1 => rep c k ++ c
theorem rep_bl {c : ByteArray} {b : UInt8} (h : bl c = [b]) (k : Nat) : bl (rep c k) = List.replicate k b := by
  induction k with
  | zero => rfl
  | succ k ih => simp only [rep]; rw [bl_append, ih, h, List.replicate_succ']
theorem rep_size {c : ByteArray} {b : UInt8} (h : bl c = [b]) (k : Nat) : (rep c k).size = k := by
  rw [← bl_len, rep_bl h, List.length_replicate]
def pth : Nat → ByteArray
  | 0 => ⟨#[]⟩
  | k + 1 => pth k ++ ⟨#[47, 97]⟩
theorem pth_size (k : Nat) : (pth k).size = 2 * k := by
  induction k with
  | zero => rfl
  | succ k ih => simp only [pth]; rw [ByteArray.size_append, ih]; show 2 * k + 2 = _; omega
def szOf : Value → Nat | .string s => s.size | _ => 0

theorem pth_cut : cutE (pth 48) (rootB (pth 48)) = 0 := by decide +kernel
theorem size13 (s : ByteArray) (b : Bool) (h : 96 < s.size) : cutE s b = 13 := by unfold cutE; rw [if_pos h]
/-- a byte that may stand in a name anywhere -/
structure Plain (c : ByteArray) (b : UInt8) : Prop where
  one : bl c = [b]
  h47 : b.toNat ≠ 47
  h0 : b.toNat ≠ 0
theorem word_chk {c : ByteArray} {b : UInt8} (h : Plain c b) : chkE (rep c 12) = 0 := by
  have hs := rep_size h.one 12
  refine (chk_ok _).2 ⟨by omega, by omega, ?_, ?_, ?_⟩
  · cases hd : dotsB (rep c 12)
    · rfl
    · have := dots_size hd; omega
  · exact hasB_no fun x hx => by rw [rep_bl h.one] at hx; rw [List.eq_of_mem_replicate hx]; exact h.h0
  · exact hasB_no fun x hx => by rw [rep_bl h.one] at hx; rw [List.eq_of_mem_replicate hx]; exact h.h47
theorem word_long {c : ByteArray} {b : UInt8} (h : Plain c b) : chkE (rep c 12 ++ c) = 11 := by
  have hs := rep_size h.one 13
  unfold chkE
  rw [if_pos (by show 12 < (rep c 13).size; omega)]
theorem path_long {c : ByteArray} {b : UInt8} (h : Plain c b) : cutE (⟨#[47]⟩ ++ rep c 12 ++ c) (rootB (⟨#[47]⟩ ++ rep c 12 ++ c)) = 11 := by
  have hb : bl (⟨#[47]⟩ ++ rep c 12 ++ c) = 47 :: List.replicate 13 b := by
    rw [bl_append, bl_append, rep_bl h.one, h.one]
    show ([47] ++ List.replicate 12 b) ++ [b] = _
    rw [List.append_assoc, ← List.replicate_succ']; rfl
  have hs : (⟨#[47]⟩ ++ rep c 12 ++ c).size = 14 := by rw [← bl_len, hb]; simp
  have hr : rootB (⟨#[47]⟩ ++ rep c 12 ++ c) = true := (root_iff _).2 ⟨_, hb⟩
  have h0 : hasB (⟨#[47]⟩ ++ rep c 12 ++ c) 0 = false := hasB_no fun x hx => by
    rw [hb] at hx
    rcases List.mem_cons.1 hx with rfl | hx
    · decide
    · rw [List.eq_of_mem_replicate hx]; exact h.h0
  have hp : pieces (⟨#[47]⟩ ++ rep c 12 ++ c) = [rep c 13] := by
    apply pieces_eq
    rw [hb]
    have := comps_slash [] (List.replicate 13 b)
    rw [List.nil_append] at this
    rw [this, comps_nil, List.nil_append, comps_word]
    · rw [List.map_cons, List.map_nil, rep_bl h.one]
    · intro x hx e; rw [List.eq_of_mem_replicate hx] at e; rw [e] at h; exact h.h47 rfl
    · intro e; have := congrArg List.length e; simp at this
  unfold cutE
  rw [if_neg (by omega), if_neg (by rw [hr, h0]; simp), if_pos]
  rw [hp]; unfold longB
  rw [List.any_cons, decide_eq_true (by rw [rep_size h.one]; omega)]; rfl

set_option maxHeartbeats 4000000 in
theorem walk_NameLimits (s : ByteArray) (n : Int) (_ : (Lit.int .i64 n).wf = true) (w : World) :
    Calls Try.prog 3 #[.string s, .int .i64 n] w fun e w' => e = .returned (.bool true) ∧ Below w.heap.size w w' := by
  have hx120 : ∃ b, Plain ⟨#[120]⟩ b := ⟨120, ⟨rfl, by decide, by decide⟩⟩
  go_enter Try.func3, Try.ntmps3
  by_cases hpos : 0 < s.size
  · have hposi : (0 : Int) < (s.size : Int) := by omega
    have e47 : ((s[0].toNat : Int) != 47) = !decide (bt s 0 = 47) := by unfold bne; rw [show (47 : Int) = ((47 : Nat) : Int) from rfl, int_beq, bt_at s 0 hpos]
    have e0 : ((s[0].toNat : Int) != 0) = !decide (bt s 0 = 0) := by unfold bne; rw [show (0 : Int) = ((0 : Nat) : Int) from rfl, int_beq, bt_at s 0 hpos]
    have e46 : ((s[0].toNat : Int) != 46) = !decide (bt s 0 = 46) := by unfold bne; rw [show (46 : Int) = ((46 : Nat) : Int) from rfl, int_beq, bt_at s 0 hpos]
    by_cases q47 : bt s 0 = 47
    · rw [decide_eq_true q47] at e47
      have hpl := hx120
      clear hx120 e0 e46 q47
      obtain ⟨b, hP⟩ := hpl
      have hCs : (⟨#[120]⟩ : ByteArray).size = 1 := by rw [← bl_len, hP.one]; rfl
      have hw12 := word_chk hP
      have hw13 := word_long hP
      have hp14 := path_long hP
      have HR : Hid (∀ k, (rep (⟨#[120]⟩ : ByteArray) k).size = k) := fun k => rep_size hP.one k
      go_wp2
      go_loop [6, 7] (fun t i => ∃ k : Nat, k ≤ 12 ∧ t = .string (rep (⟨#[120]⟩ : ByteArray) k) ∧ i = .int .i64 k) (fun _ i => 12 - (intOf i).toNat)
      case atStart => exact ⟨0, Nat.zero_le _, rfl, rfl⟩
      case round =>
        obtain ⟨k, hk, rfl, rfl⟩ := hrel
        have hrs := HR.out k
        by_cases hlt : k < 12
        · have e : Hid (rep (⟨#[120]⟩ : ByteArray) (k + 1) = rep (⟨#[120]⟩ : ByteArray) k ++ (⟨#[120]⟩ : ByteArray)) := (rfl : rep (⟨#[120]⟩ : ByteArray) (k + 1) = _)
          have hki : (k : Int) < 12 := by omega
          clear hw12 hw13 hp14
          go_wp2
          go_round
          case rel => exact ⟨k + 1, by omega, by rw [e.out], by go_num⟩
          case measure => simp [intOf]; omega
        · obtain rfl : k = 12 := by omega
          obtain ⟨Wd, hWd⟩ : ∃ Wd, rep (⟨#[120]⟩ : ByteArray) 12 = Wd := ⟨_, rfl⟩
          rw [hWd] at hrs hw12 hw13 hp14 ⊢
          clear hWd HR
          go_wp2
          go_loop [8] (fun t => ∃ k : Nat, k ≤ 48 ∧ t = .string (pth k)) (fun t => 96 - szOf t)
          case atStart => exact ⟨0, Nat.zero_le _, rfl⟩
          case round =>
            obtain ⟨k, hk, rfl⟩ := hrel
            have hps := pth_size k
            by_cases hlt2 : k < 48
            · have e : Hid (pth (k + 1) = pth k ++ ⟨#[47, 97]⟩) := (rfl : pth (k + 1) = _)
              have hps2 : (pth k).size < 96 := by omega
              have hm := pth_size (k + 1)
              rw [e.out] at hm
              clear hw12 hw13 hp14
              go_wp2
              go_round
              case rel => exact ⟨k + 1, by omega, by rw [e.out]⟩
              case measure => show 96 - (pth k ++ ⟨#[47, 97]⟩).size < 96 - (pth k).size; rw [hm, hps]; omega
            · obtain rfl : k = 48 := by omega
              have hpc := pth_cut
              obtain ⟨Pt, hPt⟩ : ∃ Pt, pth 48 = Pt := ⟨_, rfl⟩
              rw [hPt] at hps hpc ⊢
              clear hPt
              have c1 : ∀ w, Calls Try.prog 7 #[.string Pt] w fun e w' => ∃ v d, e = .returned (.tuple #[v, .bool d, .int .i64 0]) ∧ Below w.heap.size w w' := fun w => by
                have := split_any Pt w; rw [hpc] at this
                exact this.mono fun e w' ⟨v, h1, _, h3⟩ => ⟨v, _, h1, h3⟩
              obtain ⟨Y1, hY1⟩ : ∃ Y, Pt ++ (⟨#[47]⟩ : ByteArray) = Y := ⟨_, rfl⟩
              obtain ⟨Y2, hY2⟩ : ∃ Y, (⟨#[47]⟩ : ByteArray) ++ Wd = Y := ⟨_, rfl⟩
              obtain ⟨Y3, hY3⟩ : ∃ Y, Y2 ++ (⟨#[120]⟩ : ByteArray) = Y := ⟨_, rfl⟩
              obtain ⟨Y4, hY4⟩ : ∃ Y, Pt ++ (⟨#[120]⟩ : ByteArray) = Y := ⟨_, rfl⟩
              obtain ⟨Y5, hY5⟩ : ∃ Y, Wd ++ (⟨#[120]⟩ : ByteArray) = Y := ⟨_, rfl⟩
              have z2 : Y2.size = 13 := by rw [← hY2, ByteArray.size_append, hrs]; rfl
              have c2 : ∀ w, Calls Try.prog 7 #[.string Y1] w fun e w' => ∃ v d, e = .returned (.tuple #[v, .bool d, .int .i64 13]) ∧ Below w.heap.size w w' := fun w => by
                have := split_any Y1 w; rw [size13 _ _ (by rw [← hY1, size_slash]; omega)] at this
                exact this.mono fun e w' ⟨v, h1, _, h3⟩ => ⟨v, _, h1, h3⟩
              have c3 : ∀ w, Calls Try.prog 7 #[.string Y3] w fun e w' => ∃ v d, e = .returned (.tuple #[v, .bool d, .int .i64 11]) ∧ Below w.heap.size w w' := fun w => by
                rw [hY2, hY3] at hp14; have := split_any Y3 w; rw [hp14] at this
                exact this.mono fun e w' ⟨v, h1, _, h3⟩ => ⟨v, _, h1, h3⟩
              have c4 : ∀ w, Calls Try.prog 8 #[.string Y4] w fun e w' => ∃ v t d, e = .returned (.tuple #[v, .bool t, .bool d, .int .i64 13]) ∧ Below w.heap.size w w' := fun w => by
                have := target_any Y4 w; rw [size13 _ _ (by rw [← hY4, ByteArray.size_append]; omega)] at this
                exact this.mono fun e w' ⟨v, h1, _, h3⟩ => ⟨v, _, _, h1, h3⟩
              have c5 : ∀ w, Calls Try.prog 9 #[.string Wd] w fun e w' => e = .returned (.int .i64 0) ∧ Below w.heap.size w w' := fun w => by
                have := check_any Wd w; rw [hw12] at this; exact this
              have c6 : ∀ w, Calls Try.prog 9 #[.string Y5] w fun e w' => e = .returned (.int .i64 11) ∧ Below w.heap.size w w' := fun w => by
                rw [hY5] at hw13; have := check_any Y5 w; rw [hw13] at this; exact this
              clear hw12 hw13 hp14 hpc hk hP
              go_wp2_with (first
                | (go_at_call_of 7 (Value.string Pt); refine (c1 _).mono ?_; rintro e w1 ⟨v1, d1, rfl, hb1⟩)
                | (go_at_call_of 7 (Value.string Y1); refine (c2 _).mono ?_; rintro e w2 ⟨v2, d2, rfl, hb2⟩)
                | (go_at_call_of 7 (Value.string Y3); refine (c3 _).mono ?_; rintro e w3 ⟨v3, d3, rfl, hb3⟩)
                | (go_at_call_of 8 (Value.string Y4); refine (c4 _).mono ?_; rintro e w4 ⟨v4, t4, d4, rfl, hb4⟩)
                | (go_at_call_of 9 (Value.string Wd); refine (c5 _).mono ?_; rintro e w5 ⟨rfl, hb5⟩)
                | (go_at_call_of 9 (Value.string Y5); refine (c6 _).mono ?_; rintro e w6 ⟨rfl, hb6⟩)
                | (go_at_call 10; refine (awake_any _).mono ?_; rintro e w7 ⟨rfl, hb7⟩))
              go_ret
              exact ⟨rfl, chainB hb1 (chainB hb2 (chainB hb3 (chainB hb4 (chainB hb5 (chainB hb6 hb7)))))⟩
    · rw [decide_eq_false q47] at e47
      by_cases q0 : bt s 0 = 0
      · rw [decide_eq_true q0] at e0
        have hpl := hx120
        clear hx120 e46 q0 q47
        obtain ⟨b, hP⟩ := hpl
        have hCs : (⟨#[120]⟩ : ByteArray).size = 1 := by rw [← bl_len, hP.one]; rfl
        have hw12 := word_chk hP
        have hw13 := word_long hP
        have hp14 := path_long hP
        have HR : Hid (∀ k, (rep (⟨#[120]⟩ : ByteArray) k).size = k) := fun k => rep_size hP.one k
        go_wp2
        go_loop [6, 7] (fun t i => ∃ k : Nat, k ≤ 12 ∧ t = .string (rep (⟨#[120]⟩ : ByteArray) k) ∧ i = .int .i64 k) (fun _ i => 12 - (intOf i).toNat)
        case atStart => exact ⟨0, Nat.zero_le _, rfl, rfl⟩
        case round =>
          obtain ⟨k, hk, rfl, rfl⟩ := hrel
          have hrs := HR.out k
          by_cases hlt : k < 12
          · have e : Hid (rep (⟨#[120]⟩ : ByteArray) (k + 1) = rep (⟨#[120]⟩ : ByteArray) k ++ (⟨#[120]⟩ : ByteArray)) := (rfl : rep (⟨#[120]⟩ : ByteArray) (k + 1) = _)
            have hki : (k : Int) < 12 := by omega
            clear hw12 hw13 hp14
            go_wp2
            go_round
            case rel => exact ⟨k + 1, by omega, by rw [e.out], by go_num⟩
            case measure => simp [intOf]; omega
          · obtain rfl : k = 12 := by omega
            obtain ⟨Wd, hWd⟩ : ∃ Wd, rep (⟨#[120]⟩ : ByteArray) 12 = Wd := ⟨_, rfl⟩
            rw [hWd] at hrs hw12 hw13 hp14 ⊢
            clear hWd HR
            go_wp2
            go_loop [8] (fun t => ∃ k : Nat, k ≤ 48 ∧ t = .string (pth k)) (fun t => 96 - szOf t)
            case atStart => exact ⟨0, Nat.zero_le _, rfl⟩
            case round =>
              obtain ⟨k, hk, rfl⟩ := hrel
              have hps := pth_size k
              by_cases hlt2 : k < 48
              · have e : Hid (pth (k + 1) = pth k ++ ⟨#[47, 97]⟩) := (rfl : pth (k + 1) = _)
                have hps2 : (pth k).size < 96 := by omega
                have hm := pth_size (k + 1)
                rw [e.out] at hm
                clear hw12 hw13 hp14
                go_wp2
                go_round
                case rel => exact ⟨k + 1, by omega, by rw [e.out]⟩
                case measure => show 96 - (pth k ++ ⟨#[47, 97]⟩).size < 96 - (pth k).size; rw [hm, hps]; omega
              · obtain rfl : k = 48 := by omega
                have hpc := pth_cut
                obtain ⟨Pt, hPt⟩ : ∃ Pt, pth 48 = Pt := ⟨_, rfl⟩
                rw [hPt] at hps hpc ⊢
                clear hPt
                have c1 : ∀ w, Calls Try.prog 7 #[.string Pt] w fun e w' => ∃ v d, e = .returned (.tuple #[v, .bool d, .int .i64 0]) ∧ Below w.heap.size w w' := fun w => by
                  have := split_any Pt w; rw [hpc] at this
                  exact this.mono fun e w' ⟨v, h1, _, h3⟩ => ⟨v, _, h1, h3⟩
                obtain ⟨Y1, hY1⟩ : ∃ Y, Pt ++ (⟨#[47]⟩ : ByteArray) = Y := ⟨_, rfl⟩
                obtain ⟨Y2, hY2⟩ : ∃ Y, (⟨#[47]⟩ : ByteArray) ++ Wd = Y := ⟨_, rfl⟩
                obtain ⟨Y3, hY3⟩ : ∃ Y, Y2 ++ (⟨#[120]⟩ : ByteArray) = Y := ⟨_, rfl⟩
                obtain ⟨Y4, hY4⟩ : ∃ Y, Pt ++ (⟨#[120]⟩ : ByteArray) = Y := ⟨_, rfl⟩
                obtain ⟨Y5, hY5⟩ : ∃ Y, Wd ++ (⟨#[120]⟩ : ByteArray) = Y := ⟨_, rfl⟩
                have z2 : Y2.size = 13 := by rw [← hY2, ByteArray.size_append, hrs]; rfl
                have c2 : ∀ w, Calls Try.prog 7 #[.string Y1] w fun e w' => ∃ v d, e = .returned (.tuple #[v, .bool d, .int .i64 13]) ∧ Below w.heap.size w w' := fun w => by
                  have := split_any Y1 w; rw [size13 _ _ (by rw [← hY1, size_slash]; omega)] at this
                  exact this.mono fun e w' ⟨v, h1, _, h3⟩ => ⟨v, _, h1, h3⟩
                have c3 : ∀ w, Calls Try.prog 7 #[.string Y3] w fun e w' => ∃ v d, e = .returned (.tuple #[v, .bool d, .int .i64 11]) ∧ Below w.heap.size w w' := fun w => by
                  rw [hY2, hY3] at hp14; have := split_any Y3 w; rw [hp14] at this
                  exact this.mono fun e w' ⟨v, h1, _, h3⟩ => ⟨v, _, h1, h3⟩
                have c4 : ∀ w, Calls Try.prog 8 #[.string Y4] w fun e w' => ∃ v t d, e = .returned (.tuple #[v, .bool t, .bool d, .int .i64 13]) ∧ Below w.heap.size w w' := fun w => by
                  have := target_any Y4 w; rw [size13 _ _ (by rw [← hY4, ByteArray.size_append]; omega)] at this
                  exact this.mono fun e w' ⟨v, h1, _, h3⟩ => ⟨v, _, _, h1, h3⟩
                have c5 : ∀ w, Calls Try.prog 9 #[.string Wd] w fun e w' => e = .returned (.int .i64 0) ∧ Below w.heap.size w w' := fun w => by
                  have := check_any Wd w; rw [hw12] at this; exact this
                have c6 : ∀ w, Calls Try.prog 9 #[.string Y5] w fun e w' => e = .returned (.int .i64 11) ∧ Below w.heap.size w w' := fun w => by
                  rw [hY5] at hw13; have := check_any Y5 w; rw [hw13] at this; exact this
                clear hw12 hw13 hp14 hpc hk hP
                go_wp2_with (first
                  | (go_at_call_of 7 (Value.string Pt); refine (c1 _).mono ?_; rintro e w1 ⟨v1, d1, rfl, hb1⟩)
                  | (go_at_call_of 7 (Value.string Y1); refine (c2 _).mono ?_; rintro e w2 ⟨v2, d2, rfl, hb2⟩)
                  | (go_at_call_of 7 (Value.string Y3); refine (c3 _).mono ?_; rintro e w3 ⟨v3, d3, rfl, hb3⟩)
                  | (go_at_call_of 8 (Value.string Y4); refine (c4 _).mono ?_; rintro e w4 ⟨v4, t4, d4, rfl, hb4⟩)
                  | (go_at_call_of 9 (Value.string Wd); refine (c5 _).mono ?_; rintro e w5 ⟨rfl, hb5⟩)
                  | (go_at_call_of 9 (Value.string Y5); refine (c6 _).mono ?_; rintro e w6 ⟨rfl, hb6⟩)
                  | (go_at_call 10; refine (awake_any _).mono ?_; rintro e w7 ⟨rfl, hb7⟩))
                go_ret
                exact ⟨rfl, chainB hb1 (chainB hb2 (chainB hb3 (chainB hb4 (chainB hb5 (chainB hb6 hb7)))))⟩
      · rw [decide_eq_false q0] at e0
        by_cases q46 : bt s 0 = 46
        · rw [decide_eq_true q46] at e46
          have hpl := hx120
          clear hx120 q0 q47 q46
          obtain ⟨b, hP⟩ := hpl
          have hCs : (⟨#[120]⟩ : ByteArray).size = 1 := by rw [← bl_len, hP.one]; rfl
          have hw12 := word_chk hP
          have hw13 := word_long hP
          have hp14 := path_long hP
          have HR : Hid (∀ k, (rep (⟨#[120]⟩ : ByteArray) k).size = k) := fun k => rep_size hP.one k
          go_wp2
          go_loop [6, 7] (fun t i => ∃ k : Nat, k ≤ 12 ∧ t = .string (rep (⟨#[120]⟩ : ByteArray) k) ∧ i = .int .i64 k) (fun _ i => 12 - (intOf i).toNat)
          case atStart => exact ⟨0, Nat.zero_le _, rfl, rfl⟩
          case round =>
            obtain ⟨k, hk, rfl, rfl⟩ := hrel
            have hrs := HR.out k
            by_cases hlt : k < 12
            · have e : Hid (rep (⟨#[120]⟩ : ByteArray) (k + 1) = rep (⟨#[120]⟩ : ByteArray) k ++ (⟨#[120]⟩ : ByteArray)) := (rfl : rep (⟨#[120]⟩ : ByteArray) (k + 1) = _)
              have hki : (k : Int) < 12 := by omega
              clear hw12 hw13 hp14
              go_wp2
              go_round
              case rel => exact ⟨k + 1, by omega, by rw [e.out], by go_num⟩
              case measure => simp [intOf]; omega
            · obtain rfl : k = 12 := by omega
              obtain ⟨Wd, hWd⟩ : ∃ Wd, rep (⟨#[120]⟩ : ByteArray) 12 = Wd := ⟨_, rfl⟩
              rw [hWd] at hrs hw12 hw13 hp14 ⊢
              clear hWd HR
              go_wp2
              go_loop [8] (fun t => ∃ k : Nat, k ≤ 48 ∧ t = .string (pth k)) (fun t => 96 - szOf t)
              case atStart => exact ⟨0, Nat.zero_le _, rfl⟩
              case round =>
                obtain ⟨k, hk, rfl⟩ := hrel
                have hps := pth_size k
                by_cases hlt2 : k < 48
                · have e : Hid (pth (k + 1) = pth k ++ ⟨#[47, 97]⟩) := (rfl : pth (k + 1) = _)
                  have hps2 : (pth k).size < 96 := by omega
                  have hm := pth_size (k + 1)
                  rw [e.out] at hm
                  clear hw12 hw13 hp14
                  go_wp2
                  go_round
                  case rel => exact ⟨k + 1, by omega, by rw [e.out]⟩
                  case measure => show 96 - (pth k ++ ⟨#[47, 97]⟩).size < 96 - (pth k).size; rw [hm, hps]; omega
                · obtain rfl : k = 48 := by omega
                  have hpc := pth_cut
                  obtain ⟨Pt, hPt⟩ : ∃ Pt, pth 48 = Pt := ⟨_, rfl⟩
                  rw [hPt] at hps hpc ⊢
                  clear hPt
                  have c1 : ∀ w, Calls Try.prog 7 #[.string Pt] w fun e w' => ∃ v d, e = .returned (.tuple #[v, .bool d, .int .i64 0]) ∧ Below w.heap.size w w' := fun w => by
                    have := split_any Pt w; rw [hpc] at this
                    exact this.mono fun e w' ⟨v, h1, _, h3⟩ => ⟨v, _, h1, h3⟩
                  obtain ⟨Y1, hY1⟩ : ∃ Y, Pt ++ (⟨#[47]⟩ : ByteArray) = Y := ⟨_, rfl⟩
                  obtain ⟨Y2, hY2⟩ : ∃ Y, (⟨#[47]⟩ : ByteArray) ++ Wd = Y := ⟨_, rfl⟩
                  obtain ⟨Y3, hY3⟩ : ∃ Y, Y2 ++ (⟨#[120]⟩ : ByteArray) = Y := ⟨_, rfl⟩
                  obtain ⟨Y4, hY4⟩ : ∃ Y, Pt ++ (⟨#[120]⟩ : ByteArray) = Y := ⟨_, rfl⟩
                  obtain ⟨Y5, hY5⟩ : ∃ Y, Wd ++ (⟨#[120]⟩ : ByteArray) = Y := ⟨_, rfl⟩
                  have z2 : Y2.size = 13 := by rw [← hY2, ByteArray.size_append, hrs]; rfl
                  have c2 : ∀ w, Calls Try.prog 7 #[.string Y1] w fun e w' => ∃ v d, e = .returned (.tuple #[v, .bool d, .int .i64 13]) ∧ Below w.heap.size w w' := fun w => by
                    have := split_any Y1 w; rw [size13 _ _ (by rw [← hY1, size_slash]; omega)] at this
                    exact this.mono fun e w' ⟨v, h1, _, h3⟩ => ⟨v, _, h1, h3⟩
                  have c3 : ∀ w, Calls Try.prog 7 #[.string Y3] w fun e w' => ∃ v d, e = .returned (.tuple #[v, .bool d, .int .i64 11]) ∧ Below w.heap.size w w' := fun w => by
                    rw [hY2, hY3] at hp14; have := split_any Y3 w; rw [hp14] at this
                    exact this.mono fun e w' ⟨v, h1, _, h3⟩ => ⟨v, _, h1, h3⟩
                  have c4 : ∀ w, Calls Try.prog 8 #[.string Y4] w fun e w' => ∃ v t d, e = .returned (.tuple #[v, .bool t, .bool d, .int .i64 13]) ∧ Below w.heap.size w w' := fun w => by
                    have := target_any Y4 w; rw [size13 _ _ (by rw [← hY4, ByteArray.size_append]; omega)] at this
                    exact this.mono fun e w' ⟨v, h1, _, h3⟩ => ⟨v, _, _, h1, h3⟩
                  have c5 : ∀ w, Calls Try.prog 9 #[.string Wd] w fun e w' => e = .returned (.int .i64 0) ∧ Below w.heap.size w w' := fun w => by
                    have := check_any Wd w; rw [hw12] at this; exact this
                  have c6 : ∀ w, Calls Try.prog 9 #[.string Y5] w fun e w' => e = .returned (.int .i64 11) ∧ Below w.heap.size w w' := fun w => by
                    rw [hY5] at hw13; have := check_any Y5 w; rw [hw13] at this; exact this
                  clear hw12 hw13 hp14 hpc hk hP
                  go_wp2_with (first
                    | (go_at_call_of 7 (Value.string Pt); refine (c1 _).mono ?_; rintro e w1 ⟨v1, d1, rfl, hb1⟩)
                    | (go_at_call_of 7 (Value.string Y1); refine (c2 _).mono ?_; rintro e w2 ⟨v2, d2, rfl, hb2⟩)
                    | (go_at_call_of 7 (Value.string Y3); refine (c3 _).mono ?_; rintro e w3 ⟨v3, d3, rfl, hb3⟩)
                    | (go_at_call_of 8 (Value.string Y4); refine (c4 _).mono ?_; rintro e w4 ⟨v4, t4, d4, rfl, hb4⟩)
                    | (go_at_call_of 9 (Value.string Wd); refine (c5 _).mono ?_; rintro e w5 ⟨rfl, hb5⟩)
                    | (go_at_call_of 9 (Value.string Y5); refine (c6 _).mono ?_; rintro e w6 ⟨rfl, hb6⟩)
                    | (go_at_call 10; refine (awake_any _).mono ?_; rintro e w7 ⟨rfl, hb7⟩))
                  go_ret
                  exact ⟨rfl, chainB hb1 (chainB hb2 (chainB hb3 (chainB hb4 (chainB hb5 (chainB hb6 hb7)))))⟩
        · rw [decide_eq_false q46] at e46
          obtain ⟨C, hC⟩ : ∃ C, s.extract 0 1 = C := ⟨_, rfl⟩
          have hpl : ∃ b, Plain C b := by
            have hne : 0 < (bl s).length := by rw [bl_len]; exact hpos
            have e1 : bl C = [(bl s)[0]] := by
              rw [← hC, take_bl]
              rw [List.take_add_one, List.take_zero, List.getElem?_eq_getElem hne]; rfl
            have e2 : bt s 0 = ((bl s)[0]).toNat := bt_bl s 0 _ (List.getElem?_eq_getElem hne)
            exact ⟨_, e1, by rw [← e2]; exact q47, by rw [← e2]; exact q0⟩
          have hs1 : (1 : Int) ≤ (s.size : Int) := by omega
          clear hx120 q0 q47 q46
          obtain ⟨b, hP⟩ := hpl
          have hCs : C.size = 1 := by rw [← bl_len, hP.one]; rfl
          have hw12 := word_chk hP
          have hw13 := word_long hP
          have hp14 := path_long hP
          have HR : Hid (∀ k, (rep C k).size = k) := fun k => rep_size hP.one k
          go_wp2
          go_loop [6, 7] (fun t i => ∃ k : Nat, k ≤ 12 ∧ t = .string (rep C k) ∧ i = .int .i64 k) (fun _ i => 12 - (intOf i).toNat)
          case atStart => exact ⟨0, Nat.zero_le _, rfl, rfl⟩
          case round =>
            obtain ⟨k, hk, rfl, rfl⟩ := hrel
            have hrs := HR.out k
            by_cases hlt : k < 12
            · have e : Hid (rep C (k + 1) = rep C k ++ C) := (rfl : rep C (k + 1) = _)
              have hki : (k : Int) < 12 := by omega
              clear hw12 hw13 hp14
              go_wp2
              go_round
              case rel => exact ⟨k + 1, by omega, by rw [e.out], by go_num⟩
              case measure => simp [intOf]; omega
            · obtain rfl : k = 12 := by omega
              obtain ⟨Wd, hWd⟩ : ∃ Wd, rep C 12 = Wd := ⟨_, rfl⟩
              rw [hWd] at hrs hw12 hw13 hp14 ⊢
              clear hWd HR
              go_wp2
              go_loop [8] (fun t => ∃ k : Nat, k ≤ 48 ∧ t = .string (pth k)) (fun t => 96 - szOf t)
              case atStart => exact ⟨0, Nat.zero_le _, rfl⟩
              case round =>
                obtain ⟨k, hk, rfl⟩ := hrel
                have hps := pth_size k
                by_cases hlt2 : k < 48
                · have e : Hid (pth (k + 1) = pth k ++ ⟨#[47, 97]⟩) := (rfl : pth (k + 1) = _)
                  have hps2 : (pth k).size < 96 := by omega
                  have hm := pth_size (k + 1)
                  rw [e.out] at hm
                  clear hw12 hw13 hp14
                  go_wp2
                  go_round
                  case rel => exact ⟨k + 1, by omega, by rw [e.out]⟩
                  case measure => show 96 - (pth k ++ ⟨#[47, 97]⟩).size < 96 - (pth k).size; rw [hm, hps]; omega
                · obtain rfl : k = 48 := by omega
                  have hpc := pth_cut
                  obtain ⟨Pt, hPt⟩ : ∃ Pt, pth 48 = Pt := ⟨_, rfl⟩
                  rw [hPt] at hps hpc ⊢
                  clear hPt
                  have c1 : ∀ w, Calls Try.prog 7 #[.string Pt] w fun e w' => ∃ v d, e = .returned (.tuple #[v, .bool d, .int .i64 0]) ∧ Below w.heap.size w w' := fun w => by
                    have := split_any Pt w; rw [hpc] at this
                    exact this.mono fun e w' ⟨v, h1, _, h3⟩ => ⟨v, _, h1, h3⟩
                  obtain ⟨Y1, hY1⟩ : ∃ Y, Pt ++ (⟨#[47]⟩ : ByteArray) = Y := ⟨_, rfl⟩
                  obtain ⟨Y2, hY2⟩ : ∃ Y, (⟨#[47]⟩ : ByteArray) ++ Wd = Y := ⟨_, rfl⟩
                  obtain ⟨Y3, hY3⟩ : ∃ Y, Y2 ++ C = Y := ⟨_, rfl⟩
                  obtain ⟨Y4, hY4⟩ : ∃ Y, Pt ++ C = Y := ⟨_, rfl⟩
                  obtain ⟨Y5, hY5⟩ : ∃ Y, Wd ++ C = Y := ⟨_, rfl⟩
                  have z2 : Y2.size = 13 := by rw [← hY2, ByteArray.size_append, hrs]; rfl
                  have c2 : ∀ w, Calls Try.prog 7 #[.string Y1] w fun e w' => ∃ v d, e = .returned (.tuple #[v, .bool d, .int .i64 13]) ∧ Below w.heap.size w w' := fun w => by
                    have := split_any Y1 w; rw [size13 _ _ (by rw [← hY1, size_slash]; omega)] at this
                    exact this.mono fun e w' ⟨v, h1, _, h3⟩ => ⟨v, _, h1, h3⟩
                  have c3 : ∀ w, Calls Try.prog 7 #[.string Y3] w fun e w' => ∃ v d, e = .returned (.tuple #[v, .bool d, .int .i64 11]) ∧ Below w.heap.size w w' := fun w => by
                    rw [hY2, hY3] at hp14; have := split_any Y3 w; rw [hp14] at this
                    exact this.mono fun e w' ⟨v, h1, _, h3⟩ => ⟨v, _, h1, h3⟩
                  have c4 : ∀ w, Calls Try.prog 8 #[.string Y4] w fun e w' => ∃ v t d, e = .returned (.tuple #[v, .bool t, .bool d, .int .i64 13]) ∧ Below w.heap.size w w' := fun w => by
                    have := target_any Y4 w; rw [size13 _ _ (by rw [← hY4, ByteArray.size_append]; omega)] at this
                    exact this.mono fun e w' ⟨v, h1, _, h3⟩ => ⟨v, _, _, h1, h3⟩
                  have c5 : ∀ w, Calls Try.prog 9 #[.string Wd] w fun e w' => e = .returned (.int .i64 0) ∧ Below w.heap.size w w' := fun w => by
                    have := check_any Wd w; rw [hw12] at this; exact this
                  have c6 : ∀ w, Calls Try.prog 9 #[.string Y5] w fun e w' => e = .returned (.int .i64 11) ∧ Below w.heap.size w w' := fun w => by
                    rw [hY5] at hw13; have := check_any Y5 w; rw [hw13] at this; exact this
                  clear hw12 hw13 hp14 hpc hk hP
                  go_wp2_with (first
                    | (go_at_call_of 7 (Value.string Pt); refine (c1 _).mono ?_; rintro e w1 ⟨v1, d1, rfl, hb1⟩)
                    | (go_at_call_of 7 (Value.string Y1); refine (c2 _).mono ?_; rintro e w2 ⟨v2, d2, rfl, hb2⟩)
                    | (go_at_call_of 7 (Value.string Y3); refine (c3 _).mono ?_; rintro e w3 ⟨v3, d3, rfl, hb3⟩)
                    | (go_at_call_of 8 (Value.string Y4); refine (c4 _).mono ?_; rintro e w4 ⟨v4, t4, d4, rfl, hb4⟩)
                    | (go_at_call_of 9 (Value.string Wd); refine (c5 _).mono ?_; rintro e w5 ⟨rfl, hb5⟩)
                    | (go_at_call_of 9 (Value.string Y5); refine (c6 _).mono ?_; rintro e w6 ⟨rfl, hb6⟩)
                    | (go_at_call 10; refine (awake_any _).mono ?_; rintro e w7 ⟨rfl, hb7⟩))
                  go_ret
                  exact ⟨rfl, chainB hb1 (chainB hb2 (chainB hb3 (chainB hb4 (chainB hb5 (chainB hb6 hb7)))))⟩
  · have hpl := hx120
    clear hx120
    obtain ⟨b, hP⟩ := hpl
    have hCs : (⟨#[120]⟩ : ByteArray).size = 1 := by rw [← bl_len, hP.one]; rfl
    have hw12 := word_chk hP
    have hw13 := word_long hP
    have hp14 := path_long hP
    have HR : Hid (∀ k, (rep (⟨#[120]⟩ : ByteArray) k).size = k) := fun k => rep_size hP.one k
    go_wp2
    go_loop [6, 7] (fun t i => ∃ k : Nat, k ≤ 12 ∧ t = .string (rep (⟨#[120]⟩ : ByteArray) k) ∧ i = .int .i64 k) (fun _ i => 12 - (intOf i).toNat)
    case atStart => exact ⟨0, Nat.zero_le _, rfl, rfl⟩
    case round =>
      obtain ⟨k, hk, rfl, rfl⟩ := hrel
      have hrs := HR.out k
      by_cases hlt : k < 12
      · have e : Hid (rep (⟨#[120]⟩ : ByteArray) (k + 1) = rep (⟨#[120]⟩ : ByteArray) k ++ (⟨#[120]⟩ : ByteArray)) := (rfl : rep (⟨#[120]⟩ : ByteArray) (k + 1) = _)
        have hki : (k : Int) < 12 := by omega
        clear hw12 hw13 hp14
        go_wp2
        go_round
        case rel => exact ⟨k + 1, by omega, by rw [e.out], by go_num⟩
        case measure => simp [intOf]; omega
      · obtain rfl : k = 12 := by omega
        obtain ⟨Wd, hWd⟩ : ∃ Wd, rep (⟨#[120]⟩ : ByteArray) 12 = Wd := ⟨_, rfl⟩
        rw [hWd] at hrs hw12 hw13 hp14 ⊢
        clear hWd HR
        go_wp2
        go_loop [8] (fun t => ∃ k : Nat, k ≤ 48 ∧ t = .string (pth k)) (fun t => 96 - szOf t)
        case atStart => exact ⟨0, Nat.zero_le _, rfl⟩
        case round =>
          obtain ⟨k, hk, rfl⟩ := hrel
          have hps := pth_size k
          by_cases hlt2 : k < 48
          · have e : Hid (pth (k + 1) = pth k ++ ⟨#[47, 97]⟩) := (rfl : pth (k + 1) = _)
            have hps2 : (pth k).size < 96 := by omega
            have hm := pth_size (k + 1)
            rw [e.out] at hm
            clear hw12 hw13 hp14
            go_wp2
            go_round
            case rel => exact ⟨k + 1, by omega, by rw [e.out]⟩
            case measure => show 96 - (pth k ++ ⟨#[47, 97]⟩).size < 96 - (pth k).size; rw [hm, hps]; omega
          · obtain rfl : k = 48 := by omega
            have hpc := pth_cut
            obtain ⟨Pt, hPt⟩ : ∃ Pt, pth 48 = Pt := ⟨_, rfl⟩
            rw [hPt] at hps hpc ⊢
            clear hPt
            have c1 : ∀ w, Calls Try.prog 7 #[.string Pt] w fun e w' => ∃ v d, e = .returned (.tuple #[v, .bool d, .int .i64 0]) ∧ Below w.heap.size w w' := fun w => by
              have := split_any Pt w; rw [hpc] at this
              exact this.mono fun e w' ⟨v, h1, _, h3⟩ => ⟨v, _, h1, h3⟩
            obtain ⟨Y1, hY1⟩ : ∃ Y, Pt ++ (⟨#[47]⟩ : ByteArray) = Y := ⟨_, rfl⟩
            obtain ⟨Y2, hY2⟩ : ∃ Y, (⟨#[47]⟩ : ByteArray) ++ Wd = Y := ⟨_, rfl⟩
            obtain ⟨Y3, hY3⟩ : ∃ Y, Y2 ++ (⟨#[120]⟩ : ByteArray) = Y := ⟨_, rfl⟩
            obtain ⟨Y4, hY4⟩ : ∃ Y, Pt ++ (⟨#[120]⟩ : ByteArray) = Y := ⟨_, rfl⟩
            obtain ⟨Y5, hY5⟩ : ∃ Y, Wd ++ (⟨#[120]⟩ : ByteArray) = Y := ⟨_, rfl⟩
            have z2 : Y2.size = 13 := by rw [← hY2, ByteArray.size_append, hrs]; rfl
            have c2 : ∀ w, Calls Try.prog 7 #[.string Y1] w fun e w' => ∃ v d, e = .returned (.tuple #[v, .bool d, .int .i64 13]) ∧ Below w.heap.size w w' := fun w => by
              have := split_any Y1 w; rw [size13 _ _ (by rw [← hY1, size_slash]; omega)] at this
              exact this.mono fun e w' ⟨v, h1, _, h3⟩ => ⟨v, _, h1, h3⟩
            have c3 : ∀ w, Calls Try.prog 7 #[.string Y3] w fun e w' => ∃ v d, e = .returned (.tuple #[v, .bool d, .int .i64 11]) ∧ Below w.heap.size w w' := fun w => by
              rw [hY2, hY3] at hp14; have := split_any Y3 w; rw [hp14] at this
              exact this.mono fun e w' ⟨v, h1, _, h3⟩ => ⟨v, _, h1, h3⟩
            have c4 : ∀ w, Calls Try.prog 8 #[.string Y4] w fun e w' => ∃ v t d, e = .returned (.tuple #[v, .bool t, .bool d, .int .i64 13]) ∧ Below w.heap.size w w' := fun w => by
              have := target_any Y4 w; rw [size13 _ _ (by rw [← hY4, ByteArray.size_append]; omega)] at this
              exact this.mono fun e w' ⟨v, h1, _, h3⟩ => ⟨v, _, _, h1, h3⟩
            have c5 : ∀ w, Calls Try.prog 9 #[.string Wd] w fun e w' => e = .returned (.int .i64 0) ∧ Below w.heap.size w w' := fun w => by
              have := check_any Wd w; rw [hw12] at this; exact this
            have c6 : ∀ w, Calls Try.prog 9 #[.string Y5] w fun e w' => e = .returned (.int .i64 11) ∧ Below w.heap.size w w' := fun w => by
              rw [hY5] at hw13; have := check_any Y5 w; rw [hw13] at this; exact this
            clear hw12 hw13 hp14 hpc hk hP
            go_wp2_with (first
              | (go_at_call_of 7 (Value.string Pt); refine (c1 _).mono ?_; rintro e w1 ⟨v1, d1, rfl, hb1⟩)
              | (go_at_call_of 7 (Value.string Y1); refine (c2 _).mono ?_; rintro e w2 ⟨v2, d2, rfl, hb2⟩)
              | (go_at_call_of 7 (Value.string Y3); refine (c3 _).mono ?_; rintro e w3 ⟨v3, d3, rfl, hb3⟩)
              | (go_at_call_of 8 (Value.string Y4); refine (c4 _).mono ?_; rintro e w4 ⟨v4, t4, d4, rfl, hb4⟩)
              | (go_at_call_of 9 (Value.string Wd); refine (c5 _).mono ?_; rintro e w5 ⟨rfl, hb5⟩)
              | (go_at_call_of 9 (Value.string Y5); refine (c6 _).mono ?_; rintro e w6 ⟨rfl, hb6⟩)
              | (go_at_call 10; refine (awake_any _).mono ?_; rintro e w7 ⟨rfl, hb7⟩))
            go_ret
            exact ⟨rfl, chainB hb1 (chainB hb2 (chainB hb3 (chainB hb4 (chainB hb5 (chainB hb6 hb7)))))⟩
end Go.Proofs.Ytehpaanpkiidaab
