/- Scrolls in memory; the contracts of package scroll's small methods. -/
import Derived.Test.YtajgaialnafdbaaJSAys08
namespace Go.Proofs.Ytajgaialnafdbaa
section
open Go.RowKit

/-- a scroll in memory -/
structure IsS (w : World) (sb b G Hh n u : Nat) : Prop where
  head : w.heap[sb]? = some (.cells #[.pointer (some ⟨b, 0, none⟩), .int .i64 (G : Nat), .int .i64 (Hh : Nat), .int .i64 (n : Nat), .int .i64 (u : Nat)] 75 (0, 0))
theorem IsS.lt {w : World} {sb b G Hh n u : Nat} (h : IsS w sb b G Hh n u) : sb < w.heap.size := (Array.getElem?_eq_some_iff.1 h.head).1
theorem IsS.moved {w w' : World} {sb b G Hh n u : Nat} (h : IsS w sb b G Hh n u) (e : w'.heap[sb]? = w.heap[sb]?) : IsS w' sb b G Hh n u := ⟨e.trans h.head⟩
theorem IsS.below {w w' : World} {sb b G Hh n u : Nat} (h : IsS w sb b G Hh n u) (hb : Below w.heap.size w w') : IsS w' sb b G Hh n u := h.moved (hb.block _ h.lt)
theorem IsS.only {S : Nat → Prop} {w w' : World} {sb b G Hh n u : Nat} (h : IsS w sb b G Hh n u) (ho : Only S w w') (hn : ¬ S sb) : IsS w' sb b G Hh n u := h.moved (ho.block _ h.lt hn)
theorem IsS.cells {w : World} {sb b G Hh n u : Nat} (h : IsS w sb b G Hh n u) : w.cell? ⟨sb, 0, none⟩ = some (.pointer (some ⟨b, 0, none⟩)) ∧ w.cell? ⟨sb, 1, none⟩ = some (.int .i64 (G : Nat)) ∧ w.cell? ⟨sb, 2, none⟩ = some (.int .i64 (Hh : Nat)) ∧ w.cell? ⟨sb, 3, none⟩ = some (.int .i64 (n : Nat)) ∧ w.cell? ⟨sb, 4, none⟩ = some (.int .i64 (u : Nat)) ∧ ∀ i, w.frozen? ⟨sb, i, none⟩ = false :=
  ⟨by rw [cell_of h.head]; rfl, by rw [cell_of h.head]; rfl, by rw [cell_of h.head]; rfl, by rw [cell_of h.head]; rfl, by rw [cell_of h.head]; rfl, free_of h.head⟩
theorem IsS.tag {w : World} {sb b G Hh n u : Nat} (h : IsS w sb b G Hh n u) : Tag w sb 75 := ⟨_, _, h.head⟩
theorem IsD.tagb {w : World} {b g : Nat} {s : Dsk} (h : IsD w b g s) : Tag w b 82 := ⟨_, _, h.head⟩
theorem IsD.tagg {w : World} {b g : Nat} {s : Dsk} (h : IsD w b g s) : Tag w g 90 := ⟨_, _, h.body⟩
theorem IsS.ne {w : World} {sb b G Hh n u : Nat} (h : IsS w sb b G Hh n u) {g : Nat} {s : Dsk} (hd : IsD w b g s) : sb ≠ b ∧ sb ≠ g := ⟨h.tag.ne hd.tagb (by decide), h.tag.ne hd.tagg (by decide)⟩
theorem Same.isD {w0 w : World} {b g : Nat} {s : Dsk} (hs : Same w0 w) (h : IsD w0 b g s) : IsD w b g s := h.below hs.below

theorem half_any (sb b G Hh n u g : Nat) (s : Dsk) (w : World) (hs : IsS w sb b G Hh n u) (h : IsD w b g s) (h1 : 1 ≤ s.cs.length) :
    Calls Try.prog 34 #[.pointer (some ⟨sb, 0, none⟩)] w fun e w' => e = .returned (.int .i64 (hS s.cs : Nat)) ∧ w' = w := by
  obtain ⟨c0, _⟩ := hs.cells
  have HZ : Hid (Calls Try.prog 47 #[.pointer (some ⟨b, 0, none⟩)] w fun e w2 => e = .returned (.int .i64 (hS s.cs : Nat)) ∧ w2 = w) := halfSize_any b g s w h h1
  clear hs h
  go_enter Try.func34, Try.ntmps34
  go_wp2_with (go_at_call 47; refine HZ.out.mono ?_; rintro e w2 ⟨rfl, rfl⟩)
  go_ret
  exact ⟨rfl, rfl⟩
theorem gen_any (sb b G Hh n u : Nat) (w : World) (hs : IsS w sb b G Hh n u) :
    Calls Try.prog 23 #[.pointer (some ⟨sb, 0, none⟩)] w fun e w' => e = .returned (.int .i64 (G : Nat)) ∧ w' = w := by
  obtain ⟨_, c1, _⟩ := hs.cells
  clear hs
  go_enter Try.func23, Try.ntmps23
  go_wp2
  go_ret
  exact ⟨rfl, rfl⟩
theorem drewN_same (w : World) (n : Nat) : Same w (w.drewN n) := by
  refine ⟨?_, ?_, ?_, ?_⟩ <;> induction n <;> simp_all [World.drewN]
theorem room_any (sb b G Hh n u g : Nat) (s : Dsk) (w : World) (hs : IsS w sb b G Hh n u) (h : IsD w b g s) (h1 : 1 ≤ s.cs.length) (hu : u ≤ hS s.cs) :
    Calls Try.prog 21 #[.pointer (some ⟨sb, 0, none⟩)] w fun e w' => e = .returned (.int .i64 (hS s.cs - u : Nat)) ∧ Same w w' := by
  obtain ⟨_, _, _, _, c4, _⟩ := hs.cells
  have hb := hS_lt h.few
  have e : ((hS s.cs - u : Nat) : Int) = (hS s.cs : Int) - (u : Int) := by omega
  rw [e]
  have H : Hid (∀ w', Same w w' → Calls Try.prog 34 #[.pointer (some ⟨sb, 0, none⟩)] w' fun e w2 => e = .returned (.int .i64 (hS s.cs : Nat)) ∧ w2 = w') := fun w' hw => half_any sb b G Hh n u g s w' (hs.below hw.below) (h.below hw.below) h1
  obtain ⟨N, hN⟩ : ∃ N, hS s.cs = N := ⟨_, rfl⟩
  rw [hN] at H hb hu
  rw [hN]
  clear hs h e hN
  go_enter Try.func21, Try.ntmps21
  go_wp2
  have hwr : IntKind.i64.wrap ((N : Int) - (u : Int)) = (N : Int) - (u : Int) := IntWalk.i64_in _ (by omega)
  have k0 : w.drew.cell? ⟨sb, 4, none⟩ = some (.int .i64 (u : Nat)) ∧ Same w w.drew := ⟨c4, ⟨rfl, rfl, rfl, rfl⟩⟩
  go_region_held3 (fun w' => w'.cell? ⟨sb, 4, none⟩ = some (.int .i64 (u : Nat)) ∧ Same w w')
    (with_reducible first | exact k0 | assumption)
    (first | (go_at_call 34; refine (H.out _ k0.2).mono ?_; rintro e w2 ⟨rfl, rfl⟩))
  go_wp2
  go_ret
  exact ⟨rfl, k0.2⟩
theorem place_s (sb b G Hh n u g : Nat) (s : Dsk) (i : Nat) (w : World) (hs : IsS w sb b G Hh n u) (h : IsD w b g s) (h1 : 1 ≤ s.cs.length) (hu : u ≤ 1000) (hh : Hh ≤ 1) (hi : i ≤ 1000) :
    Calls Try.prog 57 #[.pointer (some ⟨sb, 0, none⟩), .int .i64 (i : Nat)] w fun e w' => e = .returned (.int .i64 (1 + Hh * hS s.cs + u + i : Nat)) ∧ Same w w' := by
  obtain ⟨c0, _, c2, _, c4, _⟩ := hs.cells
  have hb := hS_lt h.few
  have hm : Hh * hS s.cs ≤ 1 * 511 := Nat.mul_le_mul hh hb
  have H : Hid (∀ w', Same w w' → Calls Try.prog 62 #[.pointer (some ⟨b, 0, none⟩), .int .i64 (Hh : Nat)] w' fun e w2 => e = .returned (.int .i64 (1 + Hh * hS s.cs : Nat)) ∧ w2 = w') := fun w' hw => halfStart_any b g s Hh w' (h.below hw.below) h1 hh
  obtain ⟨P, hP⟩ : ∃ P, 1 + Hh * hS s.cs = P := ⟨_, rfl⟩
  rw [hP] at H
  rw [hP]
  have hP2 : P ≤ 512 := by omega
  have e : ((P + u + i : Nat) : Int) = (P : Int) + (u : Int) + (i : Int) := by omega
  rw [e]
  clear hs h e hP hm hb
  have w1 : IntKind.i64.wrap ((P : Int) + (u : Int)) = (P : Int) + (u : Int) := IntWalk.i64_in _ (by omega)
  have w2 : IntKind.i64.wrap ((P : Int) + (u : Int) + (i : Int)) = (P : Int) + (u : Int) + (i : Int) := IntWalk.i64_in _ (by omega)
  have k0 : w.drew.cell? ⟨sb, 0, none⟩ = some (.pointer (some ⟨b, 0, none⟩)) ∧ w.drew.cell? ⟨sb, 2, none⟩ = some (.int .i64 (Hh : Nat)) ∧ w.drew.cell? ⟨sb, 4, none⟩ = some (.int .i64 (u : Nat)) ∧ Same w w.drew := ⟨c0, c2, c4, ⟨rfl, rfl, rfl, rfl⟩⟩
  go_enter Try.func57, Try.ntmps57
  go_wp2
  go_region_held3 (fun w' => w'.cell? ⟨sb, 0, none⟩ = some (.pointer (some ⟨b, 0, none⟩)) ∧ w'.cell? ⟨sb, 2, none⟩ = some (.int .i64 (Hh : Nat)) ∧ w'.cell? ⟨sb, 4, none⟩ = some (.int .i64 (u : Nat)) ∧ Same w w')
    (with_reducible first | exact k0 | assumption)
    (first | (go_at_call 62; refine (H.out _ k0.2.2.2).mono ?_; rintro e w2 ⟨rfl, rfl⟩))
  go_wp2
  go_ret
  exact ⟨rfl, k0.2.2.2⟩
theorem keep_any (sb b G Hh n u c : Nat) (w : World) (hs : IsS w sb b G Hh n u) (hn : n ≤ 1000000) (hu : u ≤ 1000000) (hc : c ≤ 1000000) :
    Calls Try.prog 60 #[.pointer (some ⟨sb, 0, none⟩), .int .i64 (c : Nat)] w fun e w' => e = .returned (.tuple #[]) ∧ IsS w' sb b G Hh (n + 1) (u + c) ∧ Only (· = sb) w w' := by
  obtain ⟨_, _, _, c3, c4, cf⟩ := hs.cells
  have H : Hid (IsS w sb b G Hh n u) := hs
  clear hs
  go_enter Try.func60, Try.ntmps60
  go_wp2
  go_end0
  refine ⟨rfl, ⟨?_⟩, (only1 _ sb 3 _).trans (only1 _ sb 4 _)⟩
  rw [heap_set (heap_set H.out.head 3 _) 4 _, Int.natCast_add, Int.natCast_add]
  rfl
theorem right_any (v : Value) (l : List Int) (w : World) (hv : RB w v l) (hl : l.length ≤ 1000000) :
    Calls Try.prog 36 #[v] w fun e w' => e = .returned (.bool (decide (1 ≤ l.length ∧ l.length ≤ 424))) ∧ w' = w := by
  obtain ⟨a, cap, rfl, _⟩ := hv
  by_cases h1 : 1 ≤ l.length
  · by_cases h2 : l.length ≤ 424
    · rw [decide_eq_true ⟨h1, h2⟩]
      have e1 : decide ((1 : Int) ≤ (l.length : Int)) = true := decide_eq_true (by omega)
      have e2 : decide ((l.length : Int) ≤ 424) = true := decide_eq_true (by omega)
      go_enter Try.func36, Try.ntmps36
      go_wp2
      go_ret
      exact ⟨rfl, rfl⟩
    · rw [decide_eq_false (by omega)]
      have e1 : decide ((1 : Int) ≤ (l.length : Int)) = true := decide_eq_true (by omega)
      have e2 : decide ((l.length : Int) ≤ 424) = false := decide_eq_false (by omega)
      go_enter Try.func36, Try.ntmps36
      go_wp2
      go_ret
      exact ⟨rfl, rfl⟩
  · rw [decide_eq_false (by omega)]
    have e1 : decide ((1 : Int) ≤ (l.length : Int)) = false := decide_eq_false (by omega)
    go_enter Try.func36, Try.ntmps36
    go_wp2
    go_ret
    exact ⟨rfl, rfl⟩
theorem blocks_any (v : Value) (l : List Int) (w : World) (hv : RB w v l) (hl : l.length ≤ 1000000) :
    Calls Try.prog 37 #[v] w fun e w' => e = .returned (.int .i64 (nb l.length : Nat)) ∧ w' = w := by
  obtain ⟨a, cap, rfl, _⟩ := hv
  have e : ((nb l.length : Nat) : Int) = ((l.length : Int) + 53 - 1) / 53 := by unfold nb; omega
  rw [e]
  go_enter Try.func37, Try.ntmps37
  go_wp2
  go_ret
  exact ⟨rfl, rfl⟩
end
section
open Go.RowKit

set_option maxHeartbeats 1000000 in
theorem hwrite_any (b g : Nat) (s : Dsk) (G Hh : Nat) (w : World) (h : IsD w b g s) (hg : s.good) (hG : G < 4294967296) :
    Calls Try.prog 43 #[.agg #[.int .i64 (G : Nat), .int .i64 (Hh : Nat)], .pointer (some ⟨b, 0, none⟩)] w fun e w' => e = .returned (.int .i64 (s.wrE 0 64)) ∧ IsD w' b g (s.wr 0 (hdrB G Hh)) ∧ Only (fun x => x = b ∨ x = g) w w' := by
  have H : Hid (∀ w', Below w.heap.size w w' → IsD w' b g s) := fun w' hw => h.below hw
  have hlb := h.lb
  have HG : Hid s.good := hg
  obtain ⟨E, hE⟩ : ∃ E, s.wrE 0 64 = E := ⟨_, rfl⟩
  have HE : Hid (s.wrE 0 64 = E) := hE
  rw [hE]
  clear h hg hE
  go_enter Try.func43, Try.ntmps43
  go_wp2_with (first
    | (go_at_call 64; refine (hdrBlock_any G Hh _ hG).mono ?_; rintro e w1 ⟨v1, rfl, ho1, hb1⟩; have B1 := chainB (below_alloc _ _) hb1)
    | (go_at_call 27; refine (write_any b g s 0 v1 (hdrB G Hh) _ _ (H.out _ B1) HG.out ho1 (by simp; omega)).mono ?_; rintro e w2 ⟨rfl, hD, hO⟩; rw [hdrB_len, HE.out]))
  go_ret
  exact ⟨rfl, hD, (Only.of B1).trans hO⟩

def fmtE (s : Dsk) : Int := if hS s.cs = 0 then 1 else if nextG s.cs ≤ 1073741824 then s.wrE 0 64 else 60
def fmtD (s : Dsk) : Dsk := if hS s.cs = 0 then s else if nextG s.cs ≤ 1073741824 then s.wr 0 (hdrB (nextG s.cs) (nextH s.cs)) else s
set_option maxRecDepth 100000 in
set_option maxHeartbeats 1000000 in
theorem format_any (b g : Nat) (s : Dsk) (w : World) (h : IsD w b g s) (hg : s.good) (h1 : 1 ≤ s.cs.length) (hb : BytC s.cs) :
    Calls Try.prog 18 #[.pointer (some ⟨b, 0, none⟩)] w fun e w' => e = .returned (.int .i64 (fmtE s)) ∧ IsD w' b g (fmtD s) ∧ Only (fun x => x = b ∨ x = g) w w' := by
  have hS1 := hS_lt h.few
  have H : Hid (∀ w', Below w.heap.size w w' → IsD w' b g s) := fun w' hw => h.below hw
  have HZ : Hid (Calls Try.prog 47 #[.pointer (some ⟨b, 0, none⟩)] w fun e w2 => e = .returned (.int .i64 (hS s.cs : Nat)) ∧ w2 = w) := halfSize_any b g s w h h1
  have HN : Hid (Calls Try.prog 42 #[.pointer (some ⟨b, 0, none⟩)] w fun e w' => e = .returned (.tuple #[.agg #[.int .i64 (nextG s.cs : Nat), .int .i64 (nextH s.cs : Nat)], .bool (decide (nextG s.cs ≤ 1073741824))]) ∧ Below w.heap.size w w') := next_any b g s w h h1 hb
  by_cases h0 : hS s.cs = 0
  · have e1 : fmtE s = 1 := if_pos h0
    have e2 : fmtD s = s := if_pos h0
    rw [e1, e2]
    rw [h0] at HZ
    clear h e1 e2 HN
    go_enter Try.func18, Try.ntmps18
    go_wp2_with (go_at_call 47; refine HZ.out.mono ?_; rintro e w2 ⟨rfl, rfl⟩)
    go_ret
    exact ⟨rfl, H.out _ (Below.refl _ _), Only.refl _ _⟩
  · obtain ⟨N, hN⟩ : ∃ N, hS s.cs = N := ⟨_, rfl⟩
    have hz : ((N : Int) == 0) = false := by rw [beq_eq_false_iff_ne]; omega
    by_cases h2 : nextG s.cs ≤ 1073741824
    · have e1 : fmtE s = s.wrE 0 64 := by unfold fmtE; rw [if_neg h0, if_pos h2]
      have e2 : fmtD s = s.wr 0 (hdrB (nextG s.cs) (nextH s.cs)) := by unfold fmtD; rw [if_neg h0, if_pos h2]
      rw [e1, e2]
      rw [decide_eq_true h2] at HN
      rw [hN] at HZ
      obtain ⟨A, hA⟩ : ∃ A, nextG s.cs = A := ⟨_, rfl⟩
      obtain ⟨B, hB⟩ : ∃ B, nextH s.cs = B := ⟨_, rfl⟩
      obtain ⟨E, hE⟩ : ∃ E, s.wrE 0 64 = E := ⟨_, rfl⟩
      rw [hA, hB] at HN
      rw [hA, hB, hE]
      rw [hA] at h2
      have HW : Hid (∀ w', Below w.heap.size w w' → Calls Try.prog 43 #[.agg #[.int .i64 (A : Nat), .int .i64 (B : Nat)], .pointer (some ⟨b, 0, none⟩)] w' fun e w2 => e = .returned (.int .i64 E) ∧ IsD w2 b g (s.wr 0 (hdrB A B)) ∧ Only (fun x => x = b ∨ x = g) w' w2) := fun w' hw => by
        have := hwrite_any b g s A B w' (h.below hw) hg (by omega)
        rw [hE] at this; exact this
      clear h e1 e2 hA hB hE hN h0
      go_enter Try.func18, Try.ntmps18
      go_wp2_with (first
        | (go_at_call 47; refine HZ.out.mono ?_; rintro e w2 ⟨rfl, rfl⟩)
        | (go_at_call 42; refine HN.out.mono ?_; rintro e w3 ⟨rfl, hb3⟩)
        | (go_at_call 43; refine (HW.out _ (chainB hb3 (below_alloc _ _))).mono ?_; rintro e w4 ⟨rfl, hD4, hO4⟩))
      go_ret
      exact ⟨rfl, hD4, (Only.of (chainB hb3 (below_alloc _ _))).trans hO4⟩
    · have e1 : fmtE s = 60 := by unfold fmtE; rw [if_neg h0, if_neg h2]
      have e2 : fmtD s = s := by unfold fmtD; rw [if_neg h0, if_neg h2]
      rw [e1, e2]
      rw [decide_eq_false h2] at HN
      rw [hN] at HZ
      clear h e1 e2 hN h0
      go_enter Try.func18, Try.ntmps18
      go_wp2_with (first
        | (go_at_call 47; refine HZ.out.mono ?_; rintro e w2 ⟨rfl, rfl⟩)
        | (go_at_call 42; refine HN.out.mono ?_; rintro e w3 ⟨rfl, hb3⟩))
      go_ret
      exact ⟨rfl, H.out _ (chainB hb3 (below_alloc _ _)), Only.of (chainB hb3 (below_alloc _ _))⟩
end
section
open Go.RowKit

/-- a disk as it may stand: a fuse burns only while there is power -/
structure Dsk.ok (s : Dsk) (K : Int) : Prop where
  left : s.burns = true → 0 ≤ s.left ∧ s.left ≤ 9223372036854775807
  w0 : 0 ≤ s.writes
  wK : s.writes ≤ K
  dead : s.on = false → s.burns = false
theorem Dsk.ok.good {s : Dsk} {K : Int} (h : s.ok K) (hK : K < 9223372036854775807) : s.good := ⟨h.left, h.w0, by have := h.wK; omega⟩
theorem Dsk.ok.le {s : Dsk} {K L : Int} (h : s.ok K) (hK : K ≤ L) : s.ok L := ⟨h.left, h.w0, by have := h.wK; omega, h.dead⟩
theorem spend_on {s : Dsk} (h : s.spend.on = true) : s.on = true := by
  unfold Dsk.spend Dsk.cut at h
  split at h
  · split at h
    · cases h
    · exact h
  · exact h
theorem Dsk.ok.spend {s : Dsk} {K : Int} (h : s.ok K) : s.spend.ok K := by
  unfold Dsk.spend Dsk.cut
  split
  · rename_i hb
    split
    · exact ⟨(fun e => by cases e), h.w0, h.wK, fun _ => rfl⟩
    · have := h.left hb
      exact ⟨fun _ => ⟨by show 0 ≤ s.left - 1; omega, by show s.left - 1 ≤ _; omega⟩, h.w0, h.wK, h.dead⟩
  · exact h
theorem Dsk.ok.wr {s : Dsk} {K : Int} (h : s.ok K) (i : Int) (l : List Int) : (s.wr i l).ok (K + 1) := by
  unfold Dsk.wr
  have hs := h.spend
  split
  · split
    · split
      · exact ⟨hs.left, by show 0 ≤ s.writes + 1; have := h.w0; omega, by show s.writes + 1 ≤ K + 1; have := h.wK; omega, hs.dead⟩
      · exact hs.le (by omega)
    · exact h.le (by omega)
  · exact h.le (by omega)
theorem wr_dead {s : Dsk} (h1 : s.on = false) (h2 : s.burns = false) (i : Int) (l : List Int) : s.wr i l = s := by
  have e : s.spend = s := by unfold Dsk.spend; rw [h2]; rfl
  unfold Dsk.wr
  rw [e, h1]
  split
  · split
    · rfl
    · rfl
  · rfl
theorem has_in {s : Dsk} {i : Nat} (hi : i < s.cs.length) : s.has i = true := by unfold Dsk.has; simp; exact hi
theorem wr_in {s : Dsk} {i : Nat} (hi : i < s.cs.length) {l : List Int} (hl : l.length = 64) : s.wr i l = if s.spend.on then { s.spend with cs := s.cs.set i l, writes := s.writes + 1 } else s.spend := by
  unfold Dsk.wr; rw [has_in hi, if_pos rfl, if_pos hl, Int.toNat_natCast]
theorem wrE_in {s : Dsk} {i : Nat} (hi : i < s.cs.length) : s.wrE i 64 = if s.spend.on then 0 else 21 := by
  unfold Dsk.wrE; rw [has_in hi, if_pos rfl, if_pos rfl]
theorem wr_on {s : Dsk} {i : Nat} (hi : i < s.cs.length) {l : List Int} (hl : l.length = 64) : (s.wr i l).on = s.spend.on := by
  rw [wr_in hi hl]; split <;> rfl
theorem wr_cs {s : Dsk} {i : Nat} (hi : i < s.cs.length) {l : List Int} (hl : l.length = 64) : (s.wr i l).cs = if s.spend.on then s.cs.set i l else s.cs := by
  rw [wr_in hi hl]; split
  · rfl
  · exact spend_cs s
theorem wr_len (s : Dsk) (i : Int) (l : List Int) : (s.wr i l).cs.length = s.cs.length := by
  unfold Dsk.wr
  split
  · split
    · split
      · exact List.length_set ..
      · rw [spend_cs]
    · rfl
  · rfl

def layD (s : Dsk) (a g r c : Nat) (l : List Int) : Nat → Dsk
  | 0 => s
  | j + 1 => (layD s a g r c l j).wr ((a + j : Nat) : Int) (pieceB g r j c (cutP l j))
theorem layD_len (s : Dsk) (a g r c : Nat) (l : List Int) (m : Nat) : (layD s a g r c l m).cs.length = s.cs.length := by
  induction m with
  | zero => rfl
  | succ m ih => unfold layD; rw [wr_len, ih]
theorem layD_ok {s : Dsk} {K : Int} (h : s.ok K) (a g r c : Nat) (l : List Int) (m : Nat) : (layD s a g r c l m).ok (K + m) := by
  induction m with
  | zero => exact h.le (by omega)
  | succ m ih => unfold layD; exact (ih.wr _ _).le (by omega)
theorem layD_stop {s : Dsk} {K : Int} (h : s.ok K) (a g r c : Nat) (l : List Int) {j m : Nat} (hj : (layD s a g r c l j).on = false) (hm : j ≤ m) : layD s a g r c l m = layD s a g r c l j := by
  induction m with
  | zero => rw [Nat.le_zero.1 hm]
  | succ m ih =>
    by_cases e : j = m + 1
    · rw [e]
    · have hi := ih (by omega)
      show (layD s a g r c l m).wr _ _ = _
      rw [hi]
      exact wr_dead hj ((layD_ok h a g r c l j).dead hj) _ _
theorem layD_cs {s : Dsk} (a g r c : Nat) (l : List Int) (m : Nat) (ha : a + m ≤ s.cs.length) : ∃ j, j ≤ m ∧ (layD s a g r c l m).cs = putP s.cs a g r c l j ∧ ((layD s a g r c l m).on = true → j = m) ∧ ((layD s a g r c l m).on = false → m = 0 ∨ j < m) := by
  induction m with
  | zero => exact ⟨0, Nat.le_refl _, rfl, fun _ => rfl, fun _ => .inl rfl⟩
  | succ m ih =>
    obtain ⟨j, hj, e, h1, h2⟩ := ih (by omega)
    have hi : a + m < (layD s a g r c l m).cs.length := by rw [layD_len]; omega
    have hl : (pieceB g r m c (cutP l m)).length = 64 := pieceB_len (cutP_len _ _)
    have eo := wr_on hi hl
    have ec := wr_cs hi hl
    cases hs : (layD s a g r c l m).spend.on
    · refine ⟨j, by omega, ?_, ?_, fun _ => .inr (by omega)⟩
      · show ((layD s a g r c l m).wr _ _).cs = _
        rw [ec, hs, e]; rfl
      · intro h
        have : ((layD s a g r c l m).wr ((a + m : Nat) : Int) (pieceB g r m c (cutP l m))).on = true := h
        rw [eo, hs] at this; cases this
    · have hm := h1 (spend_on hs)
      subst hm
      refine ⟨j + 1, Nat.le_refl _, ?_, fun _ => rfl, ?_⟩
      · show ((layD s a g r c l j).wr _ _).cs = _
        rw [ec, hs, e]; rfl
      · intro h
        have : ((layD s a g r c l j).wr ((a + j : Nat) : Int) (pieceB g r j c (cutP l j))).on = false := h
        rw [eo, hs] at this; cases this
theorem byt_put {cs : List (List Int)} (h : BytC cs) (a g r c : Nat) {l : List Int} (hl : Byt l) (j : Nat) : BytC (putP cs a g r c l j) := by
  induction j with
  | zero => exact h
  | succ j ih =>
    intro x hx
    unfold putP at hx
    rcases List.mem_or_eq_of_mem_set hx with hx | rfl
    · exact ih x hx
    · exact byt_piece (byt_cut hl j)
end
end Go.Proofs.Ytajgaialnafdbaa
