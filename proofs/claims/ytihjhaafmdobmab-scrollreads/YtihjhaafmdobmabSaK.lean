/- Scrolls in memory; the contracts of package scroll's small methods. -/
import Derived.Test.YtihjhaafmdobmabSaJ
namespace Go.Proofs.Ytihjhaafmdobmab
open Go.RowKit

/-- a scroll in memory -/
structure IsS (w : World) (sb b G Hh n u : Nat) : Prop where
  head : w.heap[sb]? = some (.cells #[.pointer (some ⟨b, 0, none⟩), .int .i64 (G : Nat), .int .i64 (Hh : Nat), .int .i64 (n : Nat), .int .i64 (u : Nat)] 145 (0, 0))
theorem IsS.lt {w : World} {sb b G Hh n u : Nat} (h : IsS w sb b G Hh n u) : sb < w.heap.size := (Array.getElem?_eq_some_iff.1 h.head).1
theorem IsS.moved {w w' : World} {sb b G Hh n u : Nat} (h : IsS w sb b G Hh n u) (e : w'.heap[sb]? = w.heap[sb]?) : IsS w' sb b G Hh n u := ⟨e.trans h.head⟩
theorem IsS.below {w w' : World} {sb b G Hh n u : Nat} (h : IsS w sb b G Hh n u) (hb : Below w.heap.size w w') : IsS w' sb b G Hh n u := h.moved (hb.block _ h.lt)
theorem IsS.only {S : Nat → Prop} {w w' : World} {sb b G Hh n u : Nat} (h : IsS w sb b G Hh n u) (ho : Only S w w') (hn : ¬ S sb) : IsS w' sb b G Hh n u := h.moved (ho.block _ h.lt hn)
theorem IsS.cells {w : World} {sb b G Hh n u : Nat} (h : IsS w sb b G Hh n u) : w.cell? ⟨sb, 0, none⟩ = some (.pointer (some ⟨b, 0, none⟩)) ∧ w.cell? ⟨sb, 1, none⟩ = some (.int .i64 (G : Nat)) ∧ w.cell? ⟨sb, 2, none⟩ = some (.int .i64 (Hh : Nat)) ∧ w.cell? ⟨sb, 3, none⟩ = some (.int .i64 (n : Nat)) ∧ w.cell? ⟨sb, 4, none⟩ = some (.int .i64 (u : Nat)) ∧ ∀ i, w.frozen? ⟨sb, i, none⟩ = false :=
  ⟨by rw [cell_of h.head]; rfl, by rw [cell_of h.head]; rfl, by rw [cell_of h.head]; rfl, by rw [cell_of h.head]; rfl, by rw [cell_of h.head]; rfl, free_of h.head⟩
theorem IsS.tag {w : World} {sb b G Hh n u : Nat} (h : IsS w sb b G Hh n u) : Tag w sb 145 := ⟨_, _, h.head⟩
theorem IsD.tagb {w : World} {b g : Nat} {s : Dsk} (h : IsD w b g s) : Tag w b 152 := ⟨_, _, h.head⟩
theorem IsD.tagg {w : World} {b g : Nat} {s : Dsk} (h : IsD w b g s) : Tag w g 194 := ⟨_, _, h.body⟩
theorem IsS.ne {w : World} {sb b G Hh n u : Nat} (h : IsS w sb b G Hh n u) {g : Nat} {s : Dsk} (hd : IsD w b g s) : sb ≠ b ∧ sb ≠ g := ⟨h.tag.ne hd.tagb (by decide), h.tag.ne hd.tagg (by decide)⟩
theorem Same.isD {w0 w : World} {b g : Nat} {s : Dsk} (hs : Same w0 w) (h : IsD w0 b g s) : IsD w b g s := h.below hs.below

theorem half_any (sb b G Hh n u g : Nat) (s : Dsk) (w : World) (hs : IsS w sb b G Hh n u) (h : IsD w b g s) (h1 : 1 ≤ s.cs.length) :
    Calls Try.prog 76 #[.pointer (some ⟨sb, 0, none⟩)] w fun e w' => e = .returned (.int .i64 (hS s.cs : Nat)) ∧ w' = w := by
  obtain ⟨c0, _⟩ := hs.cells
  have HZ : Hid (Calls Try.prog 89 #[.pointer (some ⟨b, 0, none⟩)] w fun e w2 => e = .returned (.int .i64 (hS s.cs : Nat)) ∧ w2 = w) := halfSize_any b g s w h h1
  clear hs h
  go_enter Try.func76, Try.ntmps76
  go_wp2_with (go_at_call 89; refine HZ.out.mono ?_; rintro e w2 ⟨rfl, rfl⟩)
  go_ret
  exact ⟨rfl, rfl⟩
theorem gen_any (sb b G Hh n u : Nat) (w : World) (hs : IsS w sb b G Hh n u) :
    Calls Try.prog 42 #[.pointer (some ⟨sb, 0, none⟩)] w fun e w' => e = .returned (.int .i64 (G : Nat)) ∧ w' = w := by
  obtain ⟨_, c1, _⟩ := hs.cells
  clear hs
  go_enter Try.func42, Try.ntmps42
  go_wp2
  go_ret
  exact ⟨rfl, rfl⟩
theorem drewN_same (w : World) (n : Nat) : Same w (w.drewN n) := by
  refine ⟨?_, ?_, ?_, ?_⟩ <;> induction n <;> simp_all [World.drewN]
theorem room_any (sb b G Hh n u g : Nat) (s : Dsk) (w : World) (hs : IsS w sb b G Hh n u) (h : IsD w b g s) (h1 : 1 ≤ s.cs.length) (hu : u ≤ hS s.cs) :
    Calls Try.prog 40 #[.pointer (some ⟨sb, 0, none⟩)] w fun e w' => e = .returned (.int .i64 (hS s.cs - u : Nat)) ∧ Same w w' := by
  obtain ⟨_, _, _, _, c4, _⟩ := hs.cells
  have hb := hS_lt h.few
  have e : ((hS s.cs - u : Nat) : Int) = (hS s.cs : Int) - (u : Int) := by omega
  rw [e]
  have H : Hid (∀ w', Same w w' → Calls Try.prog 76 #[.pointer (some ⟨sb, 0, none⟩)] w' fun e w2 => e = .returned (.int .i64 (hS s.cs : Nat)) ∧ w2 = w') := fun w' hw => half_any sb b G Hh n u g s w' (hs.below hw.below) (h.below hw.below) h1
  obtain ⟨N, hN⟩ : ∃ N, hS s.cs = N := ⟨_, rfl⟩
  rw [hN] at H hb hu
  rw [hN]
  clear hs h e hN
  go_enter Try.func40, Try.ntmps40
  go_wp2
  have hwr : IntKind.i64.wrap ((N : Int) - (u : Int)) = (N : Int) - (u : Int) := IntWalk.i64_in _ (by omega)
  have k0 : w.drew.cell? ⟨sb, 4, none⟩ = some (.int .i64 (u : Nat)) ∧ Same w w.drew := ⟨c4, ⟨rfl, rfl, rfl, rfl⟩⟩
  go_region_held3 (fun w' => w'.cell? ⟨sb, 4, none⟩ = some (.int .i64 (u : Nat)) ∧ Same w w')
    (with_reducible first | exact k0 | assumption)
    (first | (go_at_call 76; refine (H.out _ k0.2).mono ?_; rintro e w2 ⟨rfl, rfl⟩))
  go_wp2
  go_ret
  exact ⟨rfl, k0.2⟩
theorem place_s (sb b G Hh n u g : Nat) (s : Dsk) (i : Nat) (w : World) (hs : IsS w sb b G Hh n u) (h : IsD w b g s) (h1 : 1 ≤ s.cs.length) (hu : u ≤ 1000) (hh : Hh ≤ 1) (hi : i ≤ 1000) :
    Calls Try.prog 135 #[.pointer (some ⟨sb, 0, none⟩), .int .i64 (i : Nat)] w fun e w' => e = .returned (.int .i64 (1 + Hh * hS s.cs + u + i : Nat)) ∧ Same w w' := by
  obtain ⟨c0, _, c2, _, c4, _⟩ := hs.cells
  have hb := hS_lt h.few
  have hm : Hh * hS s.cs ≤ 1 * 511 := Nat.mul_le_mul hh hb
  have H : Hid (∀ w', Same w w' → Calls Try.prog 140 #[.pointer (some ⟨b, 0, none⟩), .int .i64 (Hh : Nat)] w' fun e w2 => e = .returned (.int .i64 (1 + Hh * hS s.cs : Nat)) ∧ w2 = w') := fun w' hw => halfStart_any b g s Hh w' (h.below hw.below) h1 hh
  obtain ⟨P, hP⟩ : ∃ P, 1 + Hh * hS s.cs = P := ⟨_, rfl⟩
  rw [hP] at H
  rw [hP]
  have hP2 : P ≤ 512 := by omega
  have e : ((P + u + i : Nat) : Int) = (P : Int) + (u : Int) + (i : Int) := by omega
  rw [e]
  clear hs h e hP hm hb
  have w1 : IntKind.i64.wrap ((P : Int) + (u : Int)) = (P : Int) + (u : Int) := IntWalk.i64_in _ (by omega)
  have w2 : IntKind.i64.wrap ((P : Int) + (u : Int) + (i : Int)) = (P : Int) + (u : Int) + (i : Int) := IntWalk.i64_in _ (by omega)
  have k0 : w.drew.cell? ⟨sb, 0, none⟩ = some (.pointer (some ⟨b, 0, none⟩)) ∧ w.drew.cell? ⟨sb, 2, none⟩ = some (.int .i64 (Hh : Nat)) ∧ w.drew.cell? ⟨sb, 4, none⟩ = some (.int .i64 (u : Nat)) ∧ Same w w.drew := ⟨c0, c2, c4, ⟨rfl, rfl, rfl, rfl⟩⟩
  go_enter Try.func135, Try.ntmps135
  go_wp2
  go_region_held3 (fun w' => w'.cell? ⟨sb, 0, none⟩ = some (.pointer (some ⟨b, 0, none⟩)) ∧ w'.cell? ⟨sb, 2, none⟩ = some (.int .i64 (Hh : Nat)) ∧ w'.cell? ⟨sb, 4, none⟩ = some (.int .i64 (u : Nat)) ∧ Same w w')
    (with_reducible first | exact k0 | assumption)
    (first | (go_at_call 140; refine (H.out _ k0.2.2.2).mono ?_; rintro e w2 ⟨rfl, rfl⟩))
  go_wp2
  go_ret
  exact ⟨rfl, k0.2.2.2⟩
theorem keep_any (sb b G Hh n u c : Nat) (w : World) (hs : IsS w sb b G Hh n u) (hn : n ≤ 1000000) (hu : u ≤ 1000000) (hc : c ≤ 1000000) :
    Calls Try.prog 138 #[.pointer (some ⟨sb, 0, none⟩), .int .i64 (c : Nat)] w fun e w' => e = .returned (.tuple #[]) ∧ IsS w' sb b G Hh (n + 1) (u + c) ∧ Only (· = sb) w w' := by
  obtain ⟨_, _, _, c3, c4, cf⟩ := hs.cells
  have H : Hid (IsS w sb b G Hh n u) := hs
  clear hs
  go_enter Try.func138, Try.ntmps138
  go_wp2
  go_end0
  refine ⟨rfl, ⟨?_⟩, (only1 _ sb 3 _).trans (only1 _ sb 4 _)⟩
  rw [heap_set (heap_set H.out.head 3 _) 4 _, Int.natCast_add, Int.natCast_add]
  rfl
theorem right_any (v : Value) (l : List Int) (w : World) (hv : RB w v l) (hl : l.length ≤ 1000000) :
    Calls Try.prog 78 #[v] w fun e w' => e = .returned (.bool (decide (1 ≤ l.length ∧ l.length ≤ 424))) ∧ w' = w := by
  obtain ⟨a, cap, rfl, _⟩ := hv
  by_cases h1 : 1 ≤ l.length
  · by_cases h2 : l.length ≤ 424
    · rw [decide_eq_true ⟨h1, h2⟩]
      have e1 : decide ((1 : Int) ≤ (l.length : Int)) = true := decide_eq_true (by omega)
      have e2 : decide ((l.length : Int) ≤ 424) = true := decide_eq_true (by omega)
      go_enter Try.func78, Try.ntmps78
      go_wp2
      go_ret
      exact ⟨rfl, rfl⟩
    · rw [decide_eq_false (by omega)]
      have e1 : decide ((1 : Int) ≤ (l.length : Int)) = true := decide_eq_true (by omega)
      have e2 : decide ((l.length : Int) ≤ 424) = false := decide_eq_false (by omega)
      go_enter Try.func78, Try.ntmps78
      go_wp2
      go_ret
      exact ⟨rfl, rfl⟩
  · rw [decide_eq_false (by omega)]
    have e1 : decide ((1 : Int) ≤ (l.length : Int)) = false := decide_eq_false (by omega)
    go_enter Try.func78, Try.ntmps78
    go_wp2
    go_ret
    exact ⟨rfl, rfl⟩
theorem blocks_any (v : Value) (l : List Int) (w : World) (hv : RB w v l) (hl : l.length ≤ 1000000) :
    Calls Try.prog 79 #[v] w fun e w' => e = .returned (.int .i64 (nb l.length : Nat)) ∧ w' = w := by
  obtain ⟨a, cap, rfl, _⟩ := hv
  have e : ((nb l.length : Nat) : Int) = ((l.length : Int) + 53 - 1) / 53 := by unfold nb; omega
  rw [e]
  go_enter Try.func79, Try.ntmps79
  go_wp2
  go_ret
  exact ⟨rfl, rfl⟩
end Go.Proofs.Ytihjhaafmdobmab
