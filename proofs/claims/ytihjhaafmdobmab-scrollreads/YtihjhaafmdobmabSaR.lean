/- The contract of package scroll's Append; records laid one behind the other, plainly. -/
import Derived.Test.YtihjhaafmdobmabSaQ
namespace Go.Proofs.Ytihjhaafmdobmab
open Go.RowKit

theorem append_bad (sb : Nat) (v : Value) (l : List Int) (w : World) (hv : RB w v l) (hl : l.length ≤ 1000000) (hb : ¬ (1 ≤ l.length ∧ l.length ≤ 424)) :
    Calls Try.prog 27 #[.pointer (some ⟨sb, 0, none⟩), v] w fun e w' => e = .returned (.int .i64 61) ∧ w' = w := by
  have HR : Hid (Calls Try.prog 78 #[v] w fun e w' => e = .returned (.bool false) ∧ w' = w) := by
    have := right_any v l w hv hl; rw [decide_eq_false hb] at this; exact this
  clear hv hb
  go_enter Try.func27, Try.ntmps27
  go_wp2_with (go_at_call 78; refine HR.out.mono ?_; rintro e w1 ⟨rfl, rfl⟩)
  go_ret
  exact ⟨rfl, rfl⟩
theorem append_full (sb b G Hh n u g : Nat) (s : Dsk) (v : Value) (l : List Int) (w : World) (hs : IsS w sb b G Hh n u) (h : IsD w b g s) (h1 : 1 ≤ s.cs.length) (hu : u ≤ hS s.cs) (hv : RB w v l) (hg : 1 ≤ l.length ∧ l.length ≤ 424) (hf : hS s.cs < u + nb l.length) :
    Calls Try.prog 27 #[.pointer (some ⟨sb, 0, none⟩), v] w fun e w' => e = .returned (.int .i64 2) ∧ Below w.heap.size w w' := by
  have HR : Hid (Calls Try.prog 78 #[v] w fun e w' => e = .returned (.bool true) ∧ w = w') := by
    have := right_any v l w hv (by omega); rw [decide_eq_true hg] at this; exact this.mono fun e w2 hq => ⟨hq.1, hq.2.symm⟩
  have HB : Hid (Calls Try.prog 79 #[v] w fun e w' => e = .returned (.int .i64 (nb l.length : Nat)) ∧ w = w') := (blocks_any v l w hv (by omega)).mono fun e w2 hq => ⟨hq.1, hq.2.symm⟩
  have HM : Hid (Calls Try.prog 40 #[.pointer (some ⟨sb, 0, none⟩)] w fun e w' => e = .returned (.int .i64 (hS s.cs - u : Nat)) ∧ Below w.heap.size w w') := (room_any sb b G Hh n u g s w hs h h1 hu).mono fun e w2 hq => ⟨hq.1, hq.2.below⟩
  obtain ⟨N, hN⟩ : ∃ N, hS s.cs - u = N := ⟨_, rfl⟩
  obtain ⟨C, hC⟩ : ∃ C, nb l.length = C := ⟨_, rfl⟩
  have hlt : N < C := by omega
  rw [hN] at HM
  rw [hC] at HB
  clear hs h hv hN hC hf hu
  go_enter Try.func27, Try.ntmps27
  go_wp2_with (first
    | (go_at_call 78; refine HR.out.mono ?_; rintro e w1 ⟨rfl, rfl⟩)
    | (go_at_call 79; refine HB.out.mono ?_; rintro e w2 ⟨rfl, rfl⟩)
    | (go_at_call 40; refine HM.out.mono ?_; rintro e w3 ⟨rfl, hb3⟩))
  go_ret
  exact ⟨rfl, hb3⟩
/-- the answer of a write -/
def pwE (o : Bool) : Int := if o then 0 else 21
theorem add_pw (sb b G Hh n u g : Nat) (s : Dsk) (K : Int) (v : Value) (l : List Int) (w : World) (hs : IsS w sb b G Hh n u) (h : IsD w b g s) (hok : s.ok K) (hK : K + 8 < 9223372036854775807) (hv : RT w v l) (hg : 1 ≤ l.length ∧ l.length ≤ 424) (hG : G < 4294967296) (hn : n < 1000000) (hh : Hh ≤ 1) (hu : u + nb l.length ≤ hS s.cs) :
    Calls Try.prog 80 #[.pointer (some ⟨sb, 0, none⟩), v] w fun e w' => ∃ T, T = layD s (1 + Hh * hS s.cs + u) G n (nb l.length) l (nb l.length) ∧ e = .returned (.int .i64 (pwE T.on)) ∧ IsD w' b g T ∧ IsS w' sb b G Hh (if T.on then n + 1 else n) (if T.on then u + nb l.length else u) ∧ Only (fun x => x = b ∨ x = g ∨ x = sb) w w' :=
  (add_any sb b G Hh n u g s K v l w hs h hok hK hv.rb hv.fit (hv.far h) hg.1 hg.2 hG hn hh hu).mono fun _ _ ⟨T, h1, h2, h3⟩ => ⟨T, h1, h2, h3⟩
theorem append_go (sb b G Hh n u g : Nat) (s : Dsk) (K : Int) (v : Value) (l : List Int) (w : World) (hs : IsS w sb b G Hh n u) (h : IsD w b g s) (hok : s.ok K) (hK : K + 8 < 9223372036854775807) (hv : RT w v l) (hg : 1 ≤ l.length ∧ l.length ≤ 424) (hG : G < 4294967296) (hn : n < 1000000) (hh : Hh ≤ 1) (hu : u + nb l.length ≤ hS s.cs) :
    Calls Try.prog 27 #[.pointer (some ⟨sb, 0, none⟩), v] w fun e w' => ∃ T, T = layD s (1 + Hh * hS s.cs + u) G n (nb l.length) l (nb l.length) ∧ e = .returned (.int .i64 (pwE T.on)) ∧ IsD w' b g T ∧ IsS w' sb b G Hh (if T.on then n + 1 else n) (if T.on then u + nb l.length else u) ∧ Only (fun x => x = b ∨ x = g ∨ x = sb) w w' := by
  have hC1 := nb_pos hg.1
  have hlen1 : 1 ≤ s.cs.length := by unfold hS at hu; omega
  have HR : Hid (Calls Try.prog 78 #[v] w fun e w' => e = .returned (.bool true) ∧ w = w') := by
    have := right_any v l w hv.rb (by omega); rw [decide_eq_true hg] at this; exact this.mono fun e w2 hq => ⟨hq.1, hq.2.symm⟩
  have HB : Hid (Calls Try.prog 79 #[v] w fun e w' => e = .returned (.int .i64 (nb l.length : Nat)) ∧ w = w') := (blocks_any v l w hv.rb (by omega)).mono fun e w2 hq => ⟨hq.1, hq.2.symm⟩
  have HM : Hid (Calls Try.prog 40 #[.pointer (some ⟨sb, 0, none⟩)] w fun e w' => e = .returned (.int .i64 (hS s.cs - u : Nat)) ∧ Below w.heap.size w w') := (room_any sb b G Hh n u g s w hs h hlen1 (by omega)).mono fun e w2 hq => ⟨hq.1, hq.2.below⟩
  have HA : Hid (∀ w', Below w.heap.size w w' → Calls Try.prog 80 #[.pointer (some ⟨sb, 0, none⟩), v] w' fun e w2 => ∃ T, T = layD s (1 + Hh * hS s.cs + u) G n (nb l.length) l (nb l.length) ∧ e = .returned (.int .i64 (pwE T.on)) ∧ IsD w2 b g T ∧ IsS w2 sb b G Hh (if T.on then n + 1 else n) (if T.on then u + nb l.length else u) ∧ Only (fun x => x = b ∨ x = g ∨ x = sb) w' w2) := fun w' hw => add_pw sb b G Hh n u g s K v l w' (hs.below hw) (h.below hw) hok hK (hv.below hw) hg hG hn hh hu
  obtain ⟨T, hT⟩ : ∃ T, layD s (1 + Hh * hS s.cs + u) G n (nb l.length) l (nb l.length) = T := ⟨_, rfl⟩
  rw [hT] at HA ⊢
  obtain ⟨N, hN⟩ : ∃ N, hS s.cs - u = N := ⟨_, rfl⟩
  obtain ⟨C, hC⟩ : ∃ C, nb l.length = C := ⟨_, rfl⟩
  have hlt : ¬ N < C := by omega
  rw [hN] at HM
  rw [hC] at HB HA ⊢
  clear hs h hv hN hC hu hT hok
  go_enter Try.func27, Try.ntmps27
  go_wp2_with (first
    | (go_at_call 78; refine HR.out.mono ?_; rintro e w1 ⟨rfl, rfl⟩)
    | (go_at_call 79; refine HB.out.mono ?_; rintro e w2 ⟨rfl, rfl⟩)
    | (go_at_call 40; refine HM.out.mono ?_; rintro e w3 ⟨rfl, hb3⟩)
    | (go_at_call 80; refine (HA.out _ hb3).mono ?_; rintro e w4 ⟨T4, hT4, rfl, hD4, hS4, hO4⟩))
  go_ret
  exact ⟨T4, hT4, by rw [hT4]; rfl, hD4, hS4, (Only.of hb3).trans hO4⟩

/-- records laid one behind the other -/
def tot (ls : List (List Int)) : Nat := (ls.map fun l => nb l.length).sum
def laysD (s : Dsk) (A G : Nat) : Nat → Nat → List (List Int) → Dsk
  | _, _, [] => s
  | n, u, l :: ls => laysD (layD s (A + u) G n (nb l.length) l (nb l.length)) A G (n + 1) (u + nb l.length) ls
theorem tot_nil : tot [] = 0 := rfl
theorem tot_snoc (ls : List (List Int)) (l : List Int) : tot (ls ++ [l]) = tot ls + nb l.length := by unfold tot; simp
theorem laysD_snoc (s : Dsk) (A G n u : Nat) (ls : List (List Int)) (l : List Int) : laysD s A G n u (ls ++ [l]) = layD (laysD s A G n u ls) (A + (u + tot ls)) G (n + ls.length) (nb l.length) l (nb l.length) := by
  induction ls generalizing s n u with
  | nil => rfl
  | cons a ls ih =>
    rw [List.cons_append]
    unfold laysD
    rw [ih]
    have e1 : u + nb a.length + tot ls = u + tot (a :: ls) := by unfold tot; simp; omega
    have e2 : n + 1 + ls.length = n + (a :: ls).length := by rw [List.length_cons]; omega
    rw [e1, e2]
theorem laysD_len (s : Dsk) (A G n u : Nat) (ls : List (List Int)) : (laysD s A G n u ls).cs.length = s.cs.length := by
  induction ls generalizing s n u with
  | nil => rfl
  | cons a ls ih => unfold laysD; rw [ih, layD_len]
theorem laysD_ok {s : Dsk} {K : Int} (h : s.ok K) (A G n u : Nat) (ls : List (List Int)) : (laysD s A G n u ls).ok (K + tot ls) := by
  induction ls generalizing s n u K with
  | nil => exact h.le (by rw [tot_nil]; omega)
  | cons a ls ih =>
    unfold laysD
    refine (ih (layD_ok h _ _ _ _ _ _) _ _).le ?_
    unfold tot; simp; omega
theorem layD_dead {s : Dsk} (h1 : s.on = false) (h2 : s.burns = false) (a g r c : Nat) (l : List Int) (m : Nat) : layD s a g r c l m = s := by
  induction m with
  | zero => rfl
  | succ m ih => unfold layD; rw [ih]; exact wr_dead h1 h2 _ _
theorem laysD_dead {s : Dsk} (h1 : s.on = false) (h2 : s.burns = false) (A G n u : Nat) (ls : List (List Int)) : laysD s A G n u ls = s := by
  induction ls generalizing n u with
  | nil => rfl
  | cons a ls ih => unfold laysD; rw [layD_dead h1 h2]; exact ih _ _
theorem laysD_app (s : Dsk) (A G n u : Nat) (ls ms : List (List Int)) : laysD s A G n u (ls ++ ms) = laysD (laysD s A G n u ls) A G (n + ls.length) (u + tot ls) ms := by
  induction ls generalizing s n u with
  | nil => rfl
  | cons a ls ih =>
    rw [List.cons_append]
    show laysD _ A G (n + 1) (u + nb a.length) (ls ++ ms) = _
    rw [ih]
    have e1 : u + nb a.length + tot ls = u + tot (a :: ls) := by unfold tot; simp; omega
    have e2 : n + 1 + ls.length = n + (a :: ls).length := by rw [List.length_cons]; omega
    rw [e1, e2]
    rfl
theorem laysD_stop {s : Dsk} {K : Int} (h : s.ok K) (A G : Nat) (ls : List (List Int)) (i : Nat) (hi : (laysD s A G 0 0 (ls.take i)).on = false) : laysD s A G 0 0 ls = laysD s A G 0 0 (ls.take i) := by
  have hd := (laysD_ok h A G 0 0 (ls.take i)).dead hi
  conv => lhs; rw [← List.take_append_drop i ls]
  rw [laysD_app]
  exact laysD_dead hi hd _ _ _ _ _
theorem Only.thru {S T : Nat → Prop} {w w' w'' : World} (h : Only S w w') (k : Only T w' w'') (hT : ∀ x, T x → S x ∨ w.heap.size ≤ x) : Only S w w'' :=
  ⟨k.os.trans h.os, k.tape.trans h.tape, k.output.trans h.output, Nat.le_trans h.size k.size, fun i hi hs => (k.block i (Nat.lt_of_lt_of_le hi h.size) (fun ht => (hT i ht).elim hs (fun e => by omega))).trans (h.block i hi hs)⟩
theorem take_snoc' {ls : List (List Int)} {k : Nat} {l : List Int} (h : ls[k]? = some l) : ls.take (k + 1) = ls.take k ++ [l] := by rw [List.take_add_one, h]; rfl
theorem tot_take {ls : List (List Int)} {k : Nat} {l : List Int} (h : ls[k]? = some l) : tot (ls.take (k + 1)) = tot (ls.take k) + nb l.length := by rw [take_snoc' h, tot_snoc]
theorem tot_le (ls : List (List Int)) (k : Nat) : tot (ls.take k) ≤ tot ls := by
  have : tot ls = tot (ls.take k) + tot (ls.drop k) := by
    conv => lhs; rw [← List.take_append_drop k ls]
    unfold tot; rw [List.map_append, List.sum_append]
  omega
end Go.Proofs.Ytihjhaafmdobmab
