/- The contract of package scroll's Turn, goes on. -/
import Derived.Test.YtajgaialnafdbaaJSAys14
namespace Go.Proofs.Ytajgaialnafdbaa
section
open Go.RowKit

set_option maxRecDepth 100000 in
set_option maxHeartbeats 8000000 in
theorem turn_full (sb b G Hh n0 u g : Nat) (s : Dsk) (a : Option Addr) (cap : Nat) (L : List (List Int)) (w : World) (hs : IsS w sb b G Hh n0 u) (h : IsD w b g s) (h1 : 1 ≤ s.cs.length) (hr : Rs w (.slice a L.length cap) L) (hL : L.length ≤ 1000) (hb : ∀ l ∈ L, okR l) (hf : hS s.cs < tot L) :
    Calls Try.prog 11 #[.pointer (some ⟨sb, 0, none⟩), .slice a L.length cap] w fun e w' => e = .returned (.int .i64 2) ∧ Below w.heap.size w w' := by
  have hTL : tot L ≤ 8000 := by
    have : ∀ ls : List (List Int), (∀ l ∈ ls, okR l) → tot ls ≤ 8 * ls.length := by
      intro ls
      induction ls with
      | nil => intro _; exact Nat.zero_le _
      | cons a ls ih =>
        intro hq
        have h2 := ih (fun l hl => hq l (by simp [hl]))
        have h3 := (nb_le424 (hq a (by simp))).2
        have : tot (a :: ls) = nb a.length + tot ls := by unfold tot; simp
        rw [this, List.length_cons]; omega
    have := this L hb
    omega
  obtain ⟨n, hn⟩ : ∃ n, L.length = n := ⟨_, rfl⟩
  have H : Hid (Rs w (.slice a n cap) L ∧ (∀ l ∈ L, okR l) ∧ L.length = n) := ⟨by rw [← hn]; exact hr, hb, hn⟩
  obtain ⟨N, hN⟩ : ∃ N, hS s.cs = N := ⟨_, rfl⟩
  obtain ⟨PT, hPT⟩ : ∃ P, tot L = P := ⟨_, rfl⟩
  have HHf : Hid (∀ w', Below w.heap.size w w' → Calls Try.prog 34 #[.pointer (some ⟨sb, 0, none⟩)] w' fun e w2 => e = .returned (.int .i64 (N : Nat)) ∧ w' = w2) := fun w' hw => by
    have := half_any sb b G Hh n0 u g s w' (hs.below hw) (h.below hw) h1
    rw [hN] at this
    exact this.mono fun e w2 hq => ⟨hq.1, hq.2.symm⟩
  have HPT : Hid (tot L = PT) := hPT
  have HTL : Hid (tot L ≤ 8000) := hTL
  have hlt' : N < PT := by omega
  rw [hn] at hL ⊢
  have hHf := hS_lt h.few
  rw [hN] at hHf
  rw [hPT] at hTL
  clear hr hb hn hN hPT h hs hf
  go_enter Try.func11, Try.ntmps11
  go_wp2
  go_loopw [5, 17] (fun p i wr => ∃ k : Nat, k ≤ n ∧ i = .int .i64 k ∧ p = .int .i64 (tot (L.take k) : Nat) ∧ w = wr) (fun _ i _ => n - (intOf i).toNat)
  case atStart => exact ⟨0, Nat.zero_le _, rfl, rfl, rfl⟩
  case round =>
    obtain ⟨k, hk, rfl, rfl, rfl⟩ := hrel
    by_cases hlt : k < n
    · obtain ⟨l, hl⟩ : ∃ l, L[k]? = some l := ⟨_, List.getElem?_eq_getElem (by rw [H.out.2.2]; omega)⟩
      obtain ⟨g', off, x, rfl, hx, hrt⟩ := H.out.1.at hl
      have hlb := H.out.2.1 l (List.mem_of_getElem? hl)
      have hkn : (k : Int) < (n : Int) := by omega
      have HR : Hid (Calls Try.prog 36 #[x] w fun e w' => e = .returned (.bool true) ∧ w = w') := by
        have := right_any x l w hrt.rb (by have := hlb.2; omega)
        rw [decide_eq_true (show 1 ≤ l.length ∧ l.length ≤ 424 from hlb)] at this
        exact this.mono fun e w2 hq => ⟨hq.1, hq.2.symm⟩
      have HB : Hid (Calls Try.prog 37 #[x] w fun e w' => e = .returned (.int .i64 (nb l.length : Nat)) ∧ w = w') := (blocks_any x l w hrt.rb (by have := hlb.2; omega)).mono fun e w2 hq => ⟨hq.1, hq.2.symm⟩
      have ht1 := tot_take hl
      have ht2 := tot_le L k
      have hn2 := (nb_le424 hlb).2
      have hTL : tot L ≤ 8000 := HTL.out
      obtain ⟨P, hP⟩ : ∃ P, tot (L.take k) = P := ⟨_, rfl⟩
      obtain ⟨C, hC⟩ : ∃ C, nb l.length = C := ⟨_, rfl⟩
      have HT : Hid (tot (L.take (k + 1)) = P + C) := by show _ = _; rw [← hP, ← hC]; exact ht1
      rw [hC] at HB hn2
      rw [hP] at ht2 ⊢
      clear ht1 hP hC hrt hl hlb
      go_wp2_with (first
        | (go_at_call 36; refine HR.out.mono ?_; rintro e w2 ⟨rfl, rfl⟩)
        | (go_at_call 37; refine HB.out.mono ?_; rintro e w3 ⟨rfl, rfl⟩))
      go_roundw
      case rel => exact ⟨k + 1, by omega, by go_num, by rw [HT.out, Int.natCast_add], trivial⟩
      case measure => simp [intOf]; omega
    · obtain rfl : n = k := by omega
      have hPk : tot (L.take n) = PT := by rw [List.take_of_length_le (by rw [H.out.2.2]; exact Nat.le_refl _)]; exact HPT.out
      rw [hPk]
      clear hPk hlt
      go_wp2_with (go_at_call 34; refine (HHf.out _ (Below.refl _ _)).mono ?_; rintro e w2 ⟨rfl, rfl⟩)
      go_ret
      exact ⟨rfl, Below.refl _ _⟩
set_option maxRecDepth 100000 in
set_option maxHeartbeats 8000000 in
theorem turn_60 (sb b G Hh n0 u g : Nat) (s : Dsk) (a : Option Addr) (cap : Nat) (L : List (List Int)) (w : World) (hs : IsS w sb b G Hh n0 u) (h : IsD w b g s) (h1 : 1 ≤ s.cs.length) (hr : Rs w (.slice a L.length cap) L) (hL : L.length ≤ 1000) (hb : ∀ l ∈ L, okR l) (hf : tot L ≤ hS s.cs) (hby : BytC s.cs) (hx : ¬ nextG s.cs ≤ 1073741824) :
    Calls Try.prog 11 #[.pointer (some ⟨sb, 0, none⟩), .slice a L.length cap] w fun e w' => e = .returned (.int .i64 60) ∧ Below w.heap.size w w' := by
  have hTL : tot L ≤ 8000 := by
    have : ∀ ls : List (List Int), (∀ l ∈ ls, okR l) → tot ls ≤ 8 * ls.length := by
      intro ls
      induction ls with
      | nil => intro _; exact Nat.zero_le _
      | cons a ls ih =>
        intro hq
        have h2 := ih (fun l hl => hq l (by simp [hl]))
        have h3 := (nb_le424 (hq a (by simp))).2
        have : tot (a :: ls) = nb a.length + tot ls := by unfold tot; simp
        rw [this, List.length_cons]; omega
    have := this L hb
    omega
  obtain ⟨n, hn⟩ : ∃ n, L.length = n := ⟨_, rfl⟩
  have H : Hid (Rs w (.slice a n cap) L ∧ (∀ l ∈ L, okR l) ∧ L.length = n) := ⟨by rw [← hn]; exact hr, hb, hn⟩
  obtain ⟨N, hN⟩ : ∃ N, hS s.cs = N := ⟨_, rfl⟩
  obtain ⟨PT, hPT⟩ : ∃ P, tot L = P := ⟨_, rfl⟩
  have HHf : Hid (∀ w', Below w.heap.size w w' → Calls Try.prog 34 #[.pointer (some ⟨sb, 0, none⟩)] w' fun e w2 => e = .returned (.int .i64 (N : Nat)) ∧ w' = w2) := fun w' hw => by
    have := half_any sb b G Hh n0 u g s w' (hs.below hw) (h.below hw) h1
    rw [hN] at this
    exact this.mono fun e w2 hq => ⟨hq.1, hq.2.symm⟩
  have HN : Hid (∀ w', Below w.heap.size w w' → Calls Try.prog 42 #[.pointer (some ⟨b, 0, none⟩)] w' fun e w2 => e = .returned (.tuple #[.agg #[.int .i64 (nextG s.cs : Nat), .int .i64 (nextH s.cs : Nat)], .bool (decide (nextG s.cs ≤ 1073741824))]) ∧ Below w'.heap.size w' w2) := fun w' hw => next_any b g s w' (h.below hw) h1 hby
  have HPT : Hid (tot L = PT) := hPT
  have HTL : Hid (tot L ≤ 8000) := hTL
  have hlt' : ¬ N < PT := by omega
  rw [hn] at hL ⊢
  have hHf := hS_lt h.few
  rw [hN] at hHf
  rw [hPT] at hTL
  rw [decide_eq_false hx] at HN
  obtain ⟨c0, _⟩ := hs.cells
  clear hr hb hn hN hPT h hs hf hx
  go_enter Try.func11, Try.ntmps11
  go_wp2
  go_loopw [5, 17] (fun p i wr => ∃ k : Nat, k ≤ n ∧ i = .int .i64 k ∧ p = .int .i64 (tot (L.take k) : Nat) ∧ w = wr) (fun _ i _ => n - (intOf i).toNat)
  case atStart => exact ⟨0, Nat.zero_le _, rfl, rfl, rfl⟩
  case round =>
    obtain ⟨k, hk, rfl, rfl, rfl⟩ := hrel
    by_cases hlt : k < n
    · obtain ⟨l, hl⟩ : ∃ l, L[k]? = some l := ⟨_, List.getElem?_eq_getElem (by rw [H.out.2.2]; omega)⟩
      obtain ⟨g', off, x, rfl, hx, hrt⟩ := H.out.1.at hl
      have hlb := H.out.2.1 l (List.mem_of_getElem? hl)
      have hkn : (k : Int) < (n : Int) := by omega
      have HR : Hid (Calls Try.prog 36 #[x] w fun e w' => e = .returned (.bool true) ∧ w = w') := by
        have := right_any x l w hrt.rb (by have := hlb.2; omega)
        rw [decide_eq_true (show 1 ≤ l.length ∧ l.length ≤ 424 from hlb)] at this
        exact this.mono fun e w2 hq => ⟨hq.1, hq.2.symm⟩
      have HB : Hid (Calls Try.prog 37 #[x] w fun e w' => e = .returned (.int .i64 (nb l.length : Nat)) ∧ w = w') := (blocks_any x l w hrt.rb (by have := hlb.2; omega)).mono fun e w2 hq => ⟨hq.1, hq.2.symm⟩
      have ht1 := tot_take hl
      have ht2 := tot_le L k
      have hn2 := (nb_le424 hlb).2
      have hTL : tot L ≤ 8000 := HTL.out
      obtain ⟨P, hP⟩ : ∃ P, tot (L.take k) = P := ⟨_, rfl⟩
      obtain ⟨C, hC⟩ : ∃ C, nb l.length = C := ⟨_, rfl⟩
      have HT : Hid (tot (L.take (k + 1)) = P + C) := by show _ = _; rw [← hP, ← hC]; exact ht1
      rw [hC] at HB hn2
      rw [hP] at ht2 ⊢
      clear ht1 hP hC hrt hl hlb
      go_wp2_with (first
        | (go_at_call 36; refine HR.out.mono ?_; rintro e w2 ⟨rfl, rfl⟩)
        | (go_at_call 37; refine HB.out.mono ?_; rintro e w3 ⟨rfl, rfl⟩))
      go_roundw
      case rel => exact ⟨k + 1, by omega, by go_num, by rw [HT.out, Int.natCast_add], trivial⟩
      case measure => simp [intOf]; omega
    · obtain rfl : n = k := by omega
      have hPk : tot (L.take n) = PT := by rw [List.take_of_length_le (by rw [H.out.2.2]; exact Nat.le_refl _)]; exact HPT.out
      rw [hPk]
      clear hPk hlt
      go_wp2_with (first
        | (go_at_call 34; refine (HHf.out _ (Below.refl _ _)).mono ?_; rintro e w2 ⟨rfl, rfl⟩)
        | (go_at_call 42; refine (HN.out _ (Below.refl _ _)).mono ?_; rintro e w3 ⟨rfl, hb3⟩))
      go_ret
      exact ⟨rfl, chainB hb3 (below_alloc _ _)⟩
/-- what stands while a scroll is laid anew -/
structure Tn (w wr : World) (sb b g G Hh n u tb hb A B : Nat) (D : Dsk) (k p : Nat) : Prop where
  d : IsD wr b g D
  s : IsS wr sb b G Hh n u
  t : IsS wr tb b A B k p
  h : wr.heap[hb]? = some (.cells #[.int .i64 (A : Nat), .int .i64 (B : Nat)] 71 (0, 0))
  o : Only (fun x => x = b ∨ x = g) w wr
  bt : w.heap.size ≤ tb
  bs : sb < w.heap.size
theorem Tn.tagh {w wr : World} {sb b g G Hh n u tb hb A B : Nat} {D : Dsk} {k p : Nat} (h : Tn w wr sb b g G Hh n u tb hb A B D k p) : Tag wr hb 71 := ⟨_, _, h.h⟩
theorem Tn.below {w wr w' : World} {sb b g G Hh n u tb hb A B : Nat} {D : Dsk} {k p : Nat} (h : Tn w wr sb b g G Hh n u tb hb A B D k p) (hbl : Below wr.heap.size wr w') : Tn w w' sb b g G Hh n u tb hb A B D k p :=
  ⟨h.d.below hbl, h.s.below hbl, h.t.below hbl, (hbl.block _ h.tagh.lt).trans h.h, h.o.trans (Only.of hbl), h.bt, h.bs⟩
theorem Tn.step {w wr w' : World} {sb b g G Hh n u tb hb A B : Nat} {D D' : Dsk} {k p k' p' : Nat} (h : Tn w wr sb b g G Hh n u tb hb A B D k p) (hD : IsD w' b g D') (hS' : IsS w' tb b A B k' p') (hO : Only (fun x => x = b ∨ x = g ∨ x = tb) wr w') : Tn w w' sb b g G Hh n u tb hb A B D' k' p' := by
  have n1 := h.s.ne h.d
  have n2 := h.t.ne h.d
  have hb1 := h.bt
  have hb2 := h.bs
  have m1 := h.tagh.ne h.d.tagb (by decide)
  have m2 := h.tagh.ne h.d.tagg (by decide)
  have m3 := h.tagh.ne h.t.tag (by decide)
  exact ⟨hD, h.s.only hO (by omega), hS', (hO.block _ h.tagh.lt (by omega)).trans h.h, h.o.thru hO (fun x hx => by rcases hx with e | e | e; exact .inl (.inl e); exact .inl (.inr e); exact .inr (by omega)), h.bt, h.bs⟩
theorem set5 {w : World} {sb : Nat} {y0 y1 y2 y3 y4 x0 x1 x2 x3 x4 : Value} {t : TypeId} {f : Nat × Nat} (h : w.heap[sb]? = some (.cells #[y0, y1, y2, y3, y4] t f)) : (((((w.setCell ⟨sb, 0, none⟩ x0).setCell ⟨sb, 1, none⟩ x1).setCell ⟨sb, 2, none⟩ x2).setCell ⟨sb, 3, none⟩ x3).setCell ⟨sb, 4, none⟩ x4).heap[sb]? = some (.cells #[x0, x1, x2, x3, x4] t f) := (heap_set (heap_set (heap_set (heap_set (heap_set h 0 _) 1 _) 2 _) 3 _) 4 _).trans rfl
theorem only5 (w : World) (sb : Nat) (x0 x1 x2 x3 x4 : Value) : Only (· = sb) w (((((w.setCell ⟨sb, 0, none⟩ x0).setCell ⟨sb, 1, none⟩ x1).setCell ⟨sb, 2, none⟩ x2).setCell ⟨sb, 3, none⟩ x3).setCell ⟨sb, 4, none⟩ x4) := ((((only1 w sb 0 x0).trans (only1 _ sb 1 x1)).trans (only1 _ sb 2 x2)).trans (only1 _ sb 3 x3)).trans (only1 _ sb 4 x4)
set_option maxRecDepth 100000 in
set_option maxHeartbeats 8000000 in
theorem turn_go (sb b G Hh n0 u g : Nat) (s : Dsk) (a : Option Addr) (cap : Nat) (L : List (List Int)) (w : World) (hs : IsS w sb b G Hh n0 u) (h : IsD w b g s) (h1 : 1 ≤ s.cs.length) (hr : Rs w (.slice a L.length cap) L) (hL : L.length ≤ 1000) (hb : ∀ l ∈ L, okR l) (K : Int) (hok : s.ok K) (hK : K + 9000 < 9223372036854775807) (hf : tot L ≤ hS s.cs) (hby : BytC s.cs) (hx : nextG s.cs ≤ 1073741824) :
    Calls Try.prog 11 #[.pointer (some ⟨sb, 0, none⟩), .slice a L.length cap] w fun e w' => ∃ T, T = (laysD s (1 + nextH s.cs * hS s.cs) (nextG s.cs) 0 0 L).wr 0 (hdrB (nextG s.cs) (nextH s.cs)) ∧ e = .returned (.int .i64 (pwE T.on)) ∧ IsD w' b g T ∧ (if T.on then IsS w' sb b (nextG s.cs) (nextH s.cs) L.length (tot L) else IsS w' sb b G Hh n0 u) ∧ Only (fun x => x = b ∨ x = g ∨ x = sb) w w' := by
  have hTL : tot L ≤ 8000 := by
    have : ∀ ls : List (List Int), (∀ l ∈ ls, okR l) → tot ls ≤ 8 * ls.length := by
      intro ls
      induction ls with
      | nil => intro _; exact Nat.zero_le _
      | cons a ls ih =>
        intro hq
        have h2 := ih (fun l hl => hq l (by simp [hl]))
        have h3 := (nb_le424 (hq a (by simp))).2
        have : tot (a :: ls) = nb a.length + tot ls := by unfold tot; simp
        rw [this, List.length_cons]; omega
    have := this L hb
    omega
  obtain ⟨n, hn⟩ : ∃ n, L.length = n := ⟨_, rfl⟩
  have H : Hid (Rs w (.slice a n cap) L ∧ (∀ l ∈ L, okR l) ∧ L.length = n) := ⟨by rw [← hn]; exact hr, hb, hn⟩
  obtain ⟨N, hN⟩ : ∃ N, hS s.cs = N := ⟨_, rfl⟩
  obtain ⟨PT, hPT⟩ : ∃ P, tot L = P := ⟨_, rfl⟩
  have HHf : Hid (∀ w', Below w.heap.size w w' → Calls Try.prog 34 #[.pointer (some ⟨sb, 0, none⟩)] w' fun e w2 => e = .returned (.int .i64 (N : Nat)) ∧ w' = w2) := fun w' hw => by
    have := half_any sb b G Hh n0 u g s w' (hs.below hw) (h.below hw) h1
    rw [hN] at this
    exact this.mono fun e w2 hq => ⟨hq.1, hq.2.symm⟩
  have HN : Hid (∀ w', Below w.heap.size w w' → Calls Try.prog 42 #[.pointer (some ⟨b, 0, none⟩)] w' fun e w2 => e = .returned (.tuple #[.agg #[.int .i64 (nextG s.cs : Nat), .int .i64 (nextH s.cs : Nat)], .bool (decide (nextG s.cs ≤ 1073741824))]) ∧ Below w'.heap.size w' w2) := fun w' hw => next_any b g s w' (h.below hw) h1 hby
  have HPT : Hid (tot L = PT) := hPT
  have HTL : Hid (tot L ≤ 8000) := hTL
  have hlt' : ¬ N < PT := by omega
  have hHf := hS_lt h.few
  have hlen3 : 1 ≤ s.cs.length := h1
  have hsb := hs.lt
  have hnH := nextH_le s.cs
  obtain ⟨A, hA⟩ : ∃ A, nextG s.cs = A := ⟨_, rfl⟩
  obtain ⟨B, hB⟩ : ∃ B, nextH s.cs = B := ⟨_, rfl⟩
  have H0 : Hid (IsS w sb b G Hh n0 u ∧ IsD w b g s ∧ s.ok K ∧ hS s.cs = N) := ⟨hs, h, hok, hN⟩
  rw [decide_eq_true hx] at HN
  rw [hA, hB] at HN
  rw [hA] at hx
  rw [hB] at hnH
  rw [hA, hB, hN, hPT]
  rw [hn] at hL ⊢
  rw [hN] at hHf
  rw [hPT] at hTL
  obtain ⟨c0, _⟩ := hs.cells
  obtain ⟨A0, hA0⟩ : ∃ A0, 1 + B * N = A0 := ⟨_, rfl⟩
  have HA0 : Hid (1 + B * N = A0) := hA0
  rw [hA0]
  clear hr hb hn hN hPT h hs hf hok hA hB hA0
  go_enter Try.func11, Try.ntmps11
  go_wp2
  go_loopw [5, 17] (fun p i wr => ∃ k : Nat, k ≤ n ∧ i = .int .i64 k ∧ p = .int .i64 (tot (L.take k) : Nat) ∧ w = wr) (fun _ i _ => n - (intOf i).toNat)
  case atStart => exact ⟨0, Nat.zero_le _, rfl, rfl, rfl⟩
  case round =>
    obtain ⟨k, hk, rfl, rfl, rfl⟩ := hrel
    by_cases hlt : k < n
    · obtain ⟨l, hl⟩ : ∃ l, L[k]? = some l := ⟨_, List.getElem?_eq_getElem (by rw [H.out.2.2]; omega)⟩
      obtain ⟨g', off, x, rfl, hx, hrt⟩ := H.out.1.at hl
      have hlb := H.out.2.1 l (List.mem_of_getElem? hl)
      have hkn : (k : Int) < (n : Int) := by omega
      have HR : Hid (Calls Try.prog 36 #[x] w fun e w' => e = .returned (.bool true) ∧ w = w') := by
        have := right_any x l w hrt.rb (by have := hlb.2; omega)
        rw [decide_eq_true (show 1 ≤ l.length ∧ l.length ≤ 424 from hlb)] at this
        exact this.mono fun e w2 hq => ⟨hq.1, hq.2.symm⟩
      have HB : Hid (Calls Try.prog 37 #[x] w fun e w' => e = .returned (.int .i64 (nb l.length : Nat)) ∧ w = w') := (blocks_any x l w hrt.rb (by have := hlb.2; omega)).mono fun e w2 hq => ⟨hq.1, hq.2.symm⟩
      have ht1 := tot_take hl
      have ht2 := tot_le L k
      have hn2 := (nb_le424 hlb).2
      have hTL : tot L ≤ 8000 := HTL.out
      obtain ⟨P, hP⟩ : ∃ P, tot (L.take k) = P := ⟨_, rfl⟩
      obtain ⟨C, hC⟩ : ∃ C, nb l.length = C := ⟨_, rfl⟩
      have HT : Hid (tot (L.take (k + 1)) = P + C) := by show _ = _; rw [← hP, ← hC]; exact ht1
      rw [hC] at HB hn2
      rw [hP] at ht2 ⊢
      clear ht1 hP hC hrt hl hlb
      go_wp2_with (first
        | (go_at_call 36; refine HR.out.mono ?_; rintro e w2 ⟨rfl, rfl⟩)
        | (go_at_call 37; refine HB.out.mono ?_; rintro e w3 ⟨rfl, rfl⟩))
      go_roundw
      case rel => exact ⟨k + 1, by omega, by go_num, by rw [HT.out, Int.natCast_add], trivial⟩
      case measure => simp [intOf]; omega
    · obtain rfl : n = k := by omega
      have hPk : tot (L.take n) = PT := by rw [List.take_of_length_le (by rw [H.out.2.2]; exact Nat.le_refl _)]; exact HPT.out
      rw [hPk]
      clear hPk hlt
      go_upto_region 14 with (first
        | (go_at_call 34; refine (HHf.out _ (Below.refl _ _)).mono ?_; rintro e w2 ⟨rfl, rfl⟩)
        | (go_at_call 42; refine (HN.out _ (Below.refl _ _)).mono ?_; rintro e w3 ⟨rfl, hb3⟩))
      obtain ⟨W, hW⟩ : ∃ W, w3.alloc (.cells #[.int .i64 (A : Nat), .int .i64 (B : Nat)] 71) = W := ⟨_, rfl⟩
      have hBW : Below w.heap.size w W := by rw [← hW]; exact chainB hb3 (below_alloc _ _)
      have hhb : W.heap[w3.heap.size]? = some (.cells #[.int .i64 (A : Nat), .int .i64 (B : Nat)] 71 (0, 0)) := by rw [← hW]; exact heap_new _ _
      have hs3 := hb3.size
      have x0 := cell_of hhb 0
      have x1 := cell_of hhb 1
      simp at x0 x1
      have y0 := (H0.out.1.below hBW).cells.1
      have HW : Hid (Below w.heap.size w W ∧ W.heap[w3.heap.size]? = some (.cells #[.int .i64 (A : Nat), .int .i64 (B : Nat)] 71 (0, 0))) := ⟨hBW, hhb⟩
      have hne3 : w3.heap.size < W.heap.size := (Array.getElem?_eq_some_iff.1 hhb).1
      have hneb : sb < W.heap.size := by omega
      rw [hW]
      clear hW hBW hhb hb3 c0 HN HHf
      go_cut [10] from 43 to 48 (fun x wx => x = .pointer (some ⟨W.heap.size, 0, none⟩) ∧ IsS wx W.heap.size b A B 0 0 ∧ Below W.heap.size W wx)
      case first =>
        go_region
        all_goals
          go_wp2
          go_meet
          exact ⟨rfl, ⟨heap_new _ _⟩, ((Below.refl _ _).alloc (Nat.le_refl _) _).drew⟩
      case rest =>
        obtain ⟨rfl, hsT, hbT⟩ := hcut
        have hT0 : Tn w wc sb b g G Hh n0 u W.heap.size w3.heap.size A B (laysD s A0 A 0 0 (L.take 0)) 0 (tot (L.take 0)) := by
          have hbw := chainB HW.out.1 hbT
          exact ⟨H0.out.2.1.below hbw, H0.out.1.below hbw, hsT, (hbT.block _ (Array.getElem?_eq_some_iff.1 HW.out.2).1).trans HW.out.2, Only.of hbw, HW.out.1.size, hsb⟩
        clear hsT hbT x0 x1 y0 HW
        go_wp2
        go_loopw [51] (fun i wr => ∃ k : Nat, k ≤ n ∧ i = .int .i64 k ∧ Tn w wr sb b g G Hh n0 u W.heap.size w3.heap.size A B (laysD s A0 A 0 0 (L.take k)) k (tot (L.take k)) ∧ (0 < k → (laysD s A0 A 0 0 (L.take k)).on = true)) (fun i _ => n - (intOf i).toNat)
        case atStart => exact ⟨0, Nat.zero_le _, rfl, hT0, fun h => absurd h (by decide)⟩
        case round =>
          clear hT0
          obtain ⟨j, hj, rfl, hTn, hon⟩ := hrel
          by_cases hlt : j < n
          · obtain ⟨l, hl⟩ : ∃ l, L[j]? = some l := ⟨_, List.getElem?_eq_getElem (by rw [H.out.2.2]; omega)⟩
            obtain ⟨g', off, x, rfl, hx', hrt⟩ := (H.out.1.only hTn.o (els_disk H0.out.2.1)).at hl
            have hlb := H.out.2.1 l (List.mem_of_getElem? hl)
            have hkn : (j : Int) < (n : Int) := by omega
            have ht1 := tot_take hl
            have ht2 := tot_le L (j + 1)
            rw [HPT.out] at ht2
            have hnx := take_snoc' hl
            obtain ⟨D, hD⟩ : ∃ D, laysD s A0 A 0 0 (L.take j) = D := ⟨_, rfl⟩
            obtain ⟨P, hP⟩ : ∃ P, tot (L.take j) = P := ⟨_, rfl⟩
            have hDok : D.ok (K + P) := by rw [← hD, ← hP]; exact laysD_ok H0.out.2.2.1 ..
            have hDl : D.cs.length = s.cs.length := by rw [← hD]; exact laysD_len ..
            have hDS : hS D.cs = N := by rw [← H0.out.2.2.2]; unfold hS; rw [hDl]
            have hstep : laysD s A0 A 0 0 (L.take (j + 1)) = layD D (A0 + P) A j (nb l.length) l (nb l.length) := by
              have hjl : (L.take j).length = j := by rw [List.length_take, H.out.2.2]; omega
              rw [hnx, laysD_snoc, hD, hP, Nat.zero_add, Nat.zero_add, hjl]
            have hjP : j ≤ P := by
              have : ∀ m, m ≤ n → m ≤ tot (L.take m) := by
                intro m
                induction m with
                | zero => intro _; exact Nat.zero_le _
                | succ m ih =>
                  intro hm
                  obtain ⟨lm, hlm⟩ : ∃ l, L[m]? = some l := ⟨_, List.getElem?_eq_getElem (by rw [H.out.2.2]; omega)⟩
                  have h2 := ih (by omega)
                  have h3 := (nb_le424 (H.out.2.1 lm (List.mem_of_getElem? hlm))).1
                  rw [tot_take hlm]; omega
              rw [← hP]; exact this j hj
            rw [hD, hP] at hTn
            rw [hP] at ht1
            have HA : Hid (Calls Try.prog 38 #[.pointer (some ⟨W.heap.size, 0, none⟩), x] wr fun e w' => ∃ T, T = laysD s A0 A 0 0 (L.take (j + 1)) ∧ e = .returned (.int .i64 (pwE T.on)) ∧ IsD w' b g T ∧ IsS w' W.heap.size b A B (if T.on then j + 1 else j) (if T.on then P + nb l.length else P) ∧ Only (fun x => x = b ∨ x = g ∨ x = W.heap.size) wr w') := by
              have := add_pw W.heap.size b A B j P g D (K + P) x l wr hTn.t hTn.d hDok (by omega) hrt hlb (by omega) (by omega) hnH (by rw [hDS]; omega)
              rw [hDS, HA0.out, ← hstep] at this
              exact this
            have HTn : Hid (Tn w wr sb b g G Hh n0 u W.heap.size w3.heap.size A B D j P ∧ tot (L.take (j + 1)) = P + nb l.length ∧ (laysD s A0 A 0 0 (L.take (j + 1))).on = true ∨ (laysD s A0 A 0 0 (L.take (j + 1))).on = false) := by
              cases hq : (laysD s A0 A 0 0 (L.take (j + 1))).on
              · exact .inr rfl
              · exact .inl ⟨hTn, ht1, rfl⟩
            have HTm : Hid (Tn w wr sb b g G Hh n0 u W.heap.size w3.heap.size A B D j P ∧ tot (L.take (j + 1)) = P + nb l.length) := ⟨hTn, ht1⟩
            obtain ⟨T, hT⟩ : ∃ T, laysD s A0 A 0 0 (L.take (j + 1)) = T := ⟨_, rfl⟩
            have HTt : Hid (laysD s A0 A 0 0 (L.take (j + 1)) = T) := hT
            rw [hT] at HA
            clear hrt hl hlb ht1 ht2 hnx hD hP hDok hDl hDS hstep hTn hon HTn hjP hT
            cases hTo : T.on
            · have HF : Hid (T.on = false) := hTo
              have e21 : pwE T.on = 21 := by rw [hTo]; rfl
              have HE : Hid (pwE T.on = 21) := e21
              clear hTo e21
              go_wp2_with (go_at_call 38; refine HA.out.mono ?_; rintro e w5 ⟨T5, rfl, rfl, hD5, hS5, hO5⟩; rw [HE.out])
              go_ret
              have hall : laysD s A0 A 0 0 L = T5 := by rw [← HTt.out]; exact laysD_stop H0.out.2.2.1 _ _ _ _ (by rw [HTt.out]; exact HF.out)
              have hdd : T5.burns = false := by
                have := (laysD_ok H0.out.2.2.1 A0 A 0 0 (L.take (j + 1))).dead
                rw [HTt.out] at this
                exact this HF.out
              have hw : T5.wr 0 (hdrB A B) = T5 := wr_dead HF.out hdd _ _
              have hst := HTm.out.1.step hD5 hS5 hO5
              refine ⟨T5, by rw [hall, hw], by rw [HF.out]; rfl, hD5, ?_, hst.o.mono fun x hx => hx.elim Or.inl fun h => Or.inr (Or.inl h)⟩
              rw [HF.out]
              exact hst.s
            · have HF : Hid (T.on = true) := hTo
              have e0 : pwE T.on = 0 := by rw [hTo]; rfl
              have HE : Hid (pwE T.on = 0) := e0
              clear hTo e0
              go_wp2_with (go_at_call 38; refine HA.out.mono ?_; rintro e w5 ⟨T5, rfl, rfl, hD5, hS5, hO5⟩; rw [HE.out]; rw [HF.out] at hS5)
              go_roundw
              case rel => exact ⟨j + 1, by omega, by go_num, by rw [HTt.out, HTm.out.2]; exact HTm.out.1.step hD5 hS5 hO5, fun _ => by rw [HTt.out]; exact HF.out⟩
              case measure => simp [intOf]; omega
          · obtain rfl : n = j := by omega
            have hall : L.take n = L := List.take_of_length_le (by rw [H.out.2.2]; exact Nat.le_refl _)
            rw [hall] at hTn
            obtain ⟨D, hD⟩ : ∃ D, laysD s A0 A 0 0 L = D := ⟨_, rfl⟩
            have hDok : D.ok (K + PT) := by rw [← hD, ← HPT.out]; exact laysD_ok H0.out.2.2.1 ..
            have hDl : D.cs.length = s.cs.length := by rw [← hD]; exact laysD_len ..
            have hE := wrE_in (s := D) (i := 0) (by omega)
            have hO := wr_on (s := D) (i := 0) (by omega) (hdrB_len A B)
            obtain ⟨T, hT⟩ : ∃ T, D.wr 0 (hdrB A B) = T := ⟨_, rfl⟩
            have hO : T.on = D.spend.on := by rw [← hT]; exact hO
            have hE : D.wrE 0 64 = pwE T.on := by rw [hO]; exact hE
            have HTe : Hid (T = (laysD s A0 A 0 0 L).wr 0 (hdrB A B)) := by rw [hD]; exact hT.symm
            rw [hD, HPT.out] at hTn
            have hWr : ∀ w', Below wr.heap.size wr w' → Calls Try.prog 43 #[.agg #[.int .i64 (A : Nat), .int .i64 (B : Nat)], .pointer (some ⟨b, 0, none⟩)] w' fun e w2 => e = .returned (.int .i64 (pwE T.on)) ∧ IsD w2 b g T ∧ Only (fun x => x = b ∨ x = g) w' w2 := fun w' hw => by
              have := hwrite_any b g D A B w' (hTn.d.below hw) (hDok.good (by omega)) (by omega)
              rw [hE, hT] at this; exact this
            have HWr : Hid _ := hWr
            have HTn : Hid (Tn w wr sb b g G Hh n0 u W.heap.size w3.heap.size A B D n PT) := hTn
            have k0 : wr.drew.cell? ⟨w3.heap.size, 0, none⟩ = some (.int .i64 (A : Nat)) ∧ wr.drew.cell? ⟨w3.heap.size, 1, none⟩ = some (.int .i64 (B : Nat)) ∧ wr.drew.cell? ⟨sb, 0, none⟩ = some (.pointer (some ⟨b, 0, none⟩)) := ⟨by show wr.cell? _ = _; rw [cell_of hTn.h]; rfl, by show wr.cell? _ = _; rw [cell_of hTn.h]; rfl, hTn.s.cells.1⟩
            have HK : Hid (∀ w5, Only (fun x => x = b ∨ x = g) wr.drew w5 → w5.cell? ⟨w3.heap.size, 0, none⟩ = some (.int .i64 (A : Nat)) ∧ w5.cell? ⟨w3.heap.size, 1, none⟩ = some (.int .i64 (B : Nat)) ∧ w5.cell? ⟨sb, 0, none⟩ = some (.pointer (some ⟨b, 0, none⟩))) := fun w5 ho => by
              have hx1 := hTn.tagh.ne hTn.d.tagb (by decide)
              have hx2 := hTn.tagh.ne hTn.d.tagg (by decide)
              have hx3 := hTn.s.ne hTn.d
              have hh5 := (ho.block w3.heap.size hTn.tagh.lt (by omega)).trans hTn.h
              exact ⟨by rw [cell_of hh5]; rfl, by rw [cell_of hh5]; rfl, ((hTn.s.below (Below.refl _ _).drew).only ho (by omega)).cells.1⟩
            clear hTn hWr hall hD hDok hDl hE hO hT hon
            go_upto_region 22 with fail
            go_region_held3 (fun w' => w'.cell? ⟨w3.heap.size, 0, none⟩ = some (.int .i64 (A : Nat)) ∧ w'.cell? ⟨w3.heap.size, 1, none⟩ = some (.int .i64 (B : Nat)) ∧ w'.cell? ⟨sb, 0, none⟩ = some (.pointer (some ⟨b, 0, none⟩)))
              (with_reducible first | exact k0 | exact k1)
              (first | (go_at_call 43; refine (HWr.out _ (Below.refl _ _).drew).mono ?_; rintro e w5 ⟨rfl, hD5, hO5⟩; have k1 := HK.out w5 hO5))
            have hT5 : Tn w w5 sb b g G Hh n0 u W.heap.size w3.heap.size A B T n PT := by
              have ht := HTn.out.below (Below.refl wr.heap.size wr).drew
              have hb1 := ht.bt
              exact ht.step hD5 (ht.t.only hO5 (by have := ht.t.ne ht.d; omega)) (hO5.mono fun x hx => hx.elim Or.inl fun h => Or.inr (Or.inl h))
            have HT5 : Hid (Tn w w5 sb b g G Hh n0 u W.heap.size w3.heap.size A B T n PT) := hT5
            clear HWr HK k0 k1 hD5 hO5
            cases hTo : T.on
            · have HF : Hid (T.on = false) := hTo
              clear hTo hT5
              rw [show pwE false = 21 from rfl]
              go_wp2
              go_ret
              refine ⟨T, HTe.out, by rw [HF.out]; rfl, HT5.out.d, ?_, HT5.out.o.mono fun x hx => hx.elim Or.inl fun h => Or.inr (Or.inl h)⟩
              rw [HF.out]
              exact HT5.out.s
            · have HF : Hid (T.on = true) := hTo
              obtain ⟨t0, t1, t2, t3, t4, _⟩ := hT5.t.cells
              obtain ⟨q0, q1, q2, q3, q4, qf⟩ := hT5.s.cells
              clear hTo hT5
              rw [show pwE true = 0 from rfl]
              go_wp2
              go_ret
              have hx3 := HT5.out.s.ne HT5.out.d
              refine ⟨T, HTe.out, by rw [HF.out]; rfl, HT5.out.d.only (only5 _ sb _ _ _ _ _) (by omega) (by omega), ?_, (HT5.out.o.mono fun x hx => hx.elim Or.inl fun h => Or.inr (Or.inl h)).trans ((only5 _ sb _ _ _ _ _).mono fun x hx => Or.inr (Or.inr hx))⟩
              rw [HF.out]
              exact ⟨set5 HT5.out.s.head⟩
end
end Go.Proofs.Ytajgaialnafdbaa
