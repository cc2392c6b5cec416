/- Rows of bytes told by their make; the contracts of package scroll's Open and Append. -/
import Derived.Test.YtihjhaafmdobmabSaP
namespace Go.Proofs.Ytihjhaafmdobmab
open Go.RowKit

/-- a slice of bytes, in a block of bytes -/
structure RT (w : World) (v : Value) (l : List Int) : Prop where
  rb : RB w v l
  fit : Fit v
  tag : ∀ a n c, v = .slice (some a) n c → Tag w a.block 5
theorem OwnB.rt {w : World} {base : Nat} {v : Value} {l : List Int} (h : OwnB w base v l) : RT w v l :=
  ⟨h.rb, h.fit, fun a n c e => by
    subst e
    rcases h.form with ⟨e, _⟩ | ⟨k, cap, e, _⟩
    · cases e
    · cases e; exact h.tag rfl⟩
theorem RT.far {w : World} {v : Value} {l : List Int} (h : RT w v l) {b g : Nat} {s : Dsk} (hd : IsD w b g s) : Far v b g := fun a n c e => ⟨(h.tag a n c e).ne hd.tagb (by decide), (h.tag a n c e).ne hd.tagg (by decide)⟩
/-- what is written is neither bytes nor a list of rows -/
def Els' (w : World) (S : Nat → Prop) : Prop := ∀ k, k < w.heap.size → S k → ∃ t, Tag w k t ∧ t ≠ 5 ∧ t ≠ 22
theorem RT.only {S : Nat → Prop} {w w' : World} {v : Value} {l : List Int} (h : RT w v l) (ho : Only S w w') (hS : Els' w S) : RT w' v l := by
  have key : ∀ a n c, v = .slice (some a) n c → ¬ S a.block := fun a n c e hs => by
    have ht := h.tag a n c e
    obtain ⟨t, h1, h2, _⟩ := hS _ ht.lt hs
    exact ht.ne h1 (fun e => h2 e.symm) rfl
  exact ⟨h.rb.only ho key, h.fit, fun a n c e => (h.tag a n c e).moved (ho.block _ (h.tag a n c e).lt (key a n c e))⟩
theorem RT.below {w w' : World} {v : Value} {l : List Int} (h : RT w v l) (hb : Below w.heap.size w w') : RT w' v l :=
  ⟨h.rb.below hb, h.fit, fun a n c e => (h.tag a n c e).moved (hb.block _ (h.tag a n c e).lt)⟩
theorem OwnR.only {S : Nat → Prop} {w w' : World} {base m : Nat} {v : Value} {R : List (List Int)} (h : OwnR w base m v R) (ho : Only S w w') (hS : Els' w S) : OwnR w' base m v R :=
  h.moved (fun k hk => ho.block k (h.at hk).2 (fun hs => by obtain ⟨t, h1, _, h3⟩ := hS k (h.at hk).2 hs; exact (h.tag hk).ne h1 (fun e => h3 e.symm) rfl))
    (fun k _ ht => ho.block k ht.lt (fun hs => by obtain ⟨t, h1, h2, _⟩ := hS k ht.lt hs; exact ht.ne h1 (fun e => h2 e.symm) rfl))
/-- a list that reads as these rows -/
structure Rs (w : World) (v : Value) (L : List (List Int)) : Prop where
  form : ∃ a cap, v = .slice a L.length cap ∧ (L = [] ∨ ∃ g off, a = some ⟨g, off, none⟩ ∧ Tag w g 22 ∧ ∀ i l, L[i]? = some l → ∃ x, w.cell? ⟨g, off + i, none⟩ = some x ∧ RT w x l)
theorem OwnR.rs {w : World} {base m : Nat} {v : Value} {R : List (List Int)} (h : OwnR w base m v R) : Rs w v R := by
  obtain ⟨vs, hr, he⟩ := h
  rcases hr.2 with ⟨rfl, e⟩ | ⟨g, cap, cur, rfl, hg, hh, _⟩
  · have : R = [] := List.eq_nil_of_length_eq_zero e
    subst this
    exact ⟨_, _, rfl, .inl rfl⟩
  · refine ⟨_, _, rfl, .inr ⟨g, 0, rfl, ⟨_, _, hh⟩, fun i l hl => ?_⟩⟩
    have hi : i < vs.length := by rw [he.len]; exact (List.getElem?_eq_some_iff.1 hl).1
    have hx : vs[i]? = some (vs[i]'hi) := List.getElem?_eq_getElem hi
    exact ⟨_, by rw [Nat.zero_add]; exact (owns_cells hr).1 i _ hx, (he.own i _ l hx hl).rt⟩
theorem Rs.only {S : Nat → Prop} {w w' : World} {v : Value} {L : List (List Int)} (h : Rs w v L) (ho : Only S w w') (hS : Els' w S) : Rs w' v L := by
  obtain ⟨a, cap, rfl, hq⟩ := h.form
  refine ⟨a, cap, rfl, ?_⟩
  rcases hq with hq | ⟨g, off, rfl, ht, hc⟩
  · exact .inl hq
  · have hg : w'.heap[g]? = w.heap[g]? := ho.block g ht.lt (fun hs => by obtain ⟨t, h1, _, h3⟩ := hS g ht.lt hs; exact ht.ne h1 (fun e => h3 e.symm) rfl)
    refine .inr ⟨g, off, rfl, ht.moved hg, fun i l hl => ?_⟩
    obtain ⟨x, h1, h2⟩ := hc i l hl
    exact ⟨x, (World.cell?_of_block hg).trans h1, h2.only ho hS⟩
theorem Rs.below {w w' : World} {v : Value} {L : List (List Int)} (h : Rs w v L) (hb : Below w.heap.size w w') : Rs w' v L :=
  h.only (S := fun _ => False) (Only.of hb) (fun _ _ h => h.elim)
theorem els_disk {w : World} {b g : Nat} {s : Dsk} (h : IsD w b g s) : Els' w (fun x => x = b ∨ x = g) := fun k _ hk => by
  rcases hk with rfl | rfl
  · exact ⟨_, h.tagb, by decide, by decide⟩
  · exact ⟨_, h.tagg, by decide, by decide⟩
theorem els_three {w : World} {b g sb G Hh n u : Nat} {s : Dsk} (h : IsD w b g s) (hs : IsS w sb b G Hh n u) : Els' w (fun x => x = b ∨ x = g ∨ x = sb) := fun k _ hk => by
  rcases hk with rfl | rfl | rfl
  · exact ⟨_, h.tagb, by decide, by decide⟩
  · exact ⟨_, h.tagg, by decide, by decide⟩
  · exact ⟨_, hs.tag, by decide, by decide⟩

set_option maxRecDepth 100000 in
set_option maxHeartbeats 1000000 in
theorem open_no (b g : Nat) (s : Dsk) (w : World) (h : IsD w b g s) (h1 : 1 ≤ s.cs.length) (hb : BytC s.cs) (hno : hS s.cs = 0 ∨ hdrOf ((s.cs[0]?).getD []) = none) :
    Calls Try.prog 43 #[.pointer (some ⟨b, 0, none⟩)] w fun e w' => e = .returned (.tuple #[.pointer none, .slice none 0 0, .int .i64 60]) ∧ Below w.heap.size w w' := by
  obtain ⟨l, hl⟩ : ∃ l, s.cs[0]? = some l := ⟨_, List.getElem?_eq_getElem (by omega)⟩
  rw [hl] at hno
  have hHd := readHdr_any b g s w h l hl (hb l (List.mem_of_getElem? hl))
  have HZ0 : Hid (∀ w', Below w.heap.size w w' → Calls Try.prog 89 #[.pointer (some ⟨b, 0, none⟩)] w' fun e w2 => e = .returned (.int .i64 (hS s.cs : Nat)) ∧ w2 = w') := fun w' hw => halfSize_any b g s w' (h.below hw) h1
  by_cases h0 : hS s.cs = 0
  · obtain ⟨x, y, bo, hx⟩ : ∃ (x y : Int) (bo : Bool), hdrV (hdrOf l) = .agg #[.int .i64 x, .int .i64 y] ∧ (hdrOf l).isSome = bo := by
      cases hdrOf l with
      | none => exact ⟨0, 0, false, rfl, rfl⟩
      | some p => exact ⟨_, _, true, rfl, rfl⟩
    rw [hx.1, hx.2] at hHd
    rw [h0] at HZ0
    have HH : Hid (Calls Try.prog 93 #[.pointer (some ⟨b, 0, none⟩)] w fun e w' => e = .returned (.tuple #[.agg #[.int .i64 x, .int .i64 y], .bool bo]) ∧ Below w.heap.size w w') := hHd
    clear hx hHd hno h hl hb
    go_enter Try.func43, Try.ntmps43
    go_wp2_with (first
      | (go_at_call 93; refine HH.out.mono ?_; rintro e w1 ⟨rfl, hb1⟩)
      | (go_at_call 89; refine (HZ0.out _ (chainB hb1 (below_alloc _ _))).mono ?_; rintro e w2 ⟨rfl, rfl⟩))
    go_ret3
    exact ⟨rfl, chainB hb1 (below_alloc _ _)⟩
  · have hn : hdrOf l = none := hno.elim (fun e => absurd e h0) id
    rw [hn] at hHd
    have hHd : Calls Try.prog 93 #[.pointer (some ⟨b, 0, none⟩)] w fun e w' => e = .returned (.tuple #[.agg #[.int .i64 0, .int .i64 0], .bool false]) ∧ Below w.heap.size w w' := hHd
    have HH : Hid (Calls Try.prog 93 #[.pointer (some ⟨b, 0, none⟩)] w fun e w' => e = .returned (.tuple #[.agg #[.int .i64 0, .int .i64 0], .bool false]) ∧ Below w.heap.size w w') := hHd
    obtain ⟨N, hN⟩ : ∃ N, hS s.cs = N := ⟨_, rfl⟩
    rw [hN] at HZ0
    have hz : ((N : Int) == 0) = false := by rw [beq_eq_false_iff_ne]; omega
    clear hHd hno h hl hb hn h0 hN
    go_enter Try.func43, Try.ntmps43
    go_wp2_with (first
      | (go_at_call 93; refine HH.out.mono ?_; rintro e w1 ⟨rfl, hb1⟩)
      | (go_at_call 89; refine (HZ0.out _ (chainB hb1 (below_alloc _ _))).mono ?_; rintro e w2 ⟨rfl, rfl⟩))
    go_ret3
    exact ⟨rfl, chainB hb1 (below_alloc _ _)⟩
set_option maxRecDepth 100000 in
set_option maxHeartbeats 1000000 in
theorem open_yes (b g : Nat) (s : Dsk) (w : World) (h : IsD w b g s) (h1 : 1 ≤ s.cs.length) (hb : BytC s.cs) (G Hh : Nat) (h0 : hS s.cs ≠ 0) (hd : hdrOf ((s.cs[0]?).getD []) = some (G, Hh)) :
    Calls Try.prog 43 #[.pointer (some ⟨b, 0, none⟩)] w fun e w' => ∃ sb vR R u, e = .returned (.tuple #[.pointer (some ⟨sb, 0, none⟩), vR, .int .i64 0]) ∧ Told G (halfL s.cs Hh) R u ∧ w.heap.size ≤ sb ∧ IsD w' b g s ∧ IsS w' sb b G Hh R.length u ∧ OwnR w' w.heap.size w'.heap.size vR R ∧ Below w.heap.size w w' := by
  obtain ⟨l, hl⟩ : ∃ l, s.cs[0]? = some l := ⟨_, List.getElem?_eq_getElem (by omega)⟩
  rw [hl] at hd
  have hd : hdrOf l = some (G, Hh) := hd
  obtain ⟨hg1, hg2, hh, _⟩ := hdrOf_some hd
  have hHd := readHdr_any b g s w h l hl (hb l (List.mem_of_getElem? hl))
  rw [hd] at hHd
  have HH : Hid (Calls Try.prog 93 #[.pointer (some ⟨b, 0, none⟩)] w fun e w' => e = .returned (.tuple #[.agg #[.int .i64 (G : Nat), .int .i64 (Hh : Nat)], .bool true]) ∧ Below w.heap.size w w') := hHd
  have HZ0 : Hid (∀ w', Below w.heap.size w w' → Calls Try.prog 89 #[.pointer (some ⟨b, 0, none⟩)] w' fun e w2 => e = .returned (.int .i64 (hS s.cs : Nat)) ∧ w' = w2) := fun w' hw => (halfSize_any b g s w' (h.below hw) h1).mono fun e w2 hq => ⟨hq.1, hq.2.symm⟩
  have HRd : Hid (∀ sb w', Below w.heap.size w w' → IsS w' sb b G Hh 0 0 → Calls Try.prog 94 #[.pointer (some ⟨sb, 0, none⟩)] w' fun e w2 => ∃ vR R u, e = .returned vR ∧ Told G (halfL s.cs Hh) R u ∧ IsD w2 b g s ∧ IsS w2 sb b G Hh R.length u ∧ OwnR w2 w'.heap.size w2.heap.size vR R ∧ Only (fun x => x = sb) w' w2) := fun sb w' hw hs => read_any' sb b G Hh g s w' hs (h.below hw) h1 hb (by omega) hh
  obtain ⟨N, hN⟩ : ∃ N, hS s.cs = N := ⟨_, rfl⟩
  rw [hN] at HZ0 h0
  have hz : ((N : Int) == 0) = false := by rw [beq_eq_false_iff_ne]; omega
  clear hHd h hl hb hd hN
  go_enter Try.func43, Try.ntmps43
  go_wp2_with (first
    | (go_at_call 93; refine HH.out.mono ?_; rintro e w1 ⟨rfl, hb1⟩)
    | (go_at_call 89; refine (HZ0.out _ (chainB hb1 (below_alloc _ _))).mono ?_; rintro e w2 ⟨rfl, rfl⟩)
    | (go_at_call 94; refine (HRd.out _ _ (chainB (chainB hb1 (below_alloc _ _)) (below_alloc _ _)) ⟨by rw [← World.size_alloc]; exact heap_new _ _⟩).mono ?_; rintro e w3 ⟨vR, R, u, rfl, hT, hD, hS3, hO, hOn⟩))
  go_ret3
  have B2 := chainB (chainB hb1 (below_alloc _ (.cells #[.int .i64 (G : Nat), .int .i64 (Hh : Nat)] 141))) (below_alloc _ (.cells #[.pointer (some ⟨b, 0, none⟩), .int .i64 (G : Nat), .int .i64 (Hh : Nat), .int .i64 0, .int .i64 0] 145))
  have hs1 := hb1.size
  refine ⟨_, vR, R, u, rfl, hT, by omega, hD, hS3, ?_, hOn.below B2 B2.size (fun k hk => by omega)⟩
  obtain ⟨vs, h1, h2⟩ := hO
  exact ⟨vs, owns_le h1 B2.size, ⟨h2.len, fun i x l hx hl => (h2.own i x l hx hl).le B2.size, h2.lt, h2.ne⟩⟩
end Go.Proofs.Ytihjhaafmdobmab
