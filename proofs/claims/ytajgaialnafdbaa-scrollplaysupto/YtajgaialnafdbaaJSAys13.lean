/- Rows of bytes told by their make; the contracts of package scroll's Open and Append. -/
import Derived.Test.YtajgaialnafdbaaJSAys12
namespace Go.Proofs.Ytajgaialnafdbaa
section
open Go.RowKit

/-- a slice of bytes, in a block of bytes -/
structure RT (w : World) (v : Value) (l : List Int) : Prop where
  rb : RB w v l
  fit : Fit v
  tag : ∀ a n c, v = .slice (some a) n c → Tag w a.block 5
theorem OwnB.rt {w : World} {base : Nat} {v : Value} {l : List Int} (h : OwnB w base v l) : RT w v l :=
  ⟨h.rb, h.fit, fun a n c e => by
    subst e
    rcases h.form with ⟨e, _⟩ | ⟨k, cap, e, _⟩
    · cases e
    · cases e; exact h.tag rfl⟩
theorem RT.far {w : World} {v : Value} {l : List Int} (h : RT w v l) {b g : Nat} {s : Dsk} (hd : IsD w b g s) : Far v b g := fun a n c e => ⟨(h.tag a n c e).ne hd.tagb (by decide), (h.tag a n c e).ne hd.tagg (by decide)⟩
/-- what is written is neither bytes nor a list of rows -/
def Els' (w : World) (S : Nat → Prop) : Prop := ∀ k, k < w.heap.size → S k → ∃ t, Tag w k t ∧ t ≠ 5 ∧ t ≠ 22
theorem RT.only {S : Nat → Prop} {w w' : World} {v : Value} {l : List Int} (h : RT w v l) (ho : Only S w w') (hS : Els' w S) : RT w' v l := by
  have key : ∀ a n c, v = .slice (some a) n c → ¬ S a.block := fun a n c e hs => by
    have ht := h.tag a n c e
    obtain ⟨t, h1, h2, _⟩ := hS _ ht.lt hs
    exact ht.ne h1 (fun e => h2 e.symm) rfl
  exact ⟨h.rb.only ho key, h.fit, fun a n c e => (h.tag a n c e).moved (ho.block _ (h.tag a n c e).lt (key a n c e))⟩
theorem RT.below {w w' : World} {v : Value} {l : List Int} (h : RT w v l) (hb : Below w.heap.size w w') : RT w' v l :=
  ⟨h.rb.below hb, h.fit, fun a n c e => (h.tag a n c e).moved (hb.block _ (h.tag a n c e).lt)⟩
theorem OwnR.only {S : Nat → Prop} {w w' : World} {base m : Nat} {v : Value} {R : List (List Int)} (h : OwnR w base m v R) (ho : Only S w w') (hS : Els' w S) : OwnR w' base m v R :=
  h.moved (fun k hk => ho.block k (h.at hk).2 (fun hs => by obtain ⟨t, h1, _, h3⟩ := hS k (h.at hk).2 hs; exact (h.tag hk).ne h1 (fun e => h3 e.symm) rfl))
    (fun k _ ht => ho.block k ht.lt (fun hs => by obtain ⟨t, h1, h2, _⟩ := hS k ht.lt hs; exact ht.ne h1 (fun e => h2 e.symm) rfl))
/-- a list that reads as these rows -/
structure Rs (w : World) (v : Value) (L : List (List Int)) : Prop where
  form : ∃ a cap, v = .slice a L.length cap ∧ (L = [] ∨ ∃ g off, a = some ⟨g, off, none⟩ ∧ Tag w g 22 ∧ ∀ i l, L[i]? = some l → ∃ x, w.cell? ⟨g, off + i, none⟩ = some x ∧ RT w x l)
theorem OwnR.rs {w : World} {base m : Nat} {v : Value} {R : List (List Int)} (h : OwnR w base m v R) : Rs w v R := by
  obtain ⟨vs, hr, he⟩ := h
  rcases hr.2 with ⟨rfl, e⟩ | ⟨g, cap, cur, rfl, hg, hh, _⟩
  · have : R = [] := List.eq_nil_of_length_eq_zero e
    subst this
    exact ⟨_, _, rfl, .inl rfl⟩
  · refine ⟨_, _, rfl, .inr ⟨g, 0, rfl, ⟨_, _, hh⟩, fun i l hl => ?_⟩⟩
    have hi : i < vs.length := by rw [he.len]; exact (List.getElem?_eq_some_iff.1 hl).1
    have hx : vs[i]? = some (vs[i]'hi) := List.getElem?_eq_getElem hi
    exact ⟨_, by rw [Nat.zero_add]; exact (owns_cells hr).1 i _ hx, (he.own i _ l hx hl).rt⟩
theorem Rs.only {S : Nat → Prop} {w w' : World} {v : Value} {L : List (List Int)} (h : Rs w v L) (ho : Only S w w') (hS : Els' w S) : Rs w' v L := by
  obtain ⟨a, cap, rfl, hq⟩ := h.form
  refine ⟨a, cap, rfl, ?_⟩
  rcases hq with hq | ⟨g, off, rfl, ht, hc⟩
  · exact .inl hq
  · have hg : w'.heap[g]? = w.heap[g]? := ho.block g ht.lt (fun hs => by obtain ⟨t, h1, _, h3⟩ := hS g ht.lt hs; exact ht.ne h1 (fun e => h3 e.symm) rfl)
    refine .inr ⟨g, off, rfl, ht.moved hg, fun i l hl => ?_⟩
    obtain ⟨x, h1, h2⟩ := hc i l hl
    exact ⟨x, (World.cell?_of_block hg).trans h1, h2.only ho hS⟩
theorem Rs.below {w w' : World} {v : Value} {L : List (List Int)} (h : Rs w v L) (hb : Below w.heap.size w w') : Rs w' v L :=
  h.only (S := fun _ => False) (Only.of hb) (fun _ _ h => h.elim)
theorem els_disk {w : World} {b g : Nat} {s : Dsk} (h : IsD w b g s) : Els' w (fun x => x = b ∨ x = g) := fun k _ hk => by
  rcases hk with rfl | rfl
  · exact ⟨_, h.tagb, by decide, by decide⟩
  · exact ⟨_, h.tagg, by decide, by decide⟩
theorem els_three {w : World} {b g sb G Hh n u : Nat} {s : Dsk} (h : IsD w b g s) (hs : IsS w sb b G Hh n u) : Els' w (fun x => x = b ∨ x = g ∨ x = sb) := fun k _ hk => by
  rcases hk with rfl | rfl | rfl
  · exact ⟨_, h.tagb, by decide, by decide⟩
  · exact ⟨_, h.tagg, by decide, by decide⟩
  · exact ⟨_, hs.tag, by decide, by decide⟩

set_option maxRecDepth 100000 in
set_option maxHeartbeats 1000000 in
theorem open_no (b g : Nat) (s : Dsk) (w : World) (h : IsD w b g s) (h1 : 1 ≤ s.cs.length) (hb : BytC s.cs) (hno : hS s.cs = 0 ∨ hdrOf ((s.cs[0]?).getD []) = none) :
    Calls Try.prog 29 #[.pointer (some ⟨b, 0, none⟩)] w fun e w' => e = .returned (.tuple #[.pointer none, .slice none 0 0, .int .i64 60]) ∧ Below w.heap.size w w' := by
  obtain ⟨l, hl⟩ : ∃ l, s.cs[0]? = some l := ⟨_, List.getElem?_eq_getElem (by omega)⟩
  rw [hl] at hno
  have hHd := readHdr_any b g s w h l hl (hb l (List.mem_of_getElem? hl))
  have HZ0 : Hid (∀ w', Below w.heap.size w w' → Calls Try.prog 47 #[.pointer (some ⟨b, 0, none⟩)] w' fun e w2 => e = .returned (.int .i64 (hS s.cs : Nat)) ∧ w2 = w') := fun w' hw => halfSize_any b g s w' (h.below hw) h1
  by_cases h0 : hS s.cs = 0
  · obtain ⟨x, y, bo, hx⟩ : ∃ (x y : Int) (bo : Bool), hdrV (hdrOf l) = .agg #[.int .i64 x, .int .i64 y] ∧ (hdrOf l).isSome = bo := by
      cases hdrOf l with
      | none => exact ⟨0, 0, false, rfl, rfl⟩
      | some p => exact ⟨_, _, true, rfl, rfl⟩
    rw [hx.1, hx.2] at hHd
    rw [h0] at HZ0
    have HH : Hid (Calls Try.prog 53 #[.pointer (some ⟨b, 0, none⟩)] w fun e w' => e = .returned (.tuple #[.agg #[.int .i64 x, .int .i64 y], .bool bo]) ∧ Below w.heap.size w w') := hHd
    clear hx hHd hno h hl hb
    go_enter Try.func29, Try.ntmps29
    go_wp2_with (first
      | (go_at_call 53; refine HH.out.mono ?_; rintro e w1 ⟨rfl, hb1⟩)
      | (go_at_call 47; refine (HZ0.out _ (chainB hb1 (below_alloc _ _))).mono ?_; rintro e w2 ⟨rfl, rfl⟩))
    go_ret3
    exact ⟨rfl, chainB hb1 (below_alloc _ _)⟩
  · have hn : hdrOf l = none := hno.elim (fun e => absurd e h0) id
    rw [hn] at hHd
    have hHd : Calls Try.prog 53 #[.pointer (some ⟨b, 0, none⟩)] w fun e w' => e = .returned (.tuple #[.agg #[.int .i64 0, .int .i64 0], .bool false]) ∧ Below w.heap.size w w' := hHd
    have HH : Hid (Calls Try.prog 53 #[.pointer (some ⟨b, 0, none⟩)] w fun e w' => e = .returned (.tuple #[.agg #[.int .i64 0, .int .i64 0], .bool false]) ∧ Below w.heap.size w w') := hHd
    obtain ⟨N, hN⟩ : ∃ N, hS s.cs = N := ⟨_, rfl⟩
    rw [hN] at HZ0
    have hz : ((N : Int) == 0) = false := by rw [beq_eq_false_iff_ne]; omega
    clear hHd hno h hl hb hn h0 hN
    go_enter Try.func29, Try.ntmps29
    go_wp2_with (first
      | (go_at_call 53; refine HH.out.mono ?_; rintro e w1 ⟨rfl, hb1⟩)
      | (go_at_call 47; refine (HZ0.out _ (chainB hb1 (below_alloc _ _))).mono ?_; rintro e w2 ⟨rfl, rfl⟩))
    go_ret3
    exact ⟨rfl, chainB hb1 (below_alloc _ _)⟩
set_option maxRecDepth 100000 in
set_option maxHeartbeats 1000000 in
theorem open_yes (b g : Nat) (s : Dsk) (w : World) (h : IsD w b g s) (h1 : 1 ≤ s.cs.length) (hb : BytC s.cs) (G Hh : Nat) (h0 : hS s.cs ≠ 0) (hd : hdrOf ((s.cs[0]?).getD []) = some (G, Hh)) :
    Calls Try.prog 29 #[.pointer (some ⟨b, 0, none⟩)] w fun e w' => ∃ sb vR R u, e = .returned (.tuple #[.pointer (some ⟨sb, 0, none⟩), vR, .int .i64 0]) ∧ Told G (halfL s.cs Hh) R u ∧ w.heap.size ≤ sb ∧ IsD w' b g s ∧ IsS w' sb b G Hh R.length u ∧ OwnR w' w.heap.size w'.heap.size vR R ∧ Below w.heap.size w w' := by
  obtain ⟨l, hl⟩ : ∃ l, s.cs[0]? = some l := ⟨_, List.getElem?_eq_getElem (by omega)⟩
  rw [hl] at hd
  have hd : hdrOf l = some (G, Hh) := hd
  obtain ⟨hg1, hg2, hh, _⟩ := hdrOf_some hd
  have hHd := readHdr_any b g s w h l hl (hb l (List.mem_of_getElem? hl))
  rw [hd] at hHd
  have HH : Hid (Calls Try.prog 53 #[.pointer (some ⟨b, 0, none⟩)] w fun e w' => e = .returned (.tuple #[.agg #[.int .i64 (G : Nat), .int .i64 (Hh : Nat)], .bool true]) ∧ Below w.heap.size w w') := hHd
  have HZ0 : Hid (∀ w', Below w.heap.size w w' → Calls Try.prog 47 #[.pointer (some ⟨b, 0, none⟩)] w' fun e w2 => e = .returned (.int .i64 (hS s.cs : Nat)) ∧ w' = w2) := fun w' hw => (halfSize_any b g s w' (h.below hw) h1).mono fun e w2 hq => ⟨hq.1, hq.2.symm⟩
  have HRd : Hid (∀ sb w', Below w.heap.size w w' → IsS w' sb b G Hh 0 0 → Calls Try.prog 54 #[.pointer (some ⟨sb, 0, none⟩)] w' fun e w2 => ∃ vR R u, e = .returned vR ∧ Told G (halfL s.cs Hh) R u ∧ IsD w2 b g s ∧ IsS w2 sb b G Hh R.length u ∧ OwnR w2 w'.heap.size w2.heap.size vR R ∧ Only (fun x => x = sb) w' w2) := fun sb w' hw hs => read_any' sb b G Hh g s w' hs (h.below hw) h1 hb (by omega) hh
  obtain ⟨N, hN⟩ : ∃ N, hS s.cs = N := ⟨_, rfl⟩
  rw [hN] at HZ0 h0
  have hz : ((N : Int) == 0) = false := by rw [beq_eq_false_iff_ne]; omega
  clear hHd h hl hb hd hN
  go_enter Try.func29, Try.ntmps29
  go_wp2_with (first
    | (go_at_call 53; refine HH.out.mono ?_; rintro e w1 ⟨rfl, hb1⟩)
    | (go_at_call 47; refine (HZ0.out _ (chainB hb1 (below_alloc _ _))).mono ?_; rintro e w2 ⟨rfl, rfl⟩)
    | (go_at_call 54; refine (HRd.out _ _ (chainB (chainB hb1 (below_alloc _ _)) (below_alloc _ _)) ⟨by rw [← World.size_alloc]; exact heap_new _ _⟩).mono ?_; rintro e w3 ⟨vR, R, u, rfl, hT, hD, hS3, hO, hOn⟩))
  go_ret3
  have B2 := chainB (chainB hb1 (below_alloc _ (.cells #[.int .i64 (G : Nat), .int .i64 (Hh : Nat)] 71))) (below_alloc _ (.cells #[.pointer (some ⟨b, 0, none⟩), .int .i64 (G : Nat), .int .i64 (Hh : Nat), .int .i64 0, .int .i64 0] 75))
  have hs1 := hb1.size
  refine ⟨_, vR, R, u, rfl, hT, by omega, hD, hS3, ?_, hOn.below B2 B2.size (fun k hk => by omega)⟩
  obtain ⟨vs, h1, h2⟩ := hO
  exact ⟨vs, owns_le h1 B2.size, ⟨h2.len, fun i x l hx hl => (h2.own i x l hx hl).le B2.size, h2.lt, h2.ne⟩⟩
end
section
open Go.RowKit

theorem append_bad (sb : Nat) (v : Value) (l : List Int) (w : World) (hv : RB w v l) (hl : l.length ≤ 1000000) (hb : ¬ (1 ≤ l.length ∧ l.length ≤ 424)) :
    Calls Try.prog 8 #[.pointer (some ⟨sb, 0, none⟩), v] w fun e w' => e = .returned (.int .i64 61) ∧ w' = w := by
  have HR : Hid (Calls Try.prog 36 #[v] w fun e w' => e = .returned (.bool false) ∧ w' = w) := by
    have := right_any v l w hv hl; rw [decide_eq_false hb] at this; exact this
  clear hv hb
  go_enter Try.func8, Try.ntmps8
  go_wp2_with (go_at_call 36; refine HR.out.mono ?_; rintro e w1 ⟨rfl, rfl⟩)
  go_ret
  exact ⟨rfl, rfl⟩
theorem append_full (sb b G Hh n u g : Nat) (s : Dsk) (v : Value) (l : List Int) (w : World) (hs : IsS w sb b G Hh n u) (h : IsD w b g s) (h1 : 1 ≤ s.cs.length) (hu : u ≤ hS s.cs) (hv : RB w v l) (hg : 1 ≤ l.length ∧ l.length ≤ 424) (hf : hS s.cs < u + nb l.length) :
    Calls Try.prog 8 #[.pointer (some ⟨sb, 0, none⟩), v] w fun e w' => e = .returned (.int .i64 2) ∧ Below w.heap.size w w' := by
  have HR : Hid (Calls Try.prog 36 #[v] w fun e w' => e = .returned (.bool true) ∧ w = w') := by
    have := right_any v l w hv (by omega); rw [decide_eq_true hg] at this; exact this.mono fun e w2 hq => ⟨hq.1, hq.2.symm⟩
  have HB : Hid (Calls Try.prog 37 #[v] w fun e w' => e = .returned (.int .i64 (nb l.length : Nat)) ∧ w = w') := (blocks_any v l w hv (by omega)).mono fun e w2 hq => ⟨hq.1, hq.2.symm⟩
  have HM : Hid (Calls Try.prog 21 #[.pointer (some ⟨sb, 0, none⟩)] w fun e w' => e = .returned (.int .i64 (hS s.cs - u : Nat)) ∧ Below w.heap.size w w') := (room_any sb b G Hh n u g s w hs h h1 hu).mono fun e w2 hq => ⟨hq.1, hq.2.below⟩
  obtain ⟨N, hN⟩ : ∃ N, hS s.cs - u = N := ⟨_, rfl⟩
  obtain ⟨C, hC⟩ : ∃ C, nb l.length = C := ⟨_, rfl⟩
  have hlt : N < C := by omega
  rw [hN] at HM
  rw [hC] at HB
  clear hs h hv hN hC hf hu
  go_enter Try.func8, Try.ntmps8
  go_wp2_with (first
    | (go_at_call 36; refine HR.out.mono ?_; rintro e w1 ⟨rfl, rfl⟩)
    | (go_at_call 37; refine HB.out.mono ?_; rintro e w2 ⟨rfl, rfl⟩)
    | (go_at_call 21; refine HM.out.mono ?_; rintro e w3 ⟨rfl, hb3⟩))
  go_ret
  exact ⟨rfl, hb3⟩
/-- the answer of a write -/
def pwE (o : Bool) : Int := if o then 0 else 21
theorem add_pw (sb b G Hh n u g : Nat) (s : Dsk) (K : Int) (v : Value) (l : List Int) (w : World) (hs : IsS w sb b G Hh n u) (h : IsD w b g s) (hok : s.ok K) (hK : K + 8 < 9223372036854775807) (hv : RT w v l) (hg : 1 ≤ l.length ∧ l.length ≤ 424) (hG : G < 4294967296) (hn : n < 1000000) (hh : Hh ≤ 1) (hu : u + nb l.length ≤ hS s.cs) :
    Calls Try.prog 38 #[.pointer (some ⟨sb, 0, none⟩), v] w fun e w' => ∃ T, T = layD s (1 + Hh * hS s.cs + u) G n (nb l.length) l (nb l.length) ∧ e = .returned (.int .i64 (pwE T.on)) ∧ IsD w' b g T ∧ IsS w' sb b G Hh (if T.on then n + 1 else n) (if T.on then u + nb l.length else u) ∧ Only (fun x => x = b ∨ x = g ∨ x = sb) w w' :=
  (add_any sb b G Hh n u g s K v l w hs h hok hK hv.rb hv.fit (hv.far h) hg.1 hg.2 hG hn hh hu).mono fun _ _ ⟨T, h1, h2, h3⟩ => ⟨T, h1, h2, h3⟩
theorem append_go (sb b G Hh n u g : Nat) (s : Dsk) (K : Int) (v : Value) (l : List Int) (w : World) (hs : IsS w sb b G Hh n u) (h : IsD w b g s) (hok : s.ok K) (hK : K + 8 < 9223372036854775807) (hv : RT w v l) (hg : 1 ≤ l.length ∧ l.length ≤ 424) (hG : G < 4294967296) (hn : n < 1000000) (hh : Hh ≤ 1) (hu : u + nb l.length ≤ hS s.cs) :
    Calls Try.prog 8 #[.pointer (some ⟨sb, 0, none⟩), v] w fun e w' => ∃ T, T = layD s (1 + Hh * hS s.cs + u) G n (nb l.length) l (nb l.length) ∧ e = .returned (.int .i64 (pwE T.on)) ∧ IsD w' b g T ∧ IsS w' sb b G Hh (if T.on then n + 1 else n) (if T.on then u + nb l.length else u) ∧ Only (fun x => x = b ∨ x = g ∨ x = sb) w w' := by
  have hC1 := nb_pos hg.1
  have hlen1 : 1 ≤ s.cs.length := by unfold hS at hu; omega
  have HR : Hid (Calls Try.prog 36 #[v] w fun e w' => e = .returned (.bool true) ∧ w = w') := by
    have := right_any v l w hv.rb (by omega); rw [decide_eq_true hg] at this; exact this.mono fun e w2 hq => ⟨hq.1, hq.2.symm⟩
  have HB : Hid (Calls Try.prog 37 #[v] w fun e w' => e = .returned (.int .i64 (nb l.length : Nat)) ∧ w = w') := (blocks_any v l w hv.rb (by omega)).mono fun e w2 hq => ⟨hq.1, hq.2.symm⟩
  have HM : Hid (Calls Try.prog 21 #[.pointer (some ⟨sb, 0, none⟩)] w fun e w' => e = .returned (.int .i64 (hS s.cs - u : Nat)) ∧ Below w.heap.size w w') := (room_any sb b G Hh n u g s w hs h hlen1 (by omega)).mono fun e w2 hq => ⟨hq.1, hq.2.below⟩
  have HA : Hid (∀ w', Below w.heap.size w w' → Calls Try.prog 38 #[.pointer (some ⟨sb, 0, none⟩), v] w' fun e w2 => ∃ T, T = layD s (1 + Hh * hS s.cs + u) G n (nb l.length) l (nb l.length) ∧ e = .returned (.int .i64 (pwE T.on)) ∧ IsD w2 b g T ∧ IsS w2 sb b G Hh (if T.on then n + 1 else n) (if T.on then u + nb l.length else u) ∧ Only (fun x => x = b ∨ x = g ∨ x = sb) w' w2) := fun w' hw => add_pw sb b G Hh n u g s K v l w' (hs.below hw) (h.below hw) hok hK (hv.below hw) hg hG hn hh hu
  obtain ⟨T, hT⟩ : ∃ T, layD s (1 + Hh * hS s.cs + u) G n (nb l.length) l (nb l.length) = T := ⟨_, rfl⟩
  rw [hT] at HA ⊢
  obtain ⟨N, hN⟩ : ∃ N, hS s.cs - u = N := ⟨_, rfl⟩
  obtain ⟨C, hC⟩ : ∃ C, nb l.length = C := ⟨_, rfl⟩
  have hlt : ¬ N < C := by omega
  rw [hN] at HM
  rw [hC] at HB HA ⊢
  clear hs h hv hN hC hu hT hok
  go_enter Try.func8, Try.ntmps8
  go_wp2_with (first
    | (go_at_call 36; refine HR.out.mono ?_; rintro e w1 ⟨rfl, rfl⟩)
    | (go_at_call 37; refine HB.out.mono ?_; rintro e w2 ⟨rfl, rfl⟩)
    | (go_at_call 21; refine HM.out.mono ?_; rintro e w3 ⟨rfl, hb3⟩)
    | (go_at_call 38; refine (HA.out _ hb3).mono ?_; rintro e w4 ⟨T4, hT4, rfl, hD4, hS4, hO4⟩))
  go_ret
  exact ⟨T4, hT4, by rw [hT4]; rfl, hD4, hS4, (Only.of hb3).trans hO4⟩

/-- records laid one behind the other -/
def tot (ls : List (List Int)) : Nat := (ls.map fun l => nb l.length).sum
def laysD (s : Dsk) (A G : Nat) : Nat → Nat → List (List Int) → Dsk
  | _, _, [] => s
  | n, u, l :: ls => laysD (layD s (A + u) G n (nb l.length) l (nb l.length)) A G (n + 1) (u + nb l.length) ls
theorem tot_nil : tot [] = 0 := rfl
theorem tot_snoc (ls : List (List Int)) (l : List Int) : tot (ls ++ [l]) = tot ls + nb l.length := by unfold tot; simp
theorem laysD_snoc (s : Dsk) (A G n u : Nat) (ls : List (List Int)) (l : List Int) : laysD s A G n u (ls ++ [l]) = layD (laysD s A G n u ls) (A + (u + tot ls)) G (n + ls.length) (nb l.length) l (nb l.length) := by
  induction ls generalizing s n u with
  | nil => rfl
  | cons a ls ih =>
    rw [List.cons_append]
    unfold laysD
    rw [ih]
    have e1 : u + nb a.length + tot ls = u + tot (a :: ls) := by unfold tot; simp; omega
    have e2 : n + 1 + ls.length = n + (a :: ls).length := by rw [List.length_cons]; omega
    rw [e1, e2]
theorem laysD_len (s : Dsk) (A G n u : Nat) (ls : List (List Int)) : (laysD s A G n u ls).cs.length = s.cs.length := by
  induction ls generalizing s n u with
  | nil => rfl
  | cons a ls ih => unfold laysD; rw [ih, layD_len]
theorem laysD_ok {s : Dsk} {K : Int} (h : s.ok K) (A G n u : Nat) (ls : List (List Int)) : (laysD s A G n u ls).ok (K + tot ls) := by
  induction ls generalizing s n u K with
  | nil => exact h.le (by rw [tot_nil]; omega)
  | cons a ls ih =>
    unfold laysD
    refine (ih (layD_ok h _ _ _ _ _ _) _ _).le ?_
    unfold tot; simp; omega
theorem layD_dead {s : Dsk} (h1 : s.on = false) (h2 : s.burns = false) (a g r c : Nat) (l : List Int) (m : Nat) : layD s a g r c l m = s := by
  induction m with
  | zero => rfl
  | succ m ih => unfold layD; rw [ih]; exact wr_dead h1 h2 _ _
theorem laysD_dead {s : Dsk} (h1 : s.on = false) (h2 : s.burns = false) (A G n u : Nat) (ls : List (List Int)) : laysD s A G n u ls = s := by
  induction ls generalizing n u with
  | nil => rfl
  | cons a ls ih => unfold laysD; rw [layD_dead h1 h2]; exact ih _ _
theorem laysD_app (s : Dsk) (A G n u : Nat) (ls ms : List (List Int)) : laysD s A G n u (ls ++ ms) = laysD (laysD s A G n u ls) A G (n + ls.length) (u + tot ls) ms := by
  induction ls generalizing s n u with
  | nil => rfl
  | cons a ls ih =>
    rw [List.cons_append]
    show laysD _ A G (n + 1) (u + nb a.length) (ls ++ ms) = _
    rw [ih]
    have e1 : u + nb a.length + tot ls = u + tot (a :: ls) := by unfold tot; simp; omega
    have e2 : n + 1 + ls.length = n + (a :: ls).length := by rw [List.length_cons]; omega
    rw [e1, e2]
    rfl
theorem laysD_stop {s : Dsk} {K : Int} (h : s.ok K) (A G : Nat) (ls : List (List Int)) (i : Nat) (hi : (laysD s A G 0 0 (ls.take i)).on = false) : laysD s A G 0 0 ls = laysD s A G 0 0 (ls.take i) := by
  have hd := (laysD_ok h A G 0 0 (ls.take i)).dead hi
  conv => lhs; rw [← List.take_append_drop i ls]
  rw [laysD_app]
  exact laysD_dead hi hd _ _ _ _ _
theorem Only.thru {S T : Nat → Prop} {w w' w'' : World} (h : Only S w w') (k : Only T w' w'') (hT : ∀ x, T x → S x ∨ w.heap.size ≤ x) : Only S w w'' :=
  ⟨k.os.trans h.os, k.tape.trans h.tape, k.output.trans h.output, Nat.le_trans h.size k.size, fun i hi hs => (k.block i (Nat.lt_of_lt_of_le hi h.size) (fun ht => (hT i ht).elim hs (fun e => by omega))).trans (h.block i hi hs)⟩
theorem take_snoc' {ls : List (List Int)} {k : Nat} {l : List Int} (h : ls[k]? = some l) : ls.take (k + 1) = ls.take k ++ [l] := by rw [List.take_add_one, h]; rfl
theorem tot_take {ls : List (List Int)} {k : Nat} {l : List Int} (h : ls[k]? = some l) : tot (ls.take (k + 1)) = tot (ls.take k) + nb l.length := by rw [take_snoc' h, tot_snoc]
theorem tot_le (ls : List (List Int)) (k : Nat) : tot (ls.take k) ≤ tot ls := by
  have : tot ls = tot (ls.take k) + tot (ls.drop k) := by
    conv => lhs; rw [← List.take_append_drop k ls]
    unfold tot; rw [List.map_append, List.sum_append]
  omega
end
end Go.Proofs.Ytajgaialnafdbaa
