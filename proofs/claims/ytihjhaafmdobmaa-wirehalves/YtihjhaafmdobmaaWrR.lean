/- The reader in memory: stop, octet. -/
import Derived.Test.YtihjhaafmdobmaaWrS
namespace Go.Proofs.Ytihjhaafmdobmaa
open Go.RowKit Go.Lib

/-- a slice that reads as these bytes, wherever it lies, with its room -/
def RC (w : World) (v : Value) (l : List Int) : Prop :=
  ∃ a cap, v = .slice a l.length cap ∧ l.length ≤ cap ∧ (l = [] ∨ ∃ g off, a = some ⟨g, off, none⟩ ∧ g < w.heap.size ∧ ∀ i x, l[i]? = some x → w.cell? ⟨g, off + i, none⟩ = some (.int .u8 x))
theorem OwnB.rc {w : World} {base : Nat} {v : Value} {l : List Int} (h : OwnB w base v l) : RC w v l := by
  rcases h.form with ⟨rfl, rfl⟩ | ⟨g, cap, rfl, _, hg, hc, hx, _⟩
  · exact ⟨_, _, rfl, Nat.le_refl _, .inl rfl⟩
  · exact ⟨_, _, rfl, hc, .inr ⟨g, 0, rfl, hg, fun i x hx' => by rw [Nat.zero_add]; exact hx i x hx'⟩⟩
theorem RC.below {w w' : World} {v : Value} {l : List Int} (h : RC w v l) (hb : Below w.heap.size w w') : RC w' v l := by
  obtain ⟨a, cap, rfl, hcap, h⟩ := h
  refine ⟨a, cap, rfl, hcap, ?_⟩
  rcases h with h | ⟨g, off, rfl, hg, hc⟩
  · exact .inl h
  · exact .inr ⟨g, off, rfl, Nat.lt_of_lt_of_le hg hb.size, fun i x hx => (hb.cell (p := ⟨g, off + i, none⟩) hg).trans (hc i x hx)⟩
theorem RC.rb {w : World} {v : Value} {l : List Int} (h : RC w v l) : RB w v l := by
  obtain ⟨a, cap, rfl, _, h⟩ := h
  exact ⟨a, cap, rfl, h⟩
/-- a reader, and what is left of its bytes -/
structure IsR (w : World) (r : Nat) (v : Value) (l : List Int) (s : St) (at_ : Nat) (st : Bool) : Prop where
  head : w.heap[r]? = some (.cells #[v, .int .i64 at_, .bool st] 120 (0, 0))
  state : (s = none ∧ st = true ∧ at_ = l.length) ∨ (s = some (l.drop at_) ∧ st = false ∧ at_ ≤ l.length)
  rb : RC w v l
  off : ∀ g off cap n, v = .slice (some ⟨g, off, none⟩) n cap → l ≠ [] → g ≠ r
  byt : Byt l
  lim : l.length ≤ 140737488355328
def Rg (w : World) (r : Nat) (v : Value) (l : List Int) (s : St) : Prop := ∃ a st, IsR w r v l s a st
theorem IsR.tt {w : World} {r : Nat} {v : Value} {l : List Int} {s : St} {a : Nat} {st : Bool} (h : IsR w r v l s a st) : Tag w r 120 := ⟨_, _, h.head⟩
theorem IsR.cells {w : World} {r : Nat} {v : Value} {l : List Int} {s : St} {a : Nat} {st : Bool} (h : IsR w r v l s a st) : w.cell? ⟨r, 0, none⟩ = some v ∧ w.cell? ⟨r, 1, none⟩ = some (.int .i64 a) ∧ w.cell? ⟨r, 2, none⟩ = some (.bool st) ∧ ∀ i, w.frozen? ⟨r, i, none⟩ = false :=
  ⟨by rw [cell_of h.head]; rfl, by rw [cell_of h.head]; rfl, by rw [cell_of h.head]; rfl, free_of h.head⟩
theorem RC.only {w w' : World} {v : Value} {l : List Int} {r : Nat} (h : RC w v l) (hO : Only (· = r) w w') (hoff : ∀ g off cap n, v = .slice (some ⟨g, off, none⟩) n cap → l ≠ [] → g ≠ r) : RC w' v l := by
  obtain ⟨a, cap, rfl, hcap, h⟩ := h
  refine ⟨a, cap, rfl, hcap, ?_⟩
  rcases h with h | ⟨g, off, rfl, hg, hc⟩
  · exact .inl h
  · by_cases h0 : l = []
    · exact .inl h0
    · have hgr := hoff g off cap _ rfl h0
      refine .inr ⟨g, off, rfl, Nat.lt_of_lt_of_le hg hO.size, fun i x hx => ?_⟩
      exact (World.cell?_of_block (hO.block g hg hgr)).trans (hc i x hx)
/-- its fields turned -/
theorem IsR.turn {w w' : World} {r : Nat} {v : Value} {l : List Int} {s s' : St} {a b : Nat} {st st' : Bool} (h : IsR w r v l s a st) (hh : w'.heap[r]? = some (.cells #[v, .int .i64 b, .bool st'] 120 (0, 0))) (hO : Only (· = r) w w') (hs : (s' = none ∧ st' = true ∧ b = l.length) ∨ (s' = some (l.drop b) ∧ st' = false ∧ b ≤ l.length)) : IsR w' r v l s' b st' :=
  ⟨hh, hs, h.rb.only hO h.off, h.off, h.byt, h.lim⟩
theorem IsR.below {w w' : World} {r : Nat} {v : Value} {l : List Int} {s : St} {a : Nat} {st : Bool} (h : IsR w r v l s a st) (hb : Below w.heap.size w w') : IsR w' r v l s a st :=
  ⟨(hb.block _ h.tt.lt).trans h.head, h.state, h.rb.below hb, h.off, h.byt, h.lim⟩
theorem Rg.below {w w' : World} {r : Nat} {v : Value} {l : List Int} {s : St} (h : Rg w r v l s) (hb : Below w.heap.size w w') : Rg w' r v l s := by obtain ⟨a, st, h⟩ := h; exact ⟨a, st, h.below hb⟩
/-- what a call of the reader's leaves -/
def Red (w w' : World) (r : Nat) (v : Value) (l : List Int) (s : St) : Prop := Rg w' r v l s ∧ Only (· = r) w w'
/-- the byte at its place -/
theorem IsR.byte {w : World} {r : Nat} {v : Value} {l : List Int} {x : Int} {rest : List Int} {a : Nat} {st : Bool} (h : IsR w r v l (some (x :: rest)) a st) : a < l.length ∧ l[a]? = some x ∧ l.drop (a + 1) = rest ∧ st = false ∧ ∃ g off cap, v = .slice (some ⟨g, off, none⟩) l.length cap ∧ w.cell? ⟨g, off + a, none⟩ = some (.int .u8 x) ∧ g ≠ r ∧ g < w.heap.size := by
  rcases h.state with ⟨e, _⟩ | ⟨e, hst, ha⟩
  · cases e
  · have e2 := Option.some.inj e
    have hlt : a < l.length := by
      rcases Nat.lt_or_ge a l.length with h | h
      · exact h
      · rw [List.drop_of_length_le h] at e2; cases e2
    have hx : l[a]? = some x := by
      have := congrArg (fun m => m[0]?) e2
      simp only [List.getElem?_cons_zero, List.getElem?_drop, Nat.add_zero] at this
      exact this.symm
    have hr : l.drop (a + 1) = rest := by
      have := congrArg List.tail e2
      rw [List.tail_drop] at this
      exact this.symm
    obtain ⟨ad, cap, hv, _, hc⟩ := h.rb
    rcases hc with h0 | ⟨g, off, rfl, hg, hc⟩
    · rw [h0] at hlt; simp at hlt
    · exact ⟨hlt, hx, hr, hst, g, off, cap, hv, hc a x hx, h.off g off cap _ hv (by intro h0; rw [h0] at hlt; simp at hlt), hg⟩
theorem IsR.end {w : World} {r : Nat} {v : Value} {l : List Int} {s : St} {a : Nat} {st : Bool} (h : IsR w r v l s a st) (hs : s = none ∨ s = some []) : a = l.length := by
  rcases h.state with ⟨_, _, e⟩ | ⟨e, _, ha⟩
  · exact e
  · rcases hs with hs | hs
    · rw [hs] at e; cases e
    · rw [hs] at e
      have e2 := Option.some.inj e
      have : (l.drop a).length = 0 := by rw [← e2]; rfl
      rw [List.length_drop] at this
      omega
set_option maxRecDepth 20000 in
set_option maxHeartbeats 4000000 in
theorem stop_r {w : World} {r : Nat} {v : Value} {l : List Int} {s : St} (h : Rg w r v l s) : Calls Try.prog 157 #[.pointer (some ⟨r, 0, none⟩)] w fun e w' => e = .returned (.tuple #[]) ∧ Hid (Red w w' r v l none) := by
  obtain ⟨a, st, h⟩ := h
  have H : Hid (IsR w r v l s a st) := h
  obtain ⟨c0, c1, c2, cf⟩ := h.cells
  obtain ⟨ad, cap, rfl, _, _⟩ := id h.rb
  clear h
  go_enter Try.func157, Try.ntmps157
  go_wp2
  go_end0
  have hh := heap_set (heap_set H.out.head 1 (.int .i64 (l.length : Nat))) 2 (.bool true)
  refine ⟨rfl, ⟨l.length, true, H.out.turn (hh.trans rfl) ?_ (.inl ⟨rfl, rfl, rfl⟩)⟩, ?_⟩
  · exact (only1 w r 1 _).trans (only1 _ r 2 _)
  · exact (only1 w r 1 _).trans (only1 _ r 2 _)
/-- what a call of the reader's answers -/
def RdR (w : World) (r : Nat) (v : Value) (l : List Int) (s : St) (x : Value) (e : Ending) (w' : World) : Prop := e = .returned x ∧ Hid (Red w w' r v l s)
set_option maxRecDepth 20000 in
set_option maxHeartbeats 4000000 in
theorem octet_r {w : World} {r : Nat} {v : Value} {l : List Int} {s : St} (h : Rg w r v l s) : Calls Try.prog 118 #[.pointer (some ⟨r, 0, none⟩)] w fun e w' => RdR w r v l (octP s).2 (.int .i64 (octP s).1) e w' := by
  obtain ⟨a, st, h⟩ := h
  have H : Hid (IsR w r v l s a st) := h
  obtain ⟨c0, c1, c2, cf⟩ := h.cells
  by_cases hs : s = none ∨ s = some []
  · have ha := h.end hs
    have HO : Hid (octP s = (0, none)) := by rcases hs with rfl | rfl <;> rfl
    have HS : Hid (∀ W, Below w.heap.size w W → Calls Try.prog 157 #[.pointer (some ⟨r, 0, none⟩)] W fun e w' => e = .returned (.tuple #[]) ∧ Hid (Red W w' r v l none)) := fun W hb => stop_r ⟨a, st, H.out.below hb⟩
    obtain ⟨ad, cap, rfl, _, _⟩ := id h.rb
    subst ha
    clear h hs
    go_enter Try.func118, Try.ntmps118
    go_wp2
    refine wp_scope_once 0 (by rfl) ?_
    go_upto_region 1 with fail
    go_quiet (fail)
    obtain ⟨W, hW⟩ : ∃ W, w.drewN nq = W := ⟨_, rfl⟩
    have hb : Below w.heap.size w W := by rw [← hW]; exact below_drewN (Below.refl _ _) _
    rw [hW]
    clear hW
    go_wp2
    go_step3
    refine fwd_goto (l := 0) ?_
    go_wp2_with (go_at_call 157; refine (HS.out _ hb).mono ?_; rintro e w1 ⟨rfl, h1⟩)
    rw [Exit.noGoto_ret]
    go_ret
    rw [HO.out]
    exact ⟨rfl, h1.out.1, (Only.of hb).trans h1.out.2⟩
  · obtain ⟨x, rest, rfl⟩ : ∃ x rest, s = some (x :: rest) := by
      match s, hs with
      | none, hs => exact absurd (.inl rfl) hs
      | some [], hs => exact absurd (.inr rfl) hs
      | some (x :: rest), _ => exact ⟨x, rest, rfl⟩
    obtain ⟨ha, hx, hrest, rfl, g, off, cap, rfl, hcx, hgr, hgl⟩ := h.byte
    have hne : ((a : Int) == (l.length : Int)) = false := by rw [beq_eq_false_iff_ne]; omega
    have hlim := h.lim
    have hwr : IntKind.i64.wrap ((a : Int) + 1) = (a : Int) + 1 := IntWalk.i64_in _ (by omega)
    have hwr2 : IntKind.i64.wrap ((a : Int) + 1 - 1) = (a : Int) := by rw [IntWalk.i64_in _ (by omega)]; omega
    have hai : (a : Int) < (l.length : Int) := by omega
    have hxb := h.byt x (List.mem_of_getElem? hx)
    have hxw : IntKind.i64.wrap x = x := IntWalk.i64_in _ (by omega)
    have HI : Hid (l.drop (a + 1) = rest ∧ a + 1 ≤ l.length) := ⟨hrest, by omega⟩
    obtain ⟨n, hn⟩ : ∃ n, l.length = n := ⟨_, rfl⟩
    rw [hn] at c0 ha hne hai H hlim ⊢
    clear h hs hx hrest hxb
    go_enter Try.func118, Try.ntmps118
    go_wp2
    refine wp_scope_once 0 (by rfl) ?_
    go_upto_region 1 with fail
    go_quiet (fail)
    obtain ⟨W, hW⟩ : ∃ W, w.drewN nq = W := ⟨_, rfl⟩
    have hb : Below w.heap.size w W := by rw [← hW]; exact below_drewN (Below.refl _ _) _
    rw [hW]
    have HB : Hid (Below w.heap.size w W) := hb
    have d0 := (hb.cell (cellLt c0)).trans c0
    have d1 := (hb.cell (cellLt c1)).trans c1
    have df : ∀ i, W.frozen? ⟨r, i, none⟩ = false := fun i => (hb.frozen (p := ⟨r, i, none⟩) (show r < w.heap.size from cellLt (p := ⟨r, 0, none⟩) c0)).trans (cf i)
    have dx := (hb.cell (cellLt hcx)).trans hcx
    clear hW hb c0 c1 c2 cf hcx
    have hH := (H.out.below HB.out).head
    go_upto_region 3 with fail
    obtain ⟨W2, hW2⟩ : ∃ W2, W.setCell ⟨r, 1, none⟩ (.int .i64 ((a : Int) + 1)) = W2 := ⟨_, rfl⟩
    have hO : Only (· = r) W W2 := by rw [← hW2]; exact only1 W r 1 _
    have hh : W2.heap[r]? = some (.cells #[.slice (some ⟨g, off, none⟩) n cap, .int .i64 ((a : Int) + 1), .bool false] 120 (0, 0)) := by rw [← hW2]; exact (heap_set hH 1 _).trans rfl
    have e0 := cell_of hh 0
    have e1 := cell_of hh 1
    simp at e0 e1
    have ex : W2.cell? ⟨g, off + a, none⟩ = some (.int .u8 x) := by rw [← hW2]; exact (World.cell?_of_block (heap_set_ne hgr)).trans dx
    rw [hW2]
    have HF : Hid (Only (· = r) w W2 ∧ W2.heap[r]? = some (.cells #[.slice (some ⟨g, off, none⟩) n cap, .int .i64 ((a + 1 : Nat) : Int), .bool false] 120 (0, 0))) := ⟨(Only.of HB.out).trans hO, by rw [hh]; simp⟩
    clear hW2 hO hh hH d0 d1 df dx
    go_quiet (fail)
    obtain ⟨W3, hW3⟩ : ∃ W3, W2.drewN nq = W3 := ⟨_, rfl⟩
    have hb3 : Below W2.heap.size W2 W3 := by rw [← hW3]; exact below_drewN (Below.refl _ _) _
    rw [hW3]
    clear hW3
    go_wp2
    refine fwd_ret ?_
    go_ret
    refine ⟨rfl, ⟨a + 1, false, ?_⟩, HF.out.1.trans (Only.of hb3)⟩
    have h1 := H.out.turn (s' := some rest) (b := a + 1) (st' := false) HF.out.2 HF.out.1 (.inr ⟨by rw [HI.out.1], rfl, HI.out.2⟩)
    exact h1.below hb3
end Go.Proofs.Ytihjhaafmdobmaa
