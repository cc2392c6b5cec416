/- The contract of the document's Copy. -/
import Derived.Test.YtfomnnlilmahhaaRfR
namespace Go.Proofs.Ytfomnnlilmahhaa
open Go.RowKit

/-- append of nothing, as one step of a region that draws -/
theorem step_append_none {P : Program} {w : World} {ops : Array Oper} {o : Oper} {a : Act} {K : Act → World → Prop} {Q : Exit → Act → World → Prop} {E : Prop} (hgd : o.guard = none) (s x : Operand) (t : TypeId)
    (ho : o.op = .call { callee := .builtin .append, args := #[s, x], argTypes := #[t, t] })
    (base : Nat) (e : TypeId) (i : TypeInfo) (size : Nat) (ht : P.underlying t = some (.slice e)) (hi : P.info? e = some i)
    (v : Value) (n : Nat) (xs : List Value) (hs : a.eval s = v) (hown : w.ownsRow base e size v n xs) (hx : a.eval x = .slice none 0 0)
    (h : K (a.put o.dst v) w) : if Region.wanted o (yielded ops a.tmps) = true then Oper.wp P o a w K Q else E := by
  have hw : Region.wanted o (yielded ops a.tmps) = true := by simp [Region.wanted, hgd]
  rw [if_pos hw]
  have hrun := run_append_owned_none (P := P) (w := w) base t o.type e i size ht hi v n xs hown
  unfold Oper.wp
  simp [execOp, ho, resolve, invoke, builtin, hs, hx, hrun, Result.andThen]
  exact h

theorem wcells_one (did : List (Nat × Value × List Int)) (h : ∀ p ∈ did, ∃ a n c, p.2.1 = .slice a n c) : ∀ u ∈ wcells did, u.oneCell' = true := by
  intro u hu
  obtain ⟨p, hp, hu⟩ := List.mem_flatMap.1 hu
  obtain ⟨a, n, c, e⟩ := h p hp
  rw [e] at hu
  simp at hu
  rcases hu with rfl | rfl <;> rfl
theorem OwnB.slice {w : World} {base : Nat} {v : Value} {l : List Int} (h : OwnB w base v l) : ∃ a n c, v = .slice a n c := by
  rcases h.form with ⟨rfl, _⟩ | ⟨g, cap, rfl, _⟩
  · exact ⟨_, _, _, rfl⟩
  · exact ⟨_, _, _, rfl⟩

/-- behind the list's copy -/
theorem rcopied {w w1 : World} {r : Nat} {R : Rf} {v' : Value} (h : IsR w r R) (b1 : Below w.heap.size w w1) (hown : w1.ownsRow 0 71 2 v' R.did.length (wcells R.did)) (hv' : ∀ q, v'.ownBlock = some q → w.heap.size ≤ q) (o : Obj)
    (ho : o = .cells #[.int .i64 R.n, v', .bool R.lit, .int .i64 R.fz] 51) :
    w.heap.size ≤ w1.heap.size ∧ IsR (w1.alloc o) w1.heap.size { R with v := v' } ∧ (∀ q, v'.ownBlock = some q → w.heap.size ≤ q) ∧ Below w.heap.size w (w1.alloc o) := by
  have h1 := h.below b1
  have hb : Below w1.heap.size w1 (w1.alloc o) := (Below.refl _ _).alloc (Nat.le_refl _) o
  refine ⟨b1.size, ⟨?_, ?_, ?_⟩, hv', chainB b1 hb⟩
  · rw [heap_new, ho]
  · exact owns_moved hown fun k hk => hb.block k (Tag.own hown hk).lt
  · exact fun p hp => ⟨(h1.each p hp).1.below hb, (h1.each p hp).2⟩

/-- what the loads of Copy read -/
theorem hold_start {w : World} {r : Nat} {a b c d : Value} (h0 : w.cell? ⟨r, 0, none⟩ = some a) (h1 : w.cell? ⟨r, 1, none⟩ = some b) (h2 : w.cell? ⟨r, 2, none⟩ = some c) (h3 : w.cell? ⟨r, 3, none⟩ = some d) :
    w.drew.cell? ⟨r, 0, none⟩ = some a ∧ w.drew.cell? ⟨r, 1, none⟩ = some b ∧ w.drew.cell? ⟨r, 2, none⟩ = some c ∧ w.drew.cell? ⟨r, 3, none⟩ = some d ∧ Below w.heap.size w w.drew := ⟨h0, h1, h2, h3, (Below.refl _ _).drew⟩
theorem hold_keep {w W W' : World} {r : Nat} {a b c d : Value} (hr : r < w.heap.size) (h : W.cell? ⟨r, 0, none⟩ = some a ∧ W.cell? ⟨r, 1, none⟩ = some b ∧ W.cell? ⟨r, 2, none⟩ = some c ∧ W.cell? ⟨r, 3, none⟩ = some d ∧ Below w.heap.size w W) (hb : Below W.heap.size W W') :
    W'.cell? ⟨r, 0, none⟩ = some a ∧ W'.cell? ⟨r, 1, none⟩ = some b ∧ W'.cell? ⟨r, 2, none⟩ = some c ∧ W'.cell? ⟨r, 3, none⟩ = some d ∧ Below w.heap.size w W' := by
  have := h.2.2.2.2.size
  exact ⟨(hb.cell (p := ⟨r, 0, none⟩) (Nat.lt_of_lt_of_le hr this)).trans h.1, (hb.cell (p := ⟨r, 1, none⟩) (Nat.lt_of_lt_of_le hr this)).trans h.2.1, (hb.cell (p := ⟨r, 2, none⟩) (Nat.lt_of_lt_of_le hr this)).trans h.2.2.1, (hb.cell (p := ⟨r, 3, none⟩) (Nat.lt_of_lt_of_le hr this)).trans h.2.2.2.1, chainB h.2.2.2.2 hb⟩
theorem below_alloc (w : World) (o : Obj) : Below w.heap.size w (w.alloc o) := (Below.refl _ _).alloc (Nat.le_refl _) o

theorem IsR.drew {w : World} {r : Nat} {R : Rf} (h : IsR w r R) : IsR w.drew r R := h.moved rfl (fun _ _ => rfl) (fun _ _ => rfl)
theorem owns_slice {w : World} {base : Nat} {e : TypeId} {size : Nat} {v : Value} {n : Nat} {xs : List Value} (h : w.ownsRow base e size v n xs) : ∃ a n c, v = .slice a n c := by
  rcases h.2 with ⟨rfl, _⟩ | ⟨g, cap, cur, rfl, _⟩
  · exact ⟨_, _, _, rfl⟩
  · exact ⟨_, _, _, rfl⟩
theorem rcopied_at {w w1 : World} {r Ln : Nat} {R : Rf} {v' : Value} (h : IsR w r R) (hL : R.did.length = Ln) (b1 : Below w.drew.heap.size w.drew w1) (hown : w1.ownsRow 0 71 2 v' (0 + Ln) ([] ++ wcells R.did)) (hat : v'.ownBlock = (Value.slice none 0 0).ownBlock ∨ v'.ownBlock = some w.drew.heap.size) (o : Obj)
    (ho : o = .cells #[.int .i64 R.n, v', .bool R.lit, .int .i64 R.fz] 51) :
    w.heap.size ≤ w1.heap.size ∧ IsR (w1.alloc o) w1.heap.size { R with v := v' } ∧ (∀ q, v'.ownBlock = some q → w.heap.size ≤ q) ∧ Below w.heap.size w (w1.alloc o) := by
  have b1' : Below w.heap.size w w1 := ⟨b1.os, b1.tape, b1.output, b1.size, b1.block⟩
  rw [Nat.zero_add, List.nil_append, ← hL] at hown
  refine rcopied h b1' hown (fun q hq => ?_) o ho
  rcases hat with e | e
  · rw [e] at hq; cases hq
  · rw [e] at hq; exact Nat.le_of_eq (Option.some.inj hq)

set_option maxHeartbeats 8000000 in
theorem rcopy_any (r : Nat) (R : Rf) (w : World) (h : IsR w r R) (hbig : R.did.length * 32 ≤ 140737488355328) :
    Calls Try.prog 26 #[.pointer (some ⟨r, 0, none⟩)] w fun e w' => ∃ r' v', e = .returned (.pointer (some ⟨r', 0, none⟩)) ∧ w.heap.size ≤ r' ∧ IsR w' r' { R with v := v' } ∧ (∀ q, v'.ownBlock = some q → w.heap.size ≤ q) ∧ Below w.heap.size w w' := by
  obtain ⟨c0, c1, c2, c3, _⟩ := h.cells
  obtain ⟨i1, hi1, hw0, hw1, hw2⟩ := info_parts Try.infoW
  have hlr := h.tr.lt
  have H : Hid (IsR w r R) := h
  have hone := wcells_one R.did (fun p hp => (h.each p hp).1.slice)
  have HO : Hid (∀ u ∈ wcells R.did, u.oneCell' = true) := hone
  rcases h.row.2 with ⟨ev, en⟩ | ⟨gv, cap, cur, ev, _, hh, r1, r2, r3, r4⟩
  · rw [ev] at c1
    have HN : Hid (R.did.length = 0 ∧ wcells R.did = []) := ⟨en, List.length_eq_zero_iff.1 (by rw [wcells_len, en])⟩
    clear h hone ev en hbig
    go_enter Try.func26, Try.ntmps26
    go_upto_region 1 with fail
    go_region_held3 (fun w' => w'.cell? ⟨r, 0, none⟩ = some (.int .i64 R.n) ∧ w'.cell? ⟨r, 1, none⟩ = some (.slice none 0 0) ∧ w'.cell? ⟨r, 2, none⟩ = some (.bool R.lit) ∧ w'.cell? ⟨r, 3, none⟩ = some (.int .i64 R.fz) ∧ Below w.heap.size w w')
      (first | exact hold_start c0 c1 c2 c3 | exact hold_keep hlr (by assumption) (below_alloc _ _) | assumption)
      (refine step_append_none rfl (.const (.slice none 0 0)) (.tmp 10) 49 rfl 0 71 i1 2 Try.underlying49 hi1 _ 0 [] rfl (World.ownsRow_nil _ _ _ _) (by first | (simp [Act.eval]; done) | (simp [Act.eval, Act.put]; done)) ?_)
    have hE := rcopied H.out (Below.refl _ _) (v' := .slice none 0 0) (by rw [HN.out.1, HN.out.2]; exact World.ownsRow_nil _ _ _ _) (fun q e => by cases e) _ rfl
    go_wp2
    go_ret
    exact ⟨_, _, rfl, hE.1, hE.2.1.drew, hE.2.2.1, hE.2.2.2.drew⟩
  · rw [ev] at c1
    have hlv : gv < w.heap.size := (Array.getElem?_eq_some_iff.1 hh).1
    have HS : Hid (∀ W, Below w.heap.size w W → ∀ j u, (wcells R.did)[j]? = some u → W.cell? ((⟨gv, 0, none⟩ : Addr).add j) = some u) := by
      intro W hb j u hu
      rw [add_plain', Nat.zero_add, hb.cell (p := ⟨gv, j, none⟩) hlv, cell_of hh, ← Array.getElem?_toList]
      have hj : j < (wcells R.did).length := (List.getElem?_eq_some_iff.1 hu).1
      rw [← r4, List.getElem?_take] at hu
      rw [wcells_len] at hj
      rw [if_pos hj] at hu
      exact hu
    have hwl := wcells_len R.did
    obtain ⟨Ln, hLn⟩ : ∃ Ln, R.did.length = Ln := ⟨_, rfl⟩
    rw [hLn] at hwl hbig c1
    have HL : Hid (R.did.length = Ln ∧ (wcells R.did).length = Ln * 2) := ⟨hLn, hwl⟩
    clear h hone ev hh r1 r2 r3 r4 hwl hLn
    go_enter Try.func26, Try.ntmps26
    go_upto_region 1 with fail
    go_region_held3 (fun w' => w'.cell? ⟨r, 0, none⟩ = some (.int .i64 R.n) ∧ w'.cell? ⟨r, 1, none⟩ = some (.slice (some ⟨gv, 0, none⟩) Ln cap) ∧ w'.cell? ⟨r, 2, none⟩ = some (.bool R.lit) ∧ w'.cell? ⟨r, 3, none⟩ = some (.int .i64 R.fz) ∧ Below w.heap.size w w')
      (first | exact hold_start c0 c1 c2 c3 | exact hold_keep hlr (by assumption) (below_alloc _ _) | exact hold_keep hlr (hold_start c0 c1 c2 c3) hb1 | assumption)
      (first | (refine step_append_own_at rfl (.const (.slice none 0 0)) (.tmp 10) 49 rfl 0 71 i1 (.agg #[.int .i64 0, .slice none 0 0]) 2 32 Try.underlying49 hi1 hw0 hw1 hw2 rfl (by decide) _ 0 [] rfl (World.ownsRow_nil _ _ _ _) ⟨gv, 0, none⟩ Ln cap (wcells R.did) (by first | (simp [Act.eval]; done) | (simp [Act.eval, Act.put]; done)) HL.out.2 (by exact HS.out _ (Below.refl _ _).drew) HO.out (by unfold maxLen; omega) (by omega) (Nat.zero_le _) ?_; intro v' w1 hown hgrow hat; have hb1 := below_grown (w := w.drew) hgrow; obtain ⟨av, nv, cv, rfl⟩ := owns_slice hown))
    have hE := rcopied_at H.out HL.out.1 hb1 hown hat _ rfl
    go_wp2
    go_ret
    exact ⟨_, _, rfl, hE.1, hE.2.1, hE.2.2.1, hE.2.2.2⟩
end Go.Proofs.Ytfomnnlilmahhaa
