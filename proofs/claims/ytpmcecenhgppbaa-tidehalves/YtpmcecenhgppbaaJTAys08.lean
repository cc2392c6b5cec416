/- What is fresh: later, names. -/
import Derived.Test.YtpmcecenhgppbaaJTAys07
namespace Go.Proofs.Ytpmcecenhgppbaa
section
open Go.RowKit Go.Shelf
attribute [local go_sem ↓ high] loadMsg storeMsg
attribute [local go_sem high] run_store_complex

theorem later_p (t B : Nat) (s : Td) (re im : Nat) (w : World) (h : IsT w B t s) : Calls Try.prog 61 #[.pointer (some ⟨t, 5, none⟩), .complex .f64 re im] w fun e w' => e = .returned (.bool (laterB s.la s.lb re im)) ∧ w' = w := by
  obtain ⟨-, -, -, -, -, c5, -, -, -, -, -⟩ := h.cells
  clear h
  go_enter Try.func61, Try.ntmps61
  go_wp2_with (go_at_call 68; refine (later_any _ _ _ _ _).mono ?_; rintro e w' ⟨rfl, rfl⟩)
  go_ret
  exact ⟨rfl, rfl⟩
theorem MapAt.look {w : World} {B : Nat} {kv : Option Nat} {ml : Ml} (h : KvAt w B kv ml) (k : Ky) : (Instr.lookup 64 (.map kv) k.agg false).run Try.prog w = .ok (.complex .f64 (mlook ml k).1 (mlook ml k).2) w := by
  apply lookM
  cases kv with
  | none => exact h
  | some g => exact h.1
theorem KvAt.drewN {w : World} {B : Nat} {kv : Option Nat} {ml : Ml} (h : KvAt w B kv ml) (n : Nat) : KvAt (w.drewN n) B kv ml := h.moved fun g _ => (below_drewN (Below.refl w.heap.size w) n).block g (by
  rename_i e
  exact (h.some' e).1.lt)
set_option maxHeartbeats 2000000 in
theorem names_p (t B : Nat) (s : Td) (k : Ky) (re im : Nat) (w : World) (h : IsT w B t s) : Calls Try.prog 62 #[.pointer (some ⟨t, 5, none⟩), .agg #[.int .i64 k.d, .string k.nm], .complex .f64 re im] w fun e w' => e = .returned (.bool (laterB s.fa s.fb re im || (laterB (mlook s.ml k).1 (mlook s.ml k).2 re im || laterB (mlook s.ml (bare k)).1 (mlook s.ml (bare k)).2 re im))) ∧ Below w.heap.size w w' := by
  obtain ⟨W, hW⟩ : ∃ W, w.alloc (.cells #[.int .i64 k.d, .string k.nm] 53) = W := ⟨_, rfl⟩
  have bx := boxB hW
  obtain ⟨-, -, -, -, -, -, c6, c7, -, -, -⟩ := (h.below bx.2).cells
  have k0 : W.cell? ⟨w.heap.size, 0, none⟩ = some (.int .i64 k.d) := by rw [cell_of bx.1]; rfl
  have k1 : W.cell? ⟨w.heap.size, 1, none⟩ = some (.string k.nm) := by rw [cell_of bx.1]; rfl
  have hl1 : ∀ n, (Instr.lookup 64 (.map s.kv) (.agg #[.int .i64 k.d, .string k.nm]) false).run Try.prog (W.drewN n) = .ok (.complex .f64 (mlook s.ml k).1 (mlook s.ml k).2) (W.drewN n) := fun n => MapAt.look ((h.below bx.2).map.drewN n) k
  have hl2 : ∀ n, (Instr.lookup 64 (.map s.kv) (.agg #[.int .i64 k.d, .string ⟨#[]⟩]) false).run Try.prog (W.drewN n) = .ok (.complex .f64 (mlook s.ml (bare k)).1 (mlook s.ml (bare k)).2) (W.drewN n) := fun n => MapAt.look ((h.below bx.2).map.drewN n) (bare k)
  obtain ⟨x1, hx1⟩ : ∃ x, (mlook s.ml k).1 = x := ⟨_, rfl⟩
  obtain ⟨y1, hy1⟩ : ∃ x, (mlook s.ml k).2 = x := ⟨_, rfl⟩
  obtain ⟨x2, hx2⟩ : ∃ x, (mlook s.ml (bare k)).1 = x := ⟨_, rfl⟩
  obtain ⟨y2, hy2⟩ : ∃ x, (mlook s.ml (bare k)).2 = x := ⟨_, rfl⟩
  rw [hx1, hy1] at hl1
  rw [hx2, hy2] at hl2
  rw [hx1, hy1, hx2, hy2]
  have HB : Hid (Below w.heap.size w W) := bx.2
  obtain ⟨fa, hfa⟩ : ∃ x, s.fa = x := ⟨_, rfl⟩
  obtain ⟨fb, hfb⟩ : ∃ x, s.fb = x := ⟨_, rfl⟩
  rw [hfa, hfb] at c6 ⊢
  have HL : Hid (∀ a b W, Calls Try.prog 68 #[.complex .f64 a b, .complex .f64 re im] W fun e w' => e = .returned (.bool (laterB a b re im)) ∧ w' = W) := fun a b W => later_any a b re im W
  have H1 := HL.out fa fb
  have H2 := HL.out x1 y1
  have H3 := HL.out x2 y2
  clear h bx hx1 hx2 hy1 hy2 hfa hfb HL
  cases h1 : laterB fa fb re im with
  | true =>
    rw [Bool.true_or]
    rw [h1] at H1
    clear H2 H3 h1
    go_enter Try.func62, Try.ntmps62
    go_upto_region 1 with fail
    clear hW
    go_quiet ((go_at_call 68; exact Calls.quiet_of_same (H1 _)))
    go_wp2
    go_ret
    exact ⟨rfl, below_drewN HB.out _⟩
  | false =>
    rw [Bool.false_or]
    rw [h1] at H1
    clear h1
    cases h2 : laterB x1 y1 re im with
    | true =>
      rw [Bool.true_or]
      rw [h2] at H2
      clear H3 h2
      go_enter Try.func62, Try.ntmps62
      go_upto_region 1 with fail
      clear hW
      go_quiet ((first | (go_at_call_of 68 (Value.complex .f64 fa fb); exact Calls.quiet_of_same (H1 _)) | (go_at_call_of 68 (Value.complex .f64 x1 y1); exact Calls.quiet_of_same (H2 _))))
      go_wp2
      go_ret
      exact ⟨rfl, below_drewN HB.out _⟩
    | false =>
      rw [Bool.false_or]
      rw [h2] at H2
      clear h2
      generalize laterB x2 y2 re im = b3 at H3 ⊢
      go_enter Try.func62, Try.ntmps62
      go_upto_region 1 with fail
      clear hW
      go_quiet ((first | (go_at_call_of 68 (Value.complex .f64 fa fb); exact Calls.quiet_of_same (H1 _)) | (go_at_call_of 68 (Value.complex .f64 x1 y1); exact Calls.quiet_of_same (H2 _)) | (go_at_call_of 68 (Value.complex .f64 x2 y2); exact Calls.quiet_of_same (H3 _))))
      go_wp2
      go_ret
      exact ⟨rfl, below_drewN HB.out _⟩
end
section
open Go.RowKit Go.Shelf
attribute [local go_sem ↓ high] loadMsg storeMsg
attribute [local go_sem high] run_store_complex

def mputs (ml : Ml) (ks : List Ky) (a b : Nat) : Ml := ks.foldl (fun m k => mput m k a b) ml
theorem mputs_snoc (ml : Ml) (ks : List Ky) (k : Ky) (a b : Nat) : mputs ml (ks ++ [k]) a b = mput (mputs ml ks a b) k a b := by unfold mputs; rw [List.foldl_append]; rfl
theorem mlook_puts (ml : Ml) (a b : Nat) (x : Ky) : ∀ (ks : List Ky), mlook (mputs ml ks a b) x = if inK ks x then (a, b) else mlook ml x := by
  refine snocInd rfl fun l k ih => ?_
  rw [mputs_snoc, mlook_put, ih]
  have : inK (l ++ [k]) x = (inK l x || eqKy k x) := by unfold inK; simp
  rw [this]
  cases inK l x <;> cases eqKy k x <;> rfl
/-- a break that is fresh now -/
theorem IsF.add {e : Int} {fr : List Fb} {la lb fa fb : Nat} {ml : Ml} (h : IsF e fr la lb fa fb ml) {re im : Nat} {n : Int} (k : Mk re im e n) (hn : 0 < n) (ks : List Ky) : IsF e (fr ++ [⟨n, false, ks⟩]) re im fa fb (mputs ml ks re im) := by
  refine ⟨?_, ?_, fun x => ?_⟩
  · rw [laN_snoc]; exact .inr ⟨hn, k⟩
  · rw [flN_snoc]; exact h.flush
  · rw [kN_snoc, mlook_puts]
    cases hx : inK ks x
    · simp; exact h.keys x
    · simp; exact .inr ⟨hn, k⟩
theorem IsF.flushed {e : Int} {fr : List Fb} {re im : Nat} {n : Int} (k : Mk re im e n) (hn : 0 < n) (ks : List Ky) : IsF e (fr ++ [⟨n, true, ks⟩]) re im re im [] := by
  refine ⟨?_, ?_, fun x => ?_⟩
  · rw [laN_snoc]; exact .inr ⟨hn, k⟩
  · rw [flN_snoc]; exact .inr ⟨hn, k⟩
  · rw [kN_snoc]; exact .inl ⟨rfl, rfl, rfl⟩
/-- a store into a map, as one step of a region that draws -/
theorem step_mapUpdate {P : Program} {w : World} {ops : Array Oper} {o : Oper} {a : Act} {K : Act → World → Prop} {Q : Exit → Act → World → Prop} {E : Prop} (hgd : o.guard = none) (m k x : Operand) (t : TypeId)
    (ho : o.op = .mapUpdate t m k x) (mv kv xv : Value) (hm : a.eval m = mv) (hk : a.eval k = kv) (hx : a.eval x = xv) (W : World) (hr : (Instr.mapUpdate t mv kv xv).run P w = .ok () W)
    (h : K (a.put o.dst undef) W) :
    if Region.wanted o (yielded ops a.tmps) = true then Oper.wp P o a w K Q else E := by
  have hw : Region.wanted o (yielded ops a.tmps) = true := by simp [Region.wanted, hgd]
  rw [if_pos hw]
  unfold Oper.wp execOp
  simp [ho, hm, hk, hx, hr, Result.andThen]
  exact h
/-- the tide's block while something is added -/
theorem IsT.put {w : World} {B t : Nat} {s : Td} (h : IsT w B t s) (s' : Td) (W : World) (hh : W.heap[t]? = some (.cells s'.arr 68 (0, 0))) (ho : Only (· = t) w W) (ha : s'.a = s.a) (hb : Mk s'.a s'.b (part s'.a) (part s'.b)) (hv : s'.hv = s.hv) (hs : s'.hs = s.hs) (hd : s'.hold = s.hold) (hk : KvAt W B s'.kv s'.ml) (hf : IsF (part s'.a) s'.fr s'.la s'.lb s'.fa s'.fb s'.ml) (hfr : FrOk (part s'.b) s'.fr) (hask : 0 ≤ s'.asked) : IsT W B t s' := by
  have hne : ∀ k, Tag w k 45 ∨ Tag w k 57 ∨ Tag w k 53 → W.heap[k]? = w.heap[k]? := fun k e => by
    have hlt : k < w.heap.size := by rcases e with e | e | e <;> exact e.lt
    refine ho.block k hlt fun q => ?_
    subst q
    rcases e with e | e | e
    · exact h.tt.two (by decide) e
    · exact h.tt.two (by decide) e
    · exact h.tt.two (by decide) e
  refine ⟨hh, h.bt, hb, ?_, fun m hm => ?_, hk, hf, hfr, hask, by rw [hs, hd]; exact h.lh, by rw [hd]; exact h.l8⟩
  · rw [hv, hs]; exact h.held.moved fun k e => hne k (.inl (h.held.tag e))
  · rw [hs] at hm
    rw [ha]
    exact ⟨(h.each m hm).1.moved fun q e => hne q (by
      rcases e with e | e
      · exact .inr (.inl (Tag.own (h.each m hm).1.es e))
      · exact .inr (.inr (Tag.own (h.each m hm).1.ks e))), (h.each m hm).2⟩
end
end Go.Proofs.Ytpmcecenhgppbaa
