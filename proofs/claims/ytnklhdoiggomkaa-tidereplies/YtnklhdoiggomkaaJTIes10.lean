/- What is fresh: add. -/
import Derived.Test.YtnklhdoiggomkaaJTIes09
namespace Go.Proofs.Ytnklhdoiggomkaa
section
open Go.RowKit Go.Shelf
attribute [local go_sem ↓ high] loadMsg storeMsg
attribute [local go_sem high] run_store_complex

def mputs (ml : Ml) (ks : List Ky) (a b : Nat) : Ml := ks.foldl (fun m k => mput m k a b) ml
theorem mputs_snoc (ml : Ml) (ks : List Ky) (k : Ky) (a b : Nat) : mputs ml (ks ++ [k]) a b = mput (mputs ml ks a b) k a b := by unfold mputs; rw [List.foldl_append]; rfl
theorem mlook_puts (ml : Ml) (a b : Nat) (x : Ky) : ∀ (ks : List Ky), mlook (mputs ml ks a b) x = if inK ks x then (a, b) else mlook ml x := by
  refine snocInd rfl fun l k ih => ?_
  rw [mputs_snoc, mlook_put, ih]
  have : inK (l ++ [k]) x = (inK l x || eqKy k x) := by unfold inK; simp
  rw [this]
  cases inK l x <;> cases eqKy k x <;> rfl
/-- a break that is fresh now -/
theorem IsF.add {e : Int} {fr : List Fb} {la lb fa fb : Nat} {ml : Ml} (h : IsF e fr la lb fa fb ml) {re im : Nat} {n : Int} (k : Mk re im e n) (hn : 0 < n) (ks : List Ky) : IsF e (fr ++ [⟨n, false, ks⟩]) re im fa fb (mputs ml ks re im) := by
  refine ⟨?_, ?_, fun x => ?_⟩
  · rw [laN_snoc]; exact .inr ⟨hn, k⟩
  · rw [flN_snoc]; exact h.flush
  · rw [kN_snoc, mlook_puts]
    cases hx : inK ks x
    · simp; exact h.keys x
    · simp; exact .inr ⟨hn, k⟩
theorem IsF.flushed {e : Int} {fr : List Fb} {re im : Nat} {n : Int} (k : Mk re im e n) (hn : 0 < n) (ks : List Ky) : IsF e (fr ++ [⟨n, true, ks⟩]) re im re im [] := by
  refine ⟨?_, ?_, fun x => ?_⟩
  · rw [laN_snoc]; exact .inr ⟨hn, k⟩
  · rw [flN_snoc]; exact .inr ⟨hn, k⟩
  · rw [kN_snoc]; exact .inl ⟨rfl, rfl, rfl⟩
/-- a store into a map, as one step of a region that draws -/
theorem step_mapUpdate {P : Program} {w : World} {ops : Array Oper} {o : Oper} {a : Act} {K : Act → World → Prop} {Q : Exit → Act → World → Prop} {E : Prop} (hgd : o.guard = none) (m k x : Operand) (t : TypeId)
    (ho : o.op = .mapUpdate t m k x) (mv kv xv : Value) (hm : a.eval m = mv) (hk : a.eval k = kv) (hx : a.eval x = xv) (W : World) (hr : (Instr.mapUpdate t mv kv xv).run P w = .ok () W)
    (h : K (a.put o.dst undef) W) :
    if Region.wanted o (yielded ops a.tmps) = true then Oper.wp P o a w K Q else E := by
  have hw : Region.wanted o (yielded ops a.tmps) = true := by simp [Region.wanted, hgd]
  rw [if_pos hw]
  unfold Oper.wp execOp
  simp [ho, hm, hk, hx, hr, Result.andThen]
  exact h
/-- the tide's block while something is added -/
theorem IsT.put {w : World} {B t : Nat} {s : Td} (h : IsT w B t s) (s' : Td) (W : World) (hh : W.heap[t]? = some (.cells s'.arr 83 (0, 0))) (ho : Only (· = t) w W) (ha : s'.a = s.a) (hb : Mk s'.a s'.b (part s'.a) (part s'.b)) (hv : s'.hv = s.hv) (hs : s'.hs = s.hs) (hd : s'.hold = s.hold) (hk : KvAt W B s'.kv s'.ml) (hf : IsF (part s'.a) s'.fr s'.la s'.lb s'.fa s'.fb s'.ml) (hfr : FrOk (part s'.b) s'.fr) (hask : 0 ≤ s'.asked) : IsT W B t s' := by
  have hne : ∀ k, Tag w k 45 ∨ Tag w k 74 ∨ Tag w k 65 → W.heap[k]? = w.heap[k]? := fun k e => by
    have hlt : k < w.heap.size := by rcases e with e | e | e <;> exact e.lt
    refine ho.block k hlt fun q => ?_
    subst q
    rcases e with e | e | e
    · exact h.tt.two (by decide) e
    · exact h.tt.two (by decide) e
    · exact h.tt.two (by decide) e
  refine ⟨hh, h.bt, hb, ?_, fun m hm => ?_, hk, hf, hfr, hask, by rw [hs, hd]; exact h.lh, by rw [hd]; exact h.l8⟩
  · rw [hv, hs]; exact h.held.moved fun k e => hne k (.inl (h.held.tag e))
  · rw [hs] at hm
    rw [ha]
    exact ⟨(h.each m hm).1.moved fun q e => hne q (by
      rcases e with e | e
      · exact .inr (.inl (Tag.own (h.each m hm).1.es e))
      · exact .inr (.inr (Tag.own (h.each m hm).1.ks e))), (h.each m hm).2⟩
end
end Go.Proofs.Ytnklhdoiggomkaa
