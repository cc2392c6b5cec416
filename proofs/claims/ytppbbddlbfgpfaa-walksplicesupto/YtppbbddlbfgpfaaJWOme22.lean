/- Whole entries loaded and stored, shut; Get. -/
import Derived.Test.YtppbbddlbfgpfaaJWOme21
namespace Go.Proofs.Ytppbbddlbfgpfaa
section
open Go.RowKit

theorem size_of {t : TypeId} {n : Nat} (h : (Try.prog.info? t).map (·.size) = some n) (w : World) : (sizeOf t).run Try.prog w = .ok n w := by
  cases hq : Try.prog.info? t with
  | none => rw [hq] at h; cases h
  | some i =>
    rw [hq] at h
    have e : i.size = n := by simpa using h
    simp [sizeOf, typeInfo, hq, e]
theorem Try.sizeCa : (Try.prog.info? 77).map (·.size) = some 8 := by kernel_rfl
def cvals (x : En × Nat) : List Value := x.1.vals ++ [.int .i64 x.2]
theorem cvals_one (x : En × Nat) : ∀ v ∈ cvals x, v.oneCell' = true := by
  intro v hv
  simp [cvals, En.vals] at hv
  rcases hv with rfl | rfl | rfl | rfl | rfl | rfl | rfl | rfl <;> rfl
theorem enVals_one (e : En) : ∀ v ∈ e.vals, v.oneCell' = true := by
  intro v hv
  simp [En.vals] at hv
  rcases hv with rfl | rfl | rfl | rfl | rfl | rfl | rfl <;> rfl
/-- a whole entry loaded, stored -/
def enLd (v : Value) : Sem Value := Instr.loadAt 42 v
theorem loadEn (v : Value) : Instr.loadAt 42 v = enLd v := rfl
theorem enLd_at {w : World} {g o : Nat} {e : En} (h : Cells7 w g o e) : (enLd (.pointer (some ⟨g, o, none⟩))).run Try.prog w = .ok e.agg w := by
  have := run_loadAt_mid (P := Try.prog) w g o 42 e.vals _ (fun j v hv => by
    have hj : j < 7 := (List.getElem?_eq_some_iff.1 hv).1
    have : j = 0 ∨ j = 1 ∨ j = 2 ∨ j = 3 ∨ j = 4 ∨ j = 5 ∨ j = 6 := by omega
    rcases this with rfl | rfl | rfl | rfl | rfl | rfl | rfl <;> (simp [En.vals] at hv; subst hv; first | exact h.c0 | exact h.c1 | exact h.c2 | exact h.c3 | exact h.c4 | exact h.c5 | exact h.c6)) Try.underlying42 rfl Try.sizeE
  exact this
attribute [irreducible] enLd
def enSt (a v : Value) : Sem Unit := Instr.storeAt 42 a v
theorem storeEn (a v : Value) : Instr.storeAt 42 a v = enSt a v := rfl
theorem enSt_of {w W : World} {g : Nat} {old : Array Value} {t : TypeId} {e : En} (h : w.heap[g]? = some (.cells old t (0, 0))) (ho : old.size = 7) (hW : w.setRow g e.vals.toArray = W) : (enSt (.pointer (some ⟨g, 0, none⟩)) e.agg).run Try.prog w = .ok () W := by
  subst hW
  have h1 : e.vals.toArray.all (·.oneCell') = true := by rw [Array.all_eq_true']; intro v hv; exact enVals_one e v (by simpa using hv)
  have := run_storeVar_row w g t 42 old e.vals.toArray h Try.sizeE (by rw [ho]; rfl) h1
  unfold enSt Instr.storeAt Instr.sureAddr
  simp only [show e.agg = .agg e.vals.toArray from rfl]
  simpa using this
attribute [irreducible] enSt
def caLd (v : Value) : Sem Value := Instr.loadAt 77 v
theorem loadCa (v : Value) : Instr.loadAt 77 v = caLd v := rfl
theorem caLd_at {w : World} {g o : Nat} {x : En × Nat} (h : Cells7 w g o x.1) (h7 : w.cell? ⟨g, o + 7, none⟩ = some (.int .i64 x.2)) : (caLd (.pointer (some ⟨g, o, none⟩))).run Try.prog w = .ok (mvC x) w := by
  have := run_loadAt_mid (P := Try.prog) w g o 77 (cvals x) _ (fun j v hv => by
    have hj : j < 8 := (List.getElem?_eq_some_iff.1 hv).1
    have : j = 0 ∨ j = 1 ∨ j = 2 ∨ j = 3 ∨ j = 4 ∨ j = 5 ∨ j = 6 ∨ j = 7 := by omega
    rcases this with rfl | rfl | rfl | rfl | rfl | rfl | rfl | rfl <;> (simp [cvals, En.vals] at hv; subst hv; first | exact h.c0 | exact h.c1 | exact h.c2 | exact h.c3 | exact h.c4 | exact h.c5 | exact h.c6 | exact h7)) Try.underlying77 rfl Try.sizeCa
  exact this
attribute [irreducible] caLd
def caSt (a v : Value) : Sem Unit := Instr.storeAt 77 a v
theorem storeCa (a v : Value) : Instr.storeAt 77 a v = caSt a v := rfl
theorem caSt_of {w W : World} {g : Nat} {old : Array Value} {t : TypeId} {x : En × Nat} (h : w.heap[g]? = some (.cells old t (0, 0))) (ho : old.size = 8) (hW : w.setRow g (cvals x).toArray = W) : (caSt (.pointer (some ⟨g, 0, none⟩)) (mvC x)).run Try.prog w = .ok () W := by
  subst hW
  have h1 : (cvals x).toArray.all (·.oneCell') = true := by rw [Array.all_eq_true']; intro v hv; exact cvals_one x v (by simpa using hv)
  have := run_storeVar_row w g t 77 old (cvals x).toArray h Try.sizeCa (by rw [ho]; rfl) h1
  unfold caSt Instr.storeAt Instr.sureAddr
  simp only [show mvC x = .agg (cvals x).toArray from rfl]
  simpa using this
attribute [irreducible] caSt
theorem cells7_c {w : World} {g : Nat} {t : TypeId} {x : En × Nat} (h : w.heap[g]? = some (.cells (cvals x).toArray t (0, 0))) : Cells7 w g 0 x.1 ∧ w.cell? ⟨g, 7, none⟩ = some (.int .i64 x.2) :=
  ⟨⟨by rw [cell_of h]; rfl, by rw [cell_of h]; rfl, by rw [cell_of h]; rfl, by rw [cell_of h]; rfl, by rw [cell_of h]; rfl, by rw [cell_of h]; rfl, by rw [cell_of h]; rfl⟩, by rw [cell_of h]; rfl⟩
attribute [local go_sem ↓ high] loadEn storeEn loadCa storeCa

abbrev zeroes7 : Array Value := #[.int .i64 0, .string ⟨#[]⟩, .bool false, .int .i64 0, .int .i64 0, .int .i64 0, .string ⟨#[]⟩]
abbrev zeroes8 : Array Value := #[.int .i64 0, .string ⟨#[]⟩, .bool false, .int .i64 0, .int .i64 0, .int .i64 0, .string ⟨#[]⟩, .int .i64 0]
set_option maxHeartbeats 2000000 in
theorem get_p (p : Nat) (c : Pc) (k : Ky) (w : World) (h : IsC w p c) : Calls Try.prog 114 #[.pointer (some ⟨p, 0, none⟩), .agg #[.int .i64 k.d, .string k.nm]] w fun x w' => x = .returned (.tuple #[((mget (inn c.om k.d) k.nm).getD (zeroEn, 0)).1.agg, .bool (mget (inn c.om k.d) k.nm).isSome]) ∧ Below w.heap.size w w' := by
  obtain ⟨W1, hW1⟩ : ∃ W, w.alloc (.cells #[.int .i64 k.d, .string k.nm] 28) = W := ⟨_, rfl⟩
  have b1 := boxO hW1
  obtain ⟨W2, hW2⟩ : ∃ W, W1.alloc (.cells zeroes7 42) = W := ⟨_, rfl⟩
  have b2 := boxO hW2
  obtain ⟨W3, hW3⟩ : ∃ W, W2.alloc (.cells zeroes8 77) = W := ⟨_, rfl⟩
  have b3 := boxO hW3
  have h2 := (h.below b1.2.1).below b2.2.1
  obtain ⟨x, hx⟩ : ∃ x, (mget (inn c.om k.d) k.nm).getD (zeroEn, 0) = x := ⟨_, rfl⟩
  obtain ⟨b, hb⟩ : ∃ x, (mget (inn c.om k.d) k.nm).isSome = x := ⟨_, rfl⟩
  rw [hx, hb]
  obtain ⟨W4, hW4⟩ : ∃ W, W3.drew.setRow W2.heap.size (cvals x).toArray = W := ⟨_, rfl⟩
  have b4 : W4.heap[W2.heap.size]? = some (.cells (cvals x).toArray 77 (0, 0)) := by
    rw [← hW4]; exact setRow_heap _ _ _ _ _ _ b3.1
  have o4 : Only (· = W2.heap.size) W3 W4 := by rw [← hW4]; exact (Only.refl _ W3).drew.trans (onlyR _ _ _)
  obtain ⟨W5, hW5⟩ : ∃ W, W4.setRow W1.heap.size x.1.vals.toArray = W := ⟨_, rfl⟩
  have z4 : W4.heap[W1.heap.size]? = some (.cells zeroes7 42 (0, 0)) := (o4.block _ (by omega) (by omega)).trans ((b3.2.1.block _ (by omega)).trans b2.1)
  have b5 : W5.heap[W1.heap.size]? = some (.cells x.1.vals.toArray 42 (0, 0)) := by rw [← hW5]; exact setRow_heap _ _ _ _ _ _ z4
  have s1 : (caSt (.pointer (some ⟨W2.heap.size, 0, none⟩)) (mvC x)).run Try.prog W3.drew = .ok () W4 := caSt_of b3.1 rfl hW4
  have l1 : (enLd (.pointer (some ⟨W2.heap.size, 0, none⟩))).run Try.prog W4 = .ok x.1.agg W4 := enLd_at (cells7_c b4).1
  have s2 : (enSt (.pointer (some ⟨W1.heap.size, 0, none⟩)) x.1.agg).run Try.prog W4 = .ok () W5 := enSt_of z4 rfl hW5
  obtain ⟨gd, hgd⟩ : ∃ x, c.dir k.d = x := ⟨_, rfl⟩
  have kS : ∀ W, Below W2.heap.size W2 W → W.cell? ⟨p, 0, none⟩ = some (.map (some c.g0)) ∧ W.cell? ⟨w.heap.size, 0, none⟩ = some (.int .i64 k.d) ∧ W.cell? ⟨w.heap.size, 1, none⟩ = some (.string k.nm) ∧ (Instr.lookup 71 (.map (some c.g0)) (.int .i64 k.d) false).run Try.prog W = .ok (.map gd) W ∧ (Instr.lookup 75 (.map gd) (.string k.nm) true).run Try.prog W = .ok (.tuple #[mvC x, .bool b]) W := fun W hW => by
    have l1 := (h2.below hW).look k.d
    have l2 := (h2.below hW).look2 k.d k.nm
    rw [hgd] at l1 l2
    rw [hx, hb] at l2
    have bb := hkeep (hkeep b1.1 b2.2.1) hW
    exact ⟨(h2.below hW).cells.1, by rw [cell_of bb]; rfl, by rw [cell_of bb]; rfl, l1, l2⟩
  have HB : Hid (Below w.heap.size w W5) := by
    have e1 := chainB (chainB b1.2.1 b2.2.1) b3.2.1
    refine Only.below (S := fun k => k = W2.heap.size ∨ k = W1.heap.size) e1 ((o4.mono fun k e => .inl e).trans ?_) e1.size (fun k e => by rcases e with e | e <;> omega)
    rw [← hW5]
    exact (onlyR _ _ _).mono fun k e => .inr e
  have k0 := kS W2 (Below.refl _ _)
  have k1 := kS W2.drew (below_drewN (Below.refl _ W2) 1)
  have k2 := kS W3.drew (below_drewN b3.2.1 1)
  have k4 : W4.cell? ⟨p, 0, none⟩ = some (.map (some c.g0)) ∧ W4.cell? ⟨w.heap.size, 0, none⟩ = some (.int .i64 k.d) ∧ W4.cell? ⟨w.heap.size, 1, none⟩ = some (.string k.nm) ∧ (Instr.lookup 71 (.map (some c.g0)) (.int .i64 k.d) false).run Try.prog W4 = .ok (.map gd) W4 ∧ (Instr.lookup 75 (.map gd) (.string k.nm) true).run Try.prog W4 = .ok (.tuple #[mvC x, .bool b]) W4 := kS W4 (o4.below b3.2.1 b3.2.1.size (fun k e => by omega))
  have HR : Hid (W5.heap[W1.heap.size]? = some (.cells x.1.vals.toArray 42 (0, 0))) := b5
  have e1 : w.heap.size + 1 = W1.heap.size := b1.2.2.symm
  have e2 : W1.heap.size + 1 = W2.heap.size := b2.2.2.symm
  clear h h2 hx hb b1 b2 b3 b4 b5 hgd kS o4 z4 hW4 hW5
  go_enter Try.func114, Try.ntmps114
  go_upto_region 1 with fail
  go_region_held3 (fun W => W.cell? ⟨p, 0, none⟩ = some (.map (some c.g0)) ∧ W.cell? ⟨w.heap.size, 0, none⟩ = some (.int .i64 k.d) ∧ W.cell? ⟨w.heap.size, 1, none⟩ = some (.string k.nm) ∧ (Instr.lookup 71 (.map (some c.g0)) (.int .i64 k.d) false).run Try.prog W = .ok (.map gd) W ∧ (Instr.lookup 75 (.map gd) (.string k.nm) true).run Try.prog W = .ok (.tuple #[mvC x, .bool b]) W)
    (with_reducible first | exact k1 | exact k2 | exact k4)
    (fail)
  all_goals (go_wp2; (try simp only [Exit.inBlock, Exit.then]); refine bodyPost_ret (ret_entry2 rfl _ _ W1.heap.size rfl HR.out) rfl ?_; exact ⟨rfl, HB.out⟩)
end
end Go.Proofs.Ytppbbddlbfgpfaa
