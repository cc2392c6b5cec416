/- The tree, plainly: scripts of mutations. -/
import Derived.Test.YtjelggpkeogebaaPuD
namespace Go.Proofs.Ytjelggpkeogebaa
open Go.RowKit

/-- the same tree, wherever its list lies -/
structure Alike (s s' : Tr) : Prop where
  es : s.es = s'.es
  vers : s.vers = s'.vers
  next : s.next = s'.next
theorem Alike.refl (s : Tr) : Alike s s := ⟨rfl, rfl, rfl⟩
theorem Alike.symm {s s' : Tr} (h : Alike s s') : Alike s' s := ⟨h.es.symm, h.vers.symm, h.next.symm⟩
theorem Alike.trans {s s' s'' : Tr} (h : Alike s s') (k : Alike s' s'') : Alike s s'' := ⟨h.es.trans k.es, h.vers.trans k.vers, h.next.trans k.next⟩
theorem doesE_eq (M : Nms) {s s' : Tr} (h : s.es = s'.es) (o : Opn) : doesE M s o = doesE M s' o := by unfold doesE; rw [h]
theorem doesL_eq {s s' : Tr} (h : Alike s s') (o : Opn) : doesL s o = doesL s' o := by unfold doesL; rw [h.es, h.next]
theorem doesN_eq {s s' : Tr} (h : Alike s s') (o : Opn) : doesN s o = doesN s' o := by unfold doesN; rw [h.next]
theorem tellL_eq {s s' : Tr} (h : Alike s s') (o : Opn) : tellL s o = tellL s' o := by unfold tellL; rw [h.es, h.next]
/-- one mutation -/
def stepT (M : Nms) (s : Tr) (o : Opn) : Tr := if doesE M s o = 0 then ⟨s.v, srt (doesL s o), s.vers + 1, doesN s o⟩ else s
theorem stepT_alike (M : Nms) {s s' : Tr} (h : Alike s s') (o : Opn) : Alike (stepT M s o) (stepT M s' o) := by
  unfold stepT
  rw [doesE_eq M h.es, doesL_eq h, doesN_eq h, h.vers]
  split
  · exact ⟨rfl, rfl, rfl⟩
  · exact h
def runT (M : Nms) (s : Tr) (ops : List Opn) : Tr := ops.foldl (stepT M) s
theorem runT_snoc (M : Nms) (s : Tr) (ops : List Opn) (o : Opn) : runT M s (ops ++ [o]) = stepT M (runT M s ops) o := by unfold runT; rw [List.foldl_append]; rfl
theorem runT_app (M : Nms) (s : Tr) (a b : List Opn) : runT M s (a ++ b) = runT M (runT M s a) b := by unfold runT; rw [List.foldl_append]
theorem runT_alike (M : Nms) {s s' : Tr} (h : Alike s s') (ops : List Opn) : Alike (runT M s ops) (runT M s' ops) := by
  induction ops generalizing s s' with
  | nil => exact h
  | cons o ops ih => exact ih (stepT_alike M h o)
/-- a right tree, with room in its numbers for so many more mutations -/
structure Good (M : Nms) (s : Tr) (k : Int) : Prop where
  wf : WF M s.es s.next
  v0 : 0 ≤ s.vers
  v1 : s.vers ≤ k
  n1 : s.next ≤ 2 + k
theorem Good.mono {M : Nms} {s : Tr} {k k' : Int} (h : Good M s k) (hk : k ≤ k') : Good M s k' := ⟨h.wf, h.v0, by have := h.v1; omega, by have := h.n1; omega⟩
theorem Good.alike {M : Nms} {s s' : Tr} {k : Int} (h : Good M s k) (ha : Alike s s') : Good M s' k := ⟨by rw [← ha.es, ← ha.next]; exact h.wf, by rw [← ha.vers]; exact h.v0, by rw [← ha.vers]; exact h.v1, by rw [← ha.next]; exact h.n1⟩
theorem doesN_le {s : Tr} {o : Opn} : doesN s o ≤ s.next + 1 := by unfold doesN; split <;> omega
theorem Good.step {M : Nms} {s : Tr} {k : Int} (h : Good M s k) (o : Opn) : Good M (stepT M s o) (k + 1) := by
  unfold stepT
  split
  · rename_i hE
    refine ⟨h.wf.step (deed h.wf hE), ?_, ?_, ?_⟩
    · show 0 ≤ s.vers + 1; have := h.v0; omega
    · show s.vers + 1 ≤ _; have := h.v1; omega
    · show doesN s o ≤ _; have := h.n1; have := doesN_le (s := s) (o := o); omega
  · exact h.mono (by omega)
theorem Good.run {M : Nms} {s : Tr} {k : Int} (h : Good M s k) (ops : List Opn) : Good M (runT M s ops) (k + ops.length) := by
  induction ops generalizing s k with
  | nil => simpa [runT] using h
  | cons o ops ih =>
    have := ih (h.step o)
    have e : k + 1 + (ops.length : Int) = k + ((o :: ops).length : Nat) := by simp; omega
    rw [e] at this
    exact this
def emptyT : Tr := ⟨.slice none 0 0, [], 0, 2⟩
theorem Good.new (M : Nms) : Good M emptyT 0 := ⟨WF.new M, Int.le_refl _, Int.le_refl _, Int.le_refl _⟩
theorem good_behind (M : Nms) (ops : List Opn) : Good M (runT M emptyT ops) ops.length := by simpa using (Good.new M).run ops
end Go.Proofs.Ytjelggpkeogebaa
