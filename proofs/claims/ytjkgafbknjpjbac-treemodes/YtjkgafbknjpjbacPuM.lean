/- A mode that is set, plainly. -/
import Derived.Test.YtjkgafbknjpjbacPuE
namespace Go.Proofs.Ytjkgafbknjpjbac
open Go.RowKit

theorem map_rises {es : List En} (h : Rises es) (f : En → En) (hf : ∀ x ∈ es, (f x).d = x.d ∧ (f x).nm = x.nm) : Rises (es.map f) := by
  unfold Rises at h ⊢
  induction es with
  | nil => exact List.Pairwise.nil
  | cons a l ih =>
    rw [List.pairwise_cons] at h
    rw [List.map_cons, List.pairwise_cons]
    refine ⟨fun y hy => ?_, ih h.2 fun x hx => hf x (List.mem_cons_of_mem _ hx)⟩
    obtain ⟨z, hz, rfl⟩ := List.mem_map.1 hy
    have ha := hf a (List.mem_cons_self ..)
    have hzz := hf z (List.mem_cons_of_mem _ hz)
    have := h.1 z hz
    unfold lessE at this ⊢
    rw [ha.1, ha.2, hzz.1, hzz.2]
    exact this
/-- what OpSetattr leaves -/
theorem set_es {M : Nms} {s : Tr} {o : Opn} (w : WF M s.es s.next) (hk : o.kind = 11) (hE : doesE M s o = 0) :
    ∃ x, nowE s.es o.dir o.nm = x ∧ x.neg = false ∧ tellL s o = [{ x with mode := o.mode }] ∧
      ∃ l : List En, srt (doesL s o) = l ∧ l.length = s.es.length ∧ ∀ (i : Nat) (a b : En), s.es[i]? = some a → l[i]? = some b → b = a ∨ b = { x with mode := o.mode } := by
  have hA : (atE s.es o.dir o.nm).isSome := by
    unfold doesE at hE
    rw [hk] at hE
    simp only [show ¬ ((11 : Int) < 5 ∨ (11 : Int) < 11) by omega, if_false] at hE
    by_cases hn : namedE M s.es o.dir o.nm = 0
    · rw [if_neg (by simp [hn])] at hE
      simp at hE
      split at hE
      · omega
      · split at hE
        · assumption
        · omega
    · rw [if_pos hn] at hE; exact absurd hE hn
  obtain ⟨x, hx⟩ := Option.isSome_iff_exists.1 hA
  obtain ⟨hxm, hxd, hxn⟩ := atE_key hx
  refine ⟨x, by rw [nowE_at, hx], w.neg x hxm, ?_, s.es.map fun y => if y.d = o.dir ∧ y.nm = o.nm then { y with mode := o.mode } else y, ?_, by simp, ?_⟩
  · unfold tellL
    rw [hk, hx]
    simp
  · have hL : doesL s o = s.es.map fun y => if y.d = o.dir ∧ y.nm = o.nm then { y with mode := o.mode } else y := by
      unfold doesL
      rw [hk]
      simp
      exact setM_map w.rises.apart _ _ _
    rw [hL]
    exact srt_self (map_rises w.rises _ fun y _ => by split <;> exact ⟨rfl, rfl⟩)
  · intro i a b ha hb
    rw [List.getElem?_map, ha] at hb
    simp only [Option.map_some, Option.some.injEq] at hb
    subst hb
    split
    · rename_i h
      right
      have : a = x := w.keyed a (List.mem_of_getElem? ha) x hxm (by rw [h.1, hxd]) (by rw [h.2, hxn])
      rw [this]
    · left; rfl
theorem set_err {M : Nms} {s : Tr} {o : Opn} (hk : o.kind = 11) : doesE M s o = if namedE M s.es o.dir o.nm ≠ 0 then namedE M s.es o.dir o.nm else if badM o.mode then 1 else if (nowE s.es o.dir o.nm).neg = true ∧ atE s.es o.dir o.nm = none then 40 else 0 := by
  unfold doesE
  rw [hk]
  simp only [show ¬ ((11 : Int) < 5 ∨ (11 : Int) < 11) by omega, if_false]
  by_cases hn : namedE M s.es o.dir o.nm = 0
  · rw [hn]
    simp
    rw [nowE_at]
    cases atE s.es o.dir o.nm <;> simp
  · rw [if_pos hn, if_pos hn]
theorem now_neg {M : Nms} {es : List En} {next : Int} (w : WF M es next) (d : Int) (nm : ByteArray) : (nowE es d nm).neg = true ↔ atE es d nm = none := by
  rw [nowE_at]
  cases h : atE es d nm with
  | none => simp
  | some e => simp [w.neg e (atE_key h).1]
end Go.Proofs.Ytjkgafbknjpjbac
