/- The ids of a tree, plainly: the kinds of all that was ever made, in their order. -/
import Derived.Test.YtjkgafbknjpjbabPuE
namespace Go.Proofs.Ytjkgafbknjpjbab
open Go.RowKit

structure IdsP (ks : List Int) (s : Tr) : Prop where
  next : s.next = (ks.length : Int) + 2
  kinds : ∀ e ∈ s.es, ∀ j : Nat, e.id = (j : Int) + 2 → ks[j]? = some e.kind
theorem IdsP.new : IdsP [] emptyT := ⟨rfl, by intro e he; cases he⟩
theorem IdsP.alike {ks : List Int} {s s' : Tr} (h : IdsP ks s) (ha : s'.es = s.es) (hn : s'.next = s.next) : IdsP ks s' := ⟨by rw [hn]; exact h.next, by rw [ha]; exact h.kinds⟩
theorem IdsP.made {M : Nms} {s s' : Tr} {o : Opn} {ks : List Int} (w : WF M s.es s.next) (hE : doesE M s o = 0) (h : IdsP ks s) (hk : o.kind = 5 ∨ o.kind = 6 ∨ o.kind = 7) (hes : s'.es = srt (doesL s o)) (hn : s'.next = doesN s o) :
    ∃ x, tellL s o = [x] ∧ x.id = s.next ∧ s'.next = s.next + 1 ∧ IdsP (ks ++ [x.kind]) s' := by
  have hd := deed w hE
  cases hd using Deed.el with
  | made x hk' hd hnm hneg hid hkind hok hno hdir hchk hroom hT hL hN =>
    refine ⟨x, hT, hid, hn.trans hN, ⟨by rw [hn, hN, h.next]; simp; omega, fun e he j hj => ?_⟩⟩
    rw [hes, srt_mem, hL, List.mem_append, List.mem_singleton] at he
    have hnx := h.next
    rcases he with he | rfl
    · have := w.ids e he
      rw [List.getElem?_append_left (by omega)]
      exact h.kinds e he j hj
    · have : j = ks.length := by omega
      subst this
      simp
  | gone e hk' => omega
  | moved e hk' => omega
  | set e x he hed hen hx hm hk' => rcases hk' with h | h <;> omega
theorem IdsP.other {M : Nms} {s s' : Tr} {o : Opn} {ks : List Int} (w : WF M s.es s.next) (hE : doesE M s o = 0) (h : IdsP ks s) (hk : ¬ (o.kind = 5 ∨ o.kind = 6 ∨ o.kind = 7)) (hes : s'.es = srt (doesL s o)) (hn : s'.next = doesN s o) : IdsP ks s' := by
  have hd := deed w hE
  have key : ∀ y ∈ doesL s o, ∃ e ∈ s.es, y.id = e.id ∧ y.kind = e.kind := by
    cases hd using Deed.el with
    | made x hk' => exact absurd hk' hk
    | gone e hk' he hed hen hem hT hL hN => intro y hy; rw [hL, goneL_mem] at hy; exact ⟨y, hy.1, rfl, rfl⟩
    | moved e hk' he hed hen hne hdir hchk hfree hto hT hL hN =>
      intro y hy
      rw [hL, List.mem_append, List.mem_singleton, goneL_mem] at hy
      rcases hy with hy | rfl
      · refine ⟨y, ?_, rfl, rfl⟩
        have := hy.1
        split at this
        · exact (goneL_mem.1 this).1
        · exact this
      · exact ⟨e, he, rfl, rfl⟩
    | set e x he hed hen hx hm hk' hT hL hA hl hN =>
      intro y hy
      rcases (hL y).1 hy with hy | rfl
      · exact ⟨y, hy.1, rfl, rfl⟩
      · exact ⟨e, he, by rw [hx], by rw [hx]⟩
  have hN : doesN s o = s.next := by unfold doesN; rw [if_neg hk]
  refine ⟨by rw [hn, hN]; exact h.next, fun y hy j hj => ?_⟩
  rw [hes, srt_mem] at hy
  obtain ⟨e, he, h1, h2⟩ := key y hy
  rw [h2]
  exact h.kinds e he j (by rw [← h1]; exact hj)
end Go.Proofs.Ytjkgafbknjpjbab
