/- The document's tree: Copy, renamed. -/
import Derived.Test.YtjelggpkeogebaaTrV
namespace Go.Proofs.Ytjelggpkeogebaa
open Go.RowKit
attribute [local go_sem high] eqK neqK eqE neqE eqN neqN guardK guardE guardN

theorem tcopied {w w1 : World} {t : Nat} {s : Tr} {v' : Value} (h : IsT w t s) (b1 : Below w.drew.heap.size w.drew w1) (hown : w1.ownsRow 0 56 7 v' s.es.length (ec s.es)) (hv' : ∀ q, v'.ownBlock = some q → w.heap.size ≤ q) (o : Obj)
    (ho : o = .cells #[v', .int .i64 s.vers, .int .i64 s.next] 60) :
    w.heap.size ≤ w1.heap.size ∧ IsT (w1.alloc o) w1.heap.size { s with v := v' } ∧ (∀ q, v'.ownBlock = some q → w.heap.size ≤ q) ∧ Below w.heap.size w (w1.alloc o) := by
  have b1' : Below w.heap.size w w1 := ⟨b1.os, b1.tape, b1.output, b1.size, b1.block⟩
  have hb : Below w1.heap.size w1 (w1.alloc o) := below_alloc _ _
  refine ⟨b1'.size, ⟨?_, owns_moved hown fun k hk => hb.block k (Tag.own hown hk).lt, h.lim⟩, hv', chainB b1' hb⟩
  rw [heap_new, ho]

set_option maxRecDepth 20000 in
set_option maxHeartbeats 8000000 in
theorem tcopy_any (t : Nat) (s : Tr) (w : World) (h : IsT w t s) :
    Calls Try.prog 35 #[.pointer (some ⟨t, 0, none⟩)] w fun e w' => ∃ t' v', e = .returned (.pointer (some ⟨t', 0, none⟩)) ∧ w.heap.size ≤ t' ∧ IsT w' t' { s with v := v' } ∧ (∀ q, v'.ownBlock = some q → w.heap.size ≤ q) ∧ Below w.heap.size w w' := by
  obtain ⟨i1, hi1, hw0, hw1, hw2⟩ := info_parts Try.infoE
  obtain ⟨c0, c1, c2, _⟩ := h.cells
  have hlr := h.tt.lt
  have hlim := h.lim
  have H : Hid (IsT w t s) := h
  rcases h.row.2 with ⟨ev, en⟩ | ⟨gv, cap, cur, ev, _, hh, r1, r2, r3, r4⟩
  · rw [ev] at c0
    have HN : Hid (s.es.length = 0 ∧ ec s.es = []) := ⟨en, List.length_eq_zero_iff.1 (by rw [ec_len, en])⟩
    clear h ev en
    go_enter Try.func35, Try.ntmps35
    go_upto_region 1 with fail
    go_region_held3 (fun w' => w'.cell? ⟨t, 0, none⟩ = some (.slice none 0 0) ∧ w'.cell? ⟨t, 1, none⟩ = some (.int .i64 s.vers) ∧ w'.cell? ⟨t, 2, none⟩ = some (.int .i64 s.next) ∧ Below w.heap.size w w')
      (first | exact ⟨c0, c1, c2, (Below.refl _ _).drew⟩ | exact hold3 hlr (by assumption) (below_alloc _ _) | assumption)
      (first | (refine step_append_none rfl (.const (.slice none 0 0)) (.tmp 6) 22 rfl 0 56 i1 7 Try.underlying22 hi1 _ 0 [] rfl (World.ownsRow_nil _ _ _ _) (by simp [Act.eval]) ?_))
    have hE := tcopied (w1 := w.drew) H.out (Below.refl _ _) (v' := .slice none 0 0) (by rw [HN.out.1, HN.out.2]; exact World.ownsRow_nil _ _ _ _) (fun q e => by cases e) _ rfl
    go_wp2
    go_ret
    exact ⟨_, _, rfl, hE.1, hE.2.1, hE.2.2.1, hE.2.2.2⟩
  · rw [ev] at c0
    have hlv : gv < w.heap.size := (Array.getElem?_eq_some_iff.1 hh).1
    have HS : Hid (∀ j u, (ec s.es)[j]? = some u → w.drew.cell? ((⟨gv, 0, none⟩ : Addr).add j) = some u) := by
      intro j u hu
      have hrow := h.row
      rw [ev] at hrow
      obtain ⟨hc, _⟩ := owns_cells hrow
      rw [add_plain', Nat.zero_add]
      exact hc j u hu
    obtain ⟨Ln, hLn⟩ : ∃ Ln, s.es.length = Ln := ⟨_, rfl⟩
    rw [hLn] at hlim c0
    have HL : Hid (s.es.length = Ln ∧ (ec s.es).length = Ln * 7) := ⟨hLn, by rw [ec_len, hLn]⟩
    clear h ev hh r1 r2 r3 r4 hLn
    go_enter Try.func35, Try.ntmps35
    go_upto_region 1 with fail
    go_region_held3 (fun w' => w'.cell? ⟨t, 0, none⟩ = some (.slice (some ⟨gv, 0, none⟩) Ln cap) ∧ w'.cell? ⟨t, 1, none⟩ = some (.int .i64 s.vers) ∧ w'.cell? ⟨t, 2, none⟩ = some (.int .i64 s.next) ∧ Below w.heap.size w w')
      (first | exact ⟨c0, c1, c2, (Below.refl _ _).drew⟩ | exact hold3 hlr (by assumption) (below_alloc _ _) | exact hold3 (W := w.drew) hlr ⟨c0, c1, c2, (Below.refl _ _).drew⟩ hb1 | assumption)
      (first | (refine step_append_own_at rfl (.const (.slice none 0 0)) (.tmp 6) 22 rfl 0 56 i1 _ 7 72 Try.underlying22 hi1 hw0 hw1 hw2 rfl (by decide) _ 0 [] rfl (World.ownsRow_nil _ _ _ _) ⟨gv, 0, none⟩ Ln cap (ec s.es) (by simp [Act.eval]) HL.out.2 (by exact HS.out) (ec_one _) (by unfold maxLen; omega) (by omega) (Nat.zero_le _) ?_; intro v' w1 hown hgrow hat; have hb1 := below_grown (w := w.drew) hgrow; obtain ⟨av, cv, rfl⟩ := owns_len hown))
    rw [Nat.zero_add, List.nil_append] at hown
    rw [Nat.zero_add] at hat
    have hE := tcopied H.out hb1 (by rw [HL.out.1]; exact hown) (fun q hq => by
      rcases hat with e | e
      · rw [e] at hq; cases hq
      · rw [e] at hq; exact Nat.le_of_eq (Option.some.inj hq)) _ rfl
    go_wp2
    go_ret
    exact ⟨_, _, rfl, hE.1, hE.2.1, hE.2.2.1, hE.2.2.2⟩
end Go.Proofs.Ytjelggpkeogebaa
