/- Entries among the arguments; a copy of them. -/
import Derived.Test.YtjelggpkeogebaaEnM
namespace Go.Proofs.Ytjelggpkeogebaa
open Go.RowKit Go.Lib

/-- entries that came in -/
def ArgE (w : World) (v : Value) (es : List En) : Prop := ∃ a cap, v = .slice a es.length cap ∧ es.length * 72 ≤ 140737488351232 ∧ (es = [] ∨ ∃ b off, a = some ⟨b, off, none⟩ ∧ b < w.heap.size ∧ ∀ j u, (ec es)[j]? = some u → w.cell? ⟨b, off + j, none⟩ = some u)
theorem ArgE.below {w w' : World} {v : Value} {es : List En} (h : ArgE w v es) (hb : Below w.heap.size w w') : ArgE w' v es := by
  obtain ⟨a, cap, rfl, hl, h⟩ := h
  refine ⟨a, cap, rfl, hl, ?_⟩
  rcases h with h | ⟨b, off, rfl, hg, hc⟩
  · exact .inl h
  · exact .inr ⟨b, off, rfl, Nat.lt_of_lt_of_le hg hb.size, fun j u hu => (hb.cell (p := ⟨b, off + j, none⟩) hg).trans (hc j u hu)⟩
set_option maxRecDepth 20000 in
set_option maxHeartbeats 4000000 in
theorem copyE_any (v : Value) (es : List En) (w : World) (h : ArgE w v es) :
    Calls Try.prog 6 #[v] w fun e w' => ∃ v', e = .returned v' ∧ Row7 w' w.heap.size v' es ∧ Below w.heap.size w w' := by
  obtain ⟨i1, hi1, hw0, hw1, hw2⟩ := info_parts Try.infoE
  obtain ⟨a, cap, rfl, hl, hc⟩ := h
  by_cases h0 : a = none
  · subst h0
    have he : es = [] := by
      rcases hc with h | ⟨b, off, e, _⟩
      · exact h
      · cases e
    subst he
    clear hc
    go_enter Try.func6, Try.ntmps6
    go_wp2
    go_ret
    exact ⟨_, rfl, World.ownsRow_nil _ _ _ _, Below.refl _ _⟩
  · obtain ⟨ad, rfl⟩ : ∃ ad, a = some ad := by cases a with | none => exact absurd rfl h0 | some x => exact ⟨x, rfl⟩
    have HC : Hid (∀ j u, (ec es)[j]? = some u → w.cell? (ad.add j) = some u) := by
      rcases hc with h | ⟨b, off, e, _, hc⟩
      · subst h; intro j u hu; simp [ec] at hu
      · cases e; intro j u hu; rw [add_plain']; exact hc j u hu
    obtain ⟨n, hn⟩ : ∃ n, es.length = n := ⟨_, rfl⟩
    have HN : Hid (es.length = n ∧ (ec es).length = n * 7) := ⟨hn, by rw [ec_len, hn]⟩
    rw [hn] at hl ⊢
    clear hc h0 hn
    go_enter Try.func6, Try.ntmps6
    go_wp2_with (at_builtin; refine wpList_append_own _ rfl _ _ 22 rfl w.heap.size 56 i1 _ 7 72 Try.underlying22 hi1 hw0 hw1 hw2 rfl (by decide) _ 0 [] rfl (World.ownsRow_nil _ _ _ _) ad n cap (ec es) rfl HN.out.2 HC.out (ec_one es) (by unfold maxLen; omega) (by omega) (Nat.le_refl _) ?_; intro v' w1 hown hgrow _; obtain ⟨av, cv, hv⟩ := owns_len hown; subst hv)
    go_ret
    refine ⟨_, rfl, ?_, below_grown hgrow⟩
    rw [Nat.zero_add, List.nil_append] at hown
    show World.ownsRow _ _ _ _ _ _ _
    rw [HN.out.1]; exact hown
end Go.Proofs.Ytjelggpkeogebaa
