/- VowBounds, plainly: what one call leaves. -/
import Derived.Test.YtaofhjckliobpaaVpI
namespace Go.Proofs.Ytaofhjckliobpaa
open Go.RowKit

structure Bnd (S S' : Vs) (L : List Bs) (ver : Int) : Prop where
  one : (L = [] ∧ S'.n = S.n) ∨ ∃ b q, L = [b] ∧ b.n = S.n + 1 ∧ S'.n = S.n + 1 ∧ b.ver = ver ∧ S'.q = q ++ [b] ∧ (b.all = true ↔ b.ks = [])
  was : ∀ k ∈ S.ks, k ∈ S'.ks ∨ ∃ b ∈ L, b.all = true ∨ k ∈ b.ks
  room : S'.q.length ≤ S'.mq
theorem tell_bnd {S : Vs} {K told : List Ky} {ver : Int} (hn : S.n < MX) (ht : told ≠ []) (hq : S.q.length ≤ S.mq) (h1 : 1 ≤ S.mq) (hk : ∀ k ∈ S.ks, k ∈ K ∨ k ∈ told) :
    Bnd S (Vs.tell { S with ks := K } told ver).1 (Vs.tell { S with ks := K } told ver).2 ver := by
  unfold Vs.tell
  rw [if_pos hn]
  by_cases hf : S.q.length = S.mq
  · rw [if_pos hf]
    exact ⟨.inr ⟨_, [], rfl, rfl, rfl, rfl, rfl, by simp⟩, fun k _ => .inr ⟨_, List.mem_singleton.2 rfl, .inl rfl⟩, h1⟩
  · rw [if_neg hf]
    refine ⟨.inr ⟨_, S.q, rfl, rfl, rfl, rfl, rfl, by simp [ht]⟩, fun k hm => ?_, ?_⟩
    · rcases hk k hm with g | g
      · exact .inl g
      · exact .inr ⟨_, List.mem_singleton.2 rfl, .inr g⟩
    · show (S.q ++ [_]).length ≤ S.mq
      rw [List.length_append, List.length_singleton]; omega
theorem grant_bnd {S : Vs} (k : Ky) (ver : Int) (hn : S.n < MX) (hq : S.q.length ≤ S.mq) (h1 : 1 ≤ S.mq) : Bnd S (S.grant k ver).1 (S.grant k ver).2 ver := by
  have hin : ∀ x, x ∈ S.ks → x ∈ dropK S.ks k ++ [k] := fun x hx => by
    by_cases e : x = k
    · subst e; simp
    · exact List.mem_append_left _ ((dropK_mem _ _ _).2 ⟨hx, e⟩)
  rcases grant_cases S k ver with ⟨e, _⟩ | ⟨o, m, hom, _, e⟩
  · rw [e]
    exact ⟨.inl ⟨rfl, rfl⟩, fun x hx => .inl (hin x hx), hq⟩
  · rw [e]
    refine tell_bnd hn (by simp) hq h1 fun x hx => ?_
    by_cases h : x = o
    · exact .inr (by simp [h])
    · exact .inl ((dropK_mem _ _ _).2 ⟨by rw [← hom]; exact hin _ hx, h⟩)
theorem touch_bnd {S : Vs} (ks : List Ky) (ver : Int) (hn : S.n < MX) (hq : S.q.length ≤ S.mq) (h1 : 1 ≤ S.mq) : Bnd S (S.touch ks ver).1 (S.touch ks ver).2 ver := by
  rcases touch_cases S ks ver with ⟨e, _⟩ | ⟨hne, e⟩
  · rw [e]
    exact ⟨.inl ⟨rfl, rfl⟩, fun x hx => .inl hx, hq⟩
  · rw [e]
    refine tell_bnd hn hne hq h1 fun x hx => ?_
    by_cases h : x ∈ srtK (S.told ks)
    · exact .inr h
    · exact .inl ((minusK_mem _ _ _).2 ⟨hx, h⟩)
theorem ack_bnd {S : Vs} (n ver : Int) (hq : S.q.length ≤ S.mq) : Bnd S (S.ack n) [] ver :=
  ⟨.inl ⟨rfl, rfl⟩, fun _ hx => .inl hx, Nat.le_trans (List.length_filter_le _ _) hq⟩
end Go.Proofs.Ytaofhjckliobpaa
