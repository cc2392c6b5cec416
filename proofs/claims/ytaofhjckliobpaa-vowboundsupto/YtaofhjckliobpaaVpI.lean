/- VowTold, plainly: what is known stays held. -/
import Derived.Test.YtaofhjckliobpaaVpH
namespace Go.Proofs.Ytaofhjckliobpaa
open Go.RowKit

/-- does a break tell of a key -/
def goneB (b : Bs) (k : Ky) : Bool := b.all || inK b.ks k || inK b.ks (bare k)
def goneL (L : List Bs) (k : Ky) : Bool := L.any fun b => goneB b k
def leftL (L : List Bs) (l : List Ky) : List Ky := l.filter fun k => !goneL L k
/-- each known key is held, or its directory is -/
def Cov (S : Vs) (l : List Ky) : Prop := ∀ k ∈ l, k ∈ S.ks ∨ bare k ∈ S.ks
theorem leftL_le (L : List Bs) (l : List Ky) : (leftL L l).length ≤ l.length := List.length_filter_le _ _
theorem leftL_nil (l : List Ky) : leftL [] l = l := by
  unfold leftL
  rw [List.filter_eq_self]
  intro x _; rfl
theorem tell_cov {S : Vs} {K told : List Ky} {ver : Int} {l : List Ky} (hn : S.n < MX) (h : ∀ k ∈ l, k ∉ told → bare k ∉ told → k ∈ K ∨ bare k ∈ K) :
    Cov (Vs.tell { S with ks := K } told ver).1 (leftL (Vs.tell { S with ks := K } told ver).2 l) := by
  unfold Vs.tell
  rw [if_pos hn]
  split
  · intro k hk
    have := (List.mem_filter.1 hk).2
    simp [goneL, goneB] at this
  · intro k hk
    obtain ⟨h1, h2⟩ := List.mem_filter.1 hk
    have h3 : inK told k = false ∧ inK told (bare k) = false := by
      simp [goneL, goneB] at h2
      exact h2
    refine h k h1 (fun e => ?_) (fun e => ?_)
    · rw [(inK_iff told k).2 e] at h3; cases h3.1
    · rw [(inK_iff told (bare k)).2 e] at h3; cases h3.2
theorem tell_n (S : Vs) (ks : List Ky) (ver : Int) : (S.tell ks ver).1.n ≤ S.n + 1 := by
  unfold Vs.tell
  split
  · split <;> exact Int.le_refl _
  · show S.n ≤ S.n + 1; omega
theorem grant_n (S : Vs) (k : Ky) (ver : Int) : (S.grant k ver).1.n ≤ S.n + 1 := by
  rcases grant_cases S k ver with ⟨e, _⟩ | ⟨o, l, _, _, e⟩
  · rw [e]; show S.n ≤ S.n + 1; omega
  · rw [e]; exact tell_n _ _ _
theorem touch_n (S : Vs) (ks : List Ky) (ver : Int) : (S.touch ks ver).1.n ≤ S.n + 1 := by
  rcases touch_cases S ks ver with ⟨e, _⟩ | ⟨_, e⟩
  · rw [e]; show S.n ≤ S.n + 1; omega
  · rw [e]; exact tell_n _ _ _
theorem grant_cov {S : Vs} {l : List Ky} (k : Ky) (ver : Int) (hn : S.n < MX) (h : Cov S l) : Cov (S.grant k ver).1 (leftL (S.grant k ver).2 l) := by
  have hin : ∀ x, x ∈ S.ks → x ∈ dropK S.ks k ++ [k] := fun x hx => by
    by_cases e : x = k
    · subst e; simp
    · exact List.mem_append_left _ ((dropK_mem _ _ _).2 ⟨hx, e⟩)
  rcases grant_cases S k ver with ⟨e, _⟩ | ⟨o, m, hom, _, e⟩
  · rw [e, leftL_nil]
    intro x hx
    rcases h x hx with g | g
    · exact .inl (hin _ g)
    · exact .inr (hin _ g)
  · rw [e]
    refine tell_cov hn fun x hx h1 h2 => ?_
    rcases h x hx with g | g
    · exact .inl ((dropK_mem _ _ _).2 ⟨by rw [← hom]; exact hin _ g, fun q => h1 (by rw [q]; simp)⟩)
    · exact .inr ((dropK_mem _ _ _).2 ⟨by rw [← hom]; exact hin _ g, fun q => h2 (by rw [q]; simp)⟩)
theorem touch_cov {S : Vs} {l : List Ky} (ks : List Ky) (ver : Int) (hn : S.n < MX) (h : Cov S l) : Cov (S.touch ks ver).1 (leftL (S.touch ks ver).2 l) := by
  rcases touch_cases S ks ver with ⟨e, _⟩ | ⟨_, e⟩
  · rw [e, leftL_nil]; exact h
  · rw [e]
    refine tell_cov hn fun x hx h1 h2 => ?_
    rcases h x hx with g | g
    · exact .inl ((minusK_mem _ _ _).2 ⟨g, h1⟩)
    · exact .inr ((minusK_mem _ _ _).2 ⟨g, h2⟩)
def anyK (k : Ky) : Ky := ⟨k.d, ⟨#[97, 110, 121]⟩⟩
theorem Cov.snoc {S : Vs} {l : List Ky} {k : Ky} (h : Cov S l) (hk : k ∈ S.ks) : Cov S (l ++ [k]) := by
  intro x hx
  rcases List.mem_append.1 hx with g | g
  · exact h x g
  · rw [List.mem_singleton.1 g]; exact .inl hk
theorem Cov.any {S : Vs} {l : List Ky} {k : Ky} (h : Cov S l) (hk : k ∈ S.ks) (he : k.nm = ⟨#[]⟩) : Cov S (l ++ [anyK k]) := by
  intro x hx
  rcases List.mem_append.1 hx with g | g
  · exact h x g
  · rw [List.mem_singleton.1 g]
    refine .inr ?_
    have : bare (anyK k) = k := by obtain ⟨d, nm⟩ := k; simp only at he; subst he; rfl
    rw [this]; exact hk
theorem leftL_snoc (L : List Bs) (l : List Ky) (k : Ky) : leftL L (l ++ [k]) = leftL L l ++ (if goneL L k then [] else [k]) := by
  unfold leftL
  rw [List.filter_append]
  cases h : goneL L k <;> simp [h]
theorem goneL_snoc (L : List Bs) (b : Bs) (k : Ky) : goneL (L ++ [b]) k = (goneL L k || goneB b k) := by
  unfold goneL; simp
end Go.Proofs.Ytaofhjckliobpaa
