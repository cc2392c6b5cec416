/- What a mutation leaves but for its keys, plainly. -/
import Derived.Test.YtjkgafbknjpjbaaPuG
namespace Go.Proofs.Ytjkgafbknjpjbaa
open Go.RowKit

def keyIn (ks : List Ky) (e : En) : Bool := ks.any fun k => decide (k.d = e.d ∧ k.nm = e.nm)
def withoutL (l : List En) (ks : List Ky) : List En := l.filter fun e => !keyIn ks e
theorem keyIn_told {M : Nms} {s : Tr} {o : Opn} (h : Deed M s o) (e : En) : keyIn (keysL o) e = true ↔ Told (tellL s o) e := by
  rw [← tell_keys h]
  unfold keyIn Told
  rw [List.any_eq_true]
  constructor
  · rintro ⟨k, hk, hq⟩
    obtain ⟨x, hx, rfl⟩ := List.mem_map.1 hk
    have := of_decide_eq_true hq
    exact ⟨x, hx, this.1.symm, this.2.symm⟩
  · rintro ⟨x, hx, h1, h2⟩
    exact ⟨_, List.mem_map.2 ⟨x, hx, rfl⟩, decide_eq_true ⟨h1.symm, h2.symm⟩⟩
theorem without_same {M : Nms} {s : Tr} {o : Opn} (w : WF M s.es s.next) (h : Deed M s o) : withoutL (srt (doesL s o)) (keysL o) = withoutL s.es (keysL o) := by
  refine Rises.same ((srt_rises (does_apart w h)).filter _) (w.rises.filter _) fun x => ?_
  unfold withoutL
  rw [List.mem_filter, List.mem_filter, srt_mem, does_mem w h]
  by_cases hk : keyIn (keysL o) x = true
  · simp [hk]
  · have hn : ¬ Told (tellL s o) x := fun q => hk ((keyIn_told h x).2 q)
    constructor
    · rintro ⟨h1 | h1, h2⟩
      · exact ⟨h1.1, h2⟩
      · exact absurd ⟨x, h1.1, rfl, rfl⟩ hn
    · rintro ⟨h1, h2⟩
      exact ⟨.inl ⟨h1, hn⟩, h2⟩
theorem tell_some {M : Nms} {s : Tr} {o : Opn} (h : Deed M s o) : tellL s o ≠ [] := by
  cases h using Deed.el with
  | made x hk hd hnm hneg hid hkind hok hno hdir hchk hroom hT hL hN => rw [hT]; simp
  | gone e hk he hd hnm hem hT hL hN => rw [hT]; simp
  | moved e hk he hd hnm hne hdir hchk hfree hto hT hL hN => rw [hT]; split <;> simp
  | set e x he hd hnm hx hm hk hT hL hA hl hN => rw [hT]; simp
theorem keys_len {M : Nms} {s : Tr} {o : Opn} (h : Deed M s o) : (keysL o).length = (tellL s o).length := by rw [← tell_keys h]; simp
theorem keys_at {M : Nms} {s : Tr} {o : Opn} (h : Deed M s o) {j : Nat} {k : Ky} (hk : (keysL o)[j]? = some k) : ∃ x, (tellL s o)[j]? = some x ∧ x ∈ tellL s o ∧ k.d = x.d ∧ k.nm = x.nm := by
  rw [← tell_keys h, List.getElem?_map] at hk
  cases hx : (tellL s o)[j]? with
  | none => rw [hx] at hk; cases hk
  | some x => rw [hx] at hk; cases hk; exact ⟨x, rfl, List.mem_of_getElem? hx, rfl, rfl⟩
theorem keys_few (o : Opn) : (keysL o).length ≤ 2 := by
  unfold keysL; split
  · split <;> (try split) <;> simp
  · simp
end Go.Proofs.Ytjkgafbknjpjbaa
