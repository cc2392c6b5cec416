/- The contracts of package name's small functions. -/
import Derived.Test.YtjkgafbknjpjbaaProg
import Derived.Test.YtjkgafbknjpjbaaNmDec
import Derived.WalkKit
import Derived.WalkSpells
import Derived.WalkLawsBesides
import Derived.WalkSmall
import Derived.Lib.OthersKept
import Derived.Lib.SmallJoins
import Derived.Maps.AppendAt
import Derived.Laws.DeepStrings4
namespace Go.Proofs.Ytjkgafbknjpjbaa
open Go.RowKit

theorem chainB {w W w' : World} (h : Below w.heap.size w W) (hb : Below W.heap.size W w') : Below w.heap.size w w' := h.trans (hb.mono h.size)

/-- a list of texts that a call has made -/
def Own (w : World) (base : Nat) (v : Value) (l : List ByteArray) : Prop := w.ownsRow base 9 1 v l.length (l.map Value.string)
theorem Own.nil (w : World) (base : Nat) : Own w base (.slice none 0 0) [] := World.ownsRow_nil _ _ _ _
theorem Own.below {w w' : World} {base : Nat} {v : Value} {l : List ByteArray} (h : Own w base v l) (hb : Below w.heap.size w w') : Own w' base v l := by
  refine ⟨h.1, ?_⟩
  rcases h.2 with h2 | ⟨g, cap, cur, hv, hg, hh, r⟩
  · exact .inl h2
  · exact .inr ⟨g, cap, cur, hv, hg, (hb.block g (Array.getElem?_eq_some_iff.1 hh).1).trans hh, r⟩
theorem Own.le {w : World} {base base' : Nat} {v : Value} {l : List ByteArray} (h : Own w base v l) (hb : base' ≤ base) : Own w base' v l := by
  refine ⟨h.1, ?_⟩
  rcases h.2 with h2 | ⟨g, cap, cur, hv, hg, hh, r⟩
  · exact .inl h2
  · exact .inr ⟨g, cap, cur, hv, by omega, hh, r⟩
theorem Own.row {w : World} {base : Nat} {v : Value} {l : List ByteArray} (h : Own w base v l) : ∃ a cap, v = .slice a l.length cap ∧ RowS w a l := by
  have h' := h
  unfold Own at h'
  rcases h.2 with ⟨rfl, h2⟩ | ⟨g, cap, cur, rfl, hg, hh, r⟩
  · rw [h2]; exact ⟨none, 0, rfl, .inl (List.length_eq_zero_iff.1 h2)⟩
  · refine ⟨some ⟨g, 0, none⟩, cap, rfl, .inr ⟨g, 0, rfl, (h'.lt g rfl).2, ?_⟩⟩
    intro i x hx
    have hi : i < l.length := (List.getElem?_eq_some_iff.1 hx).1
    rw [Nat.zero_add, h'.cellAt i (by omega), List.getElem?_map, hx]
    rfl
theorem RowS.below {w w' : World} {a : Option Addr} {l : List ByteArray} (h : RowS w a l) (hb : Below w.heap.size w w') : RowS w' a l := by
  rcases h with h | ⟨b, off, rfl, hs, hc⟩
  · exact .inl h
  · exact .inr ⟨b, off, rfl, Nat.lt_of_lt_of_le hs hb.size, fun i x hx => (hb.cell (by exact hs)).trans (hc i x hx)⟩

theorem dots_any (s : ByteArray) (w : World) : Calls Try.prog 55 #[.string s] w fun e w' => e = .returned (.bool (dotsB s)) ∧ w' = w := by
  unfold dotsB
  go_enter Try.func55, Try.ntmps55
  cases h : s.toList == [46]
  · go_wp2
    go_ret
    exact ⟨rfl, rfl⟩
  · go_wp2
    go_ret
    exact ⟨rfl, rfl⟩

theorem int_beq (n : Nat) (c : Nat) : ((n : Int) == (c : Int)) = decide (n = c) := by
  rw [Bool.eq_iff_iff]; simp; omega
theorem rooted_any (s : ByteArray) (w : World) : Calls Try.prog 94 #[.string s] w fun e w' => e = .returned (.bool (rootB s)) ∧ w' = w := by
  unfold rootB
  go_enter Try.func94, Try.ntmps94
  cases h : s.toList == []
  · have hs : 0 < s.size := by rw [toList_nil] at h; have := of_decide_eq_false h; omega
    have hb : ((s[0].toNat : Int) == 47) = decide (bt s 0 = 47) := by rw [bt_at s 0 hs]; exact int_beq _ 47
    have hd : decide (0 < s.size) = true := decide_eq_true hs
    go_wp2
    go_ret
    rw [hd, Bool.true_and]
    exact ⟨rfl, rfl⟩
  · have hd : decide (0 < s.size) = false := by rw [toList_nil] at h; have := of_decide_eq_true h; exact decide_eq_false (by omega)
    rw [hd]
    go_wp2
    go_ret
    exact ⟨rfl, rfl⟩

theorem lastT_get {l : List ByteArray} (h : l ≠ []) : l[l.length - 1]? = some (lastT l) := by
  unfold lastT
  rw [List.getLast?_eq_getElem?]
  have : 0 < l.length := List.length_pos_iff.2 h
  rw [List.getElem?_eq_getElem (by omega)]; rfl

theorem end_any (a : Option Addr) (l : List ByteArray) (cap : Nat) (w : World) (h : RowS w a l) (hl : l.length ≤ 1000) :
    Calls Try.prog 106 #[.slice a l.length cap] w fun e w' => e = .returned (.string (lastT l)) ∧ w' = w := by
  go_enter Try.func106, Try.ntmps106
  cases l with
  | nil =>
    go_wp2
    go_ret
    exact ⟨rfl, rfl⟩
  | cons x l =>
    rcases h with h | ⟨b, off, rfl, hs, hc⟩
    · cases h
    have hg := hc l.length _ (lastT_get (l := x :: l) (by simp))
    clear hc
    rw [List.length_cons] at hl ⊢
    go_wp2
    go_ret
    exact ⟨rfl, rfl⟩
end Go.Proofs.Ytjkgafbknjpjbaa
