/- Breaks that a law holds against others. -/
import Derived.Test.YtaofhjckliobpaaVpC
namespace Go.Proofs.Ytaofhjckliobpaa
open Go.RowKit Go.Shelf Go.Sort

/-- a slice that reads as breaks that say L -/
def Rd (w : World) (v : Value) (L : List Bs) (e : Int) : Prop := ∃ bs, RdB w v bs ∧ bs.map Br.say = L ∧ ∀ b ∈ bs, Mk b.a b.b e (part b.b)
theorem Rd.below {w w' : World} {v : Value} {L : List Bs} {e : Int} (h : Rd w v L e) (hb : Below w.heap.size w w') : Rd w' v L e := by
  obtain ⟨bs, h1, h2⟩ := h
  exact ⟨bs, h1.below hb, h2⟩
theorem Rd.form {w : World} {v : Value} {L : List Bs} {e : Int} (h : Rd w v L e) : ∃ a cap, v = .slice a L.length cap := by
  obtain ⟨bs, h1, h2, -⟩ := h
  obtain ⟨a, cap, rfl⟩ := h1.form
  exact ⟨a, cap, by rw [← h2, List.length_map]⟩
theorem Rt.rd {w : World} {base : Nat} {v : Value} {L : List Bs} {e : Int} (h : Rt w base v L e) : Rd w v L e := by
  obtain ⟨bs, h1, h2, h3, h4⟩ := h
  refine ⟨bs, h1.rd fun b hb => ?_, h2, h3⟩
  exact h4 b.say (by rw [← h2]; exact List.mem_map_of_mem hb)
theorem same_rd {w : World} {v v' : Value} {L : List Bs} {e : Int} (h : Rd w v L e) (h' : Rd w v' L e) (hl : L.length ≤ 1000) :
    Calls Try.prog 16 #[v, v'] w fun x w' => x = .returned (.bool true) ∧ Below w.heap.size w w' := by
  obtain ⟨bs, h1, h2, h3⟩ := h
  obtain ⟨bs', h1', h2', h3'⟩ := h'
  exact sameB_yes v v' bs bs' e w h1 h1' (by rw [← List.length_map (f := Br.say), h2]; exact hl) h3 h3' (by rw [h2, h2'])
theorem bc_drop (ks : List Br) (i : Nat) : (bc ks).drop (i * 4) = bc (ks.drop i) := by
  induction ks generalizing i with
  | nil => simp [bc]
  | cons a ks ih =>
    cases i with
    | zero => simp
    | succ i => rw [bc_cons, List.drop_succ_cons, show (i + 1) * 4 = i * 4 + 1 + 1 + 1 + 1 by omega, List.drop_succ_cons, List.drop_succ_cons, List.drop_succ_cons, List.drop_succ_cons, ih]
theorem Rd.cut {w : World} {g off n cap : Nat} {L : List Bs} {e : Int} (h : Rd w (.slice (some ⟨g, off, none⟩) n cap) L e) (a c : Nat) (_ha : a ≤ n) : Rd w (.slice (some ⟨g, off + a * 4, none⟩) (n - a) c) (L.drop a) e := by
  obtain ⟨bs, ⟨⟨a', cap', e1, h1⟩, h2⟩, h3, h4⟩ := h
  cases e1
  refine ⟨bs.drop a, ⟨⟨_, _, by rw [List.length_drop], ?_⟩, fun b hb => h2 b (List.mem_of_mem_drop hb)⟩, by rw [List.map_drop, h3], fun b hb => h4 b (List.mem_of_mem_drop hb)⟩
  rcases h1 with ⟨e2, _⟩ | ⟨g', off', e2, hg, hc⟩
  · cases e2
  · cases e2
    refine .inr ⟨g, off + a * 4, rfl, hg, fun j u hu => ?_⟩
    rw [← bc_drop, List.getElem?_drop] at hu
    rw [Nat.add_assoc]; exact hc _ u hu
theorem Rd.empty {w : World} {g off c : Nat} {e : Int} (hg : g < w.heap.size) : Rd w (.slice (some ⟨g, off, none⟩) 0 c) [] e :=
  ⟨[], ⟨⟨_, _, rfl, .inr ⟨g, off, rfl, hg, fun j u hu => by simp [bc] at hu⟩⟩, fun b hb => by cases hb⟩, rfl, fun b hb => by cases hb⟩
theorem Rt.own {w : World} {base n c : Nat} {a : Option Addr} {L : List Bs} {e : Int} (h : Rt w base (.slice a n c) L e) : (a = none ∧ n = 0 ∧ c = 0) ∨ ∃ g, a = some ⟨g, 0, none⟩ ∧ base ≤ g ∧ g < w.heap.size ∧ n ≤ c := by
  obtain ⟨bs, hb, -⟩ := h
  rcases hb.row.2 with ⟨e1, -⟩ | ⟨g, cap, cur, e1, h1, h2, h3, -⟩
  · cases e1; exact .inl ⟨rfl, rfl, rfl⟩
  · cases e1; exact .inr ⟨g, rfl, h1, (Array.getElem?_eq_some_iff.1 h2).1, h3⟩
theorem Lv.drew {w0 wr : World} {t : Nat} {S : Vs} {F : Nat → Prop} (h : Lv w0 wr t S F) : Lv w0 wr.drew t S F := (h.on ((Below.refl _ _).drew)).mono fun _ hk => .inl hk
theorem Rt.keep {w w' : World} {base : Nat} {v : Value} {L : List Bs} {e : Int} {F : Nat → Prop} (h : Rt w base v L e) (hk : ∀ k, F k → w'.heap[k]? = w.heap[k]?) (hF : ∀ k, base ≤ k → k < w.heap.size → F k) : Rt w' base v L e := h.moved fun k h1 h2 => hk k (hF k h1 h2)
end Go.Proofs.Ytaofhjckliobpaa
