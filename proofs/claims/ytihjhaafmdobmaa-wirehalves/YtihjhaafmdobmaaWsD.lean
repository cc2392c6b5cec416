/- done; Decode, plainly. -/
import Derived.Test.YtihjhaafmdobmaaWsA
import Derived.Test.YtihjhaafmdobmaaWsB
import Derived.Test.YtihjhaafmdobmaaWsC
namespace Go.Proofs.Ytihjhaafmdobmaa
open Go.RowKit Go.Lib

theorem message_r {w : World} {r : Nat} {v : Value} {l : List Int} {s : St} (h : Rg w r v l s) : Calls Try.prog 63 #[.pointer (some ⟨r, 0, none⟩)] w fun e w' => ∃ ve vk, e = .returned (.agg (MsV (msgP s).1 ve vk).arr) ∧ Red w w' r v l (msgP s).2 ∧ Row7 w' w.heap.size ve (msgP s).1.es ∧ RowK w' w.heap.size vk (msgP s).1.ks := by
  by_cases h1 : (octP s).1 = 1
  · exact message_r1 h h1
  · by_cases h2 : (octP s).1 = 2
    · exact message_r2 h h2
    · by_cases h3 : (octP s).1 = 3
      · exact message_r3 h h3
      · exact message_r0 h ⟨h1, h2, h3⟩
def doneB (s : St) : Bool := match s with
  | some [] => true
  | _ => false
theorem doneB_iff (s : St) : doneB s = true ↔ s = some [] := by
  unfold doneB
  split
  · simp
  · rename_i h
    constructor
    · intro h'; cases h'
    · intro h'; exact absurd h' h
set_option maxRecDepth 20000 in
set_option maxHeartbeats 8000000 in
theorem done_r {w : World} {r : Nat} {v : Value} {l : List Int} {s : St} (h : Rg w r v l s) : Calls Try.prog 64 #[.pointer (some ⟨r, 0, none⟩)] w fun e w' => e = .returned (.bool (doneB s)) ∧ Below w.heap.size w w' := by
  obtain ⟨a, st, h⟩ := h
  obtain ⟨c0, c1, c2, cf⟩ := h.cells
  obtain ⟨ad, cap, rfl, _, _⟩ := id h.rb
  obtain ⟨n, hn⟩ : ∃ n, l.length = n := ⟨_, rfl⟩
  rw [hn] at c0
  rcases h.state with ⟨rfl, rfl, ha⟩ | ⟨rfl, rfl, ha⟩
  · clear h
    have HE : Hid (doneB none = false) := rfl
    clear ha
    rw [HE.out]
    clear hn
    go_enter Try.func64, Try.ntmps64
    go_upto_region 1 with fail
    go_quiet (fail)
    obtain ⟨W, hW⟩ : ∃ W, w.drewN nq = W := ⟨_, rfl⟩
    have hb : Below w.heap.size w W := by rw [← hW]; exact below_drewN (Below.refl _ _) _
    rw [hW]
    go_wp2
    go_ret
    exact ⟨rfl, hb⟩
  · have HE : Hid (doneB (some (l.drop a)) = ((a : Int) == (n : Int))) := by
      show _ = _
      by_cases h1 : a = n
      · subst h1
        rw [List.drop_of_length_le (by omega)]
        simp [doneB]
      · have h2 : ((a : Int) == (n : Int)) = false := by rw [beq_eq_false_iff_ne]; omega
        rw [h2]
        cases hq : doneB (some (l.drop a)) with
        | false => rfl
        | true =>
          have := (doneB_iff _).1 hq
          have h3 := congrArg (Option.map List.length) this
          simp at h3
          omega
    rw [HE.out]
    clear h ha hn
    go_enter Try.func64, Try.ntmps64
    go_upto_region 1 with fail
    go_quiet (fail)
    obtain ⟨W, hW⟩ : ∃ W, w.drewN nq = W := ⟨_, rfl⟩
    have hb : Below w.heap.size w W := by rw [← hW]; exact below_drewN (Below.refl _ _) _
    rw [hW]
    go_wp2
    go_ret
    exact ⟨rfl, hb⟩
theorem ofInt_good {n k : Int} (hn : numOk n) (hk : numOk k) : goodB (floatOfInt .f64 n) (floatOfInt .f64 k) = true ∧ part (floatOfInt .f64 n) = n ∧ part (floatOfInt .f64 k) = k := by
  unfold numOk at hn hk
  have h1 := ofInt_val n (by omega)
  have h2 := ofInt_val k (by omega)
  refine ⟨?_, part_of h1, part_of h2⟩
  rw [good_of h1 h2]
  exact decide_eq_true ⟨hn.1, hn.2, hk.1, hk.2⟩
theorem MsV_mg {m : Mg} {ve vk : Value} (h1 : numOk m.ep) (h2 : numOk m.nb) : (MsV m ve vk).mg = m := by
  obtain ⟨_, e1, e2⟩ := ofInt_good h1 h2
  obtain ⟨kind, client, life, seq, ep, nb, vers, err, op, es, ks⟩ := m
  unfold MsV Ms.mg
  simp only [] at e1 e2 ⊢
  rw [e1, e2]
theorem MsV_plain {m : Mg} {ve vk : Value} (h1 : numOk m.ep) (h2 : numOk m.nb) : plainB (MsV m ve vk) = true ↔ msgOk m := by
  rw [plainB_iff, MsV_mg h1 h2]
  have := (ofInt_good h1 h2).1
  exact ⟨fun h => h.2, fun h => ⟨this, h⟩⟩
theorem msgP_marks {s : St} (h : Lft s) : numOk (msgP s).1.ep ∧ numOk (msgP s).1.nb := by
  have l1 := numP_lft (numP_lft (numP_lft (octP_lft h)))
  exact ⟨numP_in l1, numP_in (numP_lft l1)⟩
end Go.Proofs.Ytihjhaafmdobmaa
