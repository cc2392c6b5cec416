/- The reader in memory: text. -/
import Derived.Test.YtihjhaafmdobmaaWrT
namespace Go.Proofs.Ytihjhaafmdobmaa
open Go.RowKit Go.Lib

theorem numG_zero : ∀ (k u : Nat) (n : Int) (s : St), 1 ≤ u → (u = 1 → n = 0) → (numG k u n s).2 = none → (numG k u n s).1 = 0 := by
  intro k
  induction k with
  | zero => intro u n s _ _ _; rfl
  | succ k ih =>
    intro u n s hu hn h
    unfold numG at h ⊢
    split
    · rename_i h1
      rw [if_pos h1] at h
      exact ih _ _ _ (by omega) (by omega) h
    · rename_i h1
      rw [if_neg h1] at h
      split
      · rfl
      · rename_i h2
        rw [if_neg h2] at h
        have hs : (octP s).2 = none := h
        have hx : (octP s).1 = 0 := by
          match s, hs with
          | none, _ => rfl
          | some [], _ => rfl
        have hu1 : u = 1 := by
          rcases Nat.lt_or_ge 1 u with h | h
          · exact absurd (.inr ⟨hx, h⟩) h2
          · omega
        show n + (octP s).1 % 128 * u = 0
        rw [hx, hn hu1]; simp
theorem numP_zero {s : St} (h : (numP s).2 = none) : (numP s).1 = 0 := numG_zero 6 1 0 s (by omega) (fun _ => rfl) h
/-- bytes as a text -/
theorem cvt_run {W : World} {x : Option Addr} {c : Nat} {m : List Int} (h : m = [] ∨ ∃ g off, x = some ⟨g, off, none⟩ ∧ ∀ i y, m[i]? = some y → W.cell? ⟨g, off + i, none⟩ = some (.int .u8 y)) : (convert 53 9 (.slice x m.length c)).run Try.prog W = .ok (.string (strOfNums m)) W := by
  rcases h with rfl | ⟨g, off, rfl, hc⟩
  · cases x with
    | none => exact run_convert_bytes_nil (P := Try.prog) W 53 5 Try.underlying53 Try.underlying5 0 c 9 Try.underlying9
    | some ad =>
      rw [run_convert_bytes_string W 53 9 5 _ _ c Try.underlying53 Try.underlying5 Try.underlying9]
      exact run_bytesToString (P := Try.prog) W ad 0 c [] (by simpa using run_loadCells_list (P := Try.prog) W ad [] (by simp))
  · exact run_convert_bytes_arg (P := Try.prog) W 53 5 Try.underlying53 Try.underlying5 g off m.length c m rfl (fun i hi => by
      rw [hc i _ (List.getElem?_eq_getElem hi)]
      simp [List.getD, List.getElem?_eq_getElem hi]) 9 Try.underlying9
/-- where a text is read -/
structure Txt (w1 : World) (r : Nat) (v : Value) (l : List Int) (s1 : St) (a n : Nat) (st : Bool) (T : ByteArray × St) : Prop where
  is : IsR w1 r v l s1 a st
  yes : n ≤ 96 → a + n ≤ l.length → T.1 = strOfNums ((l.drop a).take n) ∧ ∀ W, IsR w1 r v l s1 a st → W.heap[r]? = some (.cells #[v, .int .i64 ((a + n : Nat) : Int), .bool st] 120 (0, 0)) → Only (· = r) w1 W → Rg W r v l T.2
  no : ¬ (n ≤ 96 ∧ a + n ≤ l.length) → T = (⟨#[]⟩, none)
theorem txt_of {w1 : World} {r : Nat} {v : Value} {l : List Int} {s : St} (h : Rg w1 r v l (numP s).2) (hs : Lft s) : ∃ a st, Txt w1 r v l (numP s).2 a (numP s).1.toNat st (textP s) := by
  obtain ⟨a, st, h⟩ := h
  refine ⟨a, st, h, ?_, ?_⟩
  · intro h96 hlen
    rcases h.state with ⟨e, rfl, ha⟩ | ⟨e, rfl, ha⟩
    · have h0 := numP_zero e
      have hT : textP s = (⟨#[]⟩, none) := by unfold textP; rw [prod_eta _ e]
      rw [hT, h0]
      refine ⟨by simp [strOfNums], fun W _ hh hO => ⟨a, true, h.turn (by simpa using hh) hO (.inl ⟨rfl, rfl, ha⟩)⟩⟩
    · have hn0 : 0 ≤ (numP s).1 := (numP_in hs).1
      have hT : textP s = (strOfNums ((l.drop a).take (numP s).1.toNat), some ((l.drop a).drop (numP s).1.toNat)) := by
        unfold textP
        rw [prod_eta _ e]
        simp only []
        rw [if_neg (by rw [List.length_drop]; omega)]
      rw [hT]
      refine ⟨rfl, fun W _ hh hO => ⟨a + (numP s).1.toNat, false, h.turn hh hO (.inr ⟨by rw [List.drop_drop], rfl, hlen⟩)⟩⟩
  · intro hno
    rcases h.state with ⟨e, _, ha⟩ | ⟨e, _, ha⟩
    · have h0 := numP_zero e
      exact absurd ⟨by rw [h0]; decide, by rw [h0]; simp; omega⟩ hno
    · unfold textP
      rw [prod_eta _ e]
      simp only []
      rw [if_pos]
      rw [List.length_drop]
      omega
end Go.Proofs.Ytihjhaafmdobmaa
