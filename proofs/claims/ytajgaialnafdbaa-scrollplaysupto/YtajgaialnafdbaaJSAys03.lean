/- A scroll, plainly: halves, headers, records laid. -/
import Derived.Test.YtajgaialnafdbaaJSAys02
namespace Go.Proofs.Ytajgaialnafdbaa
section
open Go.RowKit

def hS (cs : List (List Int)) : Nat := (cs.length - 1) / 2
def halfL (cs : List (List Int)) (h : Nat) : List (List Int) := (cs.drop (1 + h * hS cs)).take (hS cs)
theorem halfL_get (cs : List (List Int)) (h i : Nat) : (halfL cs h)[i]? = if i < hS cs then cs[1 + h * hS cs + i]? else none := by
  unfold halfL; rw [List.getElem?_take, List.getElem?_drop]
theorem half_fits (cs : List (List Int)) (h i : Nat) (hh : h ≤ 1) (hi : i < hS cs) : 1 + h * hS cs + i < cs.length := by
  unfold hS at *
  rcases (by omega : h = 0 ∨ h = 1) with rfl | rfl <;> omega
theorem halfL_len (cs : List (List Int)) (h : Nat) (hh : h ≤ 1) : (halfL cs h).length = hS cs := by
  unfold halfL
  rw [List.length_take, List.length_drop]
  unfold hS
  rcases (by omega : h = 0 ∨ h = 1) with rfl | rfl <;> omega

/-- a header's generation and half -/
def hdrOf (b : List Int) : Option (Nat × Nat) :=
  if 1 ≤ le4 (b.drop 4) ∧ le4 (b.drop 4) ≤ 1073741824 ∧ gB b 8 ≤ 1 ∧ b = hdrB (le4 (b.drop 4)) (gB b 8) then some (le4 (b.drop 4), gB b 8) else none
theorem hdrOf_hdr {g h : Nat} (h1 : 1 ≤ g) (h2 : g ≤ 1073741824) (hh : h ≤ 1) : hdrOf (hdrB g h) = some (g, h) := by
  have e1 : le4 ((hdrB g h).drop 4) = g := by
    have : (hdrB g h).drop 4 = n4 g ++ ([((h % 256 : Nat) : Int)] ++ List.replicate 55 0) := rfl
    rw [this]; exact le4_n4 g (by omega) _
  have e2 : gB (hdrB g h) 8 = h := by
    have : gB (hdrB g h) 8 = h % 256 := by simp [gB, hdrB, fillB, n4]; omega
    omega
  unfold hdrOf
  rw [e1, e2, if_pos ⟨h1, h2, hh, rfl⟩]
theorem hdrOf_some {b : List Int} {g h : Nat} (e : hdrOf b = some (g, h)) : 1 ≤ g ∧ g ≤ 1073741824 ∧ h ≤ 1 ∧ b = hdrB g h := by
  unfold hdrOf at e
  split at e
  · rename_i k
    simp only [Option.some.injEq, Prod.mk.injEq] at e
    obtain ⟨rfl, rfl⟩ := e
    exact k
  · cases e

def gmax (g : Nat) (bs : List (List Int)) : Nat := bs.foldl (fun m b => max m (le4 b)) g
theorem gmax_ge (g : Nat) (bs : List (List Int)) : g ≤ gmax g bs ∧ ∀ b ∈ bs, le4 b ≤ gmax g bs := by
  unfold gmax
  induction bs generalizing g with
  | nil => exact ⟨Nat.le_refl _, fun _ h => by cases h⟩
  | cons a bs ih =>
    rw [List.foldl_cons]
    obtain ⟨h1, h2⟩ := ih (max g (le4 a))
    refine ⟨by omega, fun b hb => ?_⟩
    rcases List.mem_cons.1 hb with rfl | hb
    · omega
    · exact h2 b hb
def nextO (o : Option (Nat × Nat)) : Nat × Nat := match o with | some (g, h) => (g, 1 - h) | none => (0, 0)
def nextG (cs : List (List Int)) : Nat := gmax (nextO (hdrOf ((cs[0]?).getD []))).1 (halfL cs (nextO (hdrOf ((cs[0]?).getD []))).2) + 1
def nextH (cs : List (List Int)) : Nat := (nextO (hdrOf ((cs[0]?).getD []))).2
theorem nextH_le (cs : List (List Int)) : nextH cs ≤ 1 := by
  unfold nextH nextO
  split
  · show 1 - _ ≤ 1; omega
  · exact Nat.zero_le _

/-- a record's pieces laid from block a on -/
def putP (cs : List (List Int)) (a g r c : Nat) (l : List Int) : Nat → List (List Int)
  | 0 => cs
  | j + 1 => (putP cs a g r c l j).set (a + j) (pieceB g r j c (cutP l j))
theorem putP_len (cs : List (List Int)) (a g r c : Nat) (l : List Int) (j : Nat) : (putP cs a g r c l j).length = cs.length := by
  induction j with
  | zero => rfl
  | succ j ih => unfold putP; rw [List.length_set, ih]
theorem putP_get (cs : List (List Int)) (a g r c : Nat) (l : List Int) (j i : Nat) : (putP cs a g r c l j)[i]? = if a ≤ i ∧ i < a + j ∧ i < cs.length then some (pieceB g r (i - a) c (cutP l (i - a))) else cs[i]? := by
  induction j with
  | zero => rw [if_neg (by omega)]; rfl
  | succ j ih =>
    unfold putP
    rw [List.getElem?_set, putP_len, ih]
    by_cases e : a + j = i
    · subst e
      rw [if_pos rfl]
      by_cases hl : a + j < cs.length
      · rw [if_pos hl, if_pos (by omega), show a + j - a = j by omega]
      · rw [if_neg hl, if_neg (by omega), List.getElem?_eq_none (by omega)]
    · rw [if_neg e]
      by_cases h1 : a ≤ i ∧ i < a + j ∧ i < cs.length
      · rw [if_pos h1, if_pos (by omega)]
      · rw [if_neg h1, if_neg (by omega)]
theorem putP_hS (cs : List (List Int)) (a g r c : Nat) (l : List Int) (j : Nat) : hS (putP cs a g r c l j) = hS cs := by unfold hS; rw [putP_len]
theorem putP_half (cs : List (List Int)) (h u g r c : Nat) (l : List Int) (j i : Nat) (hh : h ≤ 1) : (halfL (putP cs (1 + h * hS cs + u) g r c l j) h)[i]? = if u ≤ i ∧ i < u + j ∧ i < hS cs then some (pieceB g r (i - u) c (cutP l (i - u))) else (halfL cs h)[i]? := by
  rw [halfL_get, putP_hS, putP_get, halfL_get]
  by_cases hi : i < hS cs
  · have := half_fits cs h i hh hi
    rw [if_pos hi, if_pos hi]
    by_cases hu : u ≤ i ∧ i < u + j
    · rw [if_pos (by omega), if_pos (by omega), show 1 + h * hS cs + i - (1 + h * hS cs + u) = i - u by omega]
    · rw [if_neg (by omega), if_neg (by omega)]
  · rw [if_neg hi, if_neg hi, if_neg (by omega)]
theorem putP_other (cs : List (List Int)) (h h' u g r c : Nat) (l : List Int) (j : Nat) (hh : h ≤ 1) (hh' : h' ≤ 1) (hn : h ≠ h') (hu : u + j ≤ hS cs) : halfL (putP cs (1 + h * hS cs + u) g r c l j) h' = halfL cs h' := by
  apply List.ext_getElem?
  intro i
  rw [halfL_get, putP_hS, putP_get, halfL_get]
  by_cases hi : i < hS cs
  · rw [if_pos hi, if_pos hi, if_neg]
    rcases (by omega : h = 0 ∧ h' = 1 ∨ h = 1 ∧ h' = 0) with ⟨rfl, rfl⟩ | ⟨rfl, rfl⟩ <;> omega
  · rw [if_neg hi, if_neg hi]
theorem putP_zero (cs : List (List Int)) (a g r c : Nat) (l : List Int) (j : Nat) (ha : 1 ≤ a) : (putP cs a g r c l j)[0]? = cs[0]? := by
  rw [putP_get, if_neg (by omega)]
theorem set0_half (cs : List (List Int)) (x : List Int) (h : Nat) : halfL (cs.set 0 x) h = halfL cs h := by
  apply List.ext_getElem?
  intro i
  have e : hS (cs.set 0 x) = hS cs := by unfold hS; rw [List.length_set]
  rw [halfL_get, halfL_get, e, List.getElem?_set_ne (by omega)]

/-- a half under a generation: these records, in so many blocks, and no last piece behind them -/
structure Hf (cs : List (List Int)) (g h : Nat) (R : List (List Int)) (u : Nat) : Prop where
  pre : Pre g (halfL cs h) R u
  nol : ∀ (i : Nat) (b : List Int), u ≤ i → (halfL cs h)[i]? = some b → ¬ lastP g b
  hh : h ≤ 1
  hg : g < 4294967296
theorem Hf.told {cs : List (List Int)} {g h : Nat} {R : List (List Int)} {u : Nat} (H : Hf cs g h R u) : Told g (halfL cs h) R u := told_of H.hg H.pre H.nol
theorem Hf.le {cs : List (List Int)} {g h : Nat} {R : List (List Int)} {u : Nat} (H : Hf cs g h R u) : u ≤ hS cs ∧ R.length ≤ u := by
  have := H.pre.le; rw [halfL_len _ _ H.hh] at this; exact this
theorem Hf.same {cs cs' : List (List Int)} {g h : Nat} {R : List (List Int)} {u : Nat} (H : Hf cs g h R u) (e : halfL cs' h = halfL cs h) : Hf cs' g h R u := ⟨e ▸ H.pre, e ▸ H.nol, H.hh, H.hg⟩
theorem nb_pos {n : Nat} (h : 1 ≤ n) : 1 ≤ nb n := by unfold nb; omega
theorem nb_le {n : Nat} (h : n ≤ 424) : nb n ≤ 8 := by unfold nb; omega
theorem Hf.part {cs : List (List Int)} {g h : Nat} {R : List (List Int)} {u : Nat} (H : Hf cs g h R u) (l : List Int) (h2 : l.length ≤ 424) (j : Nat) (hj : j < nb l.length) : Hf (putP cs (1 + h * hS cs + u) g R.length (nb l.length) l j) g h R u := by
  have := nb_le h2
  refine ⟨H.pre.congr fun i hi => ?_, fun i b hi hb => ?_, H.hh, H.hg⟩
  · rw [putP_half _ _ _ _ _ _ _ _ _ H.hh, if_neg (by omega)]
  · rw [putP_half _ _ _ _ _ _ _ _ _ H.hh] at hb
    split at hb
    · injection hb with hb
      subst hb
      exact pieceB_last H.hg (by omega) (by omega) (by omega)
    · exact H.nol i b hi hb
theorem Hf.whole {cs : List (List Int)} {g h : Nat} {R : List (List Int)} {u : Nat} (H : Hf cs g h R u) (l : List Int) (h1 : 1 ≤ l.length) (h2 : l.length ≤ 424) (hu : u + nb l.length ≤ hS cs) : Hf (putP cs (1 + h * hS cs + u) g R.length (nb l.length) l (nb l.length)) g h (R ++ [l]) (u + nb l.length) := by
  have hp := H.pre.congr (bs' := halfL (putP cs (1 + h * hS cs + u) g R.length (nb l.length) l (nb l.length)) h) fun i hi => by rw [putP_half _ _ _ _ _ _ _ _ _ H.hh, if_neg (by omega)]
  refine ⟨hp.snoc (rdOne_cut h1 h2 _ fun i hi => ?_), fun i b hi hb => ?_, H.hh, H.hg⟩
  · rw [List.getElem?_drop, putP_half _ _ _ _ _ _ _ _ _ H.hh, if_pos (by omega), show u + i - u = i by omega]
  · rw [putP_half _ _ _ _ _ _ _ _ _ H.hh, if_neg (by omega)] at hb
    exact H.nol i b (by omega) hb

/-- a disk with a scroll -/
structure Sc (cs : List (List Int)) (g h : Nat) (R : List (List Int)) (u : Nat) : Prop where
  hdr : hdrOf ((cs[0]?).getD []) = some (g, h)
  hf : Hf cs g h R u
theorem Sc.g {cs : List (List Int)} {g h : Nat} {R : List (List Int)} {u : Nat} (H : Sc cs g h R u) : 1 ≤ g ∧ g ≤ 1073741824 ∧ h ≤ 1 := by
  obtain ⟨a, b, c, _⟩ := hdrOf_some H.hdr; exact ⟨a, b, c⟩
theorem next_half {cs : List (List Int)} (hg : nextG cs ≤ 1073741824) : Hf cs (nextG cs) (nextH cs) [] 0 := by
  refine ⟨.nil, fun i b _ hb hl => ?_, nextH_le cs, by omega⟩
  have h := (gmax_ge (nextO (hdrOf ((cs[0]?).getD []))).1 (halfL cs (nextO (hdrOf ((cs[0]?).getD []))).2)).2 b (List.mem_of_getElem? hb)
  have := hl.1
  unfold nextG at this
  omega
theorem Sc.nextH {cs : List (List Int)} {g h : Nat} {R : List (List Int)} {u : Nat} (H : Sc cs g h R u) : nextH cs = 1 - h ∧ g < nextG cs := by
  have e : nextO (hdrOf ((cs[0]?).getD [])) = (g, 1 - h) := by rw [H.hdr]; rfl
  unfold Go.Proofs.Ytajgaialnafdbaa.nextH nextG
  rw [e]
  exact ⟨rfl, by have := (gmax_ge g (halfL cs (1 - h))).1; simp only; omega⟩
theorem Sc.of {cs : List (List Int)} {g h : Nat} {R : List (List Int)} {u : Nat} (H : Hf cs g h R u) (h1 : 1 ≤ g) (h2 : g ≤ 1073741824) (hc : 0 < cs.length) : Sc (cs.set 0 (hdrB g h)) g h R u := by
  refine ⟨?_, H.same (set0_half cs _ h)⟩
  rw [List.getElem?_set, if_pos rfl, if_pos hc]
  exact hdrOf_hdr h1 h2 H.hh
end
end Go.Proofs.Ytajgaialnafdbaa
