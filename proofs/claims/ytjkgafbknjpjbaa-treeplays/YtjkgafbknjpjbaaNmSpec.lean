/- The plain functions that say what package name answers: bytes of a text, the pieces between slashes, errors. -/
import Derived.Laws.RangeAny
import Derived.Laws.Strings
import Derived.Laws.Strings2
import Derived.Laws.Concat
namespace Go.Proofs.Ytjkgafbknjpjbaa

/-- the byte at a place; behind the end a slash -/
def bt (s : ByteArray) (i : Nat) : Nat := if h : i < s.size then (s[i]'h).toNat else 47
theorem bt_at (s : ByteArray) (i : Nat) (h : i < s.size) : bt s i = (s[i]'h).toNat := by unfold bt; rw [dif_pos h]
theorem bt_end (s : ByteArray) (i : Nat) (h : s.size ≤ i) : bt s i = 47 := by unfold bt; rw [dif_neg (by omega)]
theorem bt_lt (s : ByteArray) (i : Nat) : bt s i < 256 := by
  unfold bt; split
  · exact UInt8.toNat_lt _
  · omega

/-- a byte is among the first ones -/
def hasF (s : ByteArray) (c : Nat) : Nat → Bool
  | 0 => false
  | i + 1 => hasF s c i || decide (bt s i = c)
def hasB (s : ByteArray) (c : Nat) : Bool := hasF s c s.size
theorem hasF_iff (s : ByteArray) (c n : Nat) : hasF s c n = true ↔ ∃ i, i < n ∧ bt s i = c := by
  induction n with
  | zero => simp [hasF]
  | succ n ih =>
    simp only [hasF, Bool.or_eq_true, ih, decide_eq_true_eq]
    constructor
    · rintro (⟨i, h, e⟩ | e)
      · exact ⟨i, by omega, e⟩
      · exact ⟨n, by omega, e⟩
    · rintro ⟨i, h, e⟩
      by_cases hi : i = n
      · subst hi; exact .inr e
      · exact .inl ⟨i, by omega, e⟩
theorem hasB_of {s : ByteArray} {c i : Nat} (h : i < s.size) (e : bt s i = c) : hasB s c = true := (hasF_iff _ _ _).2 ⟨i, h, e⟩
theorem hasF_no {s : ByteArray} {c n m : Nat} (h : hasF s c n = false) (hm : ∀ i, n ≤ i → i < m → bt s i ≠ c) : hasF s c m = false := by
  rw [← Bool.not_eq_true, hasF_iff] at h ⊢
  rintro ⟨i, hi, e⟩
  by_cases hn : i < n
  · exact h ⟨i, hn, e⟩
  · exact hm i (by omega) hi e

/-- where the piece begins that goes on at a place -/
def frm (s : ByteArray) : Nat → Nat
  | 0 => 0
  | i + 1 => if bt s i = 47 then i + 1 else frm s i
theorem frm_le (s : ByteArray) (i : Nat) : frm s i ≤ i := by
  induction i with
  | zero => exact Nat.le_refl _
  | succ i ih => simp only [frm]; split <;> omega
/-- the pieces that have ended ahead of a place -/
def pcs (s : ByteArray) : Nat → List ByteArray
  | 0 => []
  | i + 1 => if bt s i = 47 ∧ frm s i < i then pcs s i ++ [s.extract (frm s i) i] else pcs s i
theorem pcs_len (s : ByteArray) (i : Nat) : (pcs s i).length ≤ i := by
  induction i with
  | zero => exact Nat.le_refl _
  | succ i ih => simp only [pcs]; split
                 · rw [List.length_append]; simp only [List.length_cons, List.length_nil]; omega
                 · omega
theorem frm_skip {s : ByteArray} {n m : Nat} (hnm : n ≤ m) (hm : ∀ i, n ≤ i → i < m → bt s i ≠ 47) : frm s m = frm s n ∧ pcs s m = pcs s n := by
  induction m with
  | zero => have : n = 0 := by omega
            subst this; exact ⟨rfl, rfl⟩
  | succ m ih =>
    by_cases h : n = m + 1
    · subst h; exact ⟨rfl, rfl⟩
    · have hb := hm m (by omega) (by omega)
      have := ih (by omega) (fun i h1 h2 => hm i h1 (by omega))
      simp only [frm, pcs, hb, if_false, false_and]
      exact this
def pieces (s : ByteArray) : List ByteArray := pcs s (s.size + 1)

def dotsB (s : ByteArray) : Bool := (s.toList == [46]) || (s.toList == [46, 46])
def rootB (s : ByteArray) : Bool := decide (0 < s.size) && decide (bt s 0 = 47)
/-- the last of a list -/
def lastT (l : List ByteArray) : ByteArray := l.getLast?.getD ⟨#[]⟩
def longB (l : List ByteArray) : Bool := l.any fun x => decide (12 < x.size)

def chkE (s : ByteArray) : Int := if 12 < s.size then 11 else if s.size = 0 ∨ dotsB s = true ∨ hasB s 0 = true ∨ hasB s 47 = true then 10 else 0
def cutE (s : ByteArray) (b : Bool) : Int := if 96 < s.size then 13 else if b = false ∨ hasB s 0 = true then 12 else if longB (pieces s) = true then 11 else 0
def cutL (s : ByteArray) (b : Bool) : List ByteArray := if cutE s b = 0 then pieces s else []
def dirB (s : ByteArray) : Bool := decide (bt s (s.size - 1) = 47) || dotsB (lastT (pieces s))
def cutD (s : ByteArray) (b : Bool) : Bool := if cutE s b = 0 then dirB s else false
def parE (s : ByteArray) : Int := if cutE s (rootB s) = 0 then (if (lastT (pieces s)).size = 0 ∨ dotsB (lastT (pieces s)) = true then 10 else 0) else cutE s (rootB s)
def parL (s : ByteArray) : List ByteArray := if parE s = 0 then (pieces s).dropLast else []
def parT (s : ByteArray) : ByteArray := if parE s = 0 then lastT (pieces s) else ⟨#[]⟩

/-- a list of texts in memory -/
def RowS (w : World) (a : Option Addr) (l : List ByteArray) : Prop :=
  l = [] ∨ ∃ b off, a = some ⟨b, off, none⟩ ∧ b < w.heap.size ∧ ∀ (i : Nat) (x : ByteArray), l[i]? = some x → w.cell? ⟨b, off + i, none⟩ = some (.string x)
end Go.Proofs.Ytjkgafbknjpjbaa
