/- The plain functions that say what package name answers: bytes of a text, the pieces between slashes, errors. -/
import Derived.Laws.RangeAny
import Derived.Laws.Strings
import Derived.Laws.Strings2
import Derived.Laws.Concat
import Derived.Test.YtjelggpkeogebaaProg
import Derived.WalkKit
import Derived.WalkSpells
import Derived.WalkLawsBesides
import Derived.WalkSmall
import Derived.Lib.OthersKept
import Derived.Lib.SmallJoins
import Derived.Maps.AppendAt
import Derived.Laws.DeepStrings4
namespace Go.Proofs.Ytjelggpkeogebaa
section
/-- the byte at a place; behind the end a slash -/
def bt (s : ByteArray) (i : Nat) : Nat := if h : i < s.size then (s[i]'h).toNat else 47
theorem bt_at (s : ByteArray) (i : Nat) (h : i < s.size) : bt s i = (s[i]'h).toNat := by unfold bt; rw [dif_pos h]
theorem bt_end (s : ByteArray) (i : Nat) (h : s.size ≤ i) : bt s i = 47 := by unfold bt; rw [dif_neg (by omega)]
theorem bt_lt (s : ByteArray) (i : Nat) : bt s i < 256 := by
  unfold bt; split
  · exact UInt8.toNat_lt _
  · omega

/-- a byte is among the first ones -/
def hasF (s : ByteArray) (c : Nat) : Nat → Bool
  | 0 => false
  | i + 1 => hasF s c i || decide (bt s i = c)
def hasB (s : ByteArray) (c : Nat) : Bool := hasF s c s.size
theorem hasF_iff (s : ByteArray) (c n : Nat) : hasF s c n = true ↔ ∃ i, i < n ∧ bt s i = c := by
  induction n with
  | zero => simp [hasF]
  | succ n ih =>
    simp only [hasF, Bool.or_eq_true, ih, decide_eq_true_eq]
    constructor
    · rintro (⟨i, h, e⟩ | e)
      · exact ⟨i, by omega, e⟩
      · exact ⟨n, by omega, e⟩
    · rintro ⟨i, h, e⟩
      by_cases hi : i = n
      · subst hi; exact .inr e
      · exact .inl ⟨i, by omega, e⟩
theorem hasB_of {s : ByteArray} {c i : Nat} (h : i < s.size) (e : bt s i = c) : hasB s c = true := (hasF_iff _ _ _).2 ⟨i, h, e⟩
theorem hasF_no {s : ByteArray} {c n m : Nat} (h : hasF s c n = false) (hm : ∀ i, n ≤ i → i < m → bt s i ≠ c) : hasF s c m = false := by
  rw [← Bool.not_eq_true, hasF_iff] at h ⊢
  rintro ⟨i, hi, e⟩
  by_cases hn : i < n
  · exact h ⟨i, hn, e⟩
  · exact hm i (by omega) hi e

/-- where the piece begins that goes on at a place -/
def frm (s : ByteArray) : Nat → Nat
  | 0 => 0
  | i + 1 => if bt s i = 47 then i + 1 else frm s i
theorem frm_le (s : ByteArray) (i : Nat) : frm s i ≤ i := by
  induction i with
  | zero => exact Nat.le_refl _
  | succ i ih => simp only [frm]; split <;> omega
/-- the pieces that have ended ahead of a place -/
def pcs (s : ByteArray) : Nat → List ByteArray
  | 0 => []
  | i + 1 => if bt s i = 47 ∧ frm s i < i then pcs s i ++ [s.extract (frm s i) i] else pcs s i
theorem pcs_len (s : ByteArray) (i : Nat) : (pcs s i).length ≤ i := by
  induction i with
  | zero => exact Nat.le_refl _
  | succ i ih => simp only [pcs]; split
                 · rw [List.length_append]; simp only [List.length_cons, List.length_nil]; omega
                 · omega
theorem frm_skip {s : ByteArray} {n m : Nat} (hnm : n ≤ m) (hm : ∀ i, n ≤ i → i < m → bt s i ≠ 47) : frm s m = frm s n ∧ pcs s m = pcs s n := by
  induction m with
  | zero => have : n = 0 := by omega
            subst this; exact ⟨rfl, rfl⟩
  | succ m ih =>
    by_cases h : n = m + 1
    · subst h; exact ⟨rfl, rfl⟩
    · have hb := hm m (by omega) (by omega)
      have := ih (by omega) (fun i h1 h2 => hm i h1 (by omega))
      simp only [frm, pcs, hb, if_false, false_and]
      exact this
def pieces (s : ByteArray) : List ByteArray := pcs s (s.size + 1)

def dotsB (s : ByteArray) : Bool := (s.toList == [46]) || (s.toList == [46, 46])
def rootB (s : ByteArray) : Bool := decide (0 < s.size) && decide (bt s 0 = 47)
/-- the last of a list -/
def lastT (l : List ByteArray) : ByteArray := l.getLast?.getD ⟨#[]⟩
def longB (l : List ByteArray) : Bool := l.any fun x => decide (12 < x.size)

def chkE (s : ByteArray) : Int := if 12 < s.size then 11 else if s.size = 0 ∨ dotsB s = true ∨ hasB s 0 = true ∨ hasB s 47 = true then 10 else 0
def cutE (s : ByteArray) (b : Bool) : Int := if 96 < s.size then 13 else if b = false ∨ hasB s 0 = true then 12 else if longB (pieces s) = true then 11 else 0
def cutL (s : ByteArray) (b : Bool) : List ByteArray := if cutE s b = 0 then pieces s else []
def dirB (s : ByteArray) : Bool := decide (bt s (s.size - 1) = 47) || dotsB (lastT (pieces s))
def cutD (s : ByteArray) (b : Bool) : Bool := if cutE s b = 0 then dirB s else false
def parE (s : ByteArray) : Int := if cutE s (rootB s) = 0 then (if (lastT (pieces s)).size = 0 ∨ dotsB (lastT (pieces s)) = true then 10 else 0) else cutE s (rootB s)
def parL (s : ByteArray) : List ByteArray := if parE s = 0 then (pieces s).dropLast else []
def parT (s : ByteArray) : ByteArray := if parE s = 0 then lastT (pieces s) else ⟨#[]⟩

/-- a list of texts in memory -/
def RowS (w : World) (a : Option Addr) (l : List ByteArray) : Prop :=
  l = [] ∨ ∃ b off, a = some ⟨b, off, none⟩ ∧ b < w.heap.size ∧ ∀ (i : Nat) (x : ByteArray), l[i]? = some x → w.cell? ⟨b, off + i, none⟩ = some (.string x)
end
section
theorem bt_get (s : ByteArray) (i : Nat) (h : i < s.size) : (s.get! i).toNat = bt s i := by
  rw [bt_at s i h]
  have := get_at s i h
  rw [Nat.add_zero] at this
  rw [this]

def contP (t : ByteArray) (pos k : Nat) : Prop := pos + k < t.size ∧ (t.get! (pos + k)).toNat / 64 = 2
theorem contP_of {t : ByteArray} {pos k : Nat} (h : (decide (pos + k < t.size) && (t.get! (pos + k)).toNat / 64 == 2) = true) : contP t pos k := by
  rw [Bool.and_eq_true, decide_eq_true_eq, beq_iff_eq] at h; exact h
theorem contP_bt {t : ByteArray} {pos k : Nat} (h : contP t pos k) : pos + k < t.size ∧ 128 ≤ bt t (pos + k) := by
  refine ⟨h.1, ?_⟩
  rw [← bt_get t _ h.1]
  have := h.2; omega
theorem dec_cases (t : ByteArray) (pos : Nat) : (Utf8.decode t pos).2 = 1 ∨ ((Utf8.decode t pos).2 = 2 ∧ contP t pos 1) ∨ ((Utf8.decode t pos).2 = 3 ∧ contP t pos 1 ∧ contP t pos 2) ∨ ((Utf8.decode t pos).2 = 4 ∧ contP t pos 1 ∧ contP t pos 2 ∧ contP t pos 3) := by
  unfold Utf8.decode
  dsimp only
  split
  · exact .inl rfl
  · split
    · rename_i h
      rw [Bool.and_eq_true] at h
      split
      · exact .inr (.inl ⟨rfl, contP_of h.2⟩)
      · exact .inl rfl
    · split
      · rename_i h
        rw [Bool.and_eq_true, Bool.and_eq_true] at h
        split
        · exact .inr (.inr (.inl ⟨rfl, contP_of h.1.2, contP_of h.2⟩))
        · exact .inl rfl
      · split
        · rename_i h
          rw [Bool.and_eq_true, Bool.and_eq_true, Bool.and_eq_true] at h
          split
          · exact .inr (.inr (.inr ⟨rfl, contP_of h.1.1.2, contP_of h.1.2, contP_of h.2⟩))
          · exact .inl rfl
        · exact .inl rfl

theorem dec_step (t : ByteArray) (pos : Nat) (h : pos < t.size) :
    1 ≤ (Utf8.decode t pos).2 ∧ pos + (Utf8.decode t pos).2 ≤ t.size ∧ (∀ i, pos < i → i < pos + (Utf8.decode t pos).2 → 128 ≤ bt t i) ∧
      ((bt t pos < 128 ∧ (Utf8.decode t pos).1 = bt t pos ∧ (Utf8.decode t pos).2 = 1) ∨ (128 ≤ bt t pos ∧ 128 ≤ (Utf8.decode t pos).1)) := by
  have h4 : (bt t pos < 128 ∧ (Utf8.decode t pos).1 = bt t pos ∧ (Utf8.decode t pos).2 = 1) ∨ (128 ≤ bt t pos ∧ 128 ≤ (Utf8.decode t pos).1) := by
    by_cases ha : bt t pos < 128
    · have e := decode_ascii t pos h (by rw [← bt_at t pos h]; exact ha)
      rw [e]
      exact .inl ⟨ha, (bt_at t pos h).symm, rfl⟩
    · exact .inr ⟨by omega, (decode_high t pos h (by rw [← bt_at t pos h]; omega)).1⟩
  refine ⟨?_, ?_, ?_, h4⟩
  · rcases dec_cases t pos with e | ⟨e, _⟩ | ⟨e, _⟩ | ⟨e, _⟩ <;> rw [e] <;> omega
  · rcases dec_cases t pos with e | ⟨e, h1⟩ | ⟨e, _, h1⟩ | ⟨e, _, _, h1⟩ <;> rw [e]
    · omega
    · have := (contP_bt h1).1; omega
    · have := (contP_bt h1).1; omega
    · have := (contP_bt h1).1; omega
  · intro i h1 h2
    rcases dec_cases t pos with e | ⟨e, c1⟩ | ⟨e, c1, c2⟩ | ⟨e, c1, c2, c3⟩ <;> rw [e] at h2
    · omega
    · obtain rfl : i = pos + 1 := by omega
      exact (contP_bt c1).2
    · have : i = pos + 1 ∨ i = pos + 2 := by omega
      rcases this with rfl | rfl
      · exact (contP_bt c1).2
      · exact (contP_bt c2).2
    · have : i = pos + 1 ∨ i = pos + 2 ∨ i = pos + 3 := by omega
      rcases this with rfl | rfl | rfl
      · exact (contP_bt c1).2
      · exact (contP_bt c2).2
      · exact (contP_bt c3).2

/-- a slash behind turns no byte -/
theorem bt_slash (s : ByteArray) (i : Nat) (h : i < s.size + 1) : bt (s ++ ⟨#[47]⟩) i = bt s i := by
  have hz : (s ++ (⟨#[47]⟩ : ByteArray)).size = s.size + 1 := by rw [ByteArray.size_append]; rfl
  by_cases hi : i < s.size
  · rw [bt_at s i hi, bt_at _ i (by omega), ByteArray.getElem_append_left hi]
  · obtain rfl : i = s.size := by omega
    rw [bt_end s _ (Nat.le_refl _), bt_at _ _ (by omega), ByteArray.getElem_append_right (Nat.le_refl _)]
    simp
    rfl
theorem size_slash (s : ByteArray) : (s ++ (⟨#[47]⟩ : ByteArray)).size = s.size + 1 := by rw [ByteArray.size_append]; rfl

theorem toList_size (s : ByteArray) : s.toList.length = s.size := by rw [ByteArray.toList_eq]; cases s; rfl
theorem toList_nil (s : ByteArray) : (s.toList == []) = decide (s.size = 0) := by
  have h := toList_size s
  cases hl : s.toList with
  | nil => rw [hl] at h; simp at h; simp [← h]
  | cons a l => rw [hl] at h; simp at h; simp [← h]

theorem pcs_succ_cut {s : ByteArray} {i : Nat} (h : bt s i = 47) (hf : frm s i < i) : pcs s (i + 1) = pcs s i ++ [s.extract (frm s i) i] := by simp only [pcs]; rw [if_pos ⟨h, hf⟩]
theorem pcs_succ_not {s : ByteArray} {i : Nat} (h : ¬ (bt s i = 47 ∧ frm s i < i)) : pcs s (i + 1) = pcs s i := by simp only [pcs]; rw [if_neg h]
theorem frm_succ_cut {s : ByteArray} {i : Nat} (h : bt s i = 47) : frm s (i + 1) = i + 1 := by simp only [frm]; rw [if_pos h]
theorem frm_succ_not {s : ByteArray} {i : Nat} (h : bt s i ≠ 47) : frm s (i + 1) = frm s i := by simp only [frm]; rw [if_neg h]
end
section
open Go.RowKit

theorem chainB {w W w' : World} (h : Below w.heap.size w W) (hb : Below W.heap.size W w') : Below w.heap.size w w' := h.trans (hb.mono h.size)

/-- a list of texts that a call has made -/
def Own (w : World) (base : Nat) (v : Value) (l : List ByteArray) : Prop := w.ownsRow base 9 1 v l.length (l.map Value.string)
theorem Own.nil (w : World) (base : Nat) : Own w base (.slice none 0 0) [] := World.ownsRow_nil _ _ _ _
theorem Own.below {w w' : World} {base : Nat} {v : Value} {l : List ByteArray} (h : Own w base v l) (hb : Below w.heap.size w w') : Own w' base v l := by
  refine ⟨h.1, ?_⟩
  rcases h.2 with h2 | ⟨g, cap, cur, hv, hg, hh, r⟩
  · exact .inl h2
  · exact .inr ⟨g, cap, cur, hv, hg, (hb.block g (Array.getElem?_eq_some_iff.1 hh).1).trans hh, r⟩
theorem Own.le {w : World} {base base' : Nat} {v : Value} {l : List ByteArray} (h : Own w base v l) (hb : base' ≤ base) : Own w base' v l := by
  refine ⟨h.1, ?_⟩
  rcases h.2 with h2 | ⟨g, cap, cur, hv, hg, hh, r⟩
  · exact .inl h2
  · exact .inr ⟨g, cap, cur, hv, by omega, hh, r⟩
theorem Own.row {w : World} {base : Nat} {v : Value} {l : List ByteArray} (h : Own w base v l) : ∃ a cap, v = .slice a l.length cap ∧ RowS w a l := by
  have h' := h
  unfold Own at h'
  rcases h.2 with ⟨rfl, h2⟩ | ⟨g, cap, cur, rfl, hg, hh, r⟩
  · rw [h2]; exact ⟨none, 0, rfl, .inl (List.length_eq_zero_iff.1 h2)⟩
  · refine ⟨some ⟨g, 0, none⟩, cap, rfl, .inr ⟨g, 0, rfl, (h'.lt g rfl).2, ?_⟩⟩
    intro i x hx
    have hi : i < l.length := (List.getElem?_eq_some_iff.1 hx).1
    rw [Nat.zero_add, h'.cellAt i (by omega), List.getElem?_map, hx]
    rfl
theorem RowS.below {w w' : World} {a : Option Addr} {l : List ByteArray} (h : RowS w a l) (hb : Below w.heap.size w w') : RowS w' a l := by
  rcases h with h | ⟨b, off, rfl, hs, hc⟩
  · exact .inl h
  · exact .inr ⟨b, off, rfl, Nat.lt_of_lt_of_le hs hb.size, fun i x hx => (hb.cell (by exact hs)).trans (hc i x hx)⟩

theorem dots_any (s : ByteArray) (w : World) : Calls Try.prog 67 #[.string s] w fun e w' => e = .returned (.bool (dotsB s)) ∧ w' = w := by
  unfold dotsB
  go_enter Try.func67, Try.ntmps67
  cases h : s.toList == [46]
  · go_wp2
    go_ret
    exact ⟨rfl, rfl⟩
  · go_wp2
    go_ret
    exact ⟨rfl, rfl⟩

theorem int_beq (n : Nat) (c : Nat) : ((n : Int) == (c : Int)) = decide (n = c) := by
  rw [Bool.eq_iff_iff]; simp; omega
theorem rooted_any (s : ByteArray) (w : World) : Calls Try.prog 85 #[.string s] w fun e w' => e = .returned (.bool (rootB s)) ∧ w' = w := by
  unfold rootB
  go_enter Try.func85, Try.ntmps85
  cases h : s.toList == []
  · have hs : 0 < s.size := by rw [toList_nil] at h; have := of_decide_eq_false h; omega
    have hb : ((s[0].toNat : Int) == 47) = decide (bt s 0 = 47) := by rw [bt_at s 0 hs]; exact int_beq _ 47
    have hd : decide (0 < s.size) = true := decide_eq_true hs
    go_wp2
    go_ret
    rw [hd, Bool.true_and]
    exact ⟨rfl, rfl⟩
  · have hd : decide (0 < s.size) = false := by rw [toList_nil] at h; have := of_decide_eq_true h; exact decide_eq_false (by omega)
    rw [hd]
    go_wp2
    go_ret
    exact ⟨rfl, rfl⟩

theorem lastT_get {l : List ByteArray} (h : l ≠ []) : l[l.length - 1]? = some (lastT l) := by
  unfold lastT
  rw [List.getLast?_eq_getElem?]
  have : 0 < l.length := List.length_pos_iff.2 h
  rw [List.getElem?_eq_getElem (by omega)]; rfl

theorem end_any (a : Option Addr) (l : List ByteArray) (cap : Nat) (w : World) (h : RowS w a l) (hl : l.length ≤ 1000) :
    Calls Try.prog 97 #[.slice a l.length cap] w fun e w' => e = .returned (.string (lastT l)) ∧ w' = w := by
  go_enter Try.func97, Try.ntmps97
  cases l with
  | nil =>
    go_wp2
    go_ret
    exact ⟨rfl, rfl⟩
  | cons x l =>
    rcases h with h | ⟨b, off, rfl, hs, hc⟩
    · cases h
    have hg := hc l.length _ (lastT_get (l := x :: l) (by simp))
    clear hc
    rw [List.length_cons] at hl ⊢
    go_wp2
    go_ret
    exact ⟨rfl, rfl⟩
end
section
open Go.RowKit

theorem below_iter (w : World) (s : ByteArray) (p : Nat) : Below w.heap.size w (w.iter s p) := (Below.refl _ _).alloc (Nat.le_refl _) _

set_option maxHeartbeats 1000000 in
theorem has_any (s : ByteArray) (c : Nat) (w : World) (hc : c < 128) :
    Calls Try.prog 68 #[.string s, .int .i32 c] w fun e w' => e = .returned (.bool (hasB s c)) ∧ Below w.heap.size w w' := by
  go_enter Try.func68, Try.ntmps68
  go_wp2
  go_loopw [] (fun w' => ∃ pos : Nat, w' = w.iter s pos ∧ pos ≤ s.size ∧ hasF s c pos = false) (fun w' => s.size - w'.iterPos w.heap.size)
  case atStart => exact ⟨0, rfl, Nat.zero_le _, rfl⟩
  case round =>
    obtain ⟨pos, rfl, hps, hf⟩ := hrel
    by_cases hp : pos < s.size
    · have hnx : ∀ ty, (Instr.next (.pointer (some ⟨w.heap.size, 0, none⟩)) true ty).run Try.prog (w.iter s pos) = _ := fun ty => run_next_any w s pos ty hp
      obtain ⟨h1, h2, h3, h4⟩ := dec_step s pos hp
      obtain ⟨R, hR⟩ : ∃ R, (Utf8.decode s pos).1 = R := ⟨_, rfl⟩
      obtain ⟨K, hK⟩ : ∃ K, (Utf8.decode s pos).2 = K := ⟨_, rfl⟩
      rw [hR, hK] at hnx h4
      rw [hK] at h1 h2 h3
      clear hR hK
      by_cases he : bt s pos = c
      · have hRc : ((R : Int) == (c : Int)) = true := by rw [int_beq]; exact decide_eq_true (by omega)
        have hh := hasB_of hp he
        clear h4 h3 hf he
        go_wp2
        go_ret
        exact ⟨by rw [hh]; rfl, below_iter _ _ _⟩
      · have hRc : ((R : Int) == (c : Int)) = false := by rw [int_beq]; exact decide_eq_false (by omega)
        have hf2 : hasF s c (pos + K) = false := hasF_no hf fun i hi1 hi2 => by
          by_cases hi : i = pos
          · subst hi; exact he
          · have := h3 i (by omega) hi2; omega
        clear h4 h3 hf he
        go_wp2
        go_roundw
        case rel => exact ⟨pos + K, rfl, h2, hf2⟩
        case measure => simp; omega
    · have hnx : ∀ ty, (Instr.next (.pointer (some ⟨w.heap.size, 0, none⟩)) true ty).run Try.prog (w.iter s pos) = _ := fun ty => run_next_end w s pos ty hp
      have hh : hasB s c = false := by unfold hasB; have : pos = s.size := by omega
                                       rw [← this]; exact hf
      clear hf
      go_wp2
      go_ret
      exact ⟨by rw [hh]; rfl, below_iter _ _ _⟩

theorem Try.infoS : (Try.prog.info? 9).map (fun i => (i.zero, i.size, i.bytes)) = some (some (.string ⟨#[]⟩), 1, 16) := by kernel_rfl

set_option maxRecDepth 20000 in
set_option maxHeartbeats 2000000 in
theorem pieces_any (s : ByteArray) (w : World) (hs : s.size ≤ 1000) :
    Calls Try.prog 96 #[.string s] w fun e w' => ∃ v, e = .returned v ∧ Own w' w.heap.size v (pieces s) ∧ Below w.heap.size w w' := by
  obtain ⟨i0, hi, hz0, hz1, hz2⟩ := info_parts Try.infoS
  obtain ⟨t, ht⟩ : ∃ t, s ++ (⟨#[47]⟩ : ByteArray) = t := ⟨_, rfl⟩
  have hts : t.size = s.size + 1 := by rw [← ht]; exact size_slash s
  have htb : ∀ i, i < s.size + 1 → bt t i = bt s i := fun i h => by rw [← ht]; exact bt_slash s i h
  go_enter Try.func96, Try.ntmps96
  go_wp2
  go_loopw [3, 4] (fun v f wr => ∃ pos : Nat, f = .int .i64 (frm s pos) ∧ pos ≤ s.size + 1 ∧ wr.heap[w.heap.size]? = some (.stringIter t pos) ∧ Own wr (w.heap.size + 1) v (pcs s pos) ∧ Below w.heap.size w wr ∧ w.heap.size + 1 ≤ wr.heap.size) (fun _ _ wr => t.size - wr.iterPos w.heap.size)
  case atStart => exact ⟨0, rfl, Nat.zero_le _, by rw [← ht]; exact World.iter_heap w _ 0, Own.nil _ _, below_iter _ _ _, by simp [World.iter]⟩
  case round =>
    obtain ⟨pos, rfl, hps, hit, hown, hb, hsz⟩ := hrel
    by_cases hp : pos < t.size
    · have hnx : ∀ ty, (Instr.next (.pointer (some ⟨w.heap.size, 0, none⟩)) true ty).run Try.prog wr = _ := fun ty => Lib.run_next_any_at wr w.heap.size t pos ty hit hp
      obtain ⟨h1, h2, h3, h4⟩ := dec_step t pos hp
      obtain ⟨R, hR⟩ : ∃ R, (Utf8.decode t pos).1 = R := ⟨_, rfl⟩
      obtain ⟨K, hK⟩ : ∃ K, (Utf8.decode t pos).2 = K := ⟨_, rfl⟩
      rw [hR, hK] at hnx h4
      rw [hK] at h1 h2 h3
      rw [htb pos (by omega)] at h4
      have hit2 := Lib.iterAt_heap wr w.heap.size t pos (pos + K) hit
      have hb2 := Lib.below_iterAt hb (Nat.le_refl _) t (pos + K)
      have hown2 : Own (wr.iterAt w.heap.size t (pos + K)) (w.heap.size + 1) u3 (pcs s pos) := ownsRow_iterAt hown (by omega) t (pos + K)
      have hsz2 : w.heap.size + 1 ≤ (wr.iterAt w.heap.size t (pos + K)).heap.size := by rw [Lib.iterAt_size]; exact hsz
      have hmeas := iterPos_of hit
      have hmeas2 := iterPos_of hit2
      clear hR hK hown hb hit
      obtain ⟨W, hW⟩ : ∃ W, wr.iterAt w.heap.size t (pos + K) = W := ⟨_, rfl⟩
      rw [hW] at hnx hit2 hb2 hown2 hsz2 hmeas2
      clear hW
      by_cases he : bt s pos = 47
      · obtain ⟨rfl, rfl⟩ : R = 47 ∧ K = 1 := by omega
        have e1 := frm_succ_cut he
        have hfl := frm_le s pos
        by_cases hf : frm s pos < pos
        · have e2 := pcs_succ_cut he hf
          have hlen := pcs_len s pos
          have hfi : ((frm s pos : Nat) : Int) < (pos : Int) := by omega
          have hx : s.extract (frm s pos) pos = s.extract ((frm s pos : Nat) : Int).toNat ((pos : Nat) : Int).toNat := rfl
          clear h4 h3 h1 he
          go_wp2_with (first
            | (at_builtin; refine wpList_append_own _ rfl _ _ 61 rfl (w.heap.size + 1) 9 i0 (.string ⟨#[]⟩) 1 16 Try.underlying61 hi hz0 hz1 hz2 rfl (by decide) _ _ _ rfl (hown2.alloc _) ⟨W.heap.size, 0, none⟩ 1 1 [.string (s.extract (frm s pos) pos)] rfl rfl ?c1 ?c2 ?c3 ?c4 ?c5 ?_))
          case c1 =>
            intro j u hj
            match j, hj with
            | 0, hj => simp at hj; subst hj; simp [Addr.add]
          case c2 => intro u hu; simp at hu; subst hu; rfl
          case c3 => unfold maxLen; omega
          case c4 => omega
          case c5 => simp; omega
          intro v' w1 hown' hgrow _
          have hb3 : Below w.heap.size w w1 := Below.grown (hb2.alloc (by omega) _) hgrow (by simp; omega) (fun q hq => by have := (hown2.lt q hq).1; omega)
          have hown3 : Own w1 (w.heap.size + 1) v' (pcs s (pos + 1)) := by
            unfold Own
            rw [e2, List.length_append, List.map_append]; exact hown'
          have hit3 : w1.heap[w.heap.size]? = some (.stringIter t (pos + 1)) := (hgrow.block w.heap.size (by simp; omega) (fun e => by have := (hown2.lt _ e.symm).1; omega)).trans ((Below.heap_alloc _ _ _ (by omega)).trans hit2)
          have hsz3 : w.heap.size + 1 ≤ w1.heap.size := by have := hgrow.size; simp at this; omega
          have hmeas3 := iterPos_of hit3
          clear hown' hgrow hown2 hit2 hb2 hsz2 hmeas2 hnx
          go_wp2
          go_roundw
          case rel => exact ⟨pos + 1, by rw [e1]; go_num, by omega, hit3, hown3, hb3, hsz3⟩
          case measure => rw [hmeas, hmeas3]; omega
        · have e2 := pcs_succ_not (s := s) (i := pos) (fun h => hf h.2)
          clear h4 h3 h1 he
          rw [← e2] at hown2
          go_wp2
          go_roundw
          case rel => exact ⟨pos + 1, by rw [e1]; go_num, by omega, hit2, hown2, hb2, hsz2⟩
          case measure => rw [hmeas, hmeas2]; omega
      · have hRc : ((R : Int) == 47) = false := by rw [show (47 : Int) = ((47 : Nat) : Int) from rfl, int_beq]; exact decide_eq_false (by omega)
        have e1 := frm_skip (s := s) (n := pos) (m := pos + K) (by omega) (fun i hi1 hi2 => by
          by_cases hi : i = pos
          · subst hi; exact he
          · have := h3 i (by omega) hi2; rw [htb i (by omega)] at this; omega)
        rw [← e1.2] at hown2
        have e3 := e1.1
        clear h4 h3 he e1
        go_wp2
        go_roundw
        case rel => exact ⟨pos + K, by rw [e3], by omega, hit2, hown2, hb2, hsz2⟩
        case measure => rw [hmeas, hmeas2]; omega
    · have hnx : ∀ ty, (Instr.next (.pointer (some ⟨w.heap.size, 0, none⟩)) true ty).run Try.prog wr = _ := fun ty => Lib.run_next_end_at wr w.heap.size t pos ty hit hp
      have hpe : pos = s.size + 1 := by omega
      subst hpe
      clear hit hts htb
      go_wp2
      go_ret
      exact ⟨_, rfl, hown.le (by omega), hb⟩
end
end Go.Proofs.Ytjelggpkeogebaa
