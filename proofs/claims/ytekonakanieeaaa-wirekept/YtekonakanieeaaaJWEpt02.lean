/- Numbers and texts as bytes, and read, plainly. -/
import Derived.Test.YtekonakanieeaaaJWEpt01
import Derived.Laws.BytesArg
namespace Go.Proofs.Ytekonakanieeaaa
section
open Go.RowKit

/-- a number's groups -/
def numB (n : Nat) : List Int := if n < 128 then [(n : Int)] else ((n % 128 + 128 : Nat) : Int) :: numB (n / 128)
termination_by n
decreasing_by omega
theorem numB_lt {n : Nat} (h : n < 128) : numB n = [(n : Int)] := by unfold numB; rw [if_pos h]
theorem numB_ge {n : Nat} (h : ¬ n < 128) : numB n = ((n % 128 + 128 : Nat) : Int) :: numB (n / 128) := by rw [numB, if_neg h]
/-- bytes -/
def Byt (l : List Int) : Prop := ∀ x ∈ l, 0 ≤ x ∧ x < 256
theorem Byt.nil : Byt [] := fun _ h => by cases h
theorem Byt.cons {x : Int} {l : List Int} (h : Byt (x :: l)) : (0 ≤ x ∧ x < 256) ∧ Byt l := ⟨h x (List.mem_cons_self ..), fun y hy => h y (List.mem_cons_of_mem _ hy)⟩
theorem Byt.app {l m : List Int} (h : Byt l) (k : Byt m) : Byt (l ++ m) := fun x hx => (List.mem_append.1 hx).elim (h x) (k x)
theorem Byt.tail {l m : List Int} (h : Byt (l ++ m)) : Byt m := fun x hx => h x (List.mem_append_right _ hx)
theorem Byt.front {l m : List Int} (h : Byt (l ++ m)) : Byt l := fun x hx => h x (List.mem_append_left _ hx)
theorem Byt.one {x : Int} (h : 0 ≤ x ∧ x < 256) : Byt [x] := fun y hy => by rw [List.mem_singleton.1 hy]; exact h
theorem numB_byt (n : Nat) : Byt (numB n) := by
  induction n using Nat.strongRecOn with
  | ind n ih =>
    by_cases h : n < 128
    · rw [numB_lt h]; intro x hx; rw [List.mem_singleton.1 hx]; omega
    · rw [numB_ge h]; intro x hx
      rcases List.mem_cons.1 hx with rfl | hx
      · omega
      · exact ih (n / 128) (by omega) x hx
theorem numB_len (k : Nat) : ∀ n, n < 128 ^ (k + 1) → (numB n).length ≤ k + 1 := by
  induction k with
  | zero => intro n h; rw [numB_lt (by simpa using h)]; simp
  | succ k ih =>
    intro n h
    by_cases h1 : n < 128
    · rw [numB_lt h1]; simp
    · rw [numB_ge h1, List.length_cons]
      have : n / 128 < 128 ^ (k + 1) := by rw [Nat.div_lt_iff_lt_mul (by decide), ← Nat.pow_succ]; exact h
      have := ih _ this
      omega
theorem numB_pos (n : Nat) : 0 < (numB n).length := by
  by_cases h : n < 128
  · rw [numB_lt h]; simp
  · rw [numB_ge h]; simp

/-- what is left to be read; none: it went wrong -/
abbrev St := Option (List Int)
def octP : St → Int × St
  | none => (0, none)
  | some [] => (0, none)
  | some (x :: r) => (x, some r)
/-- the groups that are left, the unit they count, what has been read -/
def numG : Nat → Nat → Int → St → Int × St
  | 0, _, _, _ => (0, none)
  | k + 1, u, n, s =>
    if 128 ≤ (octP s).1 then numG k (u * 128) (n + (octP s).1 % 128 * u) (octP s).2
    else if 1099511627776 < n + (octP s).1 % 128 * u ∨ ((octP s).1 = 0 ∧ 1 < u) then (0, none) else (n + (octP s).1 % 128 * u, (octP s).2)
/-- a number, read -/
def numP (s : St) : Int × St := numG 6 1 0 s
theorem numG_cons (k u : Nat) (n x : Int) (r : List Int) : numG (k + 1) u n (some (x :: r)) = if 128 ≤ x then numG k (u * 128) (n + x % 128 * u) (some r) else if 1099511627776 < n + x % 128 * u ∨ (x = 0 ∧ 1 < u) then (0, none) else (n + x % 128 * u, some r) := rfl
theorem numG_stop (k u : Nat) (n : Int) (s : St) (h : octP s = (0, none)) : (numG (k + 1) u n s).2 = none := by
  unfold numG
  rw [h]
  show (if (128 : Int) ≤ 0 then _ else _ : Int × St).2 = none
  rw [if_neg (by decide)]
  split <;> rfl
theorem numG_none (k u : Nat) (n : Int) : (numG (k + 1) u n none).2 = none := by
  exact numG_stop k u n none rfl
theorem numP_none : numP none = (0, none) := by
  unfold numP numG
  simp [octP]
theorem numG_back : ∀ (k u : Nat) (n : Int) (v : Nat) (r : List Int), v < 128 ^ (k + 1) → n + v * u ≤ 1099511627776 → (1 < u → v ≠ 0) → numG (k + 1) u n (some (numB v ++ r)) = (n + v * u, some r) := by
  intro k
  induction k with
  | zero =>
    intro u n v r hv hm hz
    have h : v < 128 := by simpa using hv
    rw [numB_lt h]
    show numG 1 u n (some ((v : Int) :: r)) = _
    have e : (v : Int) % 128 = v := by omega
    rw [numG_cons, if_neg (by omega), e, if_neg]
    intro hq
    rcases hq with hq | ⟨h1, h2⟩
    · omega
    · exact hz h2 (by omega)
  | succ k ih =>
    intro u n v r hv hm hz
    by_cases h : v < 128
    · rw [numB_lt h]
      show numG (k + 2) u n (some ((v : Int) :: r)) = _
      have e : (v : Int) % 128 = v := by omega
      rw [numG_cons, if_neg (by omega), e, if_neg]
      intro hq
      rcases hq with hq | ⟨h1, h2⟩
      · omega
      · exact hz h2 (by omega)
    · rw [numB_ge h]
      show numG (k + 2) u n (some (((v % 128 + 128 : Nat) : Int) :: (numB (v / 128) ++ r))) = _
      have h2 : v / 128 < 128 ^ (k + 1) := by rw [Nat.div_lt_iff_lt_mul (by decide), ← Nat.pow_succ]; exact hv
      have e : (((v % 128 + 128 : Nat) : Int)) % 128 = ((v % 128 : Nat) : Int) := by omega
      have e2 : n + ((v % 128 : Nat) : Int) * u + ((v / 128 : Nat) : Int) * ((u * 128 : Nat) : Int) = n + v * u := by
        have hdm : (v : Int) = ((v % 128 : Nat) : Int) + ((v / 128 : Nat) : Int) * 128 := by omega
        rw [Int.natCast_mul, show (v : Int) * u = (((v % 128 : Nat) : Int) + ((v / 128 : Nat) : Int) * 128) * u by rw [← hdm], Int.add_mul, Int.add_assoc, Int.mul_assoc, Int.mul_comm (u : Int)]
        rfl
      have := ih (u * 128) (n + ((v % 128 : Nat) : Int) * u) (v / 128) r h2 (by rw [e2]; exact hm) (by intro; omega)
      rw [numG_cons, if_pos (by omega), e, this, e2]
theorem numP_back {v : Nat} (r : List Int) (h : v ≤ 1099511627776) : numP (some (numB v ++ r)) = ((v : Int), some r) := by
  unfold numP
  rw [numG_back 5 1 0 v r (by omega) (by omega) (by omega)]
  simp
theorem numG_forth : ∀ (k u : Nat) (n m : Int) (l r : List Int), Byt l → numG k u n (some l) = (m, some r) → 1 ≤ u → ∃ v : Nat, l = numB v ++ r ∧ m = n + v * u ∧ m ≤ 1099511627776 ∧ (1 < u → v ≠ 0) := by
  intro k
  induction k with
  | zero => intro u n m l r _ h; simp [numG] at h
  | succ k ih =>
    intro u n m l r hl h hu
    cases l with
    | nil =>
      have := numG_stop k u n (some []) rfl
      rw [h] at this
      cases this
    | cons x l =>
      obtain ⟨hx, hl'⟩ := hl.cons
      rw [numG_cons] at h
      split at h
      · rename_i h1
        obtain ⟨v, e1, e2, e3, e4⟩ := ih _ _ _ _ _ hl' h (by omega)
        have hv0 := e4 (by omega)
        refine ⟨(x - 128).toNat + 128 * v, ?_, ?_, e3, by omega⟩
        · rw [numB_ge (by omega), show ((x - 128).toNat + 128 * v) / 128 = v by omega, show (((((x - 128).toNat + 128 * v) % 128 + 128 : Nat) : Int)) = x by omega, e1]; rfl
        · have hxm : x % 128 = x - 128 := by omega
          rw [e2, hxm]
          have : (((x - 128).toNat + 128 * v : Nat) : Int) = (x - 128) + v * 128 := by omega
          rw [this, Int.natCast_mul, Int.add_mul, Int.mul_assoc, Int.add_assoc, Int.mul_comm (u : Int)]
          rfl
      · rename_i h1
        split at h
        · simp at h
        · rename_i h2
          simp only [Prod.mk.injEq, Option.some.injEq] at h
          obtain ⟨rfl, rfl⟩ := h
          have hxm : x % 128 = x := by omega
          rw [hxm] at h2 ⊢
          refine ⟨x.toNat, ?_, ?_, by omega, ?_⟩
          · rw [numB_lt (by omega), show ((x.toNat : Nat) : Int) = x by omega]; rfl
          · rw [show ((x.toNat : Nat) : Int) = x by omega]
          · intro hu1 h0
            exact h2 (.inr ⟨by omega, hu1⟩)
theorem numP_forth {l r : List Int} {m : Int} (hl : Byt l) (h : numP (some l) = (m, some r)) : 0 ≤ m ∧ m ≤ 1099511627776 ∧ l = numB m.toNat ++ r := by
  obtain ⟨v, e1, e2, e3, _⟩ := numG_forth 6 1 0 m l r hl h (by omega)
  have : m = v := by omega
  subst this
  exact ⟨by omega, e3, by rw [e1]; simp⟩
/-- what is read is a number in its limits -/
theorem numG_in : ∀ (k u : Nat) (n : Int) (s : St), 0 ≤ n → (∀ l, s = some l → Byt l) → 0 ≤ (numG k u n s).1 ∧ (numG k u n s).1 ≤ 1099511627776 := by
  intro k
  induction k with
  | zero => intro u n s _ _; exact ⟨Int.le_refl _, by show (0 : Int) ≤ _; decide⟩
  | succ k ih =>
    intro u n s hn hs
    have ho : 0 ≤ (octP s).1 ∧ ∀ l, (octP s).2 = some l → Byt l := by
      match s, hs with
      | none, _ => exact ⟨Int.le_refl _, fun l h => by cases h⟩
      | some [], _ => exact ⟨Int.le_refl _, fun l h => by cases h⟩
      | some (x :: r), hs => exact ⟨((hs _ rfl).cons).1.1, fun l h => by cases h; exact ((hs _ rfl).cons).2⟩
    have hp : 0 ≤ (octP s).1 % 128 * (u : Int) := Int.mul_nonneg (by omega) (by omega)
    unfold numG
    split
    · exact ih _ _ _ (by omega) ho.2
    · split
      · exact ⟨Int.le_refl _, by show (0 : Int) ≤ _; decide⟩
      · rename_i h; show 0 ≤ n + (octP s).1 % 128 * (u : Int) ∧ n + (octP s).1 % 128 * (u : Int) ≤ _; omega
theorem numP_in {s : St} (hs : ∀ l, s = some l → Byt l) : 0 ≤ (numP s).1 ∧ (numP s).1 ≤ 1099511627776 := numG_in 6 1 0 s (by omega) hs

/-- a text's bytes -/
def bs (s : ByteArray) : List Int := s.data.toList.map fun b => (b.toNat : Int)
theorem bs_len (s : ByteArray) : (bs s).length = s.size := by unfold bs; rw [List.length_map]; rfl
theorem bs_byt (s : ByteArray) : Byt (bs s) := by
  intro x hx
  obtain ⟨b, _, rfl⟩ := List.mem_map.1 hx
  have := b.toNat_lt
  omega
theorem bs_str {l : List Int} (h : Byt l) : bs (strOfNums l) = l := by
  unfold bs strOfNums
  simp only [List.map_map]
  conv => rhs; rw [← List.map_id l]
  refine List.map_congr_left fun x hx => ?_
  have := h x hx
  simp only [Function.comp, id]
  rw [UInt8.toNat_ofNat']
  omega
theorem str_bs (s : ByteArray) : strOfNums (bs s) = s := by
  obtain ⟨⟨l⟩⟩ := s
  unfold bs strOfNums
  congr 1
  simp only [List.map_map]
  congr 1
  conv => rhs; rw [← List.map_id l]
  refine List.map_congr_left fun x _ => ?_
  simp
theorem bs_inj {s t : ByteArray} (h : bs s = bs t) : s = t := by rw [← str_bs s, ← str_bs t, h]
def textB (s : ByteArray) : List Int := numB s.size ++ bs s
theorem textB_byt (s : ByteArray) : Byt (textB s) := (numB_byt _).app (bs_byt _)
/-- a text, read -/
def textP (s : St) : ByteArray × St := match numP s with
  | (_, none) => (⟨#[]⟩, none)
  | (n, some r) => if 96 < n ∨ (r.length : Int) < n then (⟨#[]⟩, none) else (strOfNums (r.take n.toNat), some (r.drop n.toNat))
theorem textP_none : textP none = (⟨#[]⟩, none) := by unfold textP; rw [numP_none]
theorem textP_back {s : ByteArray} (r : List Int) (h : s.size ≤ 96) : textP (some (textB s ++ r)) = (s, some r) := by
  unfold textP textB
  rw [List.append_assoc, numP_back _ (by omega)]
  simp only []
  have hl := bs_len s
  rw [if_neg (by simp [hl]; omega)]
  simp only [Int.toNat_natCast]
  rw [← hl, List.take_left, List.drop_left, str_bs]
theorem textP_forth {l r : List Int} {s : ByteArray} (hl : Byt l) (h : textP (some l) = (s, some r)) : s.size ≤ 96 ∧ l = textB s ++ r := by
  unfold textP at h
  split at h
  · simp at h
  · rename_i n r' hn
    obtain ⟨h0, h1, h2⟩ := numP_forth hl hn
    split at h
    · simp at h
    · rename_i hq
      simp only [Prod.mk.injEq, Option.some.injEq] at h
      obtain ⟨rfl, rfl⟩ := h
      have hr' : Byt r' := by rw [h2] at hl; exact hl.tail
      have hlen : (r'.take n.toNat).length = n.toNat := by rw [List.length_take]; omega
      have hsz : (strOfNums (r'.take n.toNat)).size = n.toNat := by rw [strOfNums_size, hlen]
      refine ⟨by rw [hsz]; omega, ?_⟩
      unfold textB
      rw [hsz, bs_str (fun x hx => hr' x (List.mem_of_mem_take hx)), List.append_assoc, List.take_append_drop]
      exact h2
/-- what is left is bytes -/
def Lft (s : St) : Prop := ∀ l, s = some l → Byt l
theorem Lft.none : Lft none := fun _ h => by cases h
theorem Lft.of {l : List Int} (h : Byt l) : Lft (some l) := fun _ e => by cases e; exact h
theorem octP_lft {s : St} (h : Lft s) : Lft (octP s).2 := by
  match s, h with
  | none, _ => exact Lft.none
  | some [], _ => exact Lft.none
  | some (x :: r), h => exact Lft.of ((h _ rfl).cons).2
theorem octP_in {s : St} (h : Lft s) : 0 ≤ (octP s).1 ∧ (octP s).1 < 256 := by
  match s, h with
  | none, _ => exact ⟨by decide, by decide⟩
  | some [], _ => exact ⟨by decide, by decide⟩
  | some (x :: r), h => exact ((h _ rfl).cons).1
theorem octP_forth {l r : List Int} {x : Int} (h : octP (some l) = (x, some r)) : l = [x] ++ r := by
  cases l with
  | nil => simp [octP] at h
  | cons y l => simp [octP] at h; rw [h.1, h.2]; rfl
theorem octP_back (x : Int) (r : List Int) : octP (some ([x] ++ r)) = (x, some r) := rfl
theorem numP_lft {s : St} (h : Lft s) : Lft (numP s).2 := by
  cases s with
  | none => rw [numP_none]; exact Lft.none
  | some l =>
    intro r hr
    have := (numP_forth (h _ rfl) (show numP (some l) = ((numP (some l)).1, some r) by rw [← hr])).2.2
    have hl := h _ rfl
    rw [this] at hl
    exact hl.tail
theorem textP_lft {s : St} (h : Lft s) : Lft (textP s).2 := by
  cases s with
  | none => rw [textP_none]; exact Lft.none
  | some l =>
    intro r hr
    have := (textP_forth (h _ rfl) (show textP (some l) = ((textP (some l)).1, some r) by rw [← hr])).2
    have hl := h _ rfl
    rw [this] at hl
    exact hl.tail
end
section
open Go.RowKit

def numI (v : Int) : List Int := numB v.toNat
def numOk (v : Int) : Prop := 0 ≤ v ∧ v ≤ 1099511627776
instance (v : Int) : Decidable (numOk v) := by unfold numOk; infer_instance
theorem numI_byt (v : Int) : Byt (numI v) := numB_byt _
theorem numI_back {v : Int} (r : List Int) (h : numOk v) : numP (some (numI v ++ r)) = (v, some r) := by
  unfold numI
  have := numP_back (v := v.toNat) r (by unfold numOk at h; omega)
  rw [this]
  congr 1
  unfold numOk at h; omega
theorem numI_forth {l r : List Int} {m : Int} (hl : Byt l) (h : numP (some l) = (m, some r)) : numOk m ∧ l = numI m ++ r ∧ Byt r := by
  obtain ⟨h0, h1, h2⟩ := numP_forth hl h
  refine ⟨⟨h0, h1⟩, h2, ?_⟩
  rw [h2] at hl; exact hl.tail
theorem textI_forth {l r : List Int} {s : ByteArray} (hl : Byt l) (h : textP (some l) = (s, some r)) : s.size ≤ 96 ∧ l = textB s ++ r ∧ Byt r := by
  obtain ⟨h1, h2⟩ := textP_forth hl h
  refine ⟨h1, h2, ?_⟩
  rw [h2] at hl; exact hl.tail
theorem octI_forth {l r : List Int} {x : Int} (hl : Byt l) (h : octP (some l) = (x, some r)) : (0 ≤ x ∧ x < 256) ∧ l = x :: r ∧ Byt r := by
  have e := octP_forth h
  have e : l = x :: r := e
  subst e
  exact ⟨hl.cons.1, rfl, hl.cons.2⟩
theorem octP_stop {s : St} (h : (octP s).2 ≠ none) : ∃ l, s = some l := by
  cases s with
  | none => exact absurd rfl h
  | some l => exact ⟨l, rfl⟩
theorem numP_stop {s : St} {m : Int} {r : List Int} (h : numP s = (m, some r)) : ∃ l, s = some l := by
  cases s with
  | none => rw [numP_none] at h; cases h
  | some l => exact ⟨l, rfl⟩
theorem textP_stop {s : St} {m : ByteArray} {r : List Int} (h : textP s = (m, some r)) : ∃ l, s = some l := by
  cases s with
  | none => rw [textP_none] at h; cases h
  | some l => exact ⟨l, rfl⟩
theorem octP_stop' {s : St} {m : Int} {r : List Int} (h : octP s = (m, some r)) : ∃ l, s = some l := by
  cases s with
  | none => cases h
  | some l => exact ⟨l, rfl⟩

/- keys -/
def keyB (k : Ky) : List Int := numI k.d ++ textB k.nm
def keyOk (k : Ky) : Prop := numOk k.d ∧ k.nm.size ≤ 96
theorem keyB_byt (k : Ky) : Byt (keyB k) := (numI_byt _).app (textB_byt _)
def keyP (s : St) : Ky × St := (⟨(numP s).1, (textP (numP s).2).1⟩, (textP (numP s).2).2)
theorem keyP_none : keyP none = (⟨0, ⟨#[]⟩⟩, none) := by unfold keyP; rw [numP_none]; simp only []; rw [textP_none]
theorem keyP_back {k : Ky} (r : List Int) (h : keyOk k) : keyP (some (keyB k ++ r)) = (k, some r) := by
  unfold keyP keyB
  rw [List.append_assoc, numI_back _ h.1]
  simp only []
  rw [textP_back _ h.2]
theorem prod_eta {α β : Type} (p : α × β) {b : β} (h : p.2 = b) : p = (p.1, b) := by rw [← h]
theorem keyP_forth {l r : List Int} {k : Ky} (hl : Byt l) (h : keyP (some l) = (k, some r)) : keyOk k ∧ l = keyB k ++ r ∧ Byt r := by
  unfold keyP at h
  obtain ⟨rfl, h2⟩ := Prod.mk.inj h
  have e2 := prod_eta _ h2
  obtain ⟨l1, e1⟩ := textP_stop e2
  rw [e1] at e2 ⊢
  have f1 := prod_eta _ e1
  obtain ⟨a1, a2, a3⟩ := numI_forth hl f1
  obtain ⟨b1, b2, b3⟩ := textI_forth a3 e2
  refine ⟨⟨a1, b1⟩, ?_, b3⟩
  unfold keyB
  rw [List.append_assoc, ← b2]; exact a2
theorem keyP_lft {s : St} (h : Lft s) : Lft (keyP s).2 := textP_lft (numP_lft h)

/- entries -/
def nodeB (e : En) : List Int := numI e.id ++ (e.kind :: (numI e.mode ++ textB e.tg))
def entB (e : En) : List Int := keyB ⟨e.d, e.nm⟩ ++ (if e.neg then [1] else 0 :: nodeB e)
def nodeOk (e : En) : Prop := numOk e.id ∧ numOk e.mode ∧ (1 ≤ e.kind ∧ e.kind ≤ 3) ∧ e.tg.size ≤ 96
def nodeZ (e : En) : Prop := e.id = 0 ∧ e.kind = 0 ∧ e.mode = 0 ∧ e.tg = ⟨#[]⟩
def entOk (e : En) : Prop := keyOk ⟨e.d, e.nm⟩ ∧ if e.neg then nodeZ e else nodeOk e
/-- a node, read -/
structure Nd where
  id : Int
  kind : Int
  mode : Int
  tg : ByteArray
def nodeP (s : St) : Nd × St :=
  let a := numP s
  let b := octP a.2
  let c := numP b.2
  let d := textP c.2
  (⟨a.1, b.1, c.1, d.1⟩, d.2)
theorem nodeP_none : nodeP none = (⟨0, 0, 0, ⟨#[]⟩⟩, none) := by
  unfold nodeP
  simp only [numP_none, octP, textP_none]
def ndB (n : Nd) : List Int := numI n.id ++ (n.kind :: (numI n.mode ++ textB n.tg))
theorem nodeP_back {n : Nd} (r : List Int) (h : numOk n.id ∧ numOk n.mode ∧ n.tg.size ≤ 96) : nodeP (some (ndB n ++ r)) = (n, some r) := by
  unfold nodeP ndB
  simp only []
  rw [List.append_assoc, numI_back _ h.1]
  show (⟨⟨n.id, n.kind, (numP (some ((numI n.mode ++ textB n.tg) ++ r))).1, (textP (numP (some ((numI n.mode ++ textB n.tg) ++ r))).2).1⟩, _⟩ : Nd × St) = _
  show (_, (textP (numP (some ((numI n.mode ++ textB n.tg) ++ r))).2).2) = _
  rw [List.append_assoc, numI_back _ h.2.1]
  simp only []
  rw [textP_back _ h.2.2]
theorem nodeP_forth {l r : List Int} {n : Nd} (hl : Byt l) (h : nodeP (some l) = (n, some r)) : (numOk n.id ∧ numOk n.mode ∧ n.tg.size ≤ 96) ∧ l = ndB n ++ r ∧ Byt r := by
  unfold nodeP at h
  simp only [] at h
  obtain ⟨rfl, h2⟩ := Prod.mk.inj h
  have e4 := prod_eta _ h2
  obtain ⟨l3, s3⟩ := textP_stop e4
  have e3 := prod_eta _ s3
  obtain ⟨l2, s2⟩ := numP_stop e3
  have e2 := prod_eta _ s2
  obtain ⟨l1, s1⟩ := octP_stop' e2
  have e1 := prod_eta _ s1
  obtain ⟨a1, a2, a3⟩ := numI_forth hl e1
  rw [s1] at e2
  obtain ⟨b1, b2, b3⟩ := octI_forth a3 e2
  rw [s2] at e3
  obtain ⟨c1, c2, c3⟩ := numI_forth b3 e3
  rw [s3] at e4
  obtain ⟨d1, d2, d3⟩ := textI_forth c3 e4
  rw [s3, s2, s1]
  refine ⟨⟨a1, c1, d1⟩, ?_, d3⟩
  unfold ndB
  rw [List.append_assoc, List.cons_append, List.append_assoc, ← d2, ← c2, ← b2]
  exact a2
theorem nodeP_lft {s : St} (h : Lft s) : Lft (nodeP s).2 := textP_lft (numP_lft (octP_lft (numP_lft h)))
/-- an entry, read -/
def entP (s : St) : En × St :=
  let k := keyP s
  let f := octP k.2
  if f.1 = 0 then (⟨k.1.d, k.1.nm, false, (nodeP f.2).1.id, (nodeP f.2).1.kind, (nodeP f.2).1.mode, (nodeP f.2).1.tg⟩, (nodeP f.2).2)
  else if f.1 = 1 then (⟨k.1.d, k.1.nm, true, 0, 0, 0, ⟨#[]⟩⟩, f.2)
  else (⟨0, ⟨#[]⟩, false, 0, 0, 0, ⟨#[]⟩⟩, none)
theorem entP_none : entP none = (⟨0, ⟨#[]⟩, false, 0, 0, 0, ⟨#[]⟩⟩, none) := by
  unfold entP
  simp only [keyP_none, octP, if_true, nodeP_none]
theorem entB_byt {e : En} (h : entOk e) : Byt (entB e) := by
  unfold entB
  refine (keyB_byt _).app ?_
  unfold entOk at h
  cases hn : e.neg with
  | true => simp only [if_true]; exact Byt.one (by decide)
  | false =>
    rw [hn] at h
    simp only [Bool.false_eq_true, if_false] at h ⊢
    intro x hx
    rcases List.mem_cons.1 hx with rfl | hx
    · decide
    · unfold nodeB at hx
      rcases List.mem_append.1 hx with hx | hx
      · exact numI_byt _ x hx
      · rcases List.mem_cons.1 hx with rfl | hx
        · have := h.2.2.2.1; omega
        · exact ((numI_byt _).app (textB_byt _)) x hx
theorem entP_back {e : En} (r : List Int) (h : entOk e) : entP (some (entB e ++ r)) = (e, some r) := by
  obtain ⟨d, nm, neg, id, kind, mode, tg⟩ := e
  unfold entOk at h
  unfold entP entB
  simp only [] at h ⊢
  rw [List.append_assoc, keyP_back _ h.1]
  cases neg with
  | true =>
    simp only [if_true] at h ⊢
    obtain ⟨h1, h2, h3, h4⟩ := h.2
    simp only [] at h1 h2 h3 h4
    rw [octP_back]
    simp [h1, h2, h3, h4]
  | false =>
    simp only [Bool.false_eq_true, if_false] at h ⊢
    have hk : octP (some (0 :: nodeB ⟨d, nm, false, id, kind, mode, tg⟩ ++ r)) = (0, some (ndB ⟨id, kind, mode, tg⟩ ++ r)) := rfl
    rw [hk]
    simp only [if_true]
    rw [nodeP_back (n := ⟨id, kind, mode, tg⟩) r ⟨h.2.1, h.2.2.1, h.2.2.2.2⟩]
/-- what is read as an entry has these bytes -/
theorem entP_forth {l r : List Int} {e : En} (hl : Byt l) (h : entP (some l) = (e, some r)) : l = entB e ++ r ∧ Byt r := by
  unfold entP at h
  simp only [] at h
  split at h
  · rename_i hf
    obtain ⟨rfl, h2⟩ := Prod.mk.inj h
    have en := prod_eta _ h2
    have : ∃ l2, (octP (keyP (some l)).2).2 = some l2 := by
      cases hq : (octP (keyP (some l)).2).2 with
      | none => rw [hq, nodeP_none] at en; cases en
      | some l2 => exact ⟨l2, rfl⟩
    obtain ⟨l2, s2⟩ := this
    have e2 := prod_eta _ s2
    obtain ⟨l1, s1⟩ := octP_stop' e2
    have e1 := prod_eta _ s1
    obtain ⟨a1, a2, a3⟩ := keyP_forth hl e1
    rw [s1] at e2
    obtain ⟨b1, b2, b3⟩ := octI_forth a3 e2
    rw [s2] at en
    obtain ⟨c1, c2, c3⟩ := nodeP_forth b3 en
    rw [s2]
    refine ⟨?_, c3⟩
    unfold entB
    rw [← s1] at b2
    rw [s1] at b2
    rw [s1] at hf
    rw [hf] at b2
    simp only [Bool.false_eq_true, if_false]
    rw [List.append_assoc, List.cons_append]
    show l = keyB (keyP (some l)).1 ++ (0 :: (ndB (nodeP (some l2)).1 ++ r))
    rw [← c2, ← b2]
    exact a2
  · split at h
    · rename_i hf0 hf
      obtain ⟨rfl, h2⟩ := Prod.mk.inj h
      have e2 := prod_eta _ h2
      obtain ⟨l1, s1⟩ := octP_stop' e2
      have e1 := prod_eta _ s1
      obtain ⟨a1, a2, a3⟩ := keyP_forth hl e1
      rw [s1] at e2 hf
      obtain ⟨b1, b2, b3⟩ := octI_forth a3 e2
      refine ⟨?_, b3⟩
      unfold entB
      rw [hf] at b2
      simp only [if_true]
      rw [List.append_assoc]
      show l = keyB (keyP (some l)).1 ++ (1 :: r)
      rw [← b2]
      exact a2
    · cases h
theorem entP_lft {s : St} (h : Lft s) : Lft (entP s).2 := by
  unfold entP
  simp only []
  split
  · exact nodeP_lft (octP_lft (keyP_lft h))
  · split
    · exact octP_lft (keyP_lft h)
    · exact Lft.none

/- ops -/
def opB (o : Opn) : List Int := o.kind :: (numI o.dir ++ (textB o.nm ++ (numI o.dst ++ (textB o.new ++ (numI o.mode ++ textB o.tg)))))
def opOk (o : Opn) : Prop := (1 ≤ o.kind ∧ o.kind ≤ 11) ∧ numOk o.dir ∧ numOk o.dst ∧ numOk o.mode ∧ o.nm.size ≤ 96 ∧ o.new.size ≤ 96 ∧ o.tg.size ≤ 96
def zeroOp : Opn := ⟨0, 0, ⟨#[]⟩, 0, ⟨#[]⟩, 0, ⟨#[]⟩⟩
theorem opB_byt {o : Opn} (h : opOk o) : Byt (opB o) := by
  unfold opB
  intro x hx
  rcases List.mem_cons.1 hx with rfl | hx
  · have := h.1; omega
  · exact ((numI_byt _).app ((textB_byt _).app ((numI_byt _).app ((textB_byt _).app ((numI_byt _).app (textB_byt _)))))) x hx
def opP (s : St) : Opn × St :=
  let a := octP s
  let b := numP a.2
  let c := textP b.2
  let d := numP c.2
  let e := textP d.2
  let f := numP e.2
  let g := textP f.2
  (⟨a.1, b.1, c.1, d.1, e.1, f.1, g.1⟩, g.2)
theorem opP_none : opP none = (zeroOp, none) := by
  unfold opP
  simp only [numP_none, octP, textP_none]
  rfl
theorem opP_back {o : Opn} (r : List Int) (h : opOk o) : opP (some (opB o ++ r)) = (o, some r) := by
  obtain ⟨_, h1, h2, h3, h4, h5, h6⟩ := h
  unfold opP opB
  have e : octP (some (o.kind :: (numI o.dir ++ (textB o.nm ++ (numI o.dst ++ (textB o.new ++ (numI o.mode ++ textB o.tg))))) ++ r)) = (o.kind, some (numI o.dir ++ (textB o.nm ++ (numI o.dst ++ (textB o.new ++ (numI o.mode ++ (textB o.tg ++ r))))))) := by
    simp only [List.cons_append, List.append_assoc]; rfl
  simp only [e, numI_back _ h1, textP_back _ h4, numI_back _ h2, textP_back _ h5, numI_back _ h3, textP_back _ h6]
theorem opP_forth {l r : List Int} {o : Opn} (hl : Byt l) (h : opP (some l) = (o, some r)) : l = opB o ++ r ∧ Byt r := by
  unfold opP at h
  simp only [] at h
  obtain ⟨rfl, h2⟩ := Prod.mk.inj h
  have e7 := prod_eta _ h2
  obtain ⟨l6, s6⟩ := textP_stop e7
  have e6 := prod_eta _ s6
  obtain ⟨l5, s5⟩ := numP_stop e6
  have e5 := prod_eta _ s5
  obtain ⟨l4, s4⟩ := textP_stop e5
  have e4 := prod_eta _ s4
  obtain ⟨l3, s3⟩ := numP_stop e4
  have e3 := prod_eta _ s3
  obtain ⟨l2, s2⟩ := textP_stop e3
  have e2 := prod_eta _ s2
  obtain ⟨l1, s1⟩ := numP_stop e2
  have e1 := prod_eta _ s1
  obtain ⟨a1, a2, a3⟩ := octI_forth hl e1
  rw [s1] at e2
  obtain ⟨b1, b2, b3⟩ := numI_forth a3 e2
  rw [s2] at e3
  obtain ⟨c1, c2, c3⟩ := textI_forth b3 e3
  rw [s3] at e4
  obtain ⟨d1, d2, d3⟩ := numI_forth c3 e4
  rw [s4] at e5
  obtain ⟨f1, f2, f3⟩ := textI_forth d3 e5
  rw [s5] at e6
  obtain ⟨g1, g2, g3⟩ := numI_forth f3 e6
  rw [s6] at e7
  obtain ⟨k1, k2, k3⟩ := textI_forth g3 e7
  rw [s6, s5, s4, s3, s2, s1]
  refine ⟨?_, k3⟩
  unfold opB
  simp only [List.cons_append, List.append_assoc]
  rw [← k2, ← g2, ← f2, ← d2, ← c2, ← b2]
  exact a2
theorem opP_lft {s : St} (h : Lft s) : Lft (opP s).2 := textP_lft (numP_lft (textP_lft (numP_lft (textP_lft (numP_lft (octP_lft h))))))

/- lists -/
def listG {α : Type} (rd : St → α × St) : Nat → List α → St → List α × St
  | 0, acc, s => (acc, s)
  | k + 1, acc, s => if s = none ∨ acc.length = 48 then ([], none) else listG rd k (acc ++ [(rd s).1]) (rd s).2
def listP {α : Type} (rd : St → α × St) (s : St) : List α × St := listG rd (numP s).1.toNat [] (numP s).2
theorem listP_none {α : Type} (rd : St → α × St) : listP rd none = ([], none) := by
  unfold listP; rw [numP_none]; rfl
theorem listG_back {α : Type} (rd : St → α × St) (B : α → List Int) (Ok : α → Prop) (hrd : ∀ x r, Ok x → rd (some (B x ++ r)) = (x, some r)) :
    ∀ (l acc : List α) (r : List Int), (∀ x ∈ l, Ok x) → acc.length + l.length ≤ 48 → listG rd l.length acc (some (l.flatMap B ++ r)) = (acc ++ l, some r) := by
  intro l
  induction l with
  | nil => intro acc r _ _; simp [listG]
  | cons x l ih =>
    intro acc r hl hlen
    rw [List.length_cons] at hlen
    rw [List.length_cons, List.flatMap_cons, List.append_assoc]
    unfold listG
    rw [if_neg (by simp; omega), hrd x _ (hl x (List.mem_cons_self ..))]
    simp only []
    rw [ih _ _ (fun y hy => hl y (List.mem_cons_of_mem _ hy)) (by simp; omega)]
    simp
theorem listG_forth {α : Type} (rd : St → α × St) (B : α → List Int) (hrd : ∀ l x r, Byt l → rd (some l) = (x, some r) → l = B x ++ r ∧ Byt r) :
    ∀ (k : Nat) (acc es : List α) (l r : List Int), Byt l → listG rd k acc (some l) = (es, some r) → ∃ m, es = acc ++ m ∧ m.length = k ∧ l = m.flatMap B ++ r ∧ Byt r := by
  have stop : ∀ (k : Nat) (acc : List α), (listG rd k acc none).2 = none := by
    intro k acc
    cases k with
    | zero => rfl
    | succ k => unfold listG; simp
  intro k
  induction k with
  | zero =>
    intro acc es l r hl h
    simp only [listG, Prod.mk.injEq, Option.some.injEq] at h
    obtain ⟨rfl, rfl⟩ := h
    exact ⟨[], by simp, rfl, rfl, hl⟩
  | succ k ih =>
    intro acc es l r hl h
    unfold listG at h
    split at h
    · cases h
    · rename_i hq
      cases hs : (rd (some l)).2 with
      | none => rw [hs] at h; have := stop k (acc ++ [(rd (some l)).1]); rw [h] at this; cases this
      | some l1 =>
        rw [hs] at h
        obtain ⟨a1, a2⟩ := hrd l _ l1 hl (prod_eta _ hs)
        obtain ⟨m, e1, e2, e3, e4⟩ := ih _ _ _ _ a2 h
        refine ⟨(rd (some l)).1 :: m, by rw [e1]; simp, by simp [e2], ?_, e4⟩
        rw [List.flatMap_cons, List.append_assoc, ← e3]; exact a1
end
end Go.Proofs.Ytekonakanieeaaa
