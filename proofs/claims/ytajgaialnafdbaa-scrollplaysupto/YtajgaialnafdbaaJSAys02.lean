/- A scroll, plainly: the bytes of headers and pieces, what a half holds. -/
import Derived.Test.YtajgaialnafdbaaJSAys01
namespace Go.Proofs.Ytajgaialnafdbaa
section
open Go.RowKit

def gB (l : List Int) (i : Nat) : Nat := ((l[i]?).getD 0).toNat
def n4 (n : Nat) : List Int := [((n % 256 : Nat) : Int), ((n / 256 % 256 : Nat) : Int), ((n / 65536 % 256 : Nat) : Int), ((n / 16777216 % 256 : Nat) : Int)]
def le4 (l : List Int) : Nat := gB l 0 + 256 * gB l 1 + 65536 * gB l 2 + 16777216 * gB l 3
def Byt (l : List Int) : Prop := ∀ x ∈ l, 0 ≤ x ∧ x < 256
theorem n4_len (n : Nat) : (n4 n).length = 4 := rfl
theorem le4_n4 (n : Nat) (h : n < 4294967296) (l : List Int) : le4 (n4 n ++ l) = n := by
  simp only [le4, gB, n4, List.cons_append, List.nil_append, List.getElem?_cons_zero, List.getElem?_cons_succ, Option.getD_some, Int.toNat_natCast]
  omega
theorem gB_lt {l : List Int} (h : Byt l) (i : Nat) : gB l i < 256 := by
  unfold gB
  cases e : l[i]? with
  | none => simp
  | some x => have := h x (List.mem_of_getElem? e); simp; omega
theorem le4_lt {l : List Int} (h : Byt l) : le4 l < 4294967296 := by
  have := gB_lt h 0; have := gB_lt h 1; have := gB_lt h 2; have := gB_lt h 3
  unfold le4; omega
theorem gB_app {l m : List Int} {i : Nat} (h : i < l.length) : gB (l ++ m) i = gB l i := by
  unfold gB; rw [List.getElem?_append_left h]
theorem gB_take {l : List Int} {n i : Nat} (h : i < n) : gB (l.take n) i = gB l i := by
  unfold gB; rw [List.getElem?_take, if_pos h]
theorem le4_take {l : List Int} {n : Nat} (h : 4 ≤ n) : le4 (l.take n) = le4 l := by
  unfold le4; rw [gB_take (by omega), gB_take (by omega), gB_take (by omega), gB_take (by omega)]
theorem byt_nil : Byt [] := fun _ h => by cases h
theorem byt_app {l m : List Int} (h : Byt l) (k : Byt m) : Byt (l ++ m) := fun x hx => (List.mem_append.1 hx).elim (h x) (k x)
theorem byt_cons {x : Int} {m : List Int} (h : 0 ≤ x ∧ x < 256) (k : Byt m) : Byt (x :: m) := fun y hy => (List.mem_cons.1 hy).elim (fun e => e ▸ h) (k y)
theorem byt_nat (n : Nat) (h : n < 256) : 0 ≤ (n : Int) ∧ (n : Int) < 256 := by omega
theorem byt_n4 (n : Nat) : Byt (n4 n) := by
  unfold n4
  refine byt_cons (byt_nat _ (by omega)) (byt_cons (byt_nat _ (by omega)) (byt_cons (byt_nat _ (by omega)) (byt_cons (byt_nat _ (by omega)) byt_nil)))
theorem byt_zs (n : Nat) : Byt (List.replicate n 0) := fun x hx => by rw [(List.mem_replicate.1 hx).2]; decide
theorem byt_take {l : List Int} (h : Byt l) (n : Nat) : Byt (l.take n) := fun x hx => h x (List.mem_of_mem_take hx)
theorem byt_drop {l : List Int} (h : Byt l) (n : Nat) : Byt (l.drop n) := fun x hx => h x (List.mem_of_mem_drop hx)

/-- a whole block that begins so -/
def fillB (l : List Int) : List Int := l ++ List.replicate (64 - l.length) 0
theorem fillB_len {l : List Int} (h : l.length ≤ 64) : (fillB l).length = 64 := by unfold fillB; rw [List.length_append, List.length_replicate]; omega
theorem byt_fill {l : List Int} (h : Byt l) : Byt (fillB l) := byt_app h (byt_zs _)
def headL (g r k c : Nat) : List Int := n4 g ++ (n4 r ++ [((k % 256 : Nat) : Int), ((c % 256 : Nat) : Int)])
theorem headL_len (g r k c : Nat) : (headL g r k c).length = 10 := rfl
theorem byt_head (g r k c : Nat) : Byt (headL g r k c) := byt_app (byt_n4 _) (byt_app (byt_n4 _) (byt_cons (byt_nat _ (by omega)) (byt_cons (byt_nat _ (by omega)) byt_nil)))
def pieceB (g r k c : Nat) (p : List Int) : List Int := fillB (headL g r k c ++ ((p.length % 256 : Nat) : Int) :: p)
def hdrB (g h : Nat) : List Int := fillB (([83, 67, 82, 49] : List Int) ++ (n4 g ++ [((h % 256 : Nat) : Int)]))
theorem pieceB_len {g r k c : Nat} {p : List Int} (h : p.length ≤ 53) : (pieceB g r k c p).length = 64 := fillB_len (by rw [List.length_append, headL_len, List.length_cons]; omega)
theorem byt_piece {g r k c : Nat} {p : List Int} (h : Byt p) : Byt (pieceB g r k c p) := byt_fill (byt_app (byt_head _ _ _ _) (byt_cons (byt_nat _ (by omega)) h))
theorem hdrB_len (g h : Nat) : (hdrB g h).length = 64 := rfl
theorem byt_hdr (g h : Nat) : Byt (hdrB g h) := byt_fill (byt_app (byt_cons (by decide) (byt_cons (by decide) (byt_cons (by decide) (byt_cons (by decide) byt_nil)))) (byt_app (byt_n4 _) (byt_cons (byt_nat _ (by omega)) byt_nil)))

/-- the piece that a block holds under this label -/
def pcIn (g r k c : Nat) (b : List Int) : List Int :=
  if 1 ≤ c ∧ c ≤ 8 ∧ b.take 10 = headL g r k c ∧ gB b 10 ≤ 53 ∧ (gB b 10 < 53 → k + 1 = c) then (b.drop 11).take (gB b 10) else []
theorem take_head {g r k c : Nat} {b : List Int} (h : b.take 10 = headL g r k c) (hg : g < 4294967296) : le4 b = g ∧ gB b 8 = k % 256 ∧ gB b 9 = c % 256 := by
  refine ⟨?_, ?_, ?_⟩
  · rw [← le4_take (l := b) (n := 10) (by omega), h]; exact le4_n4 g hg _
  · rw [← gB_take (l := b) (n := 10) (by omega), h]; simp [gB, headL, n4]; omega
  · rw [← gB_take (l := b) (n := 10) (by omega), h]; simp [gB, headL, n4]; omega
theorem pcIn_some {g r k c : Nat} {b : List Int} (h : pcIn g r k c b ≠ []) (hg : g < 4294967296) : 1 ≤ c ∧ c ≤ 8 ∧ le4 b = g ∧ gB b 8 = k % 256 ∧ gB b 9 = c := by
  unfold pcIn at h
  split at h
  · rename_i e
    obtain ⟨h1, h2, h3, _⟩ := e
    obtain ⟨a, b', c'⟩ := take_head h3 hg
    exact ⟨h1, h2, a, b', by omega⟩
  · exact absurd rfl h
theorem pcIn_piece {g r k c : Nat} {p : List Int} (h1 : 1 ≤ p.length) (h2 : p.length ≤ 53) (hc : 1 ≤ c ∧ c ≤ 8) (hl : p.length < 53 → k + 1 = c) : pcIn g r k c (pieceB g r k c p) = p := by
  have e0 : gB (pieceB g r k c p) 10 = p.length := by
    unfold pieceB fillB
    rw [gB_app (by rw [List.length_append, headL_len, List.length_cons]; omega)]
    simp [gB, headL, n4]; omega
  have e1 : (pieceB g r k c p).take 10 = headL g r k c := by
    unfold pieceB fillB
    rw [List.append_assoc, List.take_left' (headL_len ..)]
  have e2 : (pieceB g r k c p).drop 11 = p ++ List.replicate (53 - p.length) 0 := by
    unfold pieceB fillB
    rw [List.append_assoc, show (11 : Nat) = 10 + 1 from rfl, ← List.drop_drop, List.drop_left' (headL_len ..), List.cons_append, List.drop_one, List.tail_cons]
    congr 2
    rw [List.length_append, headL_len, List.length_cons]; omega
  unfold pcIn
  rw [e0, if_pos ⟨hc.1, hc.2, e1, h2, hl⟩, e2, List.take_left' rfl]

/-- a record's pieces, from the k-th on -/
def rdP (g r c : Nat) : Nat → List (List Int) → Option (List Int)
  | _, [] => none
  | k, b :: bs => if pcIn g r k c b = [] then none else if k + 1 < c then (rdP g r c (k + 1) bs).map (pcIn g r k c b ++ ·) else some (pcIn g r k c b)
def rdOne (g r : Nat) (bs : List (List Int)) : Option (List Int × Nat) :=
  match bs with
  | [] => none
  | b :: _ => (rdP g r (gB b 9) 0 bs).map fun p => (p, gB b 9)

def cutP (l : List Int) (i : Nat) : List Int := (l.drop (53 * i)).take 53
def nb (n : Nat) : Nat := (n + 52) / 53
theorem cutP_len (l : List Int) (i : Nat) : (cutP l i).length ≤ 53 := by unfold cutP; rw [List.length_take]; omega
theorem cutP_len' (l : List Int) (i : Nat) : (cutP l i).length = min 53 (l.length - 53 * i) := by unfold cutP; rw [List.length_take, List.length_drop]
theorem byt_cut {l : List Int} (h : Byt l) (i : Nat) : Byt (cutP l i) := byt_take (byt_drop h _) _
theorem rdP_some {g r c : Nat} (hg : g < 4294967296) : ∀ (bs : List (List Int)) (k : Nat) (p : List Int), rdP g r c k bs = some p → k < c → ∃ b, bs[c - 1 - k]? = some b ∧ le4 b = g ∧ gB b 8 + 1 = c ∧ gB b 9 = c
  | [], k, p, h, _ => by cases h
  | b :: bs, k, p, h, hk => by
    unfold rdP at h
    split at h
    · cases h
    · rename_i e
      obtain ⟨c1, c2, e1, e2, e3⟩ := pcIn_some e hg
      split at h
      · rename_i hlt
        cases hq : rdP g r c (k + 1) bs with
        | none => rw [hq] at h; cases h
        | some q =>
          obtain ⟨b', h1, h2⟩ := rdP_some hg bs (k + 1) q hq hlt
          refine ⟨b', ?_, h2⟩
          rw [show c - 1 - k = (c - 1 - (k + 1)) + 1 by omega, List.getElem?_cons_succ]; exact h1
      · rename_i hge
        refine ⟨b, ?_, e1, ?_, e3⟩
        · rw [show c - 1 - k = 0 by omega]; rfl
        · rw [e2]; omega
theorem rdP_cut {g r c : Nat} {l : List Int} (hc : c = nb l.length) (h1 : 1 ≤ l.length) (h2 : l.length ≤ 424) : ∀ (n k : Nat) (bs : List (List Int)), k + n + 1 = c → (∀ i, i ≤ n → bs[i]? = some (pieceB g r (k + i) c (cutP l (k + i)))) → rdP g r c k bs = some (l.drop (53 * k))
  | n, k, [], hk, hb => by have := hb 0 (Nat.zero_le _); cases this
  | n, k, b :: bs, hk, hb => by
    have e := hb 0 (Nat.zero_le _)
    rw [List.getElem?_cons_zero] at e
    injection e with e
    rw [Nat.add_zero] at e
    have hl := cutP_len' l k
    unfold nb at hc
    have hp : pcIn g r k c b = cutP l k := by
      rw [e]; exact pcIn_piece (by omega) (cutP_len _ _) (by omega) (fun _ => by omega)
    have hne : cutP l k ≠ [] := fun e' => by rw [e'] at hl; simp at hl; omega
    unfold rdP
    rw [hp, if_neg hne]
    cases n with
    | zero =>
      rw [if_neg (by omega)]
      unfold cutP
      rw [List.take_of_length_le (by rw [List.length_drop]; omega)]
    | succ n =>
      rw [if_pos (by omega), rdP_cut (by unfold nb; exact hc) h1 h2 n (k + 1) bs (by omega) (fun i hi => by have := hb (i + 1) (by omega); rw [List.getElem?_cons_succ] at this; rw [this, show k + (i + 1) = k + 1 + i by omega])]
      unfold cutP
      rw [Option.map_some, show 53 * (k + 1) = 53 * k + 53 by omega, ← List.drop_drop, List.take_append_drop]
theorem rdOne_cut {g r : Nat} {l : List Int} (h1 : 1 ≤ l.length) (h2 : l.length ≤ 424) (bs : List (List Int)) (hb : ∀ i, i < nb l.length → bs[i]? = some (pieceB g r i (nb l.length) (cutP l i))) : rdOne g r bs = some (l, nb l.length) := by
  have hc : 1 ≤ nb l.length ∧ nb l.length ≤ 8 := by unfold nb; omega
  have h0 := hb 0 (by omega)
  unfold rdOne
  match bs, hb, h0 with
  | b :: bs, hb, h0 =>
    rw [List.getElem?_cons_zero] at h0
    injection h0 with h0
    have e : gB b 9 = nb l.length := by
      rw [h0]; unfold pieceB fillB
      rw [gB_app (by rw [List.length_append, headL_len, List.length_cons]; omega)]
      simp [gB, headL, n4]; omega
    show (rdP g r (gB b 9) 0 (b :: bs)).map _ = _
    rw [e, rdP_cut rfl h1 h2 (nb l.length - 1) 0 (b :: bs) (by omega) (fun i hi => by rw [Nat.zero_add]; exact hb i (by omega))]
    rfl

/-- what stands at the beginning of a half: these records, in so many blocks -/
inductive Pre (g : Nat) (bs : List (List Int)) : List (List Int) → Nat → Prop
  | nil : Pre g bs [] 0
  | snoc {R : List (List Int)} {u : Nat} {p : List Int} {c : Nat} : Pre g bs R u → rdOne g R.length (bs.drop u) = some (p, c) → Pre g bs (R ++ [p]) (u + c)
def Told (g : Nat) (bs R : List (List Int)) (u : Nat) : Prop := Pre g bs R u ∧ rdOne g R.length (bs.drop u) = none
theorem rdP_congr {g r c : Nat} : ∀ (bs bs' : List (List Int)) (k : Nat) (p : List Int), rdP g r c k bs = some p → k < c → (∀ i, i < c - k → bs'[i]? = bs[i]?) → rdP g r c k bs' = some p
  | [], _, k, p, h, _, _ => by cases h
  | b :: bs, [], k, p, h, hk, hb => by have := hb 0 (by omega); cases this
  | b :: bs, b' :: bs', k, p, h, hk, hb => by
    have e := hb 0 (by omega)
    simp only [List.getElem?_cons_zero, Option.some.injEq] at e
    subst e
    unfold rdP at h ⊢
    split at h
    · cases h
    · rename_i e
      rw [if_neg e]
      split at h
      · rename_i hlt
        rw [if_pos hlt]
        cases hq : rdP g r c (k + 1) bs with
        | none => rw [hq] at h; cases h
        | some q =>
          rw [rdP_congr bs bs' (k + 1) q hq hlt (fun i hi => by have := hb (i + 1) (by omega); simpa using this)]
          rw [hq] at h; exact h
      · rename_i hge
        rw [if_neg hge]; exact h
theorem rdOne_congr {g r : Nat} {bs bs' : List (List Int)} {p : List Int} {c : Nat} (h : rdOne g r bs = some (p, c)) (hc : 1 ≤ c) (hb : ∀ i, i < c → bs'[i]? = bs[i]?) : rdOne g r bs' = some (p, c) := by
  unfold rdOne at h
  match bs, h with
  | b :: bs, h =>
    have e := hb 0 (by omega)
    match bs', hb, e with
    | b' :: bs', hb, e =>
      simp only [List.getElem?_cons_zero, Option.some.injEq] at e
      subst e
      simp only at h
      cases hq : rdP g r (gB b' 9) 0 (b' :: bs) with
      | none => rw [hq] at h; cases h
      | some q =>
        rw [hq] at h
        simp only [Option.map_some, Option.some.injEq, Prod.mk.injEq] at h
        obtain ⟨rfl, rfl⟩ := h
        show (rdP g r (gB b' 9) 0 (b' :: bs')).map _ = _
        rw [rdP_congr _ _ 0 q hq (by omega) (fun i hi => hb i (by omega))]; rfl
theorem rdOne_pos {g r : Nat} {bs : List (List Int)} {p : List Int} {c : Nat} (h : rdOne g r bs = some (p, c)) : 1 ≤ c ∧ c ≤ bs.length := by
  unfold rdOne at h
  match bs, h with
  | b :: bs, h =>
    simp only at h
    cases hq : rdP g r (gB b 9) 0 (b :: bs) with
    | none => rw [hq] at h; cases h
    | some q =>
      rw [hq] at h
      simp only [Option.map_some, Option.some.injEq, Prod.mk.injEq] at h
      obtain ⟨rfl, rfl⟩ := h
      have h1 : 1 ≤ gB b 9 := by
        unfold rdP at hq
        split at hq
        · cases hq
        · rename_i e
          unfold pcIn at e
          split at e
          · rename_i e'; exact e'.1
          · exact absurd rfl e
      refine ⟨h1, ?_⟩
      have key : ∀ (bs : List (List Int)) (k : Nat) (p : List Int), rdP g r (gB b 9) k bs = some p → k < gB b 9 → gB b 9 - k ≤ bs.length := by
        intro bs
        induction bs with
        | nil => intro k p h; cases h
        | cons b' bs ih =>
          intro k p h hk
          unfold rdP at h
          split at h
          · cases h
          · split at h
            · rename_i hlt
              cases hq : rdP g r (gB b 9) (k + 1) bs with
              | none => rw [hq] at h; cases h
              | some q => have := ih (k + 1) q hq hlt; rw [List.length_cons]; omega
            · rw [List.length_cons]; omega
      have := key _ 0 q hq (by omega)
      omega
theorem Pre.le {g : Nat} {bs R : List (List Int)} {u : Nat} (h : Pre g bs R u) : u ≤ bs.length ∧ R.length ≤ u := by
  induction h with
  | nil => exact ⟨Nat.zero_le _, Nat.zero_le _⟩
  | snoc hp h1 ih => have := rdOne_pos h1; rw [List.length_drop] at this; rw [List.length_append, List.length_singleton]; omega
theorem Pre.congr {g : Nat} {bs bs' R : List (List Int)} {u : Nat} (h : Pre g bs R u) (hb : ∀ i, i < u → bs'[i]? = bs[i]?) : Pre g bs' R u := by
  induction h with
  | nil => exact .nil
  | @snoc R u p c hp h1 ih =>
    refine .snoc (ih fun i hi => hb i (by omega)) (rdOne_congr h1 (rdOne_pos h1).1 fun i hi => ?_)
    rw [List.getElem?_drop, List.getElem?_drop]; exact hb _ (by omega)
theorem snoc_inj {R R' : List (List Int)} {p : List Int} (h : R ++ [p] = R') : R' ≠ [] := by rw [← h]; simp
theorem Pre.one {g : Nat} {bs R : List (List Int)} {u : Nat} (h : Pre g bs R u) : ∀ {R' : List (List Int)} {u' : Nat}, Pre g bs R' u' → R'.length = R.length → R = R' ∧ u = u' := by
  induction h with
  | nil =>
    intro R' u' h' hl
    cases h' with
    | nil => exact ⟨rfl, rfl⟩
    | snoc _ _ => simp at hl
  | @snoc R u p c hp h1 ih =>
    intro R' u' h' hl
    cases h' with
    | nil => simp at hl
    | @snoc R2 u2 p2 c2 hp2 h2 =>
      simp at hl
      obtain ⟨rfl, rfl⟩ := ih hp2 hl
      rw [h1] at h2
      simp only [Option.some.injEq, Prod.mk.injEq] at h2
      obtain ⟨rfl, rfl⟩ := h2
      exact ⟨rfl, rfl⟩
theorem Pre.front {g : Nat} {bs R : List (List Int)} {u : Nat} (h : Pre g bs R u) : ∀ n, n < R.length → ∃ R' u' x, Pre g bs R' u' ∧ R'.length = n ∧ rdOne g n (bs.drop u') = some x := by
  induction h with
  | nil => intro n hn; simp at hn
  | @snoc R u p c hp h1 ih =>
    intro n hn
    by_cases e : n = R.length
    · subst e; exact ⟨R, u, _, hp, rfl, h1⟩
    · exact ih n (by simp at hn; omega)
theorem Told.one {g : Nat} {bs R R' : List (List Int)} {u u' : Nat} (h : Told g bs R u) (h' : Told g bs R' u') : R = R' ∧ u = u' := by
  by_cases e : R'.length = R.length
  · exact h.1.one h'.1 e
  · by_cases l : R.length < R'.length
    · obtain ⟨R2, u2, x, h2, e2, h3⟩ := h'.1.front _ l
      obtain ⟨rfl, rfl⟩ := h.1.one h2 e2
      rw [h.2] at h3; cases h3
    · obtain ⟨R2, u2, x, h2, e2, h3⟩ := h.1.front R'.length (by omega)
      obtain ⟨rfl, rfl⟩ := h'.1.one h2 e2
      rw [h'.2] at h3; cases h3

/-- the last piece of a record of this generation -/
def lastP (g : Nat) (b : List Int) : Prop := le4 b = g ∧ gB b 8 + 1 = gB b 9
theorem rdOne_last {g r : Nat} (hg : g < 4294967296) {bs : List (List Int)} {x : List Int × Nat} (h : rdOne g r bs = some x) : ∃ (i : Nat) (b : List Int), bs[i]? = some b ∧ lastP g b := by
  obtain ⟨p, c⟩ := x
  have hc := (rdOne_pos h).1
  unfold rdOne at h
  match bs, h with
  | b :: bs, h =>
    simp only at h
    cases hq : rdP g r (gB b 9) 0 (b :: bs) with
    | none => rw [hq] at h; cases h
    | some q =>
      rw [hq] at h
      simp only [Option.map_some, Option.some.injEq, Prod.mk.injEq] at h
      obtain ⟨b', h1, h2, h3, h4⟩ := rdP_some hg _ 0 q hq (by omega)
      exact ⟨_, b', h1, h2, by omega⟩
theorem told_of {g : Nat} (hg : g < 4294967296) {bs R : List (List Int)} {u : Nat} (h : Pre g bs R u) (hn : ∀ i b, u ≤ i → bs[i]? = some b → ¬ lastP g b) : Told g bs R u := by
  refine ⟨h, ?_⟩
  cases e : rdOne g R.length (bs.drop u) with
  | none => rfl
  | some x =>
    obtain ⟨i, b, h1, h2⟩ := rdOne_last hg e
    rw [List.getElem?_drop] at h1
    exact absurd h2 (hn _ b (by omega) h1)
theorem pieceB_last {g r k c : Nat} {p : List Int} (hg : g < 4294967296) (h : k + 1 ≠ c) (hk : k < 255) (hc : c < 256) : ¬ lastP g (pieceB g r k c p) := by
  rintro ⟨_, h2⟩
  have e1 : (pieceB g r k c p).take 10 = headL g r k c := by
    unfold pieceB fillB
    rw [List.append_assoc, List.take_left' (headL_len ..)]
  obtain ⟨_, e2, e3⟩ := take_head e1 hg
  omega
end
end Go.Proofs.Ytajgaialnafdbaa
