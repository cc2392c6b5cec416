/- The document's own reading of bytes: notes, plainly; bytes compared. -/
import Derived.Test.YtekonakanieeaaaJWDes10
import Derived.Test.YtekonakanieeaaaJWDes17
import Derived.Test.YtekonakanieeaaaJWDes23
namespace Go.Proofs.Ytekonakanieeaaa
section
open Go.RowKit Go.Lib
attribute [local go_sem ↓ high] loadN
variable {Bq : Nat}

theorem rc_low {w : World} {b : Value} {l : List Int} (h : RC w b l) : l = [] ∨ ∃ g off n c, b = .slice (some ⟨g, off, none⟩) n c ∧ g < w.heap.size := by
  obtain ⟨a, c, e, _, hc⟩ := h
  rcases hc with hc | ⟨g, off, e', hg, _⟩
  · exact .inl hc
  · subst e'; exact .inr ⟨g, off, _, _, e, hg⟩
theorem entF_back (e : En) (r : List Int) (h : entOk e) : entF (some (entB e ++ r)) = (e, some r) := by
  obtain ⟨d, nm, neg, id, kind, mode, tg⟩ := e
  obtain ⟨⟨h1, h2⟩, h3⟩ := h
  have e1 : entB ⟨d, nm, neg, id, kind, mode, tg⟩ ++ r = numI d ++ (textB nm ++ ((if neg then [1] else 0 :: nodeB ⟨d, nm, neg, id, kind, mode, tg⟩) ++ r)) := by
    unfold entB keyB; simp only [List.append_assoc]
  rw [e1]
  unfold entF
  simp only []
  rw [num6_i _ _ h1]
  simp only []
  rw [strF_back _ _ h2]
  simp only []
  cases neg with
  | true =>
    simp only [if_true] at h3 ⊢
    obtain ⟨a, b, c, t⟩ := h3
    simp only [] at a b c t
    subst a b c t
    simp [octP]
  | false =>
    simp only [Bool.false_eq_true, if_false] at h3 ⊢
    obtain ⟨a, b, c, t⟩ := h3
    simp only [] at a b c t
    unfold nodeB
    simp only [List.cons_append, List.append_assoc, octP]
    rw [if_neg (by decide)]
    rw [num6_i _ _ a]
    simp only []
    rw [num6_i _ _ b]
    simp only []
    rw [strF_back _ _ t]
    simp
/-- a note, as the chapter's own reading does it -/
def ntF (k : Int) (s : St) : Nt × St :=
  if k = 1 then ({ zeroNt with kind := k, epoch := (numF 6 1 0 s).1 }, (numF 6 1 0 s).2)
  else if k = 2 then ({ zeroNt with kind := k, epoch := (numF 6 1 0 s).1, vers := (numF 6 1 0 (numF 6 1 0 s).2).1, next := (numF 6 1 0 (numF 6 1 0 (numF 6 1 0 s).2).2).1 }, (numF 6 1 0 (numF 6 1 0 (numF 6 1 0 s).2).2).2)
  else if k = 3 then ({ zeroNt with kind := k, e := (entF s).1 }, (entF s).2)
  else if k = 4 then ({ zeroNt with kind := k, client := (numF 6 1 0 s).1, life := (numF 6 1 0 (numF 6 1 0 s).2).1, seq := (numF 6 1 0 (numF 6 1 0 (numF 6 1 0 s).2).2).1, err := (numF 6 1 0 (numF 6 1 0 (numF 6 1 0 (numF 6 1 0 s).2).2).2).1 }, (numF 6 1 0 (numF 6 1 0 (numF 6 1 0 (numF 6 1 0 s).2).2).2).2)
  else if k = 5 then ({ zeroNt with kind := k, client := (numF 6 1 0 s).1, life := (numF 6 1 0 (numF 6 1 0 s).2).1, seq := (numF 6 1 0 (numF 6 1 0 (numF 6 1 0 s).2).2).1, err := (numF 6 1 0 (numF 6 1 0 (numF 6 1 0 (numF 6 1 0 s).2).2).2).1, op := (opF (numF 6 1 0 (numF 6 1 0 (numF 6 1 0 (numF 6 1 0 s).2).2).2).2).1 }, (opF (numF 6 1 0 (numF 6 1 0 (numF 6 1 0 (numF 6 1 0 s).2).2).2).2).2)
  else ({ zeroNt with kind := k }, s)
def noteF (s : St) : Nt × St := ntF (octP s).1 (octP s).2
theorem ntF_back {n : Nt} (h : noteOk n) (r : List Int) : ntF n.kind (some (ntB n ++ r)) = (n, some r) := by
  obtain ⟨h0, h1, h2⟩ := h
  unfold onlyN at h0
  unfold ntF ntB
  rcases h2 with h2 | h2 | h2 | ⟨h2, _, h3⟩ | ⟨h2, h3⟩
  · rw [if_pos h2, if_pos h2, num6_i _ _ h1.epoch]
    rw [if_pos h2] at h0
    simp only [h2]; rw [← h0]
  · have n1 : ¬ n.kind = 1 := by omega
    rw [if_neg n1, if_pos h2, if_neg n1, if_pos h2]
    rw [if_neg n1, if_pos h2] at h0
    simp only [List.append_assoc, num6_i _ _ h1.epoch, num6_i _ _ h1.vers, num6_i _ _ h1.next, h2]; rw [← h0]
  · have n1 : ¬ n.kind = 1 := by omega
    have n2 : ¬ n.kind = 2 := by omega
    have n3 : ¬ n.kind = 3 := by omega
    rw [if_neg n1, if_neg n2, if_neg n3, if_pos h2, if_neg n1, if_neg n2, if_neg n3, if_pos h2]
    rw [if_neg n1, if_neg n2, if_neg n3, if_pos h2] at h0
    unfold seenB
    simp only [List.append_assoc, num6_i _ _ h1.client, num6_i _ _ h1.life, num6_i _ _ h1.seq, num6_i _ _ h1.err, h2]; rw [← h0]
  · have n1 : ¬ n.kind = 1 := by omega
    have n2 : ¬ n.kind = 2 := by omega
    rw [if_neg n1, if_neg n2, if_pos h2, if_neg n1, if_neg n2, if_pos h2]
    rw [if_neg n1, if_neg n2, if_pos h2] at h0
    simp only [entF_back _ _ h3, h2]; rw [← h0]
  · have n1 : ¬ n.kind = 1 := by omega
    have n2 : ¬ n.kind = 2 := by omega
    have n3 : ¬ n.kind = 3 := by omega
    have n4 : ¬ n.kind = 4 := by omega
    rw [if_neg n1, if_neg n2, if_neg n3, if_neg n4, if_pos h2, if_neg n1, if_neg n2, if_neg n3, if_neg n4, if_pos h2]
    rw [if_neg n1, if_neg n2, if_neg n3, if_neg n4, if_pos h2] at h0
    unfold seenB
    simp only [List.append_assoc, num6_i _ _ h1.client, num6_i _ _ h1.life, num6_i _ _ h1.seq, num6_i _ _ h1.err, opF_back _ _ h3, h2]; rw [← h0]
theorem noteF_back {n : Nt} (h : noteOk n) : noteF (some (noteB n)) = (n, some []) := by
  unfold noteF noteB
  show ntF n.kind (some (ntB n)) = _
  have := ntF_back h []
  rw [List.append_nil] at this
  exact this
/-- what the document's Unpack answers is what the program's does -/
theorem unpd_no {l : List Int} {w w' : World} {e : Ending} {n : Nt} {s : St} (hl : noteF (some l) = (n, s)) (hno : s ≠ some [] ∨ plainN n = false ∨ l ≠ noteB n) (he : e = .returned (.tuple #[.agg zeroNt.arr, .int .i64 50])) (hb : Below w.heap.size w w') : UnpR l w w' e := by
  refine .inr ⟨fun m hm hB => ?_, he, hb⟩
  have h1 := noteF_back hm
  rw [hB, hl] at h1
  obtain ⟨rfl, rfl⟩ := Prod.mk.inj h1
  rcases hno with h | h | h
  · exact h rfl
  · rw [(plainN_iff _).2 hm] at h; cases h
  · exact h hB.symm
theorem unpd_yes {l : List Int} {w w' : World} {e : Ending} {n : Nt} (hp : plainN n = true) (hB : l = noteB n) (he : e = .returned (.tuple #[.agg n.arr, .int .i64 0])) (hb : Below w.heap.size w w') : UnpR l w w' e :=
  .inl ⟨n, (plainN_iff _).1 hp, hB.symm, he, hb⟩
theorem OG.setO {w Z0 Z Z' : World} {i o : Nat} {to_ : TypeId} {b : Value} {k : Bool} {s : St} {cs cs' : Array Value} (h : OG Bq w Z0 Z i o to_ b k s cs) (hY : Only (· = o) Z Z') (hown : Z'.heap[o]? = some (.cells cs' to_ (0, 0))) (hio : i ≠ o) (ho : w.heap.size ≤ o) (hn : ∀ (m : Nat) (x : Int), cs[m]? ≠ some (.int .u8 x)) : OG Bq w Z0 Z' i o to_ b k s cs' :=
  ⟨(hY.block i (Array.getElem?_eq_some_iff.1 h.box).1 hio).trans h.box, hown, below_on1 h.bel hY ho, h.ri.farO h.own hn hY, h.only.trans (hY.mono fun _ h => .inr h)⟩
theorem take_len_eq6 {l l' : List Int} {k : Nat} (h : l.take k = l'.take k) (hk : k = l.length) (hk' : k = l'.length) : l = l' := by
  rw [List.take_of_length_le (by omega), List.take_of_length_le (by omega)] at h; exact h
theorem take_snoc6 {l l' : List Int} {k : Nat} {x : Int} (h : l.take k = l'.take k) (h1 : l[k]? = some x) (h2 : l'[k]? = some x) : l.take (k + 1) = l'.take (k + 1) := by
  rw [List.take_add_one, List.take_add_one, h, h1, h2]
set_option maxHeartbeats 1000000 in
theorem same6_any (v v' : Value) (l l' : List Int) (w : World) (h : RB w v l) (h' : RB w v' l') (hl : l.length ≤ 140737488351232) (hl' : l'.length ≤ 140737488351232) :
    Calls Try.prog 23 #[v, v'] w fun e w' => e = .returned (.bool (decide (l = l'))) ∧ Below w.heap.size w w' := by
  have hL := hl
  have hL' := hl'
  obtain ⟨a, cap, rfl, h1⟩ := h
  obtain ⟨a', cap', rfl, h1'⟩ := h'
  clear hl hl'
  by_cases hn : l.length = l'.length
  · have HC : Hid (∀ k x, l[k]? = some x → ∃ g off, a = some ⟨g, off, none⟩ ∧ g < w.heap.size ∧ w.cell? ⟨g, off + k, none⟩ = some (.int .u8 x)) := fun k x hx => by
      rcases h1 with rfl | ⟨g, off, e, hg, hc⟩
      · simp at hx
      · exact ⟨g, off, e, hg, hc k x hx⟩
    have HC' : Hid (∀ k x, l'[k]? = some x → ∃ g off, a' = some ⟨g, off, none⟩ ∧ g < w.heap.size ∧ w.cell? ⟨g, off + k, none⟩ = some (.int .u8 x)) := fun k x hx => by
      rcases h1' with rfl | ⟨g, off, e, hg, hc⟩
      · simp at hx
      · exact ⟨g, off, e, hg, hc k x hx⟩
    obtain ⟨n, hn1⟩ : ∃ n, l.length = n := ⟨_, rfl⟩
    have hn2 : l'.length = n := by omega
    have HN : Hid (l.length = n ∧ l'.length = n) := ⟨hn1, hn2⟩
    rw [hn1] at hL
    rw [hn1, hn2]
    clear h1 h1' hn hn1 hn2 hL'
    go_enter Try.func23, Try.ntmps23
    go_wp2
    go_loopw [5] (fun i wr => ∃ k : Nat, k ≤ n ∧ i = .int .i64 k ∧ l.take k = l'.take k ∧ Below w.heap.size w wr) (fun i _ => n - (intOf i).toNat)
    case atStart => exact ⟨0, Nat.zero_le _, rfl, rfl, Below.refl _ _⟩
    case round =>
      obtain ⟨k, hk, rfl, ht, hb⟩ := hrel
      by_cases hlt : k < n
      · obtain ⟨x, hx⟩ : ∃ x, l[k]? = some x := ⟨_, List.getElem?_eq_getElem (by rw [HN.out.1]; exact hlt)⟩
        obtain ⟨x', hx'⟩ : ∃ x, l'[k]? = some x := ⟨_, List.getElem?_eq_getElem (by rw [HN.out.2]; exact hlt)⟩
        obtain ⟨g, off, rfl, hg, c1⟩ := HC.out k x hx
        obtain ⟨g', off', rfl, hg', c2⟩ := HC'.out k x' hx'
        have d1 := (hb.cell (p := ⟨g, off + k, none⟩) hg).trans c1
        have d2 := (hb.cell (p := ⟨g', off' + k, none⟩) hg').trans c2
        have hki : (k : Int) < (n : Int) := by omega
        by_cases hxx : x = x'
        · subst hxx
          have HT : Hid (l.take (k + 1) = l'.take (k + 1)) := take_snoc6 ht hx hx'
          clear hx hx' c1 c2 ht
          go_wp2
          go_quiet (fail)
          go_wp2
          go_roundw
          case rel => exact ⟨k + 1, by omega, by go_num, HT.out, below_drewN hb _⟩
          case measure => simp [intOf]; omega
        · have hne : (x != x') = true := by simpa using hxx
          have HE : Hid (decide (l = l') = false) := decide_eq_false (by rintro rfl; rw [hx] at hx'; exact hxx (Option.some.inj hx'))
          clear hx hx' c1 c2 ht hxx
          go_wp2
          go_quiet (fail)
          go_wp2
          go_ret
          exact ⟨by rw [HE.out]; rfl, below_drewN hb _⟩
      · have hkl : k = n := by omega
        subst hkl
        have HE : Hid (decide (l = l') = true) := decide_eq_true (take_len_eq6 ht HN.out.1.symm HN.out.2.symm)
        go_wp2
        go_ret
        exact ⟨by rw [HE.out]; rfl, hb⟩
  · have HE : Hid (decide (l = l') = false) := decide_eq_false (by rintro rfl; exact hn rfl)
    have hne : ((l.length : Int) != (l'.length : Int)) = true := by simp; omega
    clear h1 h1'
    go_enter Try.func23, Try.ntmps23
    go_wp2
    go_ret
    exact ⟨by rw [HE.out]; rfl, Below.refl _ _⟩
end
section
open Go.RowKit Go.Lib
variable {Bq : Nat}

theorem pow_one_le : ∀ k : Nat, (1 : Int) ≤ 128 ^ k
  | 0 => by decide
  | k + 1 => by have := pow_one_le k; rw [Int.pow_succ]; omega
theorem numF_le : ∀ (k : Nat) (u v : Int) (s : St), 0 ≤ u → 0 ≤ v → (numF k u v s).1 ≤ v + u * (128 ^ k - 1)
  | 0, u, v, s, hu, hv => by unfold numF; simp; omega
  | k + 1, u, v, s, hu, hv => by
    have hp : (1 : Int) ≤ 128 ^ k := pow_one_le k
    unfold numF
    split
    · have : 0 ≤ u * (128 ^ (k + 1) - 1) := Int.mul_nonneg hu (by rw [Int.pow_succ]; omega)
      show (0 : Int) ≤ _
      omega
    · rename_i x l _
      have h1 : 0 ≤ x % 128 := by omega
      have h2 : x % 128 ≤ 127 := by omega
      have h3 : x % 128 * u ≤ 127 * u := Int.mul_le_mul_of_nonneg_right h2 hu
      have h4 : 0 ≤ x % 128 * u := Int.mul_nonneg h1 hu
      have e : u * (128 ^ (k + 1) - 1) = 127 * u + u * 128 * (128 ^ k - 1) := by rw [Int.pow_succ, Int.mul_sub, Int.mul_sub, Int.mul_comm (128 ^ k) 128, ← Int.mul_assoc]; omega
      have h5 : 0 ≤ u * 128 * (128 ^ k - 1) := Int.mul_nonneg (by omega) (by omega)
      split
      · show v + x % 128 * u ≤ _
        omega
      · have := numF_le k (u * 128) (v + x % 128 * u) (some l) (by omega) (by omega)
        omega
theorem num6_le (s : St) : 0 ≤ (numF 6 1 0 s).1 ∧ (numF 6 1 0 s).1 ≤ 4398046511103 := by
  refine ⟨numF_nonneg 6 1 0 s (by decide) (by decide), ?_⟩
  have := numF_le 6 1 0 s (by decide) (by decide)
  have e : (0 : Int) + 1 * (128 ^ 6 - 1) = 4398046511103 := by decide
  rw [e] at this
  exact this
/-- a list, as the chapter's own reading does it: at most so many more -/
def rdF {α : Type} (f : St → α × St) : Nat → Int → St → List α × St
  | 0, _, s => ([], s)
  | n + 1, c, s => if 0 < c ∧ s.isSome then ((f s).1 :: (rdF f n (c - 1) (f s).2).1, (rdF f n (c - 1) (f s).2).2) else ([], s)
theorem rdF_back {α : Type} {f : St → α × St} {B : α → List Int} {P : α → Prop} (hf : ∀ x r, P x → f (some (B x ++ r)) = (x, some r)) : ∀ (xs : List α) (n : Nat) (r : List Int), xs.length ≤ n → (∀ x ∈ xs, P x) → rdF f n xs.length (some (xs.flatMap B ++ r)) = (xs, some r)
  | [], 0, r, _, _ => rfl
  | [], n + 1, r, _, _ => by unfold rdF; simp
  | x :: xs, 0, r, h, _ => by simp at h
  | x :: xs, n + 1, r, h, hp => by
    unfold rdF
    rw [if_pos ⟨by simp, rfl⟩, List.flatMap_cons, List.append_assoc, hf x _ (hp x (by simp))]
    have e : ((x :: xs).length : Int) - 1 = (xs.length : Int) := by simp
    rw [e]
    simp only []
    rw [rdF_back hf xs n r (by simpa using h) (fun y hy => hp y (List.mem_cons_of_mem _ hy))]
theorem keyF_back (k : Ky) (r : List Int) (h : keyOk k) : keyF (some (keyB k ++ r)) = (k, some r) := by
  obtain ⟨d, nm⟩ := k
  unfold keyF keyB
  rw [List.append_assoc, num6_i _ _ h.1]
  simp only []
  rw [strF_back _ _ h.2]
def bodyF (k : Int) (s : St) : (Opn × List En × List Ky) × St :=
  if k = 1 then ((((opF s).1, [], []) : Opn × List En × List Ky), (opF s).2)
  else if k = 2 then ((zeroOp, (rdF entF 49 (numF 6 1 0 s).1 (numF 6 1 0 s).2).1, []), (rdF entF 49 (numF 6 1 0 s).1 (numF 6 1 0 s).2).2)
  else if k = 3 then ((zeroOp, [], (rdF keyF 49 (numF 6 1 0 s).1 (numF 6 1 0 s).2).1), (rdF keyF 49 (numF 6 1 0 s).1 (numF 6 1 0 s).2).2)
  else ((zeroOp, [], []), s)
theorem bodyF_back {m : Mg} (h : bodyOk m) (r : List Int) : bodyF m.kind (some (bodyB m ++ r)) = ((m.op, m.es, m.ks), some r) := by
  unfold bodyF bodyB
  rcases h with ⟨h1, h2, h3, h4⟩ | ⟨h1, h2, h3, h4, h5⟩ | ⟨h1, h2, h3, h4, h5, h6⟩ | ⟨h1, h2, h3, h4⟩
  · rw [if_pos h1, if_pos h1, opF_back _ _ h2, h3, h4]
  · rw [if_neg (by omega), if_pos h1, if_neg (by omega), if_pos h1, List.append_assoc, num6_i _ _ ⟨by omega, by omega⟩]
    simp only []
    rw [rdF_back (P := entOk) (fun x r hx => entF_back x r hx) m.es 49 r (by omega) h4, h2, h5]
  · rw [if_neg (by omega), if_neg (by omega), if_pos h1, if_neg (by omega), if_neg (by omega), if_pos h1, List.append_assoc, num6_i _ _ ⟨by omega, by omega⟩]
    simp only []
    rw [rdF_back (P := keyOk) (fun x r hx => keyF_back x r hx) m.ks 49 r (by omega) h6, h2, h3]
  · rw [if_neg (by omega), if_neg (by omega), if_neg (by omega), if_neg (by omega), if_neg (by omega), if_neg (by omega), h2, h3, h4]
    rfl
/-- a message, as the chapter's own reading does it -/
def msgF (s : St) : Mg × St :=
  let a := octP s
  let b := numF 6 1 0 a.2
  let c := numF 6 1 0 b.2
  let d := numF 6 1 0 c.2
  let e := numF 6 1 0 d.2
  let f := numF 6 1 0 e.2
  let g := numF 6 1 0 f.2
  let h := numF 6 1 0 g.2
  let i := bodyF a.1 h.2
  (⟨a.1, b.1, c.1, d.1, e.1, f.1, g.1, h.1, i.1.1, i.1.2.1, i.1.2.2⟩, i.2)
theorem msgF_back {m : Mg} (h : msgOk m) : msgF (some (msgB m)) = (m, some []) := by
  obtain ⟨⟨h1, h2, h3, h4, h5, h6, h7⟩, h8⟩ := h
  have hb := bodyF_back h8 []
  rw [List.append_nil] at hb
  unfold msgF msgB
  simp only [octP, num6_i _ _ h1, num6_i _ _ h2, num6_i _ _ h3, num6_i _ _ h4, num6_i _ _ h5, num6_i _ _ h6, num6_i _ _ h7, hb]
theorem MsV_mgF {m : Mg} {ve vk : Value} (h1 : 0 ≤ m.ep ∧ m.ep ≤ 4398046511103) (h2 : 0 ≤ m.nb ∧ m.nb ≤ 4398046511103) : (MsV m ve vk).mg = m ∧ (plainB (MsV m ve vk) = true ↔ msgOk m) := by
  have e1 := ofInt_val m.ep (by omega)
  have e2 := ofInt_val m.nb (by omega)
  have hm : (MsV m ve vk).mg = m := by
    obtain ⟨kind, client, life, seq, ep, nb, vers, err, op, es, ks⟩ := m
    unfold MsV Ms.mg
    simp only [] at e1 e2 ⊢
    rw [part_of e1, part_of e2]
  refine ⟨hm, ?_⟩
  rw [plainB_iff, hm]
  refine ⟨fun h => h.2, fun h => ⟨?_, h⟩⟩
  have ho := h.1
  exact (ofInt_good ho.ep ho.nb).1
theorem msgF_marks (s : St) : (0 ≤ (msgF s).1.ep ∧ (msgF s).1.ep ≤ 4398046511103) ∧ (0 ≤ (msgF s).1.nb ∧ (msgF s).1.nb ≤ 4398046511103) := ⟨num6_le _, num6_le _⟩
/-- what the document's Decode answers is what the program's does -/
theorem decd_no {l : List Int} {w w' : World} {e : Ending} {m : Mg} {s : St} (hl : msgF (some l) = (m, s)) (hno : s ≠ some [] ∨ ¬ msgOk m ∨ l ≠ msgB m) (he : e = .returned (.tuple #[.agg #[.int .i64 0, .int .i64 0, .int .i64 0, .int .i64 0, .complex .f64 0 0, .int .i64 0, .int .i64 0, .int .i64 0, .int .i64 0, .string ⟨#[]⟩, .int .i64 0, .string ⟨#[]⟩, .int .i64 0, .string ⟨#[]⟩, .slice none 0 0, .slice none 0 0], .int .i64 50])) (hb : Below w.heap.size w w') : DecR l w w' e := by
  refine .inr ⟨fun n hn hB => ?_, he, hb⟩
  have h1 := msgF_back hn
  rw [hB, hl] at h1
  obtain ⟨rfl, rfl⟩ := Prod.mk.inj h1
  rcases hno with h | h | h
  · exact h rfl
  · exact h hn
  · exact h hB.symm
theorem RI.grow {w w' : World} {b : Value} {ok : Bool} {s : St} {S : Nat → Prop} (h : RI Bq w b ok s) (ho : Only S w w') (hS : ∀ q, S q → Bq ≤ q) : RI Bq w' b ok s := by
  obtain ⟨l, ⟨a', c', e, hcap, hc⟩, hl, h2⟩ := h
  refine ⟨l, ⟨a', c', e, hcap, ?_⟩, hl, h2⟩
  rcases hl.2 with h0 | ⟨g0, off0, n0, c0, e0, hg0⟩
  · exact .inl h0
  · rcases hc with hc | ⟨g', off, e', hg, hc⟩
    · exact .inl hc
    · have hgg : g' = g0 := by
        rw [e, e'] at e0
        injection e0 with e1
        injection e1 with e1
        injection e1
      refine .inr ⟨g', off, e', Nat.lt_of_lt_of_le hg ho.size, fun i y hy => ?_⟩
      rw [World.cell?_of_block (ho.block g' hg (fun hs => by have := hS g' hs; omega))]
      exact hc i y hy
theorem OG.grow {w Z0 Z Z' : World} {i o : Nat} {to_ : TypeId} {b : Value} {k : Bool} {s : St} {cs : Array Value} {S : Nat → Prop} (h : OG Bq w Z0 Z i o to_ b k s cs) (ho : Only S Z Z') (hS : ∀ q, S q → Z0.heap.size ≤ q) (hi : i < Z0.heap.size) (hoo : o < Z0.heap.size) (hB : Bq ≤ Z0.heap.size) (hw : w.heap.size ≤ Z0.heap.size) : OG Bq w Z0 Z' i o to_ b k s cs := by
  have hz := h.only.size
  refine ⟨(ho.block i (by omega) (fun hs => by have := hS i hs; omega)).trans h.box, (ho.block o (by omega) (fun hs => by have := hS o hs; omega)).trans h.own, ho.below h.bel h.bel.size (fun q hq => Nat.le_trans hw (hS q hq)), h.ri.grow ho (fun q hq => Nat.le_trans hB (hS q hq)), ?_⟩
  refine ⟨ho.os.trans h.only.os, ho.tape.trans h.only.tape, ho.output.trans h.only.output, Nat.le_trans h.only.size ho.size, fun k hk hn => ?_⟩
  exact (ho.block k (by omega) (fun hs => by have := hS k hs; omega)).trans (h.only.block k hk hn)
end
section
open Go.RowKit Go.Lib

theorem set16 {w : World} {g : Nat} {y0 y1 y2 y3 y4 y5 y6 y7 y8 y9 y10 y11 y12 y13 y14 y15 x0 x1 x2 x3 x4 x5 x6 x7 x8 x9 x10 x11 x12 x13 x14 x15 : Value} {t : TypeId} {f : Nat × Nat} (h : w.heap[g]? = some (.cells #[y0, y1, y2, y3, y4, y5, y6, y7, y8, y9, y10, y11, y12, y13, y14, y15] t f)) : ((((((((((((((((w.setCell ⟨g, 0, none⟩ x0).setCell ⟨g, 1, none⟩ x1).setCell ⟨g, 2, none⟩ x2).setCell ⟨g, 3, none⟩ x3).setCell ⟨g, 4, none⟩ x4).setCell ⟨g, 5, none⟩ x5).setCell ⟨g, 6, none⟩ x6).setCell ⟨g, 7, none⟩ x7).setCell ⟨g, 8, none⟩ x8).setCell ⟨g, 9, none⟩ x9).setCell ⟨g, 10, none⟩ x10).setCell ⟨g, 11, none⟩ x11).setCell ⟨g, 12, none⟩ x12).setCell ⟨g, 13, none⟩ x13).setCell ⟨g, 14, none⟩ x14).setCell ⟨g, 15, none⟩ x15).heap[g]? = some (.cells #[x0, x1, x2, x3, x4, x5, x6, x7, x8, x9, x10, x11, x12, x13, x14, x15] t f) := by
  have h0 : (w.setCell ⟨g, 0, none⟩ x0).heap[g]? = some (.cells #[x0, y1, y2, y3, y4, y5, y6, y7, y8, y9, y10, y11, y12, y13, y14, y15] t f) := (heap_set h 0 x0).trans rfl
  have h1 : ((w.setCell ⟨g, 0, none⟩ x0).setCell ⟨g, 1, none⟩ x1).heap[g]? = some (.cells #[x0, x1, y2, y3, y4, y5, y6, y7, y8, y9, y10, y11, y12, y13, y14, y15] t f) := (heap_set h0 1 x1).trans rfl
  have h2 : (((w.setCell ⟨g, 0, none⟩ x0).setCell ⟨g, 1, none⟩ x1).setCell ⟨g, 2, none⟩ x2).heap[g]? = some (.cells #[x0, x1, x2, y3, y4, y5, y6, y7, y8, y9, y10, y11, y12, y13, y14, y15] t f) := (heap_set h1 2 x2).trans rfl
  have h3 : ((((w.setCell ⟨g, 0, none⟩ x0).setCell ⟨g, 1, none⟩ x1).setCell ⟨g, 2, none⟩ x2).setCell ⟨g, 3, none⟩ x3).heap[g]? = some (.cells #[x0, x1, x2, x3, y4, y5, y6, y7, y8, y9, y10, y11, y12, y13, y14, y15] t f) := (heap_set h2 3 x3).trans rfl
  have h4 : (((((w.setCell ⟨g, 0, none⟩ x0).setCell ⟨g, 1, none⟩ x1).setCell ⟨g, 2, none⟩ x2).setCell ⟨g, 3, none⟩ x3).setCell ⟨g, 4, none⟩ x4).heap[g]? = some (.cells #[x0, x1, x2, x3, x4, y5, y6, y7, y8, y9, y10, y11, y12, y13, y14, y15] t f) := (heap_set h3 4 x4).trans rfl
  have h5 : ((((((w.setCell ⟨g, 0, none⟩ x0).setCell ⟨g, 1, none⟩ x1).setCell ⟨g, 2, none⟩ x2).setCell ⟨g, 3, none⟩ x3).setCell ⟨g, 4, none⟩ x4).setCell ⟨g, 5, none⟩ x5).heap[g]? = some (.cells #[x0, x1, x2, x3, x4, x5, y6, y7, y8, y9, y10, y11, y12, y13, y14, y15] t f) := (heap_set h4 5 x5).trans rfl
  have h6 : (((((((w.setCell ⟨g, 0, none⟩ x0).setCell ⟨g, 1, none⟩ x1).setCell ⟨g, 2, none⟩ x2).setCell ⟨g, 3, none⟩ x3).setCell ⟨g, 4, none⟩ x4).setCell ⟨g, 5, none⟩ x5).setCell ⟨g, 6, none⟩ x6).heap[g]? = some (.cells #[x0, x1, x2, x3, x4, x5, x6, y7, y8, y9, y10, y11, y12, y13, y14, y15] t f) := (heap_set h5 6 x6).trans rfl
  have h7 : ((((((((w.setCell ⟨g, 0, none⟩ x0).setCell ⟨g, 1, none⟩ x1).setCell ⟨g, 2, none⟩ x2).setCell ⟨g, 3, none⟩ x3).setCell ⟨g, 4, none⟩ x4).setCell ⟨g, 5, none⟩ x5).setCell ⟨g, 6, none⟩ x6).setCell ⟨g, 7, none⟩ x7).heap[g]? = some (.cells #[x0, x1, x2, x3, x4, x5, x6, x7, y8, y9, y10, y11, y12, y13, y14, y15] t f) := (heap_set h6 7 x7).trans rfl
  have h8 : (((((((((w.setCell ⟨g, 0, none⟩ x0).setCell ⟨g, 1, none⟩ x1).setCell ⟨g, 2, none⟩ x2).setCell ⟨g, 3, none⟩ x3).setCell ⟨g, 4, none⟩ x4).setCell ⟨g, 5, none⟩ x5).setCell ⟨g, 6, none⟩ x6).setCell ⟨g, 7, none⟩ x7).setCell ⟨g, 8, none⟩ x8).heap[g]? = some (.cells #[x0, x1, x2, x3, x4, x5, x6, x7, x8, y9, y10, y11, y12, y13, y14, y15] t f) := (heap_set h7 8 x8).trans rfl
  have h9 : ((((((((((w.setCell ⟨g, 0, none⟩ x0).setCell ⟨g, 1, none⟩ x1).setCell ⟨g, 2, none⟩ x2).setCell ⟨g, 3, none⟩ x3).setCell ⟨g, 4, none⟩ x4).setCell ⟨g, 5, none⟩ x5).setCell ⟨g, 6, none⟩ x6).setCell ⟨g, 7, none⟩ x7).setCell ⟨g, 8, none⟩ x8).setCell ⟨g, 9, none⟩ x9).heap[g]? = some (.cells #[x0, x1, x2, x3, x4, x5, x6, x7, x8, x9, y10, y11, y12, y13, y14, y15] t f) := (heap_set h8 9 x9).trans rfl
  have h10 : (((((((((((w.setCell ⟨g, 0, none⟩ x0).setCell ⟨g, 1, none⟩ x1).setCell ⟨g, 2, none⟩ x2).setCell ⟨g, 3, none⟩ x3).setCell ⟨g, 4, none⟩ x4).setCell ⟨g, 5, none⟩ x5).setCell ⟨g, 6, none⟩ x6).setCell ⟨g, 7, none⟩ x7).setCell ⟨g, 8, none⟩ x8).setCell ⟨g, 9, none⟩ x9).setCell ⟨g, 10, none⟩ x10).heap[g]? = some (.cells #[x0, x1, x2, x3, x4, x5, x6, x7, x8, x9, x10, y11, y12, y13, y14, y15] t f) := (heap_set h9 10 x10).trans rfl
  have h11 : ((((((((((((w.setCell ⟨g, 0, none⟩ x0).setCell ⟨g, 1, none⟩ x1).setCell ⟨g, 2, none⟩ x2).setCell ⟨g, 3, none⟩ x3).setCell ⟨g, 4, none⟩ x4).setCell ⟨g, 5, none⟩ x5).setCell ⟨g, 6, none⟩ x6).setCell ⟨g, 7, none⟩ x7).setCell ⟨g, 8, none⟩ x8).setCell ⟨g, 9, none⟩ x9).setCell ⟨g, 10, none⟩ x10).setCell ⟨g, 11, none⟩ x11).heap[g]? = some (.cells #[x0, x1, x2, x3, x4, x5, x6, x7, x8, x9, x10, x11, y12, y13, y14, y15] t f) := (heap_set h10 11 x11).trans rfl
  have h12 : (((((((((((((w.setCell ⟨g, 0, none⟩ x0).setCell ⟨g, 1, none⟩ x1).setCell ⟨g, 2, none⟩ x2).setCell ⟨g, 3, none⟩ x3).setCell ⟨g, 4, none⟩ x4).setCell ⟨g, 5, none⟩ x5).setCell ⟨g, 6, none⟩ x6).setCell ⟨g, 7, none⟩ x7).setCell ⟨g, 8, none⟩ x8).setCell ⟨g, 9, none⟩ x9).setCell ⟨g, 10, none⟩ x10).setCell ⟨g, 11, none⟩ x11).setCell ⟨g, 12, none⟩ x12).heap[g]? = some (.cells #[x0, x1, x2, x3, x4, x5, x6, x7, x8, x9, x10, x11, x12, y13, y14, y15] t f) := (heap_set h11 12 x12).trans rfl
  have h13 : ((((((((((((((w.setCell ⟨g, 0, none⟩ x0).setCell ⟨g, 1, none⟩ x1).setCell ⟨g, 2, none⟩ x2).setCell ⟨g, 3, none⟩ x3).setCell ⟨g, 4, none⟩ x4).setCell ⟨g, 5, none⟩ x5).setCell ⟨g, 6, none⟩ x6).setCell ⟨g, 7, none⟩ x7).setCell ⟨g, 8, none⟩ x8).setCell ⟨g, 9, none⟩ x9).setCell ⟨g, 10, none⟩ x10).setCell ⟨g, 11, none⟩ x11).setCell ⟨g, 12, none⟩ x12).setCell ⟨g, 13, none⟩ x13).heap[g]? = some (.cells #[x0, x1, x2, x3, x4, x5, x6, x7, x8, x9, x10, x11, x12, x13, y14, y15] t f) := (heap_set h12 13 x13).trans rfl
  have h14 : (((((((((((((((w.setCell ⟨g, 0, none⟩ x0).setCell ⟨g, 1, none⟩ x1).setCell ⟨g, 2, none⟩ x2).setCell ⟨g, 3, none⟩ x3).setCell ⟨g, 4, none⟩ x4).setCell ⟨g, 5, none⟩ x5).setCell ⟨g, 6, none⟩ x6).setCell ⟨g, 7, none⟩ x7).setCell ⟨g, 8, none⟩ x8).setCell ⟨g, 9, none⟩ x9).setCell ⟨g, 10, none⟩ x10).setCell ⟨g, 11, none⟩ x11).setCell ⟨g, 12, none⟩ x12).setCell ⟨g, 13, none⟩ x13).setCell ⟨g, 14, none⟩ x14).heap[g]? = some (.cells #[x0, x1, x2, x3, x4, x5, x6, x7, x8, x9, x10, x11, x12, x13, x14, y15] t f) := (heap_set h13 14 x14).trans rfl
  have h15 : ((((((((((((((((w.setCell ⟨g, 0, none⟩ x0).setCell ⟨g, 1, none⟩ x1).setCell ⟨g, 2, none⟩ x2).setCell ⟨g, 3, none⟩ x3).setCell ⟨g, 4, none⟩ x4).setCell ⟨g, 5, none⟩ x5).setCell ⟨g, 6, none⟩ x6).setCell ⟨g, 7, none⟩ x7).setCell ⟨g, 8, none⟩ x8).setCell ⟨g, 9, none⟩ x9).setCell ⟨g, 10, none⟩ x10).setCell ⟨g, 11, none⟩ x11).setCell ⟨g, 12, none⟩ x12).setCell ⟨g, 13, none⟩ x13).setCell ⟨g, 14, none⟩ x14).setCell ⟨g, 15, none⟩ x15).heap[g]? = some (.cells #[x0, x1, x2, x3, x4, x5, x6, x7, x8, x9, x10, x11, x12, x13, x14, x15] t f) := (heap_set h14 15 x15).trans rfl
  exact h15
theorem only16 (w : World) (g : Nat) (x0 x1 x2 x3 x4 x5 x6 x7 x8 x9 x10 x11 x12 x13 x14 x15 : Value) : Only (· = g) w ((((((((((((((((w.setCell ⟨g, 0, none⟩ x0).setCell ⟨g, 1, none⟩ x1).setCell ⟨g, 2, none⟩ x2).setCell ⟨g, 3, none⟩ x3).setCell ⟨g, 4, none⟩ x4).setCell ⟨g, 5, none⟩ x5).setCell ⟨g, 6, none⟩ x6).setCell ⟨g, 7, none⟩ x7).setCell ⟨g, 8, none⟩ x8).setCell ⟨g, 9, none⟩ x9).setCell ⟨g, 10, none⟩ x10).setCell ⟨g, 11, none⟩ x11).setCell ⟨g, 12, none⟩ x12).setCell ⟨g, 13, none⟩ x13).setCell ⟨g, 14, none⟩ x14).setCell ⟨g, 15, none⟩ x15) := by
  have h0 : Only (· = g) w (w.setCell ⟨g, 0, none⟩ x0) := only1 w g 0 x0
  have h1 : Only (· = g) w ((w.setCell ⟨g, 0, none⟩ x0).setCell ⟨g, 1, none⟩ x1) := h0.trans (only1 _ g 1 x1)
  have h2 : Only (· = g) w (((w.setCell ⟨g, 0, none⟩ x0).setCell ⟨g, 1, none⟩ x1).setCell ⟨g, 2, none⟩ x2) := h1.trans (only1 _ g 2 x2)
  have h3 : Only (· = g) w ((((w.setCell ⟨g, 0, none⟩ x0).setCell ⟨g, 1, none⟩ x1).setCell ⟨g, 2, none⟩ x2).setCell ⟨g, 3, none⟩ x3) := h2.trans (only1 _ g 3 x3)
  have h4 : Only (· = g) w (((((w.setCell ⟨g, 0, none⟩ x0).setCell ⟨g, 1, none⟩ x1).setCell ⟨g, 2, none⟩ x2).setCell ⟨g, 3, none⟩ x3).setCell ⟨g, 4, none⟩ x4) := h3.trans (only1 _ g 4 x4)
  have h5 : Only (· = g) w ((((((w.setCell ⟨g, 0, none⟩ x0).setCell ⟨g, 1, none⟩ x1).setCell ⟨g, 2, none⟩ x2).setCell ⟨g, 3, none⟩ x3).setCell ⟨g, 4, none⟩ x4).setCell ⟨g, 5, none⟩ x5) := h4.trans (only1 _ g 5 x5)
  have h6 : Only (· = g) w (((((((w.setCell ⟨g, 0, none⟩ x0).setCell ⟨g, 1, none⟩ x1).setCell ⟨g, 2, none⟩ x2).setCell ⟨g, 3, none⟩ x3).setCell ⟨g, 4, none⟩ x4).setCell ⟨g, 5, none⟩ x5).setCell ⟨g, 6, none⟩ x6) := h5.trans (only1 _ g 6 x6)
  have h7 : Only (· = g) w ((((((((w.setCell ⟨g, 0, none⟩ x0).setCell ⟨g, 1, none⟩ x1).setCell ⟨g, 2, none⟩ x2).setCell ⟨g, 3, none⟩ x3).setCell ⟨g, 4, none⟩ x4).setCell ⟨g, 5, none⟩ x5).setCell ⟨g, 6, none⟩ x6).setCell ⟨g, 7, none⟩ x7) := h6.trans (only1 _ g 7 x7)
  have h8 : Only (· = g) w (((((((((w.setCell ⟨g, 0, none⟩ x0).setCell ⟨g, 1, none⟩ x1).setCell ⟨g, 2, none⟩ x2).setCell ⟨g, 3, none⟩ x3).setCell ⟨g, 4, none⟩ x4).setCell ⟨g, 5, none⟩ x5).setCell ⟨g, 6, none⟩ x6).setCell ⟨g, 7, none⟩ x7).setCell ⟨g, 8, none⟩ x8) := h7.trans (only1 _ g 8 x8)
  have h9 : Only (· = g) w ((((((((((w.setCell ⟨g, 0, none⟩ x0).setCell ⟨g, 1, none⟩ x1).setCell ⟨g, 2, none⟩ x2).setCell ⟨g, 3, none⟩ x3).setCell ⟨g, 4, none⟩ x4).setCell ⟨g, 5, none⟩ x5).setCell ⟨g, 6, none⟩ x6).setCell ⟨g, 7, none⟩ x7).setCell ⟨g, 8, none⟩ x8).setCell ⟨g, 9, none⟩ x9) := h8.trans (only1 _ g 9 x9)
  have h10 : Only (· = g) w (((((((((((w.setCell ⟨g, 0, none⟩ x0).setCell ⟨g, 1, none⟩ x1).setCell ⟨g, 2, none⟩ x2).setCell ⟨g, 3, none⟩ x3).setCell ⟨g, 4, none⟩ x4).setCell ⟨g, 5, none⟩ x5).setCell ⟨g, 6, none⟩ x6).setCell ⟨g, 7, none⟩ x7).setCell ⟨g, 8, none⟩ x8).setCell ⟨g, 9, none⟩ x9).setCell ⟨g, 10, none⟩ x10) := h9.trans (only1 _ g 10 x10)
  have h11 : Only (· = g) w ((((((((((((w.setCell ⟨g, 0, none⟩ x0).setCell ⟨g, 1, none⟩ x1).setCell ⟨g, 2, none⟩ x2).setCell ⟨g, 3, none⟩ x3).setCell ⟨g, 4, none⟩ x4).setCell ⟨g, 5, none⟩ x5).setCell ⟨g, 6, none⟩ x6).setCell ⟨g, 7, none⟩ x7).setCell ⟨g, 8, none⟩ x8).setCell ⟨g, 9, none⟩ x9).setCell ⟨g, 10, none⟩ x10).setCell ⟨g, 11, none⟩ x11) := h10.trans (only1 _ g 11 x11)
  have h12 : Only (· = g) w (((((((((((((w.setCell ⟨g, 0, none⟩ x0).setCell ⟨g, 1, none⟩ x1).setCell ⟨g, 2, none⟩ x2).setCell ⟨g, 3, none⟩ x3).setCell ⟨g, 4, none⟩ x4).setCell ⟨g, 5, none⟩ x5).setCell ⟨g, 6, none⟩ x6).setCell ⟨g, 7, none⟩ x7).setCell ⟨g, 8, none⟩ x8).setCell ⟨g, 9, none⟩ x9).setCell ⟨g, 10, none⟩ x10).setCell ⟨g, 11, none⟩ x11).setCell ⟨g, 12, none⟩ x12) := h11.trans (only1 _ g 12 x12)
  have h13 : Only (· = g) w ((((((((((((((w.setCell ⟨g, 0, none⟩ x0).setCell ⟨g, 1, none⟩ x1).setCell ⟨g, 2, none⟩ x2).setCell ⟨g, 3, none⟩ x3).setCell ⟨g, 4, none⟩ x4).setCell ⟨g, 5, none⟩ x5).setCell ⟨g, 6, none⟩ x6).setCell ⟨g, 7, none⟩ x7).setCell ⟨g, 8, none⟩ x8).setCell ⟨g, 9, none⟩ x9).setCell ⟨g, 10, none⟩ x10).setCell ⟨g, 11, none⟩ x11).setCell ⟨g, 12, none⟩ x12).setCell ⟨g, 13, none⟩ x13) := h12.trans (only1 _ g 13 x13)
  have h14 : Only (· = g) w (((((((((((((((w.setCell ⟨g, 0, none⟩ x0).setCell ⟨g, 1, none⟩ x1).setCell ⟨g, 2, none⟩ x2).setCell ⟨g, 3, none⟩ x3).setCell ⟨g, 4, none⟩ x4).setCell ⟨g, 5, none⟩ x5).setCell ⟨g, 6, none⟩ x6).setCell ⟨g, 7, none⟩ x7).setCell ⟨g, 8, none⟩ x8).setCell ⟨g, 9, none⟩ x9).setCell ⟨g, 10, none⟩ x10).setCell ⟨g, 11, none⟩ x11).setCell ⟨g, 12, none⟩ x12).setCell ⟨g, 13, none⟩ x13).setCell ⟨g, 14, none⟩ x14) := h13.trans (only1 _ g 14 x14)
  have h15 : Only (· = g) w ((((((((((((((((w.setCell ⟨g, 0, none⟩ x0).setCell ⟨g, 1, none⟩ x1).setCell ⟨g, 2, none⟩ x2).setCell ⟨g, 3, none⟩ x3).setCell ⟨g, 4, none⟩ x4).setCell ⟨g, 5, none⟩ x5).setCell ⟨g, 6, none⟩ x6).setCell ⟨g, 7, none⟩ x7).setCell ⟨g, 8, none⟩ x8).setCell ⟨g, 9, none⟩ x9).setCell ⟨g, 10, none⟩ x10).setCell ⟨g, 11, none⟩ x11).setCell ⟨g, 12, none⟩ x12).setCell ⟨g, 13, none⟩ x13).setCell ⟨g, 14, none⟩ x14).setCell ⟨g, 15, none⟩ x15) := h14.trans (only1 _ g 15 x15)
  exact h15
/-- what the document's reading leaves -/
def SaidR (l : List Int) (w w' : World) (e : Ending) : Prop := ∃ ve vk b k, e = .returned (.tuple #[.agg (MsV (msgF (some l)).1 ve vk).arr, .agg #[b, .bool k]]) ∧ Row7 w' w.heap.size ve (msgF (some l)).1.es ∧ RowK w' w.heap.size vk (msgF (some l)).1.ks ∧ RI w.heap.size w' b k (msgF (some l)).2 ∧ Below w.heap.size w w'
/-- a message with a list that grows -/
structure LE (Bq : Nat) (w Z0 Z : World) (i o : Nat) (b : Value) (k : Bool) (s : St) (cs : Array Value) (v : Value) (es : List En) : Prop where
  og : OG Bq w Z0 Z i o 30 b k s cs
  row : Row7 Z Z0.heap.size v es
structure LK (Bq : Nat) (w Z0 Z : World) (i o : Nat) (b : Value) (k : Bool) (s : St) (cs : Array Value) (v : Value) (es : List Ky) : Prop where
  og : OG Bq w Z0 Z i o 30 b k s cs
  row : RowK Z Z0.heap.size v es
theorem rdF_go {α : Type} {f : St → α × St} {n : Nat} {c : Int} {l : List Int} (hc : 0 < c) : rdF f (n + 1) c (some l) = ((f (some l)).1 :: (rdF f n (c - 1) (f (some l)).2).1, (rdF f n (c - 1) (f (some l)).2).2) := by
  rw [rdF, if_pos ⟨hc, rfl⟩]
theorem rdF_end {α : Type} {f : St → α × St} {n : Nat} {c : Int} {s : St} (h : n = 0 ∨ c ≤ 0 ∨ s = none) : rdF f n c s = ([], s) := by
  cases n with
  | zero => rfl
  | succ n =>
    rw [rdF, if_neg]
    rintro ⟨h1, h2⟩
    rcases h with h | h | h
    · cases h
    · omega
    · rw [h] at h2; cases h2
theorem kvals_at (w : World) (e : Ky) (t : TypeId) : ∀ j u, ([.int .i64 e.d, .string e.nm] : List Value)[j]? = some u → (w.alloc (.cells #[.int .i64 e.d, .string e.nm] t)).cell? ((⟨w.heap.size, 0, none⟩ : Addr).add j) = some u := by
  intro j u hu
  rw [add_plain', Nat.zero_add, cell_of (heap_new _ _), List.getElem?_toArray]; exact hu
theorem kvals_one (e : Ky) : ∀ u ∈ ([.int .i64 e.d, .string e.nm] : List Value), u.oneCell' = true := by
  intro u hu
  simp at hu
  rcases hu with rfl | rfl <;> rfl
theorem Try.sizeMsg8 : (Try.prog.info? 30).map (·.size) = some 16 := by kernel_rfl
end
end Go.Proofs.Ytekonakanieeaaa
