/- The document's own reading of bytes: messages, plainly; lists that grow beside a struct's box. -/
import Derived.Test.YtekonakanieeaaaJWEpt14
import Derived.Test.YtekonakanieeaaaJWEpt19
namespace Go.Proofs.Ytekonakanieeaaa
section
open Go.RowKit Go.Lib
variable {Bq : Nat}

theorem pow_one_le : ∀ k : Nat, (1 : Int) ≤ 128 ^ k
  | 0 => by decide
  | k + 1 => by have := pow_one_le k; rw [Int.pow_succ]; omega
theorem numF_le : ∀ (k : Nat) (u v : Int) (s : St), 0 ≤ u → 0 ≤ v → (numF k u v s).1 ≤ v + u * (128 ^ k - 1)
  | 0, u, v, s, hu, hv => by unfold numF; simp; omega
  | k + 1, u, v, s, hu, hv => by
    have hp : (1 : Int) ≤ 128 ^ k := pow_one_le k
    unfold numF
    split
    · have : 0 ≤ u * (128 ^ (k + 1) - 1) := Int.mul_nonneg hu (by rw [Int.pow_succ]; omega)
      show (0 : Int) ≤ _
      omega
    · rename_i x l _
      have h1 : 0 ≤ x % 128 := by omega
      have h2 : x % 128 ≤ 127 := by omega
      have h3 : x % 128 * u ≤ 127 * u := Int.mul_le_mul_of_nonneg_right h2 hu
      have h4 : 0 ≤ x % 128 * u := Int.mul_nonneg h1 hu
      have e : u * (128 ^ (k + 1) - 1) = 127 * u + u * 128 * (128 ^ k - 1) := by rw [Int.pow_succ, Int.mul_sub, Int.mul_sub, Int.mul_comm (128 ^ k) 128, ← Int.mul_assoc]; omega
      have h5 : 0 ≤ u * 128 * (128 ^ k - 1) := Int.mul_nonneg (by omega) (by omega)
      split
      · show v + x % 128 * u ≤ _
        omega
      · have := numF_le k (u * 128) (v + x % 128 * u) (some l) (by omega) (by omega)
        omega
theorem num6_le (s : St) : 0 ≤ (numF 6 1 0 s).1 ∧ (numF 6 1 0 s).1 ≤ 4398046511103 := by
  refine ⟨numF_nonneg 6 1 0 s (by decide) (by decide), ?_⟩
  have := numF_le 6 1 0 s (by decide) (by decide)
  have e : (0 : Int) + 1 * (128 ^ 6 - 1) = 4398046511103 := by decide
  rw [e] at this
  exact this
/-- a list, as the chapter's own reading does it: at most so many more -/
def rdF {α : Type} (f : St → α × St) : Nat → Int → St → List α × St
  | 0, _, s => ([], s)
  | n + 1, c, s => if 0 < c ∧ s.isSome then ((f s).1 :: (rdF f n (c - 1) (f s).2).1, (rdF f n (c - 1) (f s).2).2) else ([], s)
theorem rdF_back {α : Type} {f : St → α × St} {B : α → List Int} {P : α → Prop} (hf : ∀ x r, P x → f (some (B x ++ r)) = (x, some r)) : ∀ (xs : List α) (n : Nat) (r : List Int), xs.length ≤ n → (∀ x ∈ xs, P x) → rdF f n xs.length (some (xs.flatMap B ++ r)) = (xs, some r)
  | [], 0, r, _, _ => rfl
  | [], n + 1, r, _, _ => by unfold rdF; simp
  | x :: xs, 0, r, h, _ => by simp at h
  | x :: xs, n + 1, r, h, hp => by
    unfold rdF
    rw [if_pos ⟨by simp, rfl⟩, List.flatMap_cons, List.append_assoc, hf x _ (hp x (by simp))]
    have e : ((x :: xs).length : Int) - 1 = (xs.length : Int) := by simp
    rw [e]
    simp only []
    rw [rdF_back hf xs n r (by simpa using h) (fun y hy => hp y (List.mem_cons_of_mem _ hy))]
theorem keyF_back (k : Ky) (r : List Int) (h : keyOk k) : keyF (some (keyB k ++ r)) = (k, some r) := by
  obtain ⟨d, nm⟩ := k
  unfold keyF keyB
  rw [List.append_assoc, num6_i _ _ h.1]
  simp only []
  rw [strF_back _ _ h.2]
def bodyF (k : Int) (s : St) : (Opn × List En × List Ky) × St :=
  if k = 1 then ((((opF s).1, [], []) : Opn × List En × List Ky), (opF s).2)
  else if k = 2 then ((zeroOp, (rdF entF 49 (numF 6 1 0 s).1 (numF 6 1 0 s).2).1, []), (rdF entF 49 (numF 6 1 0 s).1 (numF 6 1 0 s).2).2)
  else if k = 3 then ((zeroOp, [], (rdF keyF 49 (numF 6 1 0 s).1 (numF 6 1 0 s).2).1), (rdF keyF 49 (numF 6 1 0 s).1 (numF 6 1 0 s).2).2)
  else ((zeroOp, [], []), s)
theorem bodyF_back {m : Mg} (h : bodyOk m) (r : List Int) : bodyF m.kind (some (bodyB m ++ r)) = ((m.op, m.es, m.ks), some r) := by
  unfold bodyF bodyB
  rcases h with ⟨h1, h2, h3, h4⟩ | ⟨h1, h2, h3, h4, h5⟩ | ⟨h1, h2, h3, h4, h5, h6⟩ | ⟨h1, h2, h3, h4⟩
  · rw [if_pos h1, if_pos h1, opF_back _ _ h2, h3, h4]
  · rw [if_neg (by omega), if_pos h1, if_neg (by omega), if_pos h1, List.append_assoc, num6_i _ _ ⟨by omega, by omega⟩]
    simp only []
    rw [rdF_back (P := entOk) (fun x r hx => entF_back x r hx) m.es 49 r (by omega) h4, h2, h5]
  · rw [if_neg (by omega), if_neg (by omega), if_pos h1, if_neg (by omega), if_neg (by omega), if_pos h1, List.append_assoc, num6_i _ _ ⟨by omega, by omega⟩]
    simp only []
    rw [rdF_back (P := keyOk) (fun x r hx => keyF_back x r hx) m.ks 49 r (by omega) h6, h2, h3]
  · rw [if_neg (by omega), if_neg (by omega), if_neg (by omega), if_neg (by omega), if_neg (by omega), if_neg (by omega), h2, h3, h4]
    rfl
/-- a message, as the chapter's own reading does it -/
def msgF (s : St) : Mg × St :=
  let a := octP s
  let b := numF 6 1 0 a.2
  let c := numF 6 1 0 b.2
  let d := numF 6 1 0 c.2
  let e := numF 6 1 0 d.2
  let f := numF 6 1 0 e.2
  let g := numF 6 1 0 f.2
  let h := numF 6 1 0 g.2
  let i := bodyF a.1 h.2
  (⟨a.1, b.1, c.1, d.1, e.1, f.1, g.1, h.1, i.1.1, i.1.2.1, i.1.2.2⟩, i.2)
theorem msgF_back {m : Mg} (h : msgOk m) : msgF (some (msgB m)) = (m, some []) := by
  obtain ⟨⟨h1, h2, h3, h4, h5, h6, h7⟩, h8⟩ := h
  have hb := bodyF_back h8 []
  rw [List.append_nil] at hb
  unfold msgF msgB
  simp only [octP, num6_i _ _ h1, num6_i _ _ h2, num6_i _ _ h3, num6_i _ _ h4, num6_i _ _ h5, num6_i _ _ h6, num6_i _ _ h7, hb]
theorem MsV_mgF {m : Mg} {ve vk : Value} (h1 : 0 ≤ m.ep ∧ m.ep ≤ 4398046511103) (h2 : 0 ≤ m.nb ∧ m.nb ≤ 4398046511103) : (MsV m ve vk).mg = m ∧ (plainB (MsV m ve vk) = true ↔ msgOk m) := by
  have e1 := ofInt_val m.ep (by omega)
  have e2 := ofInt_val m.nb (by omega)
  have hm : (MsV m ve vk).mg = m := by
    obtain ⟨kind, client, life, seq, ep, nb, vers, err, op, es, ks⟩ := m
    unfold MsV Ms.mg
    simp only [] at e1 e2 ⊢
    rw [part_of e1, part_of e2]
  refine ⟨hm, ?_⟩
  rw [plainB_iff, hm]
  refine ⟨fun h => h.2, fun h => ⟨?_, h⟩⟩
  have ho := h.1
  exact (ofInt_good ho.ep ho.nb).1
theorem msgF_marks (s : St) : (0 ≤ (msgF s).1.ep ∧ (msgF s).1.ep ≤ 4398046511103) ∧ (0 ≤ (msgF s).1.nb ∧ (msgF s).1.nb ≤ 4398046511103) := ⟨num6_le _, num6_le _⟩
/-- what the document's Decode answers is what the program's does -/
theorem decd_no {l : List Int} {w w' : World} {e : Ending} {m : Mg} {s : St} (hl : msgF (some l) = (m, s)) (hno : s ≠ some [] ∨ ¬ msgOk m ∨ l ≠ msgB m) (he : e = .returned (.tuple #[.agg #[.int .i64 0, .int .i64 0, .int .i64 0, .int .i64 0, .complex .f64 0 0, .int .i64 0, .int .i64 0, .int .i64 0, .int .i64 0, .string ⟨#[]⟩, .int .i64 0, .string ⟨#[]⟩, .int .i64 0, .string ⟨#[]⟩, .slice none 0 0, .slice none 0 0], .int .i64 50])) (hb : Below w.heap.size w w') : DecR l w w' e := by
  refine .inr ⟨fun n hn hB => ?_, he, hb⟩
  have h1 := msgF_back hn
  rw [hB, hl] at h1
  obtain ⟨rfl, rfl⟩ := Prod.mk.inj h1
  rcases hno with h | h | h
  · exact h rfl
  · exact h hn
  · exact h hB.symm
theorem RI.grow {w w' : World} {b : Value} {ok : Bool} {s : St} {S : Nat → Prop} (h : RI Bq w b ok s) (ho : Only S w w') (hS : ∀ q, S q → Bq ≤ q) : RI Bq w' b ok s := by
  obtain ⟨l, ⟨a', c', e, hcap, hc⟩, hl, h2⟩ := h
  refine ⟨l, ⟨a', c', e, hcap, ?_⟩, hl, h2⟩
  rcases hl.2 with h0 | ⟨g0, off0, n0, c0, e0, hg0⟩
  · exact .inl h0
  · rcases hc with hc | ⟨g', off, e', hg, hc⟩
    · exact .inl hc
    · have hgg : g' = g0 := by
        rw [e, e'] at e0
        injection e0 with e1
        injection e1 with e1
        injection e1
      refine .inr ⟨g', off, e', Nat.lt_of_lt_of_le hg ho.size, fun i y hy => ?_⟩
      rw [World.cell?_of_block (ho.block g' hg (fun hs => by have := hS g' hs; omega))]
      exact hc i y hy
theorem OG.grow {w Z0 Z Z' : World} {i o : Nat} {to_ : TypeId} {b : Value} {k : Bool} {s : St} {cs : Array Value} {S : Nat → Prop} (h : OG Bq w Z0 Z i o to_ b k s cs) (ho : Only S Z Z') (hS : ∀ q, S q → Z0.heap.size ≤ q) (hi : i < Z0.heap.size) (hoo : o < Z0.heap.size) (hB : Bq ≤ Z0.heap.size) (hw : w.heap.size ≤ Z0.heap.size) : OG Bq w Z0 Z' i o to_ b k s cs := by
  have hz := h.only.size
  refine ⟨(ho.block i (by omega) (fun hs => by have := hS i hs; omega)).trans h.box, (ho.block o (by omega) (fun hs => by have := hS o hs; omega)).trans h.own, ho.below h.bel h.bel.size (fun q hq => Nat.le_trans hw (hS q hq)), h.ri.grow ho (fun q hq => Nat.le_trans hB (hS q hq)), ?_⟩
  refine ⟨ho.os.trans h.only.os, ho.tape.trans h.only.tape, ho.output.trans h.only.output, Nat.le_trans h.only.size ho.size, fun k hk hn => ?_⟩
  exact (ho.block k (by omega) (fun hs => by have := hS k hs; omega)).trans (h.only.block k hk hn)
end
section
open Go.RowKit Go.Lib

theorem set16 {w : World} {g : Nat} {y0 y1 y2 y3 y4 y5 y6 y7 y8 y9 y10 y11 y12 y13 y14 y15 x0 x1 x2 x3 x4 x5 x6 x7 x8 x9 x10 x11 x12 x13 x14 x15 : Value} {t : TypeId} {f : Nat × Nat} (h : w.heap[g]? = some (.cells #[y0, y1, y2, y3, y4, y5, y6, y7, y8, y9, y10, y11, y12, y13, y14, y15] t f)) : ((((((((((((((((w.setCell ⟨g, 0, none⟩ x0).setCell ⟨g, 1, none⟩ x1).setCell ⟨g, 2, none⟩ x2).setCell ⟨g, 3, none⟩ x3).setCell ⟨g, 4, none⟩ x4).setCell ⟨g, 5, none⟩ x5).setCell ⟨g, 6, none⟩ x6).setCell ⟨g, 7, none⟩ x7).setCell ⟨g, 8, none⟩ x8).setCell ⟨g, 9, none⟩ x9).setCell ⟨g, 10, none⟩ x10).setCell ⟨g, 11, none⟩ x11).setCell ⟨g, 12, none⟩ x12).setCell ⟨g, 13, none⟩ x13).setCell ⟨g, 14, none⟩ x14).setCell ⟨g, 15, none⟩ x15).heap[g]? = some (.cells #[x0, x1, x2, x3, x4, x5, x6, x7, x8, x9, x10, x11, x12, x13, x14, x15] t f) := by
  have h0 : (w.setCell ⟨g, 0, none⟩ x0).heap[g]? = some (.cells #[x0, y1, y2, y3, y4, y5, y6, y7, y8, y9, y10, y11, y12, y13, y14, y15] t f) := (heap_set h 0 x0).trans rfl
  have h1 : ((w.setCell ⟨g, 0, none⟩ x0).setCell ⟨g, 1, none⟩ x1).heap[g]? = some (.cells #[x0, x1, y2, y3, y4, y5, y6, y7, y8, y9, y10, y11, y12, y13, y14, y15] t f) := (heap_set h0 1 x1).trans rfl
  have h2 : (((w.setCell ⟨g, 0, none⟩ x0).setCell ⟨g, 1, none⟩ x1).setCell ⟨g, 2, none⟩ x2).heap[g]? = some (.cells #[x0, x1, x2, y3, y4, y5, y6, y7, y8, y9, y10, y11, y12, y13, y14, y15] t f) := (heap_set h1 2 x2).trans rfl
  have h3 : ((((w.setCell ⟨g, 0, none⟩ x0).setCell ⟨g, 1, none⟩ x1).setCell ⟨g, 2, none⟩ x2).setCell ⟨g, 3, none⟩ x3).heap[g]? = some (.cells #[x0, x1, x2, x3, y4, y5, y6, y7, y8, y9, y10, y11, y12, y13, y14, y15] t f) := (heap_set h2 3 x3).trans rfl
  have h4 : (((((w.setCell ⟨g, 0, none⟩ x0).setCell ⟨g, 1, none⟩ x1).setCell ⟨g, 2, none⟩ x2).setCell ⟨g, 3, none⟩ x3).setCell ⟨g, 4, none⟩ x4).heap[g]? = some (.cells #[x0, x1, x2, x3, x4, y5, y6, y7, y8, y9, y10, y11, y12, y13, y14, y15] t f) := (heap_set h3 4 x4).trans rfl
  have h5 : ((((((w.setCell ⟨g, 0, none⟩ x0).setCell ⟨g, 1, none⟩ x1).setCell ⟨g, 2, none⟩ x2).setCell ⟨g, 3, none⟩ x3).setCell ⟨g, 4, none⟩ x4).setCell ⟨g, 5, none⟩ x5).heap[g]? = some (.cells #[x0, x1, x2, x3, x4, x5, y6, y7, y8, y9, y10, y11, y12, y13, y14, y15] t f) := (heap_set h4 5 x5).trans rfl
  have h6 : (((((((w.setCell ⟨g, 0, none⟩ x0).setCell ⟨g, 1, none⟩ x1).setCell ⟨g, 2, none⟩ x2).setCell ⟨g, 3, none⟩ x3).setCell ⟨g, 4, none⟩ x4).setCell ⟨g, 5, none⟩ x5).setCell ⟨g, 6, none⟩ x6).heap[g]? = some (.cells #[x0, x1, x2, x3, x4, x5, x6, y7, y8, y9, y10, y11, y12, y13, y14, y15] t f) := (heap_set h5 6 x6).trans rfl
  have h7 : ((((((((w.setCell ⟨g, 0, none⟩ x0).setCell ⟨g, 1, none⟩ x1).setCell ⟨g, 2, none⟩ x2).setCell ⟨g, 3, none⟩ x3).setCell ⟨g, 4, none⟩ x4).setCell ⟨g, 5, none⟩ x5).setCell ⟨g, 6, none⟩ x6).setCell ⟨g, 7, none⟩ x7).heap[g]? = some (.cells #[x0, x1, x2, x3, x4, x5, x6, x7, y8, y9, y10, y11, y12, y13, y14, y15] t f) := (heap_set h6 7 x7).trans rfl
  have h8 : (((((((((w.setCell ⟨g, 0, none⟩ x0).setCell ⟨g, 1, none⟩ x1).setCell ⟨g, 2, none⟩ x2).setCell ⟨g, 3, none⟩ x3).setCell ⟨g, 4, none⟩ x4).setCell ⟨g, 5, none⟩ x5).setCell ⟨g, 6, none⟩ x6).setCell ⟨g, 7, none⟩ x7).setCell ⟨g, 8, none⟩ x8).heap[g]? = some (.cells #[x0, x1, x2, x3, x4, x5, x6, x7, x8, y9, y10, y11, y12, y13, y14, y15] t f) := (heap_set h7 8 x8).trans rfl
  have h9 : ((((((((((w.setCell ⟨g, 0, none⟩ x0).setCell ⟨g, 1, none⟩ x1).setCell ⟨g, 2, none⟩ x2).setCell ⟨g, 3, none⟩ x3).setCell ⟨g, 4, none⟩ x4).setCell ⟨g, 5, none⟩ x5).setCell ⟨g, 6, none⟩ x6).setCell ⟨g, 7, none⟩ x7).setCell ⟨g, 8, none⟩ x8).setCell ⟨g, 9, none⟩ x9).heap[g]? = some (.cells #[x0, x1, x2, x3, x4, x5, x6, x7, x8, x9, y10, y11, y12, y13, y14, y15] t f) := (heap_set h8 9 x9).trans rfl
  have h10 : (((((((((((w.setCell ⟨g, 0, none⟩ x0).setCell ⟨g, 1, none⟩ x1).setCell ⟨g, 2, none⟩ x2).setCell ⟨g, 3, none⟩ x3).setCell ⟨g, 4, none⟩ x4).setCell ⟨g, 5, none⟩ x5).setCell ⟨g, 6, none⟩ x6).setCell ⟨g, 7, none⟩ x7).setCell ⟨g, 8, none⟩ x8).setCell ⟨g, 9, none⟩ x9).setCell ⟨g, 10, none⟩ x10).heap[g]? = some (.cells #[x0, x1, x2, x3, x4, x5, x6, x7, x8, x9, x10, y11, y12, y13, y14, y15] t f) := (heap_set h9 10 x10).trans rfl
  have h11 : ((((((((((((w.setCell ⟨g, 0, none⟩ x0).setCell ⟨g, 1, none⟩ x1).setCell ⟨g, 2, none⟩ x2).setCell ⟨g, 3, none⟩ x3).setCell ⟨g, 4, none⟩ x4).setCell ⟨g, 5, none⟩ x5).setCell ⟨g, 6, none⟩ x6).setCell ⟨g, 7, none⟩ x7).setCell ⟨g, 8, none⟩ x8).setCell ⟨g, 9, none⟩ x9).setCell ⟨g, 10, none⟩ x10).setCell ⟨g, 11, none⟩ x11).heap[g]? = some (.cells #[x0, x1, x2, x3, x4, x5, x6, x7, x8, x9, x10, x11, y12, y13, y14, y15] t f) := (heap_set h10 11 x11).trans rfl
  have h12 : (((((((((((((w.setCell ⟨g, 0, none⟩ x0).setCell ⟨g, 1, none⟩ x1).setCell ⟨g, 2, none⟩ x2).setCell ⟨g, 3, none⟩ x3).setCell ⟨g, 4, none⟩ x4).setCell ⟨g, 5, none⟩ x5).setCell ⟨g, 6, none⟩ x6).setCell ⟨g, 7, none⟩ x7).setCell ⟨g, 8, none⟩ x8).setCell ⟨g, 9, none⟩ x9).setCell ⟨g, 10, none⟩ x10).setCell ⟨g, 11, none⟩ x11).setCell ⟨g, 12, none⟩ x12).heap[g]? = some (.cells #[x0, x1, x2, x3, x4, x5, x6, x7, x8, x9, x10, x11, x12, y13, y14, y15] t f) := (heap_set h11 12 x12).trans rfl
  have h13 : ((((((((((((((w.setCell ⟨g, 0, none⟩ x0).setCell ⟨g, 1, none⟩ x1).setCell ⟨g, 2, none⟩ x2).setCell ⟨g, 3, none⟩ x3).setCell ⟨g, 4, none⟩ x4).setCell ⟨g, 5, none⟩ x5).setCell ⟨g, 6, none⟩ x6).setCell ⟨g, 7, none⟩ x7).setCell ⟨g, 8, none⟩ x8).setCell ⟨g, 9, none⟩ x9).setCell ⟨g, 10, none⟩ x10).setCell ⟨g, 11, none⟩ x11).setCell ⟨g, 12, none⟩ x12).setCell ⟨g, 13, none⟩ x13).heap[g]? = some (.cells #[x0, x1, x2, x3, x4, x5, x6, x7, x8, x9, x10, x11, x12, x13, y14, y15] t f) := (heap_set h12 13 x13).trans rfl
  have h14 : (((((((((((((((w.setCell ⟨g, 0, none⟩ x0).setCell ⟨g, 1, none⟩ x1).setCell ⟨g, 2, none⟩ x2).setCell ⟨g, 3, none⟩ x3).setCell ⟨g, 4, none⟩ x4).setCell ⟨g, 5, none⟩ x5).setCell ⟨g, 6, none⟩ x6).setCell ⟨g, 7, none⟩ x7).setCell ⟨g, 8, none⟩ x8).setCell ⟨g, 9, none⟩ x9).setCell ⟨g, 10, none⟩ x10).setCell ⟨g, 11, none⟩ x11).setCell ⟨g, 12, none⟩ x12).setCell ⟨g, 13, none⟩ x13).setCell ⟨g, 14, none⟩ x14).heap[g]? = some (.cells #[x0, x1, x2, x3, x4, x5, x6, x7, x8, x9, x10, x11, x12, x13, x14, y15] t f) := (heap_set h13 14 x14).trans rfl
  have h15 : ((((((((((((((((w.setCell ⟨g, 0, none⟩ x0).setCell ⟨g, 1, none⟩ x1).setCell ⟨g, 2, none⟩ x2).setCell ⟨g, 3, none⟩ x3).setCell ⟨g, 4, none⟩ x4).setCell ⟨g, 5, none⟩ x5).setCell ⟨g, 6, none⟩ x6).setCell ⟨g, 7, none⟩ x7).setCell ⟨g, 8, none⟩ x8).setCell ⟨g, 9, none⟩ x9).setCell ⟨g, 10, none⟩ x10).setCell ⟨g, 11, none⟩ x11).setCell ⟨g, 12, none⟩ x12).setCell ⟨g, 13, none⟩ x13).setCell ⟨g, 14, none⟩ x14).setCell ⟨g, 15, none⟩ x15).heap[g]? = some (.cells #[x0, x1, x2, x3, x4, x5, x6, x7, x8, x9, x10, x11, x12, x13, x14, x15] t f) := (heap_set h14 15 x15).trans rfl
  exact h15
theorem only16 (w : World) (g : Nat) (x0 x1 x2 x3 x4 x5 x6 x7 x8 x9 x10 x11 x12 x13 x14 x15 : Value) : Only (· = g) w ((((((((((((((((w.setCell ⟨g, 0, none⟩ x0).setCell ⟨g, 1, none⟩ x1).setCell ⟨g, 2, none⟩ x2).setCell ⟨g, 3, none⟩ x3).setCell ⟨g, 4, none⟩ x4).setCell ⟨g, 5, none⟩ x5).setCell ⟨g, 6, none⟩ x6).setCell ⟨g, 7, none⟩ x7).setCell ⟨g, 8, none⟩ x8).setCell ⟨g, 9, none⟩ x9).setCell ⟨g, 10, none⟩ x10).setCell ⟨g, 11, none⟩ x11).setCell ⟨g, 12, none⟩ x12).setCell ⟨g, 13, none⟩ x13).setCell ⟨g, 14, none⟩ x14).setCell ⟨g, 15, none⟩ x15) := by
  have h0 : Only (· = g) w (w.setCell ⟨g, 0, none⟩ x0) := only1 w g 0 x0
  have h1 : Only (· = g) w ((w.setCell ⟨g, 0, none⟩ x0).setCell ⟨g, 1, none⟩ x1) := h0.trans (only1 _ g 1 x1)
  have h2 : Only (· = g) w (((w.setCell ⟨g, 0, none⟩ x0).setCell ⟨g, 1, none⟩ x1).setCell ⟨g, 2, none⟩ x2) := h1.trans (only1 _ g 2 x2)
  have h3 : Only (· = g) w ((((w.setCell ⟨g, 0, none⟩ x0).setCell ⟨g, 1, none⟩ x1).setCell ⟨g, 2, none⟩ x2).setCell ⟨g, 3, none⟩ x3) := h2.trans (only1 _ g 3 x3)
  have h4 : Only (· = g) w (((((w.setCell ⟨g, 0, none⟩ x0).setCell ⟨g, 1, none⟩ x1).setCell ⟨g, 2, none⟩ x2).setCell ⟨g, 3, none⟩ x3).setCell ⟨g, 4, none⟩ x4) := h3.trans (only1 _ g 4 x4)
  have h5 : Only (· = g) w ((((((w.setCell ⟨g, 0, none⟩ x0).setCell ⟨g, 1, none⟩ x1).setCell ⟨g, 2, none⟩ x2).setCell ⟨g, 3, none⟩ x3).setCell ⟨g, 4, none⟩ x4).setCell ⟨g, 5, none⟩ x5) := h4.trans (only1 _ g 5 x5)
  have h6 : Only (· = g) w (((((((w.setCell ⟨g, 0, none⟩ x0).setCell ⟨g, 1, none⟩ x1).setCell ⟨g, 2, none⟩ x2).setCell ⟨g, 3, none⟩ x3).setCell ⟨g, 4, none⟩ x4).setCell ⟨g, 5, none⟩ x5).setCell ⟨g, 6, none⟩ x6) := h5.trans (only1 _ g 6 x6)
  have h7 : Only (· = g) w ((((((((w.setCell ⟨g, 0, none⟩ x0).setCell ⟨g, 1, none⟩ x1).setCell ⟨g, 2, none⟩ x2).setCell ⟨g, 3, none⟩ x3).setCell ⟨g, 4, none⟩ x4).setCell ⟨g, 5, none⟩ x5).setCell ⟨g, 6, none⟩ x6).setCell ⟨g, 7, none⟩ x7) := h6.trans (only1 _ g 7 x7)
  have h8 : Only (· = g) w (((((((((w.setCell ⟨g, 0, none⟩ x0).setCell ⟨g, 1, none⟩ x1).setCell ⟨g, 2, none⟩ x2).setCell ⟨g, 3, none⟩ x3).setCell ⟨g, 4, none⟩ x4).setCell ⟨g, 5, none⟩ x5).setCell ⟨g, 6, none⟩ x6).setCell ⟨g, 7, none⟩ x7).setCell ⟨g, 8, none⟩ x8) := h7.trans (only1 _ g 8 x8)
  have h9 : Only (· = g) w ((((((((((w.setCell ⟨g, 0, none⟩ x0).setCell ⟨g, 1, none⟩ x1).setCell ⟨g, 2, none⟩ x2).setCell ⟨g, 3, none⟩ x3).setCell ⟨g, 4, none⟩ x4).setCell ⟨g, 5, none⟩ x5).setCell ⟨g, 6, none⟩ x6).setCell ⟨g, 7, none⟩ x7).setCell ⟨g, 8, none⟩ x8).setCell ⟨g, 9, none⟩ x9) := h8.trans (only1 _ g 9 x9)
  have h10 : Only (· = g) w (((((((((((w.setCell ⟨g, 0, none⟩ x0).setCell ⟨g, 1, none⟩ x1).setCell ⟨g, 2, none⟩ x2).setCell ⟨g, 3, none⟩ x3).setCell ⟨g, 4, none⟩ x4).setCell ⟨g, 5, none⟩ x5).setCell ⟨g, 6, none⟩ x6).setCell ⟨g, 7, none⟩ x7).setCell ⟨g, 8, none⟩ x8).setCell ⟨g, 9, none⟩ x9).setCell ⟨g, 10, none⟩ x10) := h9.trans (only1 _ g 10 x10)
  have h11 : Only (· = g) w ((((((((((((w.setCell ⟨g, 0, none⟩ x0).setCell ⟨g, 1, none⟩ x1).setCell ⟨g, 2, none⟩ x2).setCell ⟨g, 3, none⟩ x3).setCell ⟨g, 4, none⟩ x4).setCell ⟨g, 5, none⟩ x5).setCell ⟨g, 6, none⟩ x6).setCell ⟨g, 7, none⟩ x7).setCell ⟨g, 8, none⟩ x8).setCell ⟨g, 9, none⟩ x9).setCell ⟨g, 10, none⟩ x10).setCell ⟨g, 11, none⟩ x11) := h10.trans (only1 _ g 11 x11)
  have h12 : Only (· = g) w (((((((((((((w.setCell ⟨g, 0, none⟩ x0).setCell ⟨g, 1, none⟩ x1).setCell ⟨g, 2, none⟩ x2).setCell ⟨g, 3, none⟩ x3).setCell ⟨g, 4, none⟩ x4).setCell ⟨g, 5, none⟩ x5).setCell ⟨g, 6, none⟩ x6).setCell ⟨g, 7, none⟩ x7).setCell ⟨g, 8, none⟩ x8).setCell ⟨g, 9, none⟩ x9).setCell ⟨g, 10, none⟩ x10).setCell ⟨g, 11, none⟩ x11).setCell ⟨g, 12, none⟩ x12) := h11.trans (only1 _ g 12 x12)
  have h13 : Only (· = g) w ((((((((((((((w.setCell ⟨g, 0, none⟩ x0).setCell ⟨g, 1, none⟩ x1).setCell ⟨g, 2, none⟩ x2).setCell ⟨g, 3, none⟩ x3).setCell ⟨g, 4, none⟩ x4).setCell ⟨g, 5, none⟩ x5).setCell ⟨g, 6, none⟩ x6).setCell ⟨g, 7, none⟩ x7).setCell ⟨g, 8, none⟩ x8).setCell ⟨g, 9, none⟩ x9).setCell ⟨g, 10, none⟩ x10).setCell ⟨g, 11, none⟩ x11).setCell ⟨g, 12, none⟩ x12).setCell ⟨g, 13, none⟩ x13) := h12.trans (only1 _ g 13 x13)
  have h14 : Only (· = g) w (((((((((((((((w.setCell ⟨g, 0, none⟩ x0).setCell ⟨g, 1, none⟩ x1).setCell ⟨g, 2, none⟩ x2).setCell ⟨g, 3, none⟩ x3).setCell ⟨g, 4, none⟩ x4).setCell ⟨g, 5, none⟩ x5).setCell ⟨g, 6, none⟩ x6).setCell ⟨g, 7, none⟩ x7).setCell ⟨g, 8, none⟩ x8).setCell ⟨g, 9, none⟩ x9).setCell ⟨g, 10, none⟩ x10).setCell ⟨g, 11, none⟩ x11).setCell ⟨g, 12, none⟩ x12).setCell ⟨g, 13, none⟩ x13).setCell ⟨g, 14, none⟩ x14) := h13.trans (only1 _ g 14 x14)
  have h15 : Only (· = g) w ((((((((((((((((w.setCell ⟨g, 0, none⟩ x0).setCell ⟨g, 1, none⟩ x1).setCell ⟨g, 2, none⟩ x2).setCell ⟨g, 3, none⟩ x3).setCell ⟨g, 4, none⟩ x4).setCell ⟨g, 5, none⟩ x5).setCell ⟨g, 6, none⟩ x6).setCell ⟨g, 7, none⟩ x7).setCell ⟨g, 8, none⟩ x8).setCell ⟨g, 9, none⟩ x9).setCell ⟨g, 10, none⟩ x10).setCell ⟨g, 11, none⟩ x11).setCell ⟨g, 12, none⟩ x12).setCell ⟨g, 13, none⟩ x13).setCell ⟨g, 14, none⟩ x14).setCell ⟨g, 15, none⟩ x15) := h14.trans (only1 _ g 15 x15)
  exact h15
/-- what the document's reading leaves -/
def SaidR (l : List Int) (w w' : World) (e : Ending) : Prop := ∃ ve vk b k, e = .returned (.tuple #[.agg (MsV (msgF (some l)).1 ve vk).arr, .agg #[b, .bool k]]) ∧ Row7 w' w.heap.size ve (msgF (some l)).1.es ∧ RowK w' w.heap.size vk (msgF (some l)).1.ks ∧ RI w.heap.size w' b k (msgF (some l)).2 ∧ Below w.heap.size w w'
/-- a message with a list that grows -/
structure LE (Bq : Nat) (w Z0 Z : World) (i o : Nat) (b : Value) (k : Bool) (s : St) (cs : Array Value) (v : Value) (es : List En) : Prop where
  og : OG Bq w Z0 Z i o 30 b k s cs
  row : Row7 Z Z0.heap.size v es
structure LK (Bq : Nat) (w Z0 Z : World) (i o : Nat) (b : Value) (k : Bool) (s : St) (cs : Array Value) (v : Value) (es : List Ky) : Prop where
  og : OG Bq w Z0 Z i o 30 b k s cs
  row : RowK Z Z0.heap.size v es
theorem rdF_go {α : Type} {f : St → α × St} {n : Nat} {c : Int} {l : List Int} (hc : 0 < c) : rdF f (n + 1) c (some l) = ((f (some l)).1 :: (rdF f n (c - 1) (f (some l)).2).1, (rdF f n (c - 1) (f (some l)).2).2) := by
  rw [rdF, if_pos ⟨hc, rfl⟩]
theorem rdF_end {α : Type} {f : St → α × St} {n : Nat} {c : Int} {s : St} (h : n = 0 ∨ c ≤ 0 ∨ s = none) : rdF f n c s = ([], s) := by
  cases n with
  | zero => rfl
  | succ n =>
    rw [rdF, if_neg]
    rintro ⟨h1, h2⟩
    rcases h with h | h | h
    · cases h
    · omega
    · rw [h] at h2; cases h2
theorem kvals_at (w : World) (e : Ky) (t : TypeId) : ∀ j u, ([.int .i64 e.d, .string e.nm] : List Value)[j]? = some u → (w.alloc (.cells #[.int .i64 e.d, .string e.nm] t)).cell? ((⟨w.heap.size, 0, none⟩ : Addr).add j) = some u := by
  intro j u hu
  rw [add_plain', Nat.zero_add, cell_of (heap_new _ _), List.getElem?_toArray]; exact hu
theorem kvals_one (e : Ky) : ∀ u ∈ ([.int .i64 e.d, .string e.nm] : List Value), u.oneCell' = true := by
  intro u hu
  simp at hu
  rcases hu with rfl | rfl <;> rfl
theorem Try.sizeMsg8 : (Try.prog.info? 30).map (·.size) = some 16 := by kernel_rfl
end
end Go.Proofs.Ytekonakanieeaaa
