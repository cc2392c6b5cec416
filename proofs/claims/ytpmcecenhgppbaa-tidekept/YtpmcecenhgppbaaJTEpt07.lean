/- What is fresh, plainly; a tide in memory. -/
import Derived.Test.YtpmcecenhgppbaaJTEpt06
namespace Go.Proofs.Ytpmcecenhgppbaa
section
open Go.RowKit

theorem snocInd {α : Type} {P : List α → Prop} (h0 : P []) (h1 : ∀ l a, P l → P (l ++ [a])) : ∀ l, P l := by
  intro l
  rw [← List.reverse_reverse l]
  induction l.reverse with
  | nil => exact h0
  | cons a l ih => rw [List.reverse_cons]; exact h1 _ _ ih
def laN (fr : List Fb) : Int := fr.foldl (fun _ b => b.n) 0
def flN (fr : List Fb) : Int := fr.foldl (fun a b => if b.all then b.n else a) 0
def kN (fr : List Fb) (k : Ky) : Int := fr.foldl (fun a b => if b.all then 0 else if inK b.ks k then b.n else a) 0
theorem laN_snoc (fr : List Fb) (b : Fb) : laN (fr ++ [b]) = b.n := by unfold laN; rw [List.foldl_append]; rfl
theorem flN_snoc (fr : List Fb) (b : Fb) : flN (fr ++ [b]) = if b.all then b.n else flN fr := by unfold flN; rw [List.foldl_append]; rfl
theorem kN_snoc (fr : List Fb) (b : Fb) (k : Ky) : kN (fr ++ [b]) k = if b.all then 0 else if inK b.ks k then b.n else kN fr k := by unfold kN; rw [List.foldl_append]; rfl
/-- fresh breaks, in their order -/
structure FrOk (n : Int) (fr : List Fb) : Prop where
  pos : ∀ b ∈ fr, 0 < b.n ∧ b.n ≤ n
  up : fr.Pairwise fun a b => a.n < b.n
theorem FrOk.nil (n : Int) : FrOk n [] := ⟨(fun b hb => by cases hb), .nil⟩
theorem FrOk.snoc {n m : Int} {fr : List Fb} (h : FrOk n fr) (b : Fb) (hb : n < b.n) (h0 : 0 ≤ n) (hm : b.n ≤ m) : FrOk m (fr ++ [b]) := by
  refine ⟨fun c hc => ?_, List.pairwise_append.2 ⟨h.up, List.pairwise_singleton _ _, fun a ha c hc => ?_⟩⟩
  · rcases List.mem_append.1 hc with hc | hc
    · have := h.pos c hc; omega
    · rw [List.mem_singleton.1 hc]; omega
  · rw [List.mem_singleton.1 hc]
    have := h.pos a ha; omega
theorem FrOk.front {n : Int} {fr : List Fb} {b : Fb} (h : FrOk n (fr ++ [b])) : FrOk n fr ∧ 0 < b.n ∧ b.n ≤ n ∧ ∀ a ∈ fr, a.n < b.n := by
  have := List.pairwise_append.1 h.up
  exact ⟨⟨fun c hc => h.pos c (List.mem_append_left _ hc), this.1⟩, (h.pos b (by simp)).1, (h.pos b (by simp)).2, fun a ha => this.2.2 a ha b (by simp)⟩
theorem named_snoc (fr : List Fb) (b : Fb) (n : Int) (k : Ky) : named (fr ++ [b]) n k = (named fr n k || (decide (n < b.n) && b.names k)) := by
  unfold named; simp
theorem named_low {fr : List Fb} {n m : Int} (h : ∀ a ∈ fr, a.n < m) (hn : m ≤ n) (k : Ky) : named fr n k = false := by
  unfold named
  rw [List.any_eq_false]
  intro b hb
  have := h b hb
  simp; omega
theorem flN_of (fr : List Fb) : flN fr = 0 ∨ ∃ b ∈ fr, flN fr = b.n := by
  revert fr
  refine snocInd (.inl rfl) fun l a ih => ?_
  rw [flN_snoc]
  by_cases h : a.all = true
  · rw [if_pos h]; exact .inr ⟨a, by simp, rfl⟩
  · rw [if_neg h]
    rcases ih with h | ⟨b, hb, e⟩
    · exact .inl h
    · exact .inr ⟨b, by simp [hb], e⟩
theorem kN_of (k : Ky) (fr : List Fb) : kN fr k = 0 ∨ ∃ b ∈ fr, kN fr k = b.n := by
  revert fr
  refine snocInd (.inl rfl) fun l a ih => ?_
  rw [kN_snoc]
  by_cases h : a.all = true
  · rw [if_pos h]; exact .inl rfl
  · rw [if_neg h]
    by_cases h2 : inK a.ks k = true
    · rw [if_pos h2]; exact .inr ⟨a, by simp, rfl⟩
    · rw [if_neg h2]
      rcases ih with h | ⟨b, hb, e⟩
      · exact .inl h
      · exact .inr ⟨b, by simp [hb], e⟩
theorem laN_of (fr : List Fb) : laN fr = 0 ∨ ∃ b ∈ fr, laN fr = b.n := by
  revert fr
  refine snocInd (.inl rfl) fun l a ih => ?_
  rw [laN_snoc]; exact .inr ⟨a, by simp, rfl⟩
/-- what names a key, by the last ones -/
theorem named_is {N : Int} : ∀ (fr : List Fb), FrOk N fr → ∀ (n : Int) (k : Ky), 0 ≤ n → named fr n k = (decide (n < flN fr) || (decide (n < kN fr k) || decide (n < kN fr (bare k)))) := by
  refine snocInd (fun _ n k h0 => ?_) fun l a ih h n k h0 => ?_
  · show false = (decide (n < 0) || (decide (n < 0) || decide (n < 0)))
    rw [decide_eq_false (by omega)]; rfl
  · obtain ⟨hf, a0, a1, hl⟩ := h.front
    rw [named_snoc, flN_snoc, kN_snoc, kN_snoc, ih hf n k h0]
    have low : ¬ n < a.n → decide (n < flN l) = false ∧ decide (n < kN l k) = false ∧ decide (n < kN l (bare k)) = false := by
      intro hn
      refine ⟨decide_eq_false ?_, decide_eq_false ?_, decide_eq_false ?_⟩
      · rcases flN_of l with e | ⟨b, hb, e⟩
        · omega
        · have := hl b hb; omega
      · rcases kN_of k l with e | ⟨b, hb, e⟩
        · omega
        · have := hl b hb; omega
      · rcases kN_of (bare k) l with e | ⟨b, hb, e⟩
        · omega
        · have := hl b hb; omega
    have z : decide (n < 0) = false := decide_eq_false (by omega)
    unfold Fb.names
    by_cases hn : n < a.n
    · rw [decide_eq_true hn]
      cases ha : a.all
      · cases h1 : inK a.ks k <;> cases h2 : inK a.ks (bare k) <;> simp [hn]
      · simp [hn]
    · obtain ⟨l1, l2, l3⟩ := low hn
      rw [decide_eq_false hn, l1, l2, l3]
      cases ha : a.all
      · cases h1 : inK a.ks k <;> cases h2 : inK a.ks (bare k) <;> simp [hn, l1, l2, l3] <;> simp at l1 l2 l3 <;> omega
      · simp [hn]; omega
theorem whole_is {N : Int} : ∀ (fr : List Fb), FrOk N fr → ∀ (n : Int), 0 ≤ n → wholeF fr n = !decide (n < laN fr) := by
  refine snocInd (fun _ n h0 => ?_) fun l a ih h n h0 => ?_
  · show true = !decide (n < 0)
    rw [decide_eq_false (by omega)]; rfl
  · obtain ⟨hf, a0, a1, hl⟩ := h.front
    rw [laN_snoc]
    unfold wholeF
    rw [List.all_append]
    by_cases hn : n < a.n
    · simp [hn]
    · have : (l.all fun b => decide (b.n ≤ n)) = true := by
        rw [List.all_eq_true]
        intro b hb
        have := hl b hb
        simp; omega
      rw [this]
      simp only [Bool.true_and, List.all_cons, List.all_nil, Bool.and_true]
      rw [decide_eq_true (by omega), decide_eq_false hn]; rfl

/-- a mark that is none, or of a number -/
def IsMk (a b : Nat) (e n : Int) : Prop := (n = 0 ∧ a = 0 ∧ b = 0) ∨ (0 < n ∧ Mk a b e n)
theorem Mk.zero : Mk 0 0 0 0 := ⟨val_zeroU, val_zeroU, by omega, by omega, by omega, by omega⟩
theorem IsMk.later {a b c d : Nat} {e n m : Int} (h : IsMk a b e n) (k : Mk c d e m) : laterB a b c d = decide (m < n) := by
  rcases h with ⟨rfl, rfl, rfl⟩ | ⟨h0, h⟩
  · unfold laterB
    rw [Mk.zero.good, k.good, k.pa, k.pb, Mk.zero.pa]
    have := k.e0
    have := k.n0
    rw [decide_eq_false (show ¬ m < 0 by omega), decide_eq_false (by omega)]; rfl
  · exact h.later k
/-- what is fresh, in memory -/
structure IsF (e : Int) (fr : List Fb) (la lb fa fb : Nat) (ml : Ml) : Prop where
  last : IsMk la lb e (laN fr)
  flush : IsMk fa fb e (flN fr)
  keys : ∀ k, IsMk (mlook ml k).1 (mlook ml k).2 e (kN fr k)
theorem IsF.none (e : Int) : IsF e [] 0 0 0 0 [] := ⟨.inl ⟨rfl, rfl, rfl⟩, .inl ⟨rfl, rfl, rfl⟩, fun _ => .inl ⟨rfl, rfl, rfl⟩⟩

/-- a tide in memory -/
structure Td where
  client : Int
  life : Int
  a : Nat
  b : Nat
  ver : Int
  asked : Int
  la : Nat
  lb : Nat
  fa : Nat
  fb : Nat
  kv : Option Nat
  ml : Ml
  fr : List Fb
  hv : Value
  hs : List Hm
  hold : Nat
def Td.say (s : Td) : Ts := ⟨s.client, s.life, part s.a, part s.b, s.ver, s.asked, s.fr, s.hs.map Hm.m, s.hold⟩
def Td.arr (s : Td) : Array Value := #[.int .i64 s.client, .int .i64 s.life, .complex .f64 s.a s.b, .int .i64 s.ver, .int .i64 s.asked, .complex .f64 s.la s.lb, .complex .f64 s.fa s.fb, .map s.kv, s.hv, .int .i64 s.hold]
def KvAt (w : World) (B : Nat) (kv : Option Nat) (ml : Ml) : Prop := match kv with | none => ml = [] | some g => MapAt w g ml ∧ B ≤ g
/-- a message that may be held -/
structure Good (e : Int) (m : Pm) : Prop where
  mkk : Mk m.re m.im e m.num
  kind : m.kind = 2 ∨ m.kind = 3
  seq : m.kind = 2 → 0 < m.seq
structure IsT (w : World) (B t : Nat) (s : Td) : Prop where
  head : w.heap[t]? = some (.cells s.arr 68 (0, 0))
  bt : B ≤ t
  mkk : Mk s.a s.b (part s.a) (part s.b)
  held : RowM w B s.hv s.hs
  each : ∀ h ∈ s.hs, Lists w B h ∧ Good (part s.a) h.m
  map : KvAt w B s.kv s.ml
  isf : IsF (part s.a) s.fr s.la s.lb s.fa s.fb s.ml
  frn : FrOk (part s.b) s.fr
  ask0 : 0 ≤ s.asked
  lh : s.hs.length ≤ s.hold
  l8 : s.hold ≤ 8
/-- the blocks that a call writes -/
def Td.wr (s : Td) (t k : Nat) : Prop := k = t ∨ s.hv.ownBlock = some k ∨ s.kv = some k
/-- all its blocks -/
def Td.blk (s : Td) (t k : Nat) : Prop := s.wr t k ∨ ∃ h ∈ s.hs, h.ve.ownBlock = some k ∨ h.vk.ownBlock = some k
theorem MapAt.lt {w : World} {g : Nat} {ml : Ml} (h : MapAt w g ml) : g < w.heap.size := by
  obtain ⟨es, c, e, _⟩ := h
  exact (Array.getElem?_eq_some_iff.1 e).1
theorem MapAt.moved {w w' : World} {g : Nat} {ml : Ml} (h : MapAt w g ml) (e : w'.heap[g]? = w.heap[g]?) : MapAt w' g ml := by
  obtain ⟨es, c, h1, h2⟩ := h
  exact ⟨es, c, e.trans h1, h2⟩
theorem MapAt.no {w : World} {g : Nat} {ml : Ml} (h : MapAt w g ml) {t : TypeId} : ¬ Tag w g t := by
  obtain ⟨es, c, h1, _⟩ := h
  rintro ⟨cs, f, e⟩
  rw [h1] at e; cases e
theorem KvAt.some' {w : World} {B : Nat} {kv : Option Nat} {ml : Ml} (h : KvAt w B kv ml) {g : Nat} (e : kv = some g) : MapAt w g ml ∧ B ≤ g := by subst e; exact h
theorem KvAt.moved {w w' : World} {B : Nat} {kv : Option Nat} {ml : Ml} (h : KvAt w B kv ml) (hk : ∀ g, kv = some g → w'.heap[g]? = w.heap[g]?) : KvAt w' B kv ml := by
  cases kv with
  | none => exact h
  | some g => exact ⟨h.1.moved (hk g rfl), h.2⟩
theorem IsT.tt {w : World} {B t : Nat} {s : Td} (h : IsT w B t s) : Tag w t 68 := ⟨_, _, h.head⟩
theorem IsT.th {w : World} {B t : Nat} {s : Td} (h : IsT w B t s) {k : Nat} (hk : s.hv.ownBlock = some k) : Tag w k 45 := h.held.tag hk
theorem IsT.wlt {w : World} {B t : Nat} {s : Td} (h : IsT w B t s) {k : Nat} (hk : s.wr t k) : B ≤ k ∧ k < w.heap.size := by
  rcases hk with rfl | hk | hk
  · exact ⟨h.bt, h.tt.lt⟩
  · exact h.held.lt hk
  · exact ⟨(h.map.some' hk).2, (h.map.some' hk).1.lt⟩
theorem IsT.lt {w : World} {B t : Nat} {s : Td} (h : IsT w B t s) {k : Nat} (hk : s.blk t k) : B ≤ k ∧ k < w.heap.size := by
  rcases hk with hk | ⟨m, hm, hk | hk⟩
  · exact h.wlt hk
  · exact World.ownsRow.lt (h.each m hm).1.es k hk
  · exact World.ownsRow.lt (h.each m hm).1.ks k hk
theorem IsT.moved {w w' : World} {B t : Nat} {s : Td} (h : IsT w B t s) (hk : ∀ k, s.blk t k → w'.heap[k]? = w.heap[k]?) : IsT w' B t s :=
  ⟨(hk t (.inl (.inl rfl))).trans h.head, h.bt, h.mkk, h.held.moved fun k e => hk k (.inl (.inr (.inl e))), fun m hm => ⟨(h.each m hm).1.moved fun q e => hk q (.inr ⟨m, hm, e⟩), (h.each m hm).2⟩, h.map.moved fun g e => hk g (.inl (.inr (.inr e))), h.isf, h.frn, h.ask0, h.lh, h.l8⟩
theorem IsT.below {w w' : World} {B t : Nat} {s : Td} (h : IsT w B t s) (hb : Below w.heap.size w w') : IsT w' B t s := h.moved fun k hk => hb.block k (h.lt hk).2
theorem IsT.cells {w : World} {B t : Nat} {s : Td} (h : IsT w B t s) : w.cell? ⟨t, 0, none⟩ = some (.int .i64 s.client) ∧ w.cell? ⟨t, 1, none⟩ = some (.int .i64 s.life) ∧ w.cell? ⟨t, 2, none⟩ = some (.complex .f64 s.a s.b) ∧ w.cell? ⟨t, 3, none⟩ = some (.int .i64 s.ver) ∧ w.cell? ⟨t, 4, none⟩ = some (.int .i64 s.asked) ∧ w.cell? ⟨t, 5, none⟩ = some (.complex .f64 s.la s.lb) ∧ w.cell? ⟨t, 6, none⟩ = some (.complex .f64 s.fa s.fb) ∧ w.cell? ⟨t, 7, none⟩ = some (.map s.kv) ∧ w.cell? ⟨t, 8, none⟩ = some s.hv ∧ w.cell? ⟨t, 9, none⟩ = some (.int .i64 s.hold) ∧ ∀ i, w.frozen? ⟨t, i, none⟩ = false := by
  have e := fun i => cell_of h.head i
  have h0 := e 0
  have h1 := e 1
  have h2 := e 2
  have h3 := e 3
  have h4 := e 4
  have h5 := e 5
  have h6 := e 6
  have h7 := e 7
  have h8 := e 8
  have h9 := e 9
  simp [Td.arr] at h0 h1 h2 h3 h4 h5 h6 h7 h8 h9
  exact ⟨h0, h1, h2, h3, h4, h5, h6, h7, h8, h9, free_of h.head⟩
/-- one call on a tide -/
structure ST (w w' : World) (B t : Nat) (s s' : Td) : Prop where
  is : IsT w' B t s'
  only : Only (s.wr t) w w'
  nwr : ∀ k, s'.wr t k → s.wr t k ∨ w.heap.size ≤ k
  nblk : ∀ k, s'.blk t k → s.blk t k ∨ w.heap.size ≤ k
theorem ST.stay {w w' : World} {B t : Nat} {s : Td} (h : IsT w B t s) (hb : Below w.heap.size w w') : ST w w' B t s s := ⟨h.below hb, Only.of hb, fun _ hk => .inl hk, fun _ hk => .inl hk⟩
theorem ST.trans {w w1 w2 : World} {B t : Nat} {s s1 s2 : Td} (h : ST w w1 B t s s1) (k : ST w1 w2 B t s1 s2) : ST w w2 B t s s2 := by
  refine ⟨k.is, ⟨k.only.os.trans h.only.os, k.only.tape.trans h.only.tape, k.only.output.trans h.only.output, Nat.le_trans h.only.size k.only.size, fun i hi hs => ?_⟩, fun i hi => ?_, fun i hi => ?_⟩
  · refine (k.only.block i (Nat.lt_of_lt_of_le hi h.only.size) fun hn => ?_).trans (h.only.block i hi hs)
    rcases h.nwr i hn with e | e
    · exact hs e
    · omega
  · rcases k.nwr i hi with e | e
    · exact h.nwr i e
    · exact .inr (Nat.le_trans h.only.size e)
  · rcases k.nblk i hi with e | e
    · exact h.nblk i e
    · exact .inr (Nat.le_trans h.only.size e)
theorem ST.on {w w' w2 : World} {B t : Nat} {s s' : Td} (h : ST w w' B t s s') (hb : Below w'.heap.size w' w2) : ST w w2 B t s s' := h.trans (ST.stay h.is hb)
theorem ST.pre {w0 w w' : World} {B t : Nat} {s s' : Td} (hb : Below w0.heap.size w0 w) (h0 : IsT w0 B t s) (h : ST w w' B t s s') : ST w0 w' B t s s' := (ST.stay h0 hb).trans h
/-- no block that is written holds keys, entries or acts -/
theorem IsT.wno {w : World} {B t : Nat} {s : Td} (h : IsT w B t s) {k : Nat} (hk : s.wr t k) {ty : TypeId} (h1 : 68 ≠ ty) (h2 : 45 ≠ ty) : ¬ Tag w k ty := by
  rcases hk with rfl | hk | hk
  · exact h.tt.two h1
  · exact (h.th hk).two h2
  · exact (h.map.some' hk).1.no
end
section
open Go.RowKit Go.Shelf
attribute [local go_sem ↓ high] loadMsg storeMsg
attribute [local go_sem high] run_store_complex

def withB (n a b : Int) : Bool := decide (a ≤ n) && decide (n ≤ b)
theorem within_t (n a b : Int) (w : World) : Calls Try.prog 18 #[.int .i64 n, .int .i64 a, .int .i64 b] w fun e w' => e = .returned (.bool (withB n a b)) ∧ w' = w := by
  unfold withB
  by_cases h : a ≤ n
  · rw [decide_eq_true h, Bool.true_and]
    go_enter Try.func18, Try.ntmps18
    go_wp2
    go_ret
    exact ⟨rfl, rfl⟩
  · rw [decide_eq_false h, Bool.false_and]
    go_enter Try.func18, Try.ntmps18
    go_wp2
    go_ret
    exact ⟨rfl, rfl⟩
theorem mark_p (t B : Nat) (s : Td) (w : World) (h : IsT w B t s) : Calls Try.prog 19 #[.pointer (some ⟨t, 0, none⟩)] w fun e w' => e = .returned (.complex .f64 s.a s.b) ∧ w' = w := by
  obtain ⟨-, -, c2, -, -, -, -, -, -, -, -⟩ := h.cells
  clear h
  go_enter Try.func19, Try.ntmps19
  go_wp2
  go_ret
  exact ⟨rfl, rfl⟩
theorem version_p (t B : Nat) (s : Td) (w : World) (h : IsT w B t s) : Calls Try.prog 20 #[.pointer (some ⟨t, 0, none⟩)] w fun e w' => e = .returned (.int .i64 s.ver) ∧ w' = w := by
  obtain ⟨-, -, -, c3, -, -, -, -, -, -, -⟩ := h.cells
  clear h
  go_enter Try.func20, Try.ntmps20
  go_wp2
  go_ret
  exact ⟨rfl, rfl⟩
theorem asked_p (t B : Nat) (s : Td) (w : World) (h : IsT w B t s) : Calls Try.prog 40 #[.pointer (some ⟨t, 0, none⟩)] w fun e w' => e = .returned (.int .i64 s.asked) ∧ w' = w := by
  obtain ⟨-, -, -, -, c4, -, -, -, -, -, -⟩ := h.cells
  clear h
  go_enter Try.func40, Try.ntmps40
  go_wp2
  go_ret
  exact ⟨rfl, rfl⟩
theorem asks_p (t B : Nat) (s : Td) (q : Int) (w : World) (h : IsT w B t s) : Calls Try.prog 46 #[.pointer (some ⟨t, 0, none⟩), .int .i64 q] w fun e w' => e = .returned (.bool (s.say.asks q)) ∧ w' = w := by
  obtain ⟨-, -, -, -, c4, -, -, -, -, -, -⟩ := h.cells
  clear h
  by_cases h0 : 0 < q
  · have e : s.say.asks q = decide (q = s.asked) := by unfold Ts.asks Td.say; simp [h0]
    rw [e]
    go_enter Try.func46, Try.ntmps46
    go_wp2
    go_ret
    exact ⟨rfl, rfl⟩
  · have e : s.say.asks q = false := by unfold Ts.asks Td.say; simp [h0]
    rw [e]
    go_enter Try.func46, Try.ntmps46
    go_wp2
    go_ret
    exact ⟨rfl, rfl⟩
/-- how far a message lies ahead, by the bits of its mark -/
def aheadV (a b : Nat) (m : Pm) : Int := if gapB a b m.re m.im then part m.im - part b else 0
theorem ahead_eq {a b : Nat} {e n : Int} (h : Mk a b e n) {m : Pm} (k : Mk m.re m.im e m.num) : aheadV a b m = if n ≤ m.num then m.num - n else 0 := by
  unfold aheadV
  rw [h.gap k, h.pb]
  by_cases hh : n ≤ m.num
  · rw [decide_eq_true hh, if_pos hh]; rfl
  · rw [decide_eq_false hh, if_neg hh]; rfl
theorem ahead_say {w : World} {B t : Nat} {s : Td} (h : IsT w B t s) {m : Pm} (k : Mk m.re m.im (part s.a) m.num) : aheadV s.a s.b m = s.say.ahead m := ahead_eq h.mkk k
set_option maxHeartbeats 2000000 in
theorem ahead_c (t : Nat) (a b : Nat) (x : Hm) (w : World) (h : w.cell? ⟨t, 2, none⟩ = some (.complex .f64 a b)) : Calls Try.prog 45 #[.pointer (some ⟨t, 0, none⟩), .agg x.arr] w fun e w' => e = .returned (.int .i64 (aheadV a b x.m)) ∧ Below w.heap.size w w' := by
  obtain ⟨X, hX⟩ : ∃ X, x.arr = X := ⟨_, rfl⟩
  rw [hX]
  obtain ⟨W, hW⟩ : ∃ W, w.alloc (.cells X 45) = W := ⟨_, rfl⟩
  have bx := boxB hW
  have c2 := (bx.2.cell (p := ⟨t, 2, none⟩) (cellLt h)).trans h
  have m4 : W.cell? ⟨w.heap.size, 4, none⟩ = some (.complex .f64 x.m.re x.m.im) := by rw [cell_of bx.1, ← hX]; rfl
  have HB : Hid (Below w.heap.size w W) := bx.2
  have HG : Hid (∀ W, Calls Try.prog 60 #[.complex .f64 a b, .complex .f64 x.m.re x.m.im] W fun e w' => e = .returned (.tuple #[.int .i64 (aheadV a b x.m), .bool (gapB a b x.m.re x.m.im)]) ∧ w' = W) := fun W => gap_any a b x.m.re x.m.im W
  clear h bx hX
  go_enter Try.func45, Try.ntmps45
  go_upto_region 1 with fail
  clear hW
  go_quiet ((go_at_call 60; exact Calls.quiet_of_same (HG.out _)))
  go_wp2
  go_ret
  exact ⟨rfl, below_drewN HB.out _⟩
end
section
open Go.RowKit Go.Shelf
attribute [local go_sem ↓ high] loadMsg storeMsg
attribute [local go_sem high] run_store_complex

theorem later_p (t B : Nat) (s : Td) (re im : Nat) (w : World) (h : IsT w B t s) : Calls Try.prog 61 #[.pointer (some ⟨t, 5, none⟩), .complex .f64 re im] w fun e w' => e = .returned (.bool (laterB s.la s.lb re im)) ∧ w' = w := by
  obtain ⟨-, -, -, -, -, c5, -, -, -, -, -⟩ := h.cells
  clear h
  go_enter Try.func61, Try.ntmps61
  go_wp2_with (go_at_call 68; refine (later_any _ _ _ _ _).mono ?_; rintro e w' ⟨rfl, rfl⟩)
  go_ret
  exact ⟨rfl, rfl⟩
theorem MapAt.look {w : World} {B : Nat} {kv : Option Nat} {ml : Ml} (h : KvAt w B kv ml) (k : Ky) : (Instr.lookup 64 (.map kv) k.agg false).run Try.prog w = .ok (.complex .f64 (mlook ml k).1 (mlook ml k).2) w := by
  apply lookM
  cases kv with
  | none => exact h
  | some g => exact h.1
theorem KvAt.drewN {w : World} {B : Nat} {kv : Option Nat} {ml : Ml} (h : KvAt w B kv ml) (n : Nat) : KvAt (w.drewN n) B kv ml := h.moved fun g _ => (below_drewN (Below.refl w.heap.size w) n).block g (by
  rename_i e
  exact (h.some' e).1.lt)
set_option maxHeartbeats 2000000 in
theorem names_p (t B : Nat) (s : Td) (k : Ky) (re im : Nat) (w : World) (h : IsT w B t s) : Calls Try.prog 62 #[.pointer (some ⟨t, 5, none⟩), .agg #[.int .i64 k.d, .string k.nm], .complex .f64 re im] w fun e w' => e = .returned (.bool (laterB s.fa s.fb re im || (laterB (mlook s.ml k).1 (mlook s.ml k).2 re im || laterB (mlook s.ml (bare k)).1 (mlook s.ml (bare k)).2 re im))) ∧ Below w.heap.size w w' := by
  obtain ⟨W, hW⟩ : ∃ W, w.alloc (.cells #[.int .i64 k.d, .string k.nm] 53) = W := ⟨_, rfl⟩
  have bx := boxB hW
  obtain ⟨-, -, -, -, -, -, c6, c7, -, -, -⟩ := (h.below bx.2).cells
  have k0 : W.cell? ⟨w.heap.size, 0, none⟩ = some (.int .i64 k.d) := by rw [cell_of bx.1]; rfl
  have k1 : W.cell? ⟨w.heap.size, 1, none⟩ = some (.string k.nm) := by rw [cell_of bx.1]; rfl
  have hl1 : ∀ n, (Instr.lookup 64 (.map s.kv) (.agg #[.int .i64 k.d, .string k.nm]) false).run Try.prog (W.drewN n) = .ok (.complex .f64 (mlook s.ml k).1 (mlook s.ml k).2) (W.drewN n) := fun n => MapAt.look ((h.below bx.2).map.drewN n) k
  have hl2 : ∀ n, (Instr.lookup 64 (.map s.kv) (.agg #[.int .i64 k.d, .string ⟨#[]⟩]) false).run Try.prog (W.drewN n) = .ok (.complex .f64 (mlook s.ml (bare k)).1 (mlook s.ml (bare k)).2) (W.drewN n) := fun n => MapAt.look ((h.below bx.2).map.drewN n) (bare k)
  obtain ⟨x1, hx1⟩ : ∃ x, (mlook s.ml k).1 = x := ⟨_, rfl⟩
  obtain ⟨y1, hy1⟩ : ∃ x, (mlook s.ml k).2 = x := ⟨_, rfl⟩
  obtain ⟨x2, hx2⟩ : ∃ x, (mlook s.ml (bare k)).1 = x := ⟨_, rfl⟩
  obtain ⟨y2, hy2⟩ : ∃ x, (mlook s.ml (bare k)).2 = x := ⟨_, rfl⟩
  rw [hx1, hy1] at hl1
  rw [hx2, hy2] at hl2
  rw [hx1, hy1, hx2, hy2]
  have HB : Hid (Below w.heap.size w W) := bx.2
  obtain ⟨fa, hfa⟩ : ∃ x, s.fa = x := ⟨_, rfl⟩
  obtain ⟨fb, hfb⟩ : ∃ x, s.fb = x := ⟨_, rfl⟩
  rw [hfa, hfb] at c6 ⊢
  have HL : Hid (∀ a b W, Calls Try.prog 68 #[.complex .f64 a b, .complex .f64 re im] W fun e w' => e = .returned (.bool (laterB a b re im)) ∧ w' = W) := fun a b W => later_any a b re im W
  have H1 := HL.out fa fb
  have H2 := HL.out x1 y1
  have H3 := HL.out x2 y2
  clear h bx hx1 hx2 hy1 hy2 hfa hfb HL
  cases h1 : laterB fa fb re im with
  | true =>
    rw [Bool.true_or]
    rw [h1] at H1
    clear H2 H3 h1
    go_enter Try.func62, Try.ntmps62
    go_upto_region 1 with fail
    clear hW
    go_quiet ((go_at_call 68; exact Calls.quiet_of_same (H1 _)))
    go_wp2
    go_ret
    exact ⟨rfl, below_drewN HB.out _⟩
  | false =>
    rw [Bool.false_or]
    rw [h1] at H1
    clear h1
    cases h2 : laterB x1 y1 re im with
    | true =>
      rw [Bool.true_or]
      rw [h2] at H2
      clear H3 h2
      go_enter Try.func62, Try.ntmps62
      go_upto_region 1 with fail
      clear hW
      go_quiet ((first | (go_at_call_of 68 (Value.complex .f64 fa fb); exact Calls.quiet_of_same (H1 _)) | (go_at_call_of 68 (Value.complex .f64 x1 y1); exact Calls.quiet_of_same (H2 _))))
      go_wp2
      go_ret
      exact ⟨rfl, below_drewN HB.out _⟩
    | false =>
      rw [Bool.false_or]
      rw [h2] at H2
      clear h2
      generalize laterB x2 y2 re im = b3 at H3 ⊢
      go_enter Try.func62, Try.ntmps62
      go_upto_region 1 with fail
      clear hW
      go_quiet ((first | (go_at_call_of 68 (Value.complex .f64 fa fb); exact Calls.quiet_of_same (H1 _)) | (go_at_call_of 68 (Value.complex .f64 x1 y1); exact Calls.quiet_of_same (H2 _)) | (go_at_call_of 68 (Value.complex .f64 x2 y2); exact Calls.quiet_of_same (H3 _))))
      go_wp2
      go_ret
      exact ⟨rfl, below_drewN HB.out _⟩
end
section
open Go.RowKit Go.Shelf
attribute [local go_sem ↓ high] loadMsg storeMsg
attribute [local go_sem high] run_store_complex

def mputs (ml : Ml) (ks : List Ky) (a b : Nat) : Ml := ks.foldl (fun m k => mput m k a b) ml
theorem mputs_snoc (ml : Ml) (ks : List Ky) (k : Ky) (a b : Nat) : mputs ml (ks ++ [k]) a b = mput (mputs ml ks a b) k a b := by unfold mputs; rw [List.foldl_append]; rfl
theorem mlook_puts (ml : Ml) (a b : Nat) (x : Ky) : ∀ (ks : List Ky), mlook (mputs ml ks a b) x = if inK ks x then (a, b) else mlook ml x := by
  refine snocInd rfl fun l k ih => ?_
  rw [mputs_snoc, mlook_put, ih]
  have : inK (l ++ [k]) x = (inK l x || eqKy k x) := by unfold inK; simp
  rw [this]
  cases inK l x <;> cases eqKy k x <;> rfl
/-- a break that is fresh now -/
theorem IsF.add {e : Int} {fr : List Fb} {la lb fa fb : Nat} {ml : Ml} (h : IsF e fr la lb fa fb ml) {re im : Nat} {n : Int} (k : Mk re im e n) (hn : 0 < n) (ks : List Ky) : IsF e (fr ++ [⟨n, false, ks⟩]) re im fa fb (mputs ml ks re im) := by
  refine ⟨?_, ?_, fun x => ?_⟩
  · rw [laN_snoc]; exact .inr ⟨hn, k⟩
  · rw [flN_snoc]; exact h.flush
  · rw [kN_snoc, mlook_puts]
    cases hx : inK ks x
    · simp; exact h.keys x
    · simp; exact .inr ⟨hn, k⟩
theorem IsF.flushed {e : Int} {fr : List Fb} {re im : Nat} {n : Int} (k : Mk re im e n) (hn : 0 < n) (ks : List Ky) : IsF e (fr ++ [⟨n, true, ks⟩]) re im re im [] := by
  refine ⟨?_, ?_, fun x => ?_⟩
  · rw [laN_snoc]; exact .inr ⟨hn, k⟩
  · rw [flN_snoc]; exact .inr ⟨hn, k⟩
  · rw [kN_snoc]; exact .inl ⟨rfl, rfl, rfl⟩
/-- a store into a map, as one step of a region that draws -/
theorem step_mapUpdate {P : Program} {w : World} {ops : Array Oper} {o : Oper} {a : Act} {K : Act → World → Prop} {Q : Exit → Act → World → Prop} {E : Prop} (hgd : o.guard = none) (m k x : Operand) (t : TypeId)
    (ho : o.op = .mapUpdate t m k x) (mv kv xv : Value) (hm : a.eval m = mv) (hk : a.eval k = kv) (hx : a.eval x = xv) (W : World) (hr : (Instr.mapUpdate t mv kv xv).run P w = .ok () W)
    (h : K (a.put o.dst undef) W) :
    if Region.wanted o (yielded ops a.tmps) = true then Oper.wp P o a w K Q else E := by
  have hw : Region.wanted o (yielded ops a.tmps) = true := by simp [Region.wanted, hgd]
  rw [if_pos hw]
  unfold Oper.wp execOp
  simp [ho, hm, hk, hx, hr, Result.andThen]
  exact h
/-- the tide's block while something is added -/
theorem IsT.put {w : World} {B t : Nat} {s : Td} (h : IsT w B t s) (s' : Td) (W : World) (hh : W.heap[t]? = some (.cells s'.arr 68 (0, 0))) (ho : Only (· = t) w W) (ha : s'.a = s.a) (hb : Mk s'.a s'.b (part s'.a) (part s'.b)) (hv : s'.hv = s.hv) (hs : s'.hs = s.hs) (hd : s'.hold = s.hold) (hk : KvAt W B s'.kv s'.ml) (hf : IsF (part s'.a) s'.fr s'.la s'.lb s'.fa s'.fb s'.ml) (hfr : FrOk (part s'.b) s'.fr) (hask : 0 ≤ s'.asked) : IsT W B t s' := by
  have hne : ∀ k, Tag w k 45 ∨ Tag w k 57 ∨ Tag w k 53 → W.heap[k]? = w.heap[k]? := fun k e => by
    have hlt : k < w.heap.size := by rcases e with e | e | e <;> exact e.lt
    refine ho.block k hlt fun q => ?_
    subst q
    rcases e with e | e | e
    · exact h.tt.two (by decide) e
    · exact h.tt.two (by decide) e
    · exact h.tt.two (by decide) e
  refine ⟨hh, h.bt, hb, ?_, fun m hm => ?_, hk, hf, hfr, hask, by rw [hs, hd]; exact h.lh, by rw [hd]; exact h.l8⟩
  · rw [hv, hs]; exact h.held.moved fun k e => hne k (.inl (h.held.tag e))
  · rw [hs] at hm
    rw [ha]
    exact ⟨(h.each m hm).1.moved fun q e => hne q (by
      rcases e with e | e
      · exact .inr (.inl (Tag.own (h.each m hm).1.es e))
      · exact .inr (.inr (Tag.own (h.each m hm).1.ks e))), (h.each m hm).2⟩
end
end Go.Proofs.Ytpmcecenhgppbaa
