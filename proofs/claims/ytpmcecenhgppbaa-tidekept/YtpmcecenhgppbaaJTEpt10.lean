/- Acts in memory; hold, said once; restart. -/
import Derived.Test.YtpmcecenhgppbaaJTEpt09
namespace Go.Proofs.Ytpmcecenhgppbaa
section
open Go.RowKit Go.Shelf
attribute [local go_sem ↓ high] loadMsg storeMsg buildMsg
attribute [local go_sem high] run_store_complex eqC

theorem hold_p (t B : Nat) (s : Td) (x : Hm) (B' : Nat) (w : World) (h : IsT w B t s) (hB : B ≤ w.heap.size) (hL : Lists w B' x) (hG : Good (part s.a) x.m) : Calls Try.prog 49 #[.pointer (some ⟨t, 0, none⟩), .agg x.arr] w fun e w' => e = .returned (.tuple #[]) ∧ ∃ s', ST w w' B t s s' ∧ s'.say = s.say.holds x.m := by
  have hl : s.say.held.length = s.hs.length := by simp [Td.say]
  have hk := held_like h hG.mkk
  unfold Ts.holds
  by_cases hf : s.hs.length < s.hold
  · cases ha : (s.hs.any fun y => likeV y.m x.m) with
    | true =>
      rw [if_neg (by rw [← hk, ha]; simp)]
      refine (hold_had t B s x w h hf ha).mono ?_
      rintro e w' ⟨rfl, hb⟩
      exact ⟨rfl, s, ST.stay h hb, rfl⟩
    | false =>
      rw [if_pos ⟨by rw [hl]; exact hf, by rw [← hk, ha]⟩]
      exact hold_yes t B s x B' w h hB hL hG hf ha
  · rw [if_neg (fun hh => hf (by have := hh.1; rw [hl] at this; exact this))]
    refine (hold_no t B s x w h hf).mono ?_
    rintro e w' ⟨rfl, hb⟩
    exact ⟨rfl, s, ST.stay h hb, rfl⟩
/-- an act in memory -/
structure Am where
  c : Ac
  ak : Option Addr
  ck : Nat
  ae : Option Addr
  ce : Nat
def Am.vk (a : Am) : Value := .slice a.ak a.c.ks.length a.ck
def Am.ve (a : Am) : Value := .slice a.ae a.c.es.length a.ce
def Am.arr (a : Am) : Array Value := #[.bool a.c.all, .bool a.c.again, .bool a.c.reply, .bool a.c.whole, a.vk, .int .i64 a.c.err, a.ve]
def Am.vals (a : Am) : List Value := a.arr.toList
theorem Am.size (a : Am) : a.arr.size = 7 := rfl
theorem Am.len (a : Am) : a.vals.length = 7 := rfl
theorem Am.one (h : Am) : h.arr.all (·.oneCell') = true := by simp [Am.arr, Am.ve, Am.vk, Value.oneCell']
theorem Am.one' (h : Am) : ∀ u ∈ h.vals, u.oneCell' = true := by
  have := h.one
  rw [Array.all_eq_true'] at this
  intro u hu
  exact this u (by simpa [Am.vals] using hu)
def ac (l : List Am) : List Value := l.flatMap Am.vals
theorem ac_len (l : List Am) : (ac l).length = l.length * 7 := by
  unfold ac
  induction l with
  | nil => rfl
  | cons a l ih => rw [List.flatMap_cons, List.length_append, ih, List.length_cons, Am.len]; omega
theorem ac_app (a b : List Am) : ac (a ++ b) = ac a ++ ac b := by unfold ac; rw [List.flatMap_append]
theorem ac_cons (a : Am) (b : List Am) : ac (a :: b) = a.vals ++ ac b := rfl
theorem ac_get (l : List Am) (i j : Nat) (h : Am) (hi : l[i]? = some h) (hj : j < 7) : (ac l)[i * 7 + j]? = h.vals[j]? := by
  induction l generalizing i with
  | nil => simp at hi
  | cons a l ih =>
    rw [ac_cons]
    cases i with
    | zero =>
      simp at hi
      subst hi
      rw [Nat.zero_mul, Nat.zero_add, List.getElem?_append_left (by rw [Am.len]; exact hj)]
    | succ i =>
      rw [List.getElem?_append_right (by rw [Am.len]; omega), Am.len, show (i + 1) * 7 + j - 7 = i * 7 + j by omega]
      exact ih i (by simpa using hi)
theorem ac_one (l : List Am) : ∀ u ∈ ac l, u.oneCell' = true := by
  intro u hu
  unfold ac at hu
  obtain ⟨p, _, hp⟩ := List.mem_flatMap.1 hu
  exact p.one' u hp
/-- an act's lists -/
structure ActL (w : World) (B : Nat) (a : Am) : Prop where
  ks : RowK w B a.vk a.c.ks
  es : Row7 w B a.ve a.c.es
  le : a.c.es.length * 72 ≤ LB
  lk : a.c.ks.length * 24 ≤ LB
theorem ActL.below {w w' : World} {B : Nat} {h : Am} (k : ActL w B h) (hb : Below w.heap.size w w') : ActL w' B h := ⟨k.ks.below hb, k.es.below hb, k.le, k.lk⟩
theorem ActL.moved {w w' : World} {B : Nat} {h : Am} (k : ActL w B h) (hk : ∀ q, h.ve.ownBlock = some q ∨ h.vk.ownBlock = some q → w'.heap[q]? = w.heap[q]?) : ActL w' B h := ⟨owns_moved k.ks fun q e => hk q (.inr e), owns_moved k.es fun q e => hk q (.inl e), k.le, k.lk⟩
theorem ActL.down {w : World} {B B' : Nat} {h : Am} (k : ActL w B h) (hb : B' ≤ B) : ActL w B' h := ⟨owns_le k.ks hb, owns_le k.es hb, k.le, k.lk⟩
theorem ActL.only {S : Nat → Prop} {w w' : World} {B : Nat} {h : Am} (k : ActL w B h) (ho : Only S w w') (hS : ∀ q, S q → ¬ Tag w q 57 ∧ ¬ Tag w q 53) : ActL w' B h :=
  k.moved fun q e => ho.block q (by
    rcases e with e | e
    · exact (Tag.own k.es e).lt
    · exact (Tag.own k.ks e).lt) fun s => by
    rcases e with e | e
    · exact (hS q s).1 (Tag.own k.es e)
    · exact (hS q s).2 (Tag.own k.ks e)
def plainAm (c : Ac) (_ : c.ks = []) (_ : c.es = []) : Am := ⟨c, none, 0, none, 0⟩
theorem plain_l (w : World) (B : Nat) (c : Ac) (h1 : c.ks = []) (h2 : c.es = []) : ActL w B (plainAm c h1 h2) := by
  refine ⟨?_, ?_, ?_, ?_⟩
  · show World.ownsRow _ _ _ _ (.slice none c.ks.length 0) c.ks.length (kc c.ks)
    rw [h1]; exact World.ownsRow_nil _ _ _ _
  · show World.ownsRow _ _ _ _ (.slice none c.es.length 0) c.es.length (ec c.es)
    rw [h2]; exact World.ownsRow_nil _ _ _ _
  · show c.es.length * 72 ≤ LB
    rw [h2]; exact Nat.zero_le _
  · show c.ks.length * 24 ≤ LB
    rw [h1]; exact Nat.zero_le _
theorem Try.infoAc : (Try.prog.info? 59).map (fun i => (i.zero, i.size, i.bytes)) = some (some (.agg #[.bool false, .bool false, .bool false, .bool false, .slice none 0 0, .int .i64 0, .slice none 0 0]), 7, 64) := by kernel_rfl
theorem Try.sizeAc : (Try.prog.info? 59).map (·.size) = some 7 := by kernel_rfl
/-- a whole act stored, and loaded, shut -/
def actSt (a v : Value) : Sem Unit := Instr.storeAt 59 a v
theorem storeAct (a v : Value) : Instr.storeAt 59 a v = actSt a v := rfl
theorem actSt_of {w W : World} {g : Nat} {old cs : Array Value} {t : TypeId} (h : w.heap[g]? = some (.cells old t (0, 0))) (ho : old.size = 7) (hs : cs.size = 7) (h1 : cs.all (·.oneCell') = true) (hW : w.setRow g cs = W) : (actSt (.pointer (some ⟨g, 0, none⟩)) (.agg cs)).run Try.prog w = .ok () W := by
  subst hW
  unfold actSt Instr.storeAt Instr.sureAddr
  simp [run_storeVar_row w g t 59 old cs h (by rw [hs]; exact Try.sizeAc) (by rw [ho, hs]) h1]
attribute [irreducible] actSt
def actLd (v : Value) : Sem Value := Instr.loadAt 59 v
theorem loadAct (v : Value) : Instr.loadAt 59 v = actLd v := rfl
theorem actLd_of {w : World} {g : Nat} {cs : Array Value} {t : TypeId} {fr : Nat × Nat} (h : w.heap[g]? = some (.cells cs t fr)) (hs : cs.size = 7) : (actLd (.pointer (some ⟨g, 0, none⟩))).run Try.prog w = .ok (.agg cs) w := by
  unfold actLd Instr.loadAt Instr.sureAddr
  simp [run_loadVar_row w g t 59 cs fr _ h Try.underlying59 rfl (by rw [hs]; exact Try.sizeAc)]
theorem actLd_at {w : World} {g o : Nat} {cs : Array Value} (h : ∀ j v, cs[j]? = some v → w.cell? ⟨g, o + j, none⟩ = some v) (hs : cs.size = 7) : (actLd (.pointer (some ⟨g, o, none⟩))).run Try.prog w = .ok (.agg cs) w := by
  have := run_loadAt_mid (P := Try.prog) w g o 59 cs.toList _ (fun j v hv => h j v (by rw [← Array.getElem?_toList]; exact hv)) Try.underlying59 rfl (by rw [Array.length_toList, hs]; exact Try.sizeAc)
  unfold actLd
  rw [this, Array.toArray_toList]
attribute [irreducible] actLd
def zAct : Array Value := #[.bool false, .bool false, .bool false, .bool false, .slice none 0 0, .int .i64 0, .slice none 0 0]
def RowA (w : World) (base : Nat) (v : Value) (l : List Am) : Prop := w.ownsRow base 59 7 v l.length (ac l)
/-- acts, with their lists -/
structure Acts (w : World) (B : Nat) (v : Value) (l : List Am) : Prop where
  row : RowA w B v l
  each : ∀ a ∈ l, ActL w B a
theorem Acts.below {w w' : World} {B : Nat} {v : Value} {l : List Am} (k : Acts w B v l) (hb : Below w.heap.size w w') : Acts w' B v l := ⟨owns_below k.row hb, fun a ha => (k.each a ha).below hb⟩
theorem Acts.down {w : World} {B B' : Nat} {v : Value} {l : List Am} (k : Acts w B v l) (hb : B' ≤ B) : Acts w B' v l := ⟨owns_le k.row hb, fun a ha => (k.each a ha).down hb⟩
theorem Acts.nil (w : World) (B : Nat) : Acts w B (.slice none 0 0) [] := ⟨World.ownsRow_nil _ _ _ _, fun a ha => by cases ha⟩
theorem Acts.only {S : Nat → Prop} {w w' : World} {B : Nat} {v : Value} {l : List Am} (k : Acts w B v l) (ho : Only S w w') (hS : ∀ q, S q → ¬ Tag w q 57 ∧ ¬ Tag w q 53) (hA : ∀ q, S q → ¬ Tag w q 59) : Acts w' B v l :=
  ⟨owns_moved k.row fun q e => ho.block q (Tag.own k.row e).lt fun s => hA q s (Tag.own k.row e), fun a ha => (k.each a ha).only ho hS⟩
attribute [local go_sem ↓ high] storeAct loadAct
set_option maxHeartbeats 4000000 in
set_option maxRecDepth 100000 in
theorem restart_p (t B : Nat) (s : Td) (re im : Nat) (w : World) (h : IsT w B t s) (hm : Mk re im (part re) (part im)) : Calls Try.prog 27 #[.pointer (some ⟨t, 0, none⟩), .complex .f64 re im] w fun e w' => e = .returned (.agg (plainAm allA rfl rfl).arr) ∧ ∃ s', ST w w' B t s s' ∧ s'.say = { s.say with e := part re, n := 0, fr := [], held := [] } := by
  obtain ⟨W, hW⟩ : ∃ W, w.alloc (.cells #[.bool false, .bool false, .bool false, .bool false, .slice none 0 0, .int .i64 0, .slice none 0 0] 59) = W := ⟨_, rfl⟩
  have bx := boxB hW
  have h1 := h.below bx.2
  obtain ⟨-, -, c2, -, -, c5, c6, c7, c8, -, cf⟩ := h1.cells
  obtain ⟨a8, n8, q8, hv8⟩ : ∃ a n c, s.hv = .slice a n c := by
    obtain ⟨a, c, e⟩ := owns_len h.held
    exact ⟨a, _, c, e⟩
  have HF : Hid (∀ V, ((((W.setCell ⟨t, 2, none⟩ (.complex .f64 re 0)).setCell ⟨t, 8, none⟩ (.slice none 0 0)).setCell ⟨t, 5, none⟩ (.complex .f64 0 0)).setCell ⟨t, 6, none⟩ (.complex .f64 0 0)).setCell ⟨t, 7, none⟩ (.map none) = V → V.heap[w.heap.size]? = some (.cells zAct 59 (0, 0)) ∧ ∀ V2, V.setRow w.heap.size (plainAm allA rfl rfl).arr = V2 → ∃ s', ST w V2 B t s s' ∧ s'.say = { s.say with e := part re, n := 0, fr := [], held := [] }) := by
    intro V hV
    have hne : w.heap.size ≠ t := by have := h.tt.lt; omega
    have o1 : Only (· = t) W V := by rw [← hV]; exact ((((only1 _ t _ _).trans (only1 _ t _ _)).trans (only1 _ t _ _)).trans (only1 _ t _ _)).trans (only1 _ t _ _)
    have hz : V.heap[w.heap.size]? = some (.cells zAct 59 (0, 0)) := (o1.block _ (Array.getElem?_eq_some_iff.1 bx.1).1 hne).trans bx.1
    refine ⟨hz, fun V2 hV2 => ?_⟩
    have o2 : Only (· = w.heap.size) V V2 := by rw [← hV2]; exact onlyR _ _ _
    have mz : Mk re 0 (part re) 0 := ⟨hm.ha, val_zeroU, hm.e0, hm.e1, by omega, by omega⟩
    obtain ⟨s', hs'⟩ : ∃ s' : Td, s' = { s with a := re, b := 0, la := 0, lb := 0, fa := 0, fb := 0, kv := none, ml := [], fr := [], hv := .slice none 0 0, hs := [] } := ⟨_, rfl⟩
    have p0 : part 0 = 0 := mz.pb
    refine ⟨s', ⟨⟨?_, h.bt, by rw [hs']; show Mk re 0 (part re) (part 0); rw [p0]; exact mz, by rw [hs']; exact World.ownsRow_nil _ _ _ _, fun m hm => by rw [hs'] at hm; (cases hm), by rw [hs']; rfl, by rw [hs']; exact IsF.none _, by rw [hs']; exact FrOk.nil _, by rw [hs']; exact h.ask0, by rw [hs']; exact Nat.zero_le _, by rw [hs']; exact h.l8⟩, ?_, ?_, ?_⟩, by rw [hs']; simp [Td.say, p0]⟩
    · refine (o2.block t (Nat.lt_of_lt_of_le h1.tt.lt o1.size) (fun e => hne e.symm)).trans ?_
      rw [← hV, hs']
      have := heap_set (heap_set (heap_set (heap_set (heap_set h1.head 2 (.complex .f64 re 0)) 8 (.slice none 0 0)) 5 (.complex .f64 0 0)) 6 (.complex .f64 0 0)) 7 (.map none)
      simpa [Td.arr] using this
    · refine ⟨o2.os.trans (o1.os.trans bx.2.os), o2.tape.trans (o1.tape.trans bx.2.tape), o2.output.trans (o1.output.trans bx.2.output), Nat.le_trans bx.2.size (Nat.le_trans o1.size o2.size), fun k hk hn => ?_⟩
      have b1 := bx.2.block k hk
      have b2 := o1.block k (Nat.lt_of_lt_of_le hk bx.2.size) (fun e => hn (.inl e))
      have b3 := o2.block k (Nat.lt_of_lt_of_le hk (Nat.le_trans bx.2.size o1.size)) (fun (e : k = w.heap.size) => by omega)
      exact b3.trans (b2.trans b1)
    · rintro k (e | e | e)
      · exact .inl (.inl e)
      · rw [hs'] at e; cases e
      · rw [hs'] at e; cases e
    · rintro k ((e | e | e) | ⟨m, hm, e⟩)
      · exact .inl (.inl (.inl e))
      · rw [hs'] at e; cases e
      · rw [hs'] at e; cases e
      · rw [hs'] at hm; cases hm
  obtain ⟨V, hV⟩ : ∃ V, ((((W.setCell ⟨t, 2, none⟩ (.complex .f64 re 0)).setCell ⟨t, 8, none⟩ (.slice none 0 0)).setCell ⟨t, 5, none⟩ (.complex .f64 0 0)).setCell ⟨t, 6, none⟩ (.complex .f64 0 0)).setCell ⟨t, 7, none⟩ (.map none) = V := ⟨_, rfl⟩
  obtain ⟨hz, hfin⟩ := HF.out V hV
  obtain ⟨V2, hV2⟩ : ∃ V2, V.setRow w.heap.size #[.bool true, .bool false, .bool false, .bool false, .slice none 0 0, .int .i64 0, .slice none 0 0] = V2 := ⟨_, rfl⟩
  have ms := actSt_of (cs := #[.bool true, .bool false, .bool false, .bool false, .slice none 0 0, .int .i64 0, .slice none 0 0]) hz rfl rfl (by simp [Value.oneCell']) hV2
  have hr : V2.heap[w.heap.size]? = some (.cells #[.bool true, .bool false, .bool false, .bool false, .slice none 0 0, .int .i64 0, .slice none 0 0] 59 (0, 0)) := by rw [← hV2]; exact setRow_heap _ _ _ _ _ _ hz
  have HR : Hid (∃ s', ST w V2 B t s s' ∧ s'.say = { s.say with e := part re, n := 0, fr := [], held := [] }) := hfin V2 hV2
  have hne : t ≠ w.heap.size := by have := h.tt.lt; omega
  rw [hv8] at c8
  clear h h1 bx HF hfin hz hm hV2
  go_enter Try.func27, Try.ntmps27
  go_wp2
  refine bodyPost_ret (results_cell_row rfl _ _ w.heap.size _ _ _ _ rfl hr Try.underlying59 rfl Try.sizeAc) rfl ?_
  exact ⟨rfl, HR.out⟩
end
end Go.Proofs.Ytpmcecenhgppbaa
