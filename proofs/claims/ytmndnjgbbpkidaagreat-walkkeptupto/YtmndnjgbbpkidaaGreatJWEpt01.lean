/- WalkKept: what the law has. -/
import Derived.Test.YtmndnjgbbpkidaaGreatJWEpt00
import Derived.Test.YtmndnjgbbpkidaaGreatJWLks35
import Derived.Test.YtmndnjgbbpkidaaGreatJWLks21
namespace Go.Proofs.YtmndnjgbbpkidaaGreat
section
open Go.RowKit
section
theorem kc_cons (a : Ky) (b : List Ky) : kc (a :: b) = .int .i64 a.d :: .string a.nm :: kc b := rfl
theorem kc_set (ks : List Ky) (i : Nat) (k f : Ky) (h : ks[i]? = some f) : ((kc ks).set (i * 2) (.int .i64 k.d)).set (i * 2 + 1) (.string k.nm) = kc (ks.set i k) := by
  induction ks generalizing i with
  | nil => simp at h
  | cons a ks ih =>
    cases i with
    | zero => rfl
    | succ i =>
      rw [kc_cons, List.set_cons_succ, kc_cons, ← ih i (by simpa using h), show (i + 1) * 2 = i * 2 + 1 + 1 by omega, show i * 2 + 1 + 1 + 1 = (i * 2 + 1) + 1 + 1 by omega]
      rfl
def put2 (w : World) (g o : Nat) (k : Ky) : World := (w.setCell ⟨g, o, none⟩ (.int .i64 k.d)).setCell ⟨g, o + 1, none⟩ (.string k.nm)
theorem put2_row {w : World} {base g i n cap : Nat} {ks : List Ky} {k f : Ky} (h : w.ownsRow base 29 2 (.slice (some ⟨g, 0, none⟩) n cap) n (kc ks)) (hf : ks[i]? = some f) : (put2 w g (i * 2) k).ownsRow base 29 2 (.slice (some ⟨g, 0, none⟩) n cap) n (kc (ks.set i k)) := by
  rw [← kc_set ks i k f hf]
  exact (((h.stored (i * 2) (.int .i64 k.d)).1).stored (i * 2 + 1) (.string k.nm)).1
theorem put2_only (w : World) (g o : Nat) (k : Ky) : Only (· = g) w (put2 w g o k) := (only1 _ g _ _).trans (only1 _ g _ _)
/-- append of one text -/
theorem keep_txt {X : World} {B : Nat} {v : Value} {l : List ByteArray} (t : ByteArray) (h : Own X B v l) (hB : B ≤ X.heap.size) (hl : (l.length + 1) * 16 ≤ 140737488355328) : ∃ a6 N6 c6 Z, (∀ ty, (Builtin.append_ #[46, 46] ty #[v, .slice (some ⟨X.heap.size, 0, none⟩) 1 1]).run Tryz.prog (X.alloc (.cells #[.string t] 9)) = .ok (.slice a6 N6 c6) Z) ∧ Own Z B (.slice a6 N6 c6) (l ++ [t]) ∧ Only (fun b => v.ownBlock = some b) X Z ∧ ((Value.slice a6 N6 c6).ownBlock = v.ownBlock ∨ ∀ b, (Value.slice a6 N6 c6).ownBlock = some b → X.heap.size ≤ b) := by
  have bY := below_alloc X (.cells #[.string t] 9)
  obtain ⟨i1, hi1, hw0, hw1, hw2⟩ := info_parts Tryz.infoS
  have hB2 := Nat.le_trans hB bY.size
  have hY : World.ownsRow (X.alloc (.cells #[.string t] 9)) B 9 1 v l.length (l.map Value.string) := owns_below h bY
  obtain ⟨v', W, a1, a2, a3, _, a5⟩ := run_append_own_at (P := Tryz.prog) (X.alloc (.cells #[.string t] 9)) B 46 0 9 i1 _ 1 16 Tryz.underlying46 hi1 hw0 hw1 hw2 rfl (by decide) v l.length (l.map Value.string) hY ⟨X.heap.size, 0, none⟩ 1 1 ([t].map Value.string) (by simp) (one_atG (w := X)) (str_one [t]) (by unfold maxLen; omega) (by omega) hB2
  have row6 : Own W B v' (l ++ [t]) := by
    show World.ownsRow _ _ _ _ _ _ _
    rw [List.length_append, List.map_append]; exact a2
  obtain ⟨a6, c6, hv6⟩ := owns_len row6
  subst hv6
  refine ⟨a6, _, c6, W, fun ty => ?_, row6, (Only.of bY).trans (only_grown a3), a5.imp id fun h b hb => ?_⟩
  · have : (Builtin.append_ #[46, 46] ty #[v, .slice (some ⟨X.heap.size, 0, none⟩) 1 1]).run Tryz.prog (X.alloc (.cells #[.string t] 9)) = (Builtin.append_ #[46, 46] 0 #[v, .slice (some ⟨X.heap.size, 0, none⟩) 1 1]).run Tryz.prog (X.alloc (.cells #[.string t] 9)) := rfl
    rw [this]; exact a1
  · rw [h] at hb
    cases hb
    exact bY.size
/-- append of one entry -/
theorem keep_ent {X : World} {B : Nat} {v : Value} {l : List En} (e : En) (h : Row7 X B v l) (hB : B ≤ X.heap.size) (hl : (l.length + 1) * 72 ≤ 140737488355328) : ∃ a6 N6 c6 Z, (∀ ty, (Builtin.append_ #[23, 23] ty #[v, .slice (some ⟨X.heap.size, 0, none⟩) 1 1]).run Tryz.prog (X.alloc (.cells e.vals.toArray 52)) = .ok (.slice a6 N6 c6) Z) ∧ Row7 Z B (.slice a6 N6 c6) (l ++ [e]) ∧ Only (fun b => v.ownBlock = some b) X Z ∧ ((Value.slice a6 N6 c6).ownBlock = v.ownBlock ∨ ∀ b, (Value.slice a6 N6 c6).ownBlock = some b → X.heap.size ≤ b) := by
  have bY := below_alloc X (.cells e.vals.toArray 52)
  obtain ⟨v6, Z, r6, row6, o6, p6⟩ := appE (w := X.alloc (.cells e.vals.toArray 52)) (B := B) (v := v) (l := l) (l2 := [e]) (ad := ⟨X.heap.size, 0, none⟩) (c := 1) (owns_below h bY) (by
    have : ec [e] = e.vals := by simp [ec]
    rw [this]
    exact one_atG (w := X)) (Nat.le_trans hB bY.size) (by simp only [List.length_cons, List.length_nil]; omega)
  obtain ⟨a6, c6, hv6⟩ := owns_len row6
  subst hv6
  refine ⟨a6, _, c6, Z, r6, row6, (Only.of bY).trans o6, p6.imp id fun h b hb => ?_⟩
  rw [h] at hb
  cases hb
  exact bY.size
/-- two lists of the law's own -/
structure Kl (w1 wr : World) (ve vs : Value) (E : List En) (T : List ByteArray) : Prop where
  below : Below w1.heap.size w1 wr
  re : Row7 wr w1.heap.size ve E
  rt : Own wr w1.heap.size vs T
  ne : ∀ b, ve.ownBlock = some b → ¬ vs.ownBlock = some b
section
variable {w1 wr X : World} {ve vs : Value} {E : List En} {T : List ByteArray}
theorem Kl.on (h : Kl w1 wr ve vs E T) (hb : Below wr.heap.size wr X) : Kl w1 X ve vs E T := ⟨chainB h.below hb, owns_below h.re hb, owns_below h.rt hb, h.ne⟩
theorem Kl.pushE (h : Kl w1 wr ve vs E T) (e : En) (hl : (E.length + 1) * 72 ≤ 140737488355328) : ∃ a6 N6 c6 Z, (∀ ty, (Builtin.append_ #[23, 23] ty #[ve, .slice (some ⟨wr.heap.size, 0, none⟩) 1 1]).run Tryz.prog (wr.alloc (.cells e.vals.toArray 52)) = .ok (.slice a6 N6 c6) Z) ∧ Kl w1 Z (.slice a6 N6 c6) vs (E ++ [e]) T := by
  obtain ⟨a6, N6, c6, Z, r6, row6, o6, p6⟩ := keep_ent e h.re h.below.size hl
  refine ⟨a6, N6, c6, Z, r6, o6.below h.below h.below.size fun b hb => (World.ownsRow.lt h.re b hb).1, row6, owns_moved h.rt fun b hb => o6.block b (World.ownsRow.lt h.rt b hb).2 fun e' => h.ne b e' hb, fun b hb hb' => ?_⟩
  rcases p6 with p6 | p6
  · exact h.ne b (p6 ▸ hb) hb'
  · have := p6 b hb
    have := (World.ownsRow.lt h.rt b hb').2
    omega
theorem Kl.pushT (h : Kl w1 wr ve vs E T) (t : ByteArray) (hl : (T.length + 1) * 16 ≤ 140737488355328) : ∃ a6 N6 c6 Z, (∀ ty, (Builtin.append_ #[46, 46] ty #[vs, .slice (some ⟨wr.heap.size, 0, none⟩) 1 1]).run Tryz.prog (wr.alloc (.cells #[.string t] 9)) = .ok (.slice a6 N6 c6) Z) ∧ Kl w1 Z ve (.slice a6 N6 c6) E (T ++ [t]) := by
  obtain ⟨a6, N6, c6, Z, r6, row6, o6, p6⟩ := keep_txt t h.rt h.below.size hl
  refine ⟨a6, N6, c6, Z, r6, o6.below h.below h.below.size fun b hb => (World.ownsRow.lt h.rt b hb).1, owns_moved h.re fun b hb => o6.block b (World.ownsRow.lt h.re b hb).2 fun e' => h.ne b hb e', row6, fun b hb hb' => ?_⟩
  rcases p6 with p6 | p6
  · exact h.ne b hb (p6 ▸ hb')
  · have := p6 b hb'
    have := (World.ownsRow.lt h.re b hb).2
    omega
end
theorem row7_form {w : World} {B N c : Nat} {a : Option Addr} {l : List En} (h : Row7 w B (.slice a N c) l) (h0 : 0 < l.length) : N = l.length ∧ N ≤ c ∧ ∃ g, a = some ⟨g, 0, none⟩ := by
  rcases h.2 with ⟨h1, h3⟩ | ⟨g, cap, cur, hv, hB, hw, hc, hm, hs, ht⟩
  · omega
  · injection hv with h1 h2 h3
    subst h1 h3
    exact ⟨h2, by omega, g, rfl⟩
theorem own_form {w : World} {B N c : Nat} {a : Option Addr} {l : List ByteArray} (h : Own w B (.slice a N c) l) (h0 : 0 < l.length) : N = l.length ∧ N ≤ c ∧ ∃ g, a = some ⟨g, 0, none⟩ := by
  rcases h.2 with ⟨h1, h3⟩ | ⟨g, cap, cur, hv, hB, hw, hc, hm, hs, ht⟩
  · omega
  · injection hv with h1 h2 h3
    subst h1 h3
    exact ⟨h2, by omega, g, rfl⟩
theorem RdE.pre {w : World} {a : Option Addr} {N c : Nat} {l r : List En} (h : RdE w (.slice a N c) (l ++ r)) : RdE w (.slice a l.length c) l := by
  obtain ⟨a', cap', hv, hl, hk⟩ := h
  injection hv with h1 h2 h3
  subst h1 h3
  rw [List.length_append] at hl
  exact ⟨_, _, rfl, by omega, fun j e he => hk j e (by rw [List.getElem?_append_left (List.getElem?_eq_some_iff.1 he).1]; exact he)⟩
theorem RowS.pre {w : World} {a : Option Addr} {l r : List ByteArray} (h : RowS w a (l ++ r)) : RowS w a l := by
  rcases h with h | ⟨b, off, e, hs, hc⟩
  · exact .inl (List.append_eq_nil_iff.1 h).1
  · exact .inr ⟨b, off, e, hs, fun j x hx => hc j x (by rw [List.getElem?_append_left (List.getElem?_eq_some_iff.1 hx).1]; exact hx)⟩
attribute [local go_sem high] eqK neqK eqE neqE eqN neqN guardK guardE guardN
set_option maxHeartbeats 4000000 in
/-- two lists of the same entries, wherever they lie -/
theorem sameE_rd (v v' : Value) (l : List En) (w : World) (h : RdE w v l) (h' : RdE w v' l) :
    Calls Tryz.prog 16 #[v, v'] w fun e w' => e = .returned (.bool true) ∧ Below w.heap.size w w' := by
  obtain ⟨a, cap, rfl, hl, hc⟩ := h
  obtain ⟨a', cap', rfl, -, hc'⟩ := h'
  obtain ⟨n, hn⟩ : ∃ n, l.length = n := ⟨_, rfl⟩
  rw [hn] at hl ⊢
  have HC : Hid ((∀ (j : Nat) (e : En), l[j]? = some e → ∃ g o, a = some ⟨g, o, none⟩ ∧ Cells7 w g (o + j * 7) e) ∧ (∀ (j : Nat) (e : En), l[j]? = some e → ∃ g o, a' = some ⟨g, o, none⟩ ∧ Cells7 w g (o + j * 7) e) ∧ l.length = n) := ⟨hc, hc', hn⟩
  clear hc hc' hn
  go_enter Tryz.func16, Tryz.ntmps16
  go_wp2
  go_loopw [5] (fun i wr => ∃ k : Nat, k ≤ n ∧ i = .int .i64 k ∧ Below w.heap.size w wr) (fun i _ => n - (intOf i).toNat)
  case atStart => exact ⟨0, Nat.zero_le _, rfl, Below.refl _ _⟩
  case round =>
    obtain ⟨k, hk, rfl, hb⟩ := hrel
    by_cases hlt : k < n
    · obtain ⟨e, he⟩ : ∃ x, l[k]? = some x := ⟨_, List.getElem?_eq_getElem (by rw [HC.out.2.2]; exact hlt)⟩
      obtain ⟨g, o, rfl, hc⟩ := HC.out.1 k e he
      obtain ⟨g', o', rfl, hc'⟩ := HC.out.2.1 k e he
      have hc := hc.below hb
      have hc' := hc'.below hb
      have x0 := hc.c0
      have x1 := hc.c1
      have x2 := hc.c2
      have x3 := hc.c3
      have x4 := hc.c4
      have x5 := hc.c5
      have x6 := hc.c6
      have y0 := hc'.c0
      have y1 := hc'.c1
      have y2 := hc'.c2
      have y3 := hc'.c3
      have y4 := hc'.c4
      have y5 := hc'.c5
      have y6 := hc'.c6
      have hki : (k : Int) < (n : Int) := by omega
      have hw1 : IntKind.i64.wrap ((k : Int) + 1) = ((k + 1 : Nat) : Int) := by
        rw [show ((k + 1 : Nat) : Int) = (k : Int) + 1 by omega]; exact IntWalk.i64_in _ (by omega)
      obtain ⟨e0, e1, e2, e3, e4, e5, e6⟩ := e
      have heq : eqEn ⟨e0, e1, e2, e3, e4, e5, e6⟩ ⟨e0, e1, e2, e3, e4, e5, e6⟩ = true := (eqEn_iff _ _).2 rfl
      clear he hc hc'
      go_upto_region 6 with fail
      go_quiet (fail)
      go_wp2
      go_roundw
      case rel => exact ⟨k + 1, by omega, by simp, below_drewN hb _⟩
      case measure => simp [intOf]; omega
    · have hkl : k = n := by omega
      subst hkl
      go_wp2
      go_ret
      exact ⟨rfl, hb⟩
end
def padE : En := ⟨-3, ⟨#[]⟩, false, 0, 0, 0, ⟨#[]⟩⟩
def markB : ByteArray := ⟨#[109, 97, 114, 107]⟩
theorem heap_lt_alloc (w : World) (o : Obj) : w.heap.size < (w.alloc o).drew.heap.size := (Array.getElem?_eq_some_iff.1 (heap_new w o)).1
/-- an outcome in a box of the law's own -/
structure Bo (w0 X : World) (g : Nat) (a : Option Addr) (n c : Nat) (O : Ou) : Prop where
  box : X.heap[g]? = some (.cells (ouVals O (.slice a n c)).toArray 35 (0, 0))
  row : RowK X w0.heap.size (.slice a n c) O.used
  bel : Below w0.heap.size w0 X
  hg : w0.heap.size ≤ g
  ne : (Value.slice a n c).ownBlock ≠ some g
theorem bo_new {w0 W : World} {a : Option Addr} {n c B : Nat} {O : Ou} (hb : Below w0.heap.size w0 W) (hr : RowK W B (.slice a n c) O.used) (hB : w0.heap.size ≤ B) : Bo w0 (W.alloc (.cells (ouVals O (.slice a n c)).toArray 35)) W.heap.size a n c O := by
  have bA := below_alloc W (.cells (ouVals O (.slice a n c)).toArray 35)
  exact ⟨heap_new _ _, RowK.le (hr.below bA) hB, chainB hb bA, hb.size, fun e => Nat.lt_irrefl _ (World.ownsRow.lt hr _ e).2⟩
theorem bo_old {w0 W : World} {a : Option Addr} {n c B g : Nat} {old : Array Value} {O : Ou} (hb : Below w0.heap.size w0 W) (hr : RowK W B (.slice a n c) O.used) (hB : g < B) (hg : w0.heap.size ≤ g) (ho : W.heap[g]? = some (.cells old 35 (0, 0))) : Bo w0 (W.setRow g (ouVals O (.slice a n c)).toArray) g a n c O := by
  have hO := onlyR W g (ouVals O (.slice a n c)).toArray
  refine ⟨setRow_heap _ _ _ _ _ _ ho, RowK.le (owns_moved hr fun b hb' => hO.block b (World.ownsRow.lt hr b hb').2 (by have := (World.ownsRow.lt hr b hb').1; omega)) (by omega), hO.below hb hb.size fun b hb' => by omega, hg, fun e => ?_⟩
  have := (World.ownsRow.lt hr _ e).1
  omega
theorem Bo.on {w0 X Y : World} {g n c : Nat} {a : Option Addr} {O : Ou} (h : Bo w0 X g a n c O) (hb : Below X.heap.size X Y) : Bo w0 Y g a n c O :=
  ⟨hkeep h.box hb, h.row.below hb, chainB h.bel hb, h.hg, h.ne⟩
end
end Go.Proofs.YtmndnjgbbpkidaaGreat
