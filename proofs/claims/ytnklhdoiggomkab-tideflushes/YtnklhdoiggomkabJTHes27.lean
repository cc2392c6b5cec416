/- A law's tide and its stream of N breaks (N may be 0), with the acts that each call answers. -/
import Derived.Test.YtnklhdoiggomkabJTHes26
import Derived.Test.YtnklhdoiggomkabJTHes25
namespace Go.Proofs.Ytnklhdoiggomkab
section
open Go.RowKit Go.Shelf

structure Om (w W : World) (t : Nat) (a : Option Addr) (N c : Nat) (S : Ts) (F : Nat → Prop) (ms : List Hm) : Prop where
  lt : Lt w W t S F
  row : RowM W 0 (.slice a N c) ms
  own : ∀ q, (Value.slice a N c).ownBlock = some q → F q
  each : ∀ z ∈ ms, Lists W 0 z
  say : ms.map Hm.m = stream N
theorem Om.below {w W V : World} {t : Nat} {a : Option Addr} {N c : Nat} {S : Ts} {F : Nat → Prop} {ms : List Hm} (h : Om w W t a N c S F ms) (hb : Below W.heap.size W V) : Om w V t a N c S F ms := ⟨h.lt.below hb, h.row.below hb, h.own, fun z hz => (h.each z hz).below hb, h.say⟩
theorem Om.on {w W V : World} {t : Nat} {a : Option Addr} {N c : Nat} {S S' : Ts} {F : Nat → Prop} {ms : List Hm} (h : Om w W t a N c S F ms) (hl : Lt w V t S' F) (hk : Kt F W V) : Om w V t a N c S' F ms := ⟨hl, hk.rowM h.row h.own, h.own, fun z hz => hk.lists (h.each z hz), h.say⟩
theorem Om.get {w W : World} {t : Nat} {a : Option Addr} {N c : Nat} {S : Ts} {F : Nat → Prop} {ms : List Hm} (h : Om w W t a N c S F ms) (i : Nat) (hi : i < N) : ∃ g z, a = some ⟨g, 0, none⟩ ∧ ms[i]? = some z ∧ z.m = brkN (i + 1) ∧ Lists W 0 z ∧ (msgLd (.pointer (some ⟨g, i * 16, none⟩))).run Try.prog W = .ok (.agg z.arr) W := by
  have hl : ms.length = N := by have := congrArg List.length h.say; simpa [stream] using this
  obtain ⟨z, hz⟩ : ∃ z, ms[i]? = some z := ⟨_, List.getElem?_eq_getElem (by omega)⟩
  obtain ⟨g, hg, -, -, -, q⟩ := owns_msg h.row hz
  refine ⟨g, z, hg, hz, ?_, h.each z (List.mem_of_getElem? hz), msgLd_at q z.size⟩
  have e : (ms.map Hm.m)[i]? = some z.m := by rw [List.getElem?_map, hz]; rfl
  rw [h.say] at e
  unfold stream at e
  rw [List.getElem?_map, List.getElem?_range hi] at e
  exact (Option.some.inj e).symm
/-- what a Take of the law's i-th break leaves: the acts, and the rest as it was -/
def TkOm (w W : World) (t : Nat) (a : Option Addr) (N c : Nat) (S' : Ts) (A : List Ac) (F : Nat → Prop) (ms : List Hm) (e : Ending) (w' : World) : Prop := ∃ v l, e = .returned v ∧ Acts w' W.heap.size v l ∧ l.map Am.c = A ∧ Om w w' t a N c S' F ms ∧ Kt F W w'
theorem Om.take {w W : World} {t g : Nat} {N c : Nat} {S S' : Ts} {A : List Ac} {F : Nat → Prop} {ms : List Hm} (h : Om w W t (some ⟨g, 0, none⟩) N c S F ms) (i : Nat) (hi : i < N) (hs : S.take (brkN (i + 1)) = (S', A)) : ∃ Z, (msgLd (.pointer (some ⟨g, i * 16, none⟩))).run Try.prog W = .ok (.agg Z) W ∧ Calls Try.prog 10 #[.pointer (some ⟨t, 0, none⟩), .agg Z] W fun e w' => TkOm w W t (some ⟨g, 0, none⟩) N c S' A F ms e w' := by
  obtain ⟨g', z, hg, -, e, hL, hm⟩ := h.get i hi
  cases hg
  refine ⟨z.arr, hm, (lt_take h.lt z hL).mono ?_⟩
  rintro q w' ⟨v, l, rfl, ha, hc, hl, hk⟩
  rw [e, hs] at hl hc
  exact ⟨v, l, rfl, ha, hc, h.on hl hk, hk⟩
theorem om_of {w w1 w2 : World} {t N : Nat} {S : Ts} {G : Nat → Prop} (h : Lt w w1 t S G) {v : Value} {l : List Hm} (hm : Msgs w2 w1.heap.size v l) (hc : l.map Hm.m = stream N) (hb : Below w1.heap.size w1 w2) : ∃ a c, v = .slice a N c ∧ Om w w2 t a N c S (fun k => G k ∨ (w1.heap.size ≤ k ∧ k < w2.heap.size)) l := by
  have hl : l.length = N := by have := congrArg List.length hc; simpa [stream] using this
  obtain ⟨a, c, rfl⟩ := owns_len hm.row
  have hr : RowM w2 w1.heap.size (.slice a N c) l := by have := hm.row; rw [hl] at this; exact this
  exact ⟨a, c, by rw [hl], h.add hb, owns_le hr (Nat.zero_le _), fun q hq => .inr (hr.lt hq), fun z hz => (hm.each z hz).down (Nat.zero_le _), hc⟩
/-- a step of the stream, with room for all -/
theorem order_first (i : Nat) (hi : i < 8) : (Ts.new 1 1 8).take (brkN (i + 1)) = (bS 8 (stepN 8 0 [] (i + 1)).1 (stepN 8 0 [] (i + 1)).2, allA :: actsN 0 (stepN 8 0 [] (i + 1)).1) := (first_b 8 (i + 1) (by omega) (by omega)).1
theorem order_next {n : Nat} {L : List Nat} (hr : bRest n L) (i : Nat) (hi : i < 8) : (bS 8 n L).take (brkN (i + 1)) = (bS 8 (stepN 8 n L (i + 1)).1 (stepN 8 n L (i + 1)).2, actsN n (stepN 8 n L (i + 1)).1) := (step_b 8 n L (i + 1) (by omega) (by omega) hr).1
/-- the keys of a step's acts, in their order -/
def keysN (n n' : Nat) : List Ky := (List.range' (n + 1) (n' - n)).map kyN
theorem acts_keys (n n' : Nat) : (actsN n n').flatMap Ac.ks = keysN n n' := by
  unfold actsN keysN
  generalize List.range' (n + 1) (n' - n) = l
  induction l with
  | nil => rfl
  | cons a l ih => rw [List.map_cons, List.flatMap_cons, ih]; rfl
theorem acts_plain (n n' : Nat) : ∀ x ∈ actsN n n', x.all = false ∧ x.again = false ∧ x.reply = false := by
  intro x hx
  obtain ⟨j, -, rfl⟩ := List.mem_map.1 hx
  exact ⟨rfl, rfl, rfl⟩
theorem keysN_snoc (n m : Nat) (h : n ≤ m) : keysN n (m + 1) = keysN n m ++ [kyN (m + 1)] := by
  unfold keysN
  rw [show m + 1 - n = (m - n) + 1 by omega, List.range'_concat, List.map_append, Nat.one_mul, show n + 1 + (m - n) = m + 1 by omega]; rfl
end
section
open Go.RowKit

def RowI (w : World) (a : Option Addr) (len : Nat) (A : Nat → Int) : Prop :=
  len = 0 ∨ ∃ b off, a = some ⟨b, off, none⟩ ∧ b < w.heap.size ∧ ∀ i, i < len → w.cell? ⟨b, off + i, none⟩ = some (.int .i64 (A i)) ∧ (Lit.int .i64 (A i)).wf = true
theorem RowI.below {w w' : World} {a : Option Addr} {len : Nat} {A : Nat → Int} (h : RowI w a len A) (hb : Below w.heap.size w w') : RowI w' a len A := by
  rcases h with h | ⟨b, off, rfl, hs, hc⟩
  · exact .inl h
  · exact .inr ⟨b, off, rfl, Nat.lt_of_lt_of_le hs hb.size, fun i hi => ⟨(hb.cell (p := ⟨b, off + i, none⟩) hs).trans (hc i hi).1, (hc i hi).2⟩⟩
end
end Go.Proofs.Ytnklhdoiggomkab
