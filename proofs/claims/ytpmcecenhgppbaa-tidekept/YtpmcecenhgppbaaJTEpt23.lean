/- TideOrder, plainly: what has come is what is applied and what is held. -/
import Derived.Test.YtpmcecenhgppbaaJTEpt20
namespace Go.Proofs.Ytpmcecenhgppbaa
section
open Go.RowKit Go.Shelf

/-- what has come: one to n, and those of L -/
def Came (n : Nat) (L : List Nat) (j : Nat) : Prop := (1 ≤ j ∧ j ≤ n) ∨ j ∈ L
theorem came_erase {n : Nat} {L : List Nat} (hok : bOk n L) (hm : n + 1 ∈ L) (j : Nat) : Came n L j ↔ Came (n + 1) (L.erase (n + 1)) j := by
  unfold Came
  rw [hok.once.mem_erase_iff]
  constructor
  · rintro (h | h)
    · exact .inl ⟨h.1, by omega⟩
    · by_cases e : j = n + 1
      · exact .inl ⟨by omega, by omega⟩
      · exact .inr ⟨e, h⟩
  · rintro (h | h)
    · by_cases e : j = n + 1
      · rw [e]; exact .inr hm
      · exact .inl ⟨h.1, by omega⟩
    · exact .inr h.2
theorem came_settle : ∀ (f n : Nat) (L : List Nat), bOk n L → L.length = f → ∀ j, Came n L j ↔ Came (settleN f n L).1 (settleN f n L).2 j
  | 0, n, L, _, _, j => Iff.rfl
  | f + 1, n, L, hok, hl, j => by
    by_cases hm : n + 1 ∈ L
    · have hs : settleN (f + 1) n L = settleN f (n + 1) (L.erase (n + 1)) := by
        show (if n + 1 ∈ L then _ else _) = _
        rw [if_pos hm]
      have hlen : (L.erase (n + 1)).length = f := by rw [List.length_erase_of_mem hm]; omega
      rw [hs, came_erase hok hm j]
      exact came_settle f (n + 1) (L.erase (n + 1)) hok.next hlen j
    · have hs : settleN (f + 1) n L = (n, L) := by
        show (if n + 1 ∈ L then _ else _) = _
        rw [if_neg hm]
      rw [hs]
/-- a list of numbers that lie between, each once, is short -/
theorem few_between0 (a : Nat) : ∀ (d : Nat) (L : List Nat), (∀ i ∈ L, a < i ∧ i ≤ a + d) → L.Nodup → L.length ≤ d
  | 0, L, h, _ => by
    cases L with
    | nil => exact Nat.le_refl _
    | cons x l => have := h x (List.mem_cons_self ..); omega
  | d + 1, L, h, ho => by
    by_cases hm : a + d + 1 ∈ L
    · have h1 := few_between0 a d (L.erase (a + d + 1)) (fun i hi => by
        have h1 := h i (List.mem_of_mem_erase hi)
        have h2 : i ≠ a + d + 1 := (ho.mem_erase_iff.1 hi).1
        omega) (ho.erase _)
      rw [List.length_erase_of_mem hm] at h1
      omega
    · have h1 := few_between0 a d L (fun i hi => by
        have h1 := h i hi
        have h2 : i ≠ a + d + 1 := (by rintro rfl; exact hm hi)
        omega) ho
      omega
theorem few_between (L : List Nat) (a b : Nat) (hab : a ≤ b) (h : ∀ i ∈ L, a < i ∧ i ≤ b) (ho : L.Nodup) : L.length ≤ b - a := by
  refine few_between0 a (b - a) L (fun i hi => ?_) ho
  have := h i hi
  omega
/-- one more has come -/
theorem came_step {n : Nat} {L : List Nat} {i : Nat} (hr : bRest n L) (h8 : ∀ j ∈ L, j ≤ 8) (hi : 1 ≤ i) (hi8 : i ≤ 8) (j : Nat) : (Came n L j ∨ j = i) ↔ Came (stepN 8 n L i).1 (stepN 8 n L i).2 j := by
  unfold stepN
  by_cases h1 : i ≤ n
  · rw [if_pos h1]
    constructor
    · rintro (h | h)
      · exact h
      · exact .inl ⟨by omega, by omega⟩
    · exact .inl
  · rw [if_neg h1]
    by_cases h2 : i = n + 1
    · subst h2
      rw [if_pos rfl, ← came_settle L.length (n + 1) L hr.ok1 rfl j]
      constructor
      · rintro ((h | h) | h)
        · exact .inl ⟨h.1, by omega⟩
        · exact .inr h
        · exact .inl ⟨by omega, by omega⟩
      · rintro (h | h)
        · by_cases e : j = n + 1
          · exact .inr e
          · exact .inl (.inl ⟨h.1, by omega⟩)
        · exact .inl (.inr h)
    · rw [if_neg h2]
      have hlen : L.length < 8 := by
        have := few_between L (n + 1) 8 (by omega) (fun q hq => ⟨hr.up q hq, h8 q hq⟩) hr.once
        omega
      unfold heldN Came
      by_cases hm : i ∈ L
      · rw [if_neg (fun e => e.2 hm)]
        constructor
        · rintro (h | h)
          · exact h
          · rw [h]; exact .inr hm
        · exact .inl
      · rw [if_pos ⟨hlen, hm⟩]
        constructor
        · rintro ((h | h) | h)
          · exact .inl h
          · exact .inr (List.mem_append.2 (.inl h))
          · exact .inr (List.mem_append.2 (.inr (List.mem_singleton.2 h)))
        · rintro (h | h)
          · exact .inl (.inl h)
          · rcases List.mem_append.1 h with h | h
            · exact .inl (.inr h)
            · exact .inr (List.mem_singleton.1 h)
theorem step_le (h n : Nat) (L : List Nat) (i : Nat) : n ≤ (stepN h n L i).1 := by
  unfold stepN
  by_cases h1 : i ≤ n
  · rw [if_pos h1]; exact Nat.le_refl _
  · rw [if_neg h1]
    by_cases h2 : i = n + 1
    · rw [if_pos h2]
      have := settleN_le L.length (n + 1) L
      omega
    · rw [if_neg h2]; exact Nat.le_refl _
theorem came_not {n : Nat} {L : List Nat} (hr : bRest n L) : ¬ Came n L (n + 1) := by
  rintro (h | h)
  · omega
  · have := hr.up _ h; omega
end
section
open Go.RowKit Go.Shelf

structure Om (w W : World) (t : Nat) (a : Option Addr) (N c : Nat) (S : Ts) (F : Nat → Prop) (ms : List Hm) : Prop where
  lt : Lt w W t S F
  row : RowM W 0 (.slice a N c) ms
  own : ∀ q, (Value.slice a N c).ownBlock = some q → F q
  each : ∀ z ∈ ms, Lists W 0 z
  say : ms.map Hm.m = stream N
theorem Om.below {w W V : World} {t : Nat} {a : Option Addr} {N c : Nat} {S : Ts} {F : Nat → Prop} {ms : List Hm} (h : Om w W t a N c S F ms) (hb : Below W.heap.size W V) : Om w V t a N c S F ms := ⟨h.lt.below hb, h.row.below hb, h.own, fun z hz => (h.each z hz).below hb, h.say⟩
theorem Om.on {w W V : World} {t : Nat} {a : Option Addr} {N c : Nat} {S S' : Ts} {F : Nat → Prop} {ms : List Hm} (h : Om w W t a N c S F ms) (hl : Lt w V t S' F) (hk : Kt F W V) : Om w V t a N c S' F ms := ⟨hl, hk.rowM h.row h.own, h.own, fun z hz => hk.lists (h.each z hz), h.say⟩
theorem Om.get {w W : World} {t : Nat} {a : Option Addr} {N c : Nat} {S : Ts} {F : Nat → Prop} {ms : List Hm} (h : Om w W t a N c S F ms) (i : Nat) (hi : i < N) : ∃ g z, a = some ⟨g, 0, none⟩ ∧ ms[i]? = some z ∧ z.m = brkN (i + 1) ∧ Lists W 0 z ∧ (msgLd (.pointer (some ⟨g, i * 16, none⟩))).run Try.prog W = .ok (.agg z.arr) W := by
  have hl : ms.length = N := by have := congrArg List.length h.say; simpa [stream] using this
  obtain ⟨z, hz⟩ : ∃ z, ms[i]? = some z := ⟨_, List.getElem?_eq_getElem (by omega)⟩
  obtain ⟨g, hg, -, -, -, q⟩ := owns_msg h.row hz
  refine ⟨g, z, hg, hz, ?_, h.each z (List.mem_of_getElem? hz), msgLd_at q z.size⟩
  have e : (ms.map Hm.m)[i]? = some z.m := by rw [List.getElem?_map, hz]; rfl
  rw [h.say] at e
  unfold stream at e
  rw [List.getElem?_map, List.getElem?_range hi] at e
  exact (Option.some.inj e).symm
/-- what a Take of the law's i-th break leaves: the acts, and the rest as it was -/
def TkOm (w W : World) (t : Nat) (a : Option Addr) (N c : Nat) (S' : Ts) (A : List Ac) (F : Nat → Prop) (ms : List Hm) (e : Ending) (w' : World) : Prop := ∃ v l, e = .returned v ∧ Acts w' W.heap.size v l ∧ l.map Am.c = A ∧ Om w w' t a N c S' F ms ∧ Kt F W w'
theorem Om.take {w W : World} {t g : Nat} {N c : Nat} {S S' : Ts} {A : List Ac} {F : Nat → Prop} {ms : List Hm} (h : Om w W t (some ⟨g, 0, none⟩) N c S F ms) (i : Nat) (hi : i < N) (hs : S.take (brkN (i + 1)) = (S', A)) : ∃ Z, (msgLd (.pointer (some ⟨g, i * 16, none⟩))).run Try.prog W = .ok (.agg Z) W ∧ Calls Try.prog 12 #[.pointer (some ⟨t, 0, none⟩), .agg Z] W fun e w' => TkOm w W t (some ⟨g, 0, none⟩) N c S' A F ms e w' := by
  obtain ⟨g', z, hg, -, e, hL, hm⟩ := h.get i hi
  cases hg
  refine ⟨z.arr, hm, (lt_take h.lt z hL).mono ?_⟩
  rintro q w' ⟨v, l, rfl, ha, hc, hl, hk⟩
  rw [e, hs] at hl hc
  exact ⟨v, l, rfl, ha, hc, h.on hl hk, hk⟩
theorem om_of {w w1 w2 : World} {t N : Nat} {S : Ts} {G : Nat → Prop} (h : Lt w w1 t S G) {v : Value} {l : List Hm} (hm : Msgs w2 w1.heap.size v l) (hc : l.map Hm.m = stream N) (hb : Below w1.heap.size w1 w2) : ∃ a c, v = .slice a N c ∧ Om w w2 t a N c S (fun k => G k ∨ (w1.heap.size ≤ k ∧ k < w2.heap.size)) l := by
  have hl : l.length = N := by have := congrArg List.length hc; simpa [stream] using this
  obtain ⟨a, c, rfl⟩ := owns_len hm.row
  have hr : RowM w2 w1.heap.size (.slice a N c) l := by have := hm.row; rw [hl] at this; exact this
  exact ⟨a, c, by rw [hl], h.add hb, owns_le hr (Nat.zero_le _), fun q hq => .inr (hr.lt hq), fun z hz => (hm.each z hz).down (Nat.zero_le _), hc⟩
/-- a step of the stream, with room for all -/
theorem order_first (i : Nat) (hi : i < 8) : (Ts.new 1 1 8).take (brkN (i + 1)) = (bS 8 (stepN 8 0 [] (i + 1)).1 (stepN 8 0 [] (i + 1)).2, allA :: actsN 0 (stepN 8 0 [] (i + 1)).1) := (first_b 8 (i + 1) (by omega) (by omega)).1
theorem order_next {n : Nat} {L : List Nat} (hr : bRest n L) (i : Nat) (hi : i < 8) : (bS 8 n L).take (brkN (i + 1)) = (bS 8 (stepN 8 n L (i + 1)).1 (stepN 8 n L (i + 1)).2, actsN n (stepN 8 n L (i + 1)).1) := (step_b 8 n L (i + 1) (by omega) (by omega) hr).1
/-- the keys of a step's acts, in their order -/
def keysN (n n' : Nat) : List Ky := (List.range' (n + 1) (n' - n)).map kyN
theorem acts_keys (n n' : Nat) : (actsN n n').flatMap Ac.ks = keysN n n' := by
  unfold actsN keysN
  generalize List.range' (n + 1) (n' - n) = l
  induction l with
  | nil => rfl
  | cons a l ih => rw [List.map_cons, List.flatMap_cons, ih]; rfl
theorem acts_plain (n n' : Nat) : ∀ x ∈ actsN n n', x.all = false ∧ x.again = false ∧ x.reply = false := by
  intro x hx
  obtain ⟨j, -, rfl⟩ := List.mem_map.1 hx
  exact ⟨rfl, rfl, rfl⟩
theorem keysN_snoc (n m : Nat) (h : n ≤ m) : keysN n (m + 1) = keysN n m ++ [kyN (m + 1)] := by
  unfold keysN
  rw [show m + 1 - n = (m - n) + 1 by omega, List.range'_concat, List.map_append, Nat.one_mul, show n + 1 + (m - n) = m + 1 by omega]; rfl
end
section
open Go.RowKit Go.Shelf

/-- the law's reply -/
def rpN (s : Int) (k : Nat) (es : List En) : Pm := ⟨2, 1, 1, s, floatOfInt .f64 1, floatOfInt .f64 (k : Nat), 2 * (k : Int) + 1, 0, nilOp, es, []⟩
theorem rpN_mk (s : Int) (k : Nat) (es : List En) (h : k ≤ 1000) : Mk (rpN s k es).re (rpN s k es).im 1 k := show Mk (floatOfInt .f64 1) (floatOfInt .f64 (k : Int)) 1 (k : Int) from Mk.of (by omega) (by omega) (by omega) (by omega)
theorem rpN_ep (s : Int) (k : Nat) (es : List En) (h : k ≤ 1000) : (rpN s k es).ep = 1 := (rpN_mk s k es h).pa
theorem rpN_num (s : Int) (k : Nat) (es : List En) (h : k ≤ 1000) : (rpN s k es).num = k := (rpN_mk s k es h).pb
def fbN (j : Nat) : Fb := ⟨((j + 1 : Nat) : Int), false, [kyN (j + 1)]⟩
def frN (n : Nat) : List Fb := (List.range n).map fbN
theorem frN_succ (n : Nat) : frN (n + 1) = frN n ++ [fbN n] := by unfold frN; rw [List.range_succ, List.map_append]; rfl
/-- is an entry named by a break behind k, up to M -/
def hitE (k M : Nat) (e : En) : Bool := decide ((k : Int) < e.d ∧ e.d ≤ (M : Int)) && decide (e.nm = ⟨#[107]⟩)
theorem names_fb (j : Nat) (key : Ky) : (fbN j).names key = (decide (key.d = ((j + 1 : Nat) : Int)) && decide (key.nm = ⟨#[107]⟩)) := by
  obtain ⟨d, nm⟩ := key
  unfold Fb.names fbN inK bare eqKy kyN
  simp only [Bool.false_or, List.any_cons, List.any_nil, Bool.or_false]
  rw [Bool.eq_iff_iff]
  simp only [Bool.or_eq_true, Bool.and_eq_true, decide_eq_true_iff]
  constructor
  · rintro (⟨h1, h2⟩ | ⟨h1, h2⟩)
    · exact ⟨h1.symm, h2.symm⟩
    · cases h2
  · rintro ⟨h1, h2⟩
    exact .inl ⟨h1.symm, h2.symm⟩
theorem named_fr (k M : Nat) (e : En) : named (frN M) (k : Int) ⟨e.d, e.nm⟩ = hitE k M e := by
  unfold named frN hitE
  rw [Bool.eq_iff_iff, List.any_eq_true]
  simp only [Bool.and_eq_true, decide_eq_true_iff]
  constructor
  · rintro ⟨b, hb, h1, h2⟩
    obtain ⟨j, hj, rfl⟩ := List.mem_map.1 hb
    have hj := List.mem_range.1 hj
    rw [names_fb] at h2
    simp only [Bool.and_eq_true, decide_eq_true_iff] at h2
    have h3 : (k : Int) < ((j + 1 : Nat) : Int) := h1
    exact ⟨⟨by omega, by omega⟩, h2.2⟩
  · rintro ⟨⟨h1, h2⟩, h3⟩
    obtain ⟨j, hj⟩ : ∃ j : Nat, e.d = ((j + 1 : Nat) : Int) := ⟨(e.d - 1).toNat, by omega⟩
    refine ⟨fbN j, List.mem_map.2 ⟨j, List.mem_range.2 (by omega), rfl⟩, ?_, ?_⟩
    · show (k : Int) < ((j + 1 : Nat) : Int)
      omega
    · rw [names_fb]
      simp only [Bool.and_eq_true, decide_eq_true_iff]
      exact ⟨hj, h3⟩
theorem whole_fr (k M : Nat) : wholeF (frN M) (k : Int) = decide (M ≤ k) := by
  unfold wholeF frN
  rw [Bool.eq_iff_iff, List.all_eq_true, decide_eq_true_iff]
  constructor
  · intro h
    rcases Nat.eq_zero_or_pos M with e | e
    · omega
    · have := h (fbN (M - 1)) (List.mem_map.2 ⟨M - 1, List.mem_range.2 (by omega), rfl⟩)
      have := of_decide_eq_true this
      have h2 : ((M - 1 + 1 : Nat) : Int) ≤ (k : Int) := this
      omega
  · intro h b hb
    obtain ⟨j, hj, rfl⟩ := List.mem_map.1 hb
    have hj := List.mem_range.1 hj
    show decide (((j + 1 : Nat) : Int) ≤ (k : Int)) = true
    exact decide_eq_true (by omega)
def repA (k M : Nat) (es : List En) : Ac := ⟨false, false, true, decide (M ≤ k), [], 0, es.filter fun e => !hitE k M e⟩
section
variable (s : Int) (k E : Nat) (es : List En)
def tA (n : Nat) : Ts := ⟨1, 1, 1, n, 2 * (n : Int), s, frN n, [], 8⟩
def tH (n : Nat) : Ts := ⟨1, 1, 1, n, 2 * (n : Int), s, frN n, [rpN s k es], 8⟩
def tU (n : Nat) : Ts := ⟨1, 1, 1, n, max (2 * (n : Int)) (2 * (k : Int) + 1), 0, [], [], 8⟩
end
theorem brk_take {S : Ts} {n : Nat} (hn : n + 1 ≤ 1000) (hcl : S.client = 1) (hli : S.life = 1) (he : S.e = 1) (hsn : S.n = n) : S.take (brkN (n + 1)) = ((S.apply (brkN (n + 1))).settle.1, keysA [kyN (n + 1)] :: (S.apply (brkN (n + 1))).settle.2) := by
  have hc : S.counts (brkN (n + 1)) = true := brk_counts (brkN_mk (n + 1) hn) hcl hli (by rw [he]; omega)
  have hb : S.begun (brkN (n + 1)) = S := by unfold Ts.begun; rw [brkN_ep (n + 1) hn, if_neg (by rw [he]; omega)]
  have hbA : S.begunA (brkN (n + 1)) = [] := by unfold Ts.begunA; rw [brkN_ep (n + 1) hn, if_neg (by rw [he]; omega)]
  have ha : S.ahead (brkN (n + 1)) = 1 := by unfold Ts.ahead; rw [brkN_num (n + 1) hn, hsn, if_pos (by omega)]; omega
  have hm : S.meet (brkN (n + 1)) = (S.apply (brkN (n + 1)), [keysA [kyN (n + 1)]]) := by
    unfold Ts.meet
    rw [if_neg (show ¬ (brkN (n + 1)).kind = 2 by show ¬ (3 : Int) = 2; omega), if_neg (by rw [ha]; omega), if_pos (.inr ⟨rfl, ha⟩)]
    rfl
  unfold Ts.take
  rw [if_pos hc, hb, hbA, hm]; rfl
theorem apply_t {S : Ts} {n : Nat} (hn : n + 1 ≤ 1000) : S.apply (brkN (n + 1)) = { S with n := ((n + 1 : Nat) : Int), ver := max S.ver (2 * ((n + 1 : Nat) : Int)), fr := if 0 < S.asked then S.fr ++ [fbN n] else S.fr } := by
  unfold Ts.apply
  rw [brkN_num (n + 1) hn]; rfl
/-- a break, while no reply has come -/
theorem tA_brk (s : Int) (hs : 0 < s) (n : Nat) (hn : n + 1 ≤ 1000) : (tA s n).take (brkN (n + 1)) = (tA s (n + 1), [keysA [kyN (n + 1)]]) := by
  rw [brk_take hn rfl rfl rfl rfl, apply_t hn]
  have : ({ tA s n with n := ((n + 1 : Nat) : Int), ver := max (tA s n).ver (2 * ((n + 1 : Nat) : Int)), fr := if 0 < (tA s n).asked then (tA s n).fr ++ [fbN n] else (tA s n).fr } : Ts) = tA s (n + 1) := by
    unfold tA
    simp only [if_pos hs, ← frN_succ]
    rw [show max (2 * (n : Int)) (2 * ((n + 1 : Nat) : Int)) = 2 * ((n + 1 : Nat) : Int) by omega]
  rw [this, Ts.settle_none rfl]
theorem tU_brk (k : Nat) (n : Nat) (hn : n + 1 ≤ 1000) : (tU k n).take (brkN (n + 1)) = (tU k (n + 1), [keysA [kyN (n + 1)]]) := by
  rw [brk_take hn rfl rfl rfl rfl, apply_t hn]
  have : ({ tU k n with n := ((n + 1 : Nat) : Int), ver := max (tU k n).ver (2 * ((n + 1 : Nat) : Int)), fr := if 0 < (tU k n).asked then (tU k n).fr ++ [fbN n] else (tU k n).fr } : Ts) = tU k (n + 1) := by
    unfold tU
    simp only [if_neg (show ¬ (0 : Int) < 0 by omega)]
    rw [show max (max (2 * (n : Int)) (2 * (k : Int) + 1)) (2 * ((n + 1 : Nat) : Int)) = max (2 * ((n + 1 : Nat) : Int)) (2 * (k : Int) + 1) by omega]
  rw [this, Ts.settle_none rfl]
/-- a reply that is used -/
theorem use_t (s : Int) (k : Nat) (es : List En) (n : Nat) (hs : 0 < s) (H : List Pm) (hk : k ≤ n) (hk1 : k ≤ 1000) : (⟨1, 1, 1, n, 2 * (n : Int), s, frN n, H, 8⟩ : Ts).meet (rpN s k es) = (⟨1, 1, 1, n, max (2 * (n : Int)) (2 * (k : Int) + 1), 0, [], H, 8⟩, [repA k n es]) := by
  have ha : (⟨1, 1, 1, n, 2 * (n : Int), s, frN n, H, 8⟩ : Ts).ahead (rpN s k es) = 0 := by
    unfold Ts.ahead
    rw [rpN_num s k es hk1]
    by_cases h : (n : Int) ≤ (k : Int)
    · rw [if_pos h]; show (k : Int) - (n : Int) = 0; omega
    · rw [if_neg h]
  have hu : (⟨1, 1, 1, n, 2 * (n : Int), s, frN n, H, 8⟩ : Ts).usedA (rpN s k es) = repA k n es := by
    unfold Ts.usedA
    rw [if_neg (show ¬ (rpN s k es).err = 70 by show ¬ (0 : Int) = 70; omega), rpN_num s k es hk1]
    simp only []
    rw [whole_fr]
    unfold left repA
    have : ∀ l : List En, (l.filter fun e => !named (frN n) (k : Int) ⟨e.d, e.nm⟩) = l.filter fun e => !hitE k n e := fun l => by
      congr 1
      funext e
      rw [named_fr]
    rw [this]; rfl
  unfold Ts.meet
  rw [if_pos (show (rpN s k es).kind = 2 from rfl), if_pos (show Ts.asks _ (rpN s k es).seq = true from decide_eq_true ⟨hs, rfl⟩), if_pos ha, hu]
  unfold Ts.used
  rw [if_neg (show ¬ (rpN s k es).err = 70 by show ¬ (0 : Int) = 70; omega)]; rfl
theorem hold_t (s : Int) (k : Nat) (es : List En) (n : Nat) (hs : 0 < s) (hk : n < k) (hk1 : k ≤ 1000) : (tA s n).meet (rpN s k es) = (tH s k es n, []) := by
  have ha : (tA s n).ahead (rpN s k es) = (k : Int) - n := by
    unfold Ts.ahead
    rw [rpN_num s k es hk1]
    show (if (n : Int) ≤ (k : Int) then (k : Int) - n else 0) = _
    rw [if_pos (by omega)]
  unfold Ts.meet
  rw [if_pos (show (rpN s k es).kind = 2 from rfl), if_pos (show Ts.asks _ (rpN s k es).seq = true from decide_eq_true ⟨hs, rfl⟩), if_neg (by rw [ha]; omega)]
  rfl
theorem due_h (s : Int) (k : Nat) (es : List En) (S : Ts) (hS : S.held = [rpN s k es]) (n : Nat) (hn : S.n = n) (hk1 : k ≤ 1000) : S.due = if k ≤ n then some 0 else none := by
  have ha : S.ahead (rpN s k es) = if n ≤ k then (k : Int) - n else 0 := by
    unfold Ts.ahead
    rw [rpN_num s k es hk1, hn]
    by_cases h : n ≤ k
    · rw [if_pos h, if_pos (by omega)]
    · rw [if_neg h, if_neg (by omega)]
  have h1 : S.due1 (rpN s k es) = false := by unfold Ts.due1; rw [decide_eq_false (show ¬ (rpN s k es).kind = 3 by show ¬ (2 : Int) = 3; omega), Bool.false_and]
  have h2 : S.due2 (rpN s k es) = decide (k ≤ n) := by
    unfold Ts.due2
    rw [decide_eq_true (show (rpN s k es).kind = 2 from rfl), Bool.true_and, ha]
    by_cases h : k ≤ n
    · rw [decide_eq_true h]
      apply decide_eq_true
      split <;> omega
    · rw [decide_eq_false h]
      apply decide_eq_false
      rw [if_pos (by omega)]; omega
  have h3 : S.due3 (rpN s k es) = decide (k ≤ n) := by
    unfold Ts.due3
    rw [ha]
    by_cases h : k ≤ n
    · rw [decide_eq_true h]
      apply decide_eq_true
      split <;> omega
    · rw [decide_eq_false h]
      apply decide_eq_false
      rw [if_pos (by omega)]; omega
  unfold Ts.due
  rw [hS]
  simp only [List.findIdx?_cons, List.findIdx?_nil, h1, h2, h3]
  by_cases h : k ≤ n
  · simp [h]
  · simp [h]
/-- a break, while the reply is held -/
theorem tH_brk (s : Int) (k : Nat) (es : List En) (hs : 0 < s) (n : Nat) (hn : n + 1 ≤ 1000) (hk : n < k) (hk1 : k ≤ 1000) : (tH s k es n).take (brkN (n + 1)) = if n + 1 = k then (tU k (n + 1), [keysA [kyN (n + 1)], repA k (n + 1) es]) else (tH s k es (n + 1), [keysA [kyN (n + 1)]]) := by
  rw [brk_take hn rfl rfl rfl rfl, apply_t hn]
  have : ({ tH s k es n with n := ((n + 1 : Nat) : Int), ver := max (tH s k es n).ver (2 * ((n + 1 : Nat) : Int)), fr := if 0 < (tH s k es n).asked then (tH s k es n).fr ++ [fbN n] else (tH s k es n).fr } : Ts) = tH s k es (n + 1) := by
    unfold tH
    simp only [if_pos hs, ← frN_succ]
    rw [show max (2 * (n : Int)) (2 * ((n + 1 : Nat) : Int)) = 2 * ((n + 1 : Nat) : Int) by omega]
  rw [this]
  have hd := due_h s k es (tH s k es (n + 1)) rfl (n + 1) rfl hk1
  by_cases h : n + 1 = k
  · rw [if_pos h]
    rw [if_pos (by omega)] at hd
    have hu := use_t s k es (n + 1) hs [] (by omega) hk1
    have hw : (tH s k es (n + 1)).without 0 = (⟨1, 1, 1, ((n + 1 : Nat) : Int), 2 * ((n + 1 : Nat) : Int), s, frN (n + 1), [], 8⟩ : Ts) := rfl
    rw [Ts.settle_some hd rfl, hw, hu]
    simp only []
    rw [Ts.settle_none rfl]; rfl
  · rw [if_neg h]
    rw [if_neg (by omega)] at hd
    rw [Ts.settle_none hd]
/-- the reply comes -/
theorem tA_rep (s : Int) (k : Nat) (es : List En) (hs : 0 < s) (n : Nat) (hk1 : k ≤ 1000) : (tA s n).take (rpN s k es) = if k ≤ n then (tU k n, [repA k n es]) else (tH s k es n, []) := by
  have hc : (tA s n).counts (rpN s k es) = true := by
    unfold Ts.counts
    rw [rpN_ep s k es hk1, (rpN_mk s k es hk1).good]
    simp [rpN, tA]
  have hb : (tA s n).begun (rpN s k es) = tA s n := by unfold Ts.begun; rw [rpN_ep s k es hk1, if_neg (show ¬ (tA s n).e < 1 by show ¬ (1 : Int) < 1; omega)]
  have hbA : (tA s n).begunA (rpN s k es) = [] := by unfold Ts.begunA; rw [rpN_ep s k es hk1, if_neg (show ¬ (tA s n).e < 1 by show ¬ (1 : Int) < 1; omega)]
  unfold Ts.take
  rw [if_pos hc, hb, hbA]
  by_cases h : k ≤ n
  · rw [if_pos h]
    have hu := use_t s k es n hs [] h hk1
    have hu' : (tA s n).meet (rpN s k es) = (tU k n, [repA k n es]) := hu
    rw [hu']
    simp only []
    rw [Ts.settle_none rfl]; rfl
  · rw [if_neg h, hold_t s k es n hs (by omega) hk1]
    simp only []
    have hd := due_h s k es (tH s k es n) rfl n rfl hk1
    rw [if_neg h] at hd
    rw [Ts.settle_none hd]; rfl
/-- the first message of all -/
theorem first_t {s : Int} {m : Pm} (hc : ((Ts.new 1 1 8).ask s).counts m = true) (he : m.ep = 1) (hs : 0 < s) : ((Ts.new 1 1 8).ask s).take m = (((tA s 0).take m).1, allA :: ((tA s 0).take m).2) := by
  have e0 : (Ts.new 1 1 8).ask s = ⟨1, 1, 0, 0, 0, s, [], [], 8⟩ := by
    unfold Ts.ask Ts.new
    rw [show max s 0 = s by omega]; rfl
  rw [e0] at hc ⊢
  have hb : (⟨1, 1, 0, 0, 0, s, [], [], 8⟩ : Ts).begun m = tA s 0 := by unfold Ts.begun Ts.restart; rw [he, if_pos (show (0 : Int) < 1 by omega)]; rfl
  have hbA : (⟨1, 1, 0, 0, 0, s, [], [], 8⟩ : Ts).begunA m = [allA] := by unfold Ts.begunA; rw [he, if_pos (show (0 : Int) < 1 by omega)]
  have hc2 : (tA s 0).counts m = true := by
    unfold Ts.counts at hc ⊢
    rw [he] at hc ⊢
    simp only [Bool.and_eq_true, decide_eq_true_iff] at hc ⊢
    exact ⟨hc.1, hc.2.1, hc.2.2.1, hc.2.2.2.1, Int.le_refl _⟩
  have hb2 : (tA s 0).begun m = tA s 0 := by unfold Ts.begun; rw [he, if_neg (show ¬ (tA s 0).e < 1 by show ¬ (1 : Int) < 1; omega)]
  have hbA2 : (tA s 0).begunA m = [] := by unfold Ts.begunA; rw [he, if_neg (show ¬ (tA s 0).e < 1 by show ¬ (1 : Int) < 1; omega)]
  unfold Ts.take
  rw [if_pos hc, if_pos hc2, hb, hbA, hb2, hbA2]; rfl
end
section
open Go.RowKit

def RowI (w : World) (a : Option Addr) (len : Nat) (A : Nat → Int) : Prop :=
  len = 0 ∨ ∃ b off, a = some ⟨b, off, none⟩ ∧ b < w.heap.size ∧ ∀ i, i < len → w.cell? ⟨b, off + i, none⟩ = some (.int .i64 (A i)) ∧ (Lit.int .i64 (A i)).wf = true
theorem RowI.below {w w' : World} {a : Option Addr} {len : Nat} {A : Nat → Int} (h : RowI w a len A) (hb : Below w.heap.size w w') : RowI w' a len A := by
  rcases h with h | ⟨b, off, rfl, hs, hc⟩
  · exact .inl h
  · exact .inr ⟨b, off, rfl, Nat.lt_of_lt_of_le hs hb.size, fun i hi => ⟨(hb.cell (p := ⟨b, off + i, none⟩) hs).trans (hc i hi).1, (hc i hi).2⟩⟩
end
end Go.Proofs.Ytpmcecenhgppbaa
