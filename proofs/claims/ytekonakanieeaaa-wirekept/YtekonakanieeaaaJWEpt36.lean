/- Lists of entries and of keys, bytes, a message as plain data among the arguments. -/
import Derived.Test.YtekonakanieeaaaJWEpt35
import Derived.Test.YtekonakanieeaaaJWEpt34
namespace Go.Proofs.Ytekonakanieeaaa
section
open Go.ChangeShapes Go.WideShapes Go.ChangeAt Go.RowKit Go.Joins

theorem kc_get' (ks : List Ky) (i j : Nat) (p : Ky) (h : ks[i]? = some p) (hj : j < 2) : (kc ks)[i * 2 + j]? = ([.int .i64 p.d, .string p.nm] : List Value)[j]? := by
  obtain ⟨h0, h1⟩ := kc_get ks i p h
  have : j = 0 ∨ j = 1 := by omega
  rcases this with rfl | rfl
  · exact h0
  · exact h1
section
variable {H : Type} {enc : TypeId × Value → H} {W : World}
theorem argE_of {fuel : Nat} {v : Value} {x : DataW H × List MemPlace} (h : DataW.trod enc Try.prog W 0 (fun _ => true) true fuel 27 [v] = some x) (hw : ∀ n ∈ x.1.weights Try.prog 27, n ≤ reachBytes) : ∃ es, ArgE W v es := by
  rcases Go.Deep.open_slice Try.underlying27 h with ⟨hcs, hx⟩ | ⟨a', len, cap, m, n, D, Pl, hcs, hb, hl, hm, hmm, rfl, hel⟩
  · simp at hcs
    subst hcs
    exact ⟨[], _, _, rfl, by simp, .inl rfl⟩
  · simp at hcs
    subst hcs
    simp only [if_true] at hmm
    subst hmm
    have hlen : len * 72 ≤ 140737488351232 := by
      have := weights_slice Try.underlying27 hw
      rw [Try.bytesEnt] at this
      simp [reachBytes] at this
      omega
    by_cases h0 : len = 0
    · subst h0; exact ⟨[], _, _, rfl, by simp, .inl rfl⟩
    have key : ∀ i, i < len → ∃ p : En, ∀ r u, p.vals[r]? = some u → W.cell? ((a'.add (i * 7)).add r) = some u := by
      intro i hi
      obtain ⟨cs', hc, ht⟩ := hel i (by omega)
      rw [Try.cellsEnt] at hc
      obtain ⟨_, hlen', hget⟩ := World.cells?_some hc
      obtain ⟨p, rfl⟩ := en_of ht
      refine ⟨p, fun r u hu => ?_⟩
      have hr : r < 7 := by have := (List.getElem?_eq_some_iff.1 hu).1; simpa [En.vals] using this
      have := hget r (by omega)
      rw [hu] at this
      exact this
    have iO : Inhabited En := ⟨⟨0, ⟨#[]⟩, false, 0, 0, 0, ⟨#[]⟩⟩⟩
    obtain ⟨X, hX⟩ := Go.Deep.choose_lt (α := En) key
    obtain ⟨b, off, spot⟩ := a'
    have hc0 := hX 0 (by omega) 0 _ rfl
    have hs := World.cell?_spot hc0
    have hspot : spot = none := by simpa [Addr.add] using hs
    subst hspot
    have hlt : b < W.heap.size := cellLt hc0
    refine ⟨(List.range len).map X, some ⟨b, off, none⟩, _, by simp; rfl, by simpa using hlen, .inr ⟨b, off, rfl, hlt, fun j u hu => ?_⟩⟩
    have hj : j < len * 7 := by have := (List.getElem?_eq_some_iff.1 hu).1; rw [ec_len] at this; simpa using this
    have hi : j / 7 < len := by omega
    have he : ((List.range len).map X)[j / 7]? = some (X (j / 7)) := by rw [List.getElem?_map, List.getElem?_range hi]; rfl
    have hg := ec_get _ (j / 7) (j % 7) _ he (by omega)
    rw [show j / 7 * 7 + j % 7 = j by omega, hu] at hg
    have := hX (j / 7) hi (j % 7) u hg.symm
    rw [add_plain', add_plain', show off + j / 7 * 7 + j % 7 = off + j by omega] at this
    exact this
theorem argK_of {fuel : Nat} {v : Value} {x : DataW H × List MemPlace} (h : DataW.trod enc Try.prog W 0 (fun _ => true) true fuel 28 [v] = some x) (hw : ∀ n ∈ x.1.weights Try.prog 28, n ≤ reachBytes) : ∃ ks, ArgK W v ks := by
  rcases Go.Deep.open_slice Try.underlying28 h with ⟨hcs, hx⟩ | ⟨a', len, cap, m, n, D, Pl, hcs, hb, hl, hm, hmm, rfl, hel⟩
  · simp at hcs
    subst hcs
    exact ⟨[], _, _, rfl, by simp, .inl rfl⟩
  · simp at hcs
    subst hcs
    simp only [if_true] at hmm
    subst hmm
    have hlen : len * 24 ≤ 140737488351232 := by
      have := weights_slice Try.underlying28 hw
      rw [Try.bytesKey] at this
      simp [reachBytes] at this
      omega
    by_cases h0 : len = 0
    · subst h0; exact ⟨[], _, _, rfl, by simp, .inl rfl⟩
    have key : ∀ i, i < len → ∃ p : Ky, ∀ r u, ([.int .i64 p.d, .string p.nm] : List Value)[r]? = some u → W.cell? ((a'.add (i * 2)).add r) = some u := by
      intro i hi
      obtain ⟨cs', hc, ht⟩ := hel i (by omega)
      rw [Try.cellsKey] at hc
      obtain ⟨_, hlen', hget⟩ := World.cells?_some hc
      obtain ⟨p, rfl⟩ := ky_of ht
      refine ⟨p, fun r u hu => ?_⟩
      have hr : r < 2 := by have := (List.getElem?_eq_some_iff.1 hu).1; simpa using this
      have := hget r (by omega)
      rw [hu] at this
      exact this
    have iO : Inhabited Ky := ⟨⟨0, ⟨#[]⟩⟩⟩
    obtain ⟨X, hX⟩ := Go.Deep.choose_lt (α := Ky) key
    obtain ⟨b, off, spot⟩ := a'
    have hc0 := hX 0 (by omega) 0 _ rfl
    have hs := World.cell?_spot hc0
    have hspot : spot = none := by simpa [Addr.add] using hs
    subst hspot
    have hlt : b < W.heap.size := cellLt hc0
    refine ⟨(List.range len).map X, some ⟨b, off, none⟩, _, by simp; rfl, by simpa using hlen, .inr ⟨b, off, rfl, hlt, fun j u hu => ?_⟩⟩
    have hj : j < len * 2 := by have := (List.getElem?_eq_some_iff.1 hu).1; rw [kc_len] at this; simpa using this
    have hi : j / 2 < len := by omega
    have he : ((List.range len).map X)[j / 2]? = some (X (j / 2)) := by rw [List.getElem?_map, List.getElem?_range hi]; rfl
    have hg := kc_get' _ (j / 2) (j % 2) _ he (by omega)
    rw [show j / 2 * 2 + j % 2 = j by omega, hu] at hg
    have := hX (j / 2) hi (j % 2) u hg.symm
    rw [add_plain', add_plain', show off + j / 2 * 2 + j % 2 = off + j by omega] at this
    exact this
/-- bytes that came in -/
theorem bytes_of {v : Value} {d : DataW H} {ps : List MemPlace} (h : DataW.Trod enc Try.prog W 0 (fun _ => true) true 22 v d ps) (hw : ∀ n ∈ d.weights Try.prog 22, n ≤ reachBytes) (hv : ∃ a len cap, v = .slice a len cap) : ∃ l, RC W v l ∧ l.length ≤ LB ∧ Byt l := by
  obtain ⟨fuel, hf⟩ := h
  obtain ⟨a0, len0, cap0, rfl⟩ := hv
  rcases Go.Deep.open_slice1 Try.underlying22 Try.cellsU hf with ⟨hcs, hx⟩ | ⟨a, len, cap, m, n, V, D, Pl, hcs, hb, hl, hm, hmm, hx, hel⟩
  · simp [Value.cells] at hcs
    obtain ⟨rfl, rfl, rfl⟩ := hcs
    exact ⟨[], ⟨_, _, rfl, by simp, .inl rfl⟩, by simp, Byt.nil⟩
  · simp [Value.cells] at hcs
    obtain ⟨rfl, rfl, rfl⟩ := hcs
    simp only [if_true] at hmm
    subst hmm
    simp only [Prod.mk.injEq] at hx
    have hlen : len0 ≤ LB := by
      rw [hx.1] at hw
      have := weights_slice Try.underlying22 hw
      rw [Try.bytesU] at this
      simp [reachBytes] at this
      unfold LB; omega
    have key : ∀ i, i < len0 → ∃ x : Int, W.cell? (a.add i) = some (.int .u8 x) ∧ 0 ≤ x ∧ x < 256 := by
      intro i hi
      obtain ⟨h1, h2⟩ := hel i (by omega)
      obtain ⟨p, e0, _, hwf⟩ := DataW.trod_int Try.underlying5 h2
      simp at e0
      rw [e0] at h1
      exact ⟨p, h1, by simp [Lit.wf, IntKind.min, IntKind.max, IntKind.bits, IntKind.signed] at hwf; omega⟩
    obtain ⟨X, hX⟩ := Go.Deep.choose_lt (α := Int) key
    refine ⟨(List.range len0).map X, ⟨some a, _, by simp; rfl, by simpa using hl, ?_⟩, by simpa using hlen, fun x hx => ?_⟩
    · by_cases h0 : len0 = 0
      · exact .inl (by simp [h0])
      · right
        obtain ⟨b, off, spot⟩ := a
        have hs := World.cell?_spot (hX 0 (by omega)).1
        have hspot : spot = none := by simpa [Addr.add] using hs
        subst hspot
        refine ⟨b, off, rfl, cellLt (hX 0 (by omega)).1, fun i x hx => ?_⟩
        have hi : i < len0 := by have := (List.getElem?_eq_some_iff.1 hx).1; simpa using this
        rw [List.getElem?_map, List.getElem?_range hi] at hx
        cases hx
        have := (hX i hi).1
        rw [add_plain'] at this
        exact this
    · obtain ⟨i, hi, rfl⟩ := List.mem_map.1 hx
      exact (hX i (List.mem_range.1 hi)).2
end
end
section
open Go.RowKit Go.Lib
attribute [local go_sem ↓ high] loadMg storeMd

/-- a message in memory: its cells, its lists -/
structure Sm (w : World) (A : Array Value) (re im : Nat) (m : Mg) : Prop where
  ex : ∃ ve vk, A = (Ms.arr ⟨m.kind, m.client, m.life, m.seq, re, im, m.vers, m.err, m.op, ve, vk, m.es, m.ks⟩) ∧ Row7 w 0 ve m.es ∧ RowK w 0 vk m.ks
theorem Sm.below {w w' : World} {A : Array Value} {re im : Nat} {m : Mg} (h : Sm w A re im m) (hb : Below w.heap.size w w') : Sm w' A re im m := by
  obtain ⟨ve, vk, e, h1, h2⟩ := h.ex
  exact ⟨ve, vk, e, h1.below hb, h2.below hb⟩
theorem Sm.off {w w' : World} {A : Array Value} {re im : Nat} {m : Mg} {g : Nat} (h : Sm w A re im m) (ho : Only (· = g) w w') (hg : Tag w g 30) : Sm w' A re im m := by
  obtain ⟨ve, vk, e, h1, h2⟩ := h.ex
  exact ⟨ve, vk, e, row_off h1 ho hg (by decide), rowk_off h2 ho hg (by decide)⟩
theorem Sm.size {w : World} {A : Array Value} {re im : Nat} {m : Mg} (h : Sm w A re im m) : A.size = 16 ∧ A.all (·.oneCell') = true := by
  obtain ⟨ve, vk, rfl, h1, h2⟩ := h.ex
  have e1 := own_one h1
  have e2 := own_one h2
  refine ⟨rfl, ?_⟩
  unfold Ms.arr
  simp [Value.oneCell'] <;> exact ⟨e1, e2⟩
theorem Sm.same {w : World} {A A' : Array Value} {re im : Nat} {m : Mg} (h : Sm w A re im m) (h' : Sm w A' re im m) (h1 : FloatKind.f64.format.order re re = some .eq) (h2 : FloatKind.f64.format.order im im = some .eq) (hle : m.es.length ≤ 1000000000) (hlk : m.ks.length ≤ 1000000000) :
    Calls Try.prog 9 #[.agg A, .agg A'] w fun e w' => e = .returned (.bool true) ∧ Below w.heap.size w w' := by
  obtain ⟨ve, vk, rfl, a1, a2⟩ := h.ex
  obtain ⟨ve', vk', rfl, b1, b2⟩ := h'.ex
  exact sameMsg_yes m.kind m.client m.life m.seq re im re im m.vers m.err m.op ve vk ve' vk' m.es m.ks w h1 h2 a1 b1 a2 b2 hle hlk
theorem order_int {n : Int} (h : 0 ≤ n ∧ n ≤ 4398046511103) : FloatKind.f64.format.order (floatOfInt .f64 n) (floatOfInt .f64 n) = some .eq := by
  rw [order_whole (ofInt_val n (by omega)) (ofInt_val n (by omega)), Int.compare_eq_eq.2 rfl]
/-- what both answer of the same bytes: the same message in memory, and the same error -/
theorem dec_both (l : List Int) (hby : Byt l) (hlim : l.length ≤ 140737488351232) : ∃ (m : Mg) (re im : Nat) (E : Int), FloatKind.f64.format.order re re = some .eq ∧ FloatKind.f64.format.order im im = some .eq ∧ m.es.length ≤ 1000000000 ∧ m.ks.length ≤ 1000000000 ∧
    (∀ v W, RC W v l → Calls Try.prog 6 #[v] W fun e w' => ∃ A, e = .returned (.tuple #[.agg A, .int .i64 E]) ∧ Hid (Sm w' A re im m) ∧ Below W.heap.size W w') ∧
    (∀ v W, RC W v l → Calls Try.prog 8 #[v] W fun e w' => ∃ A, e = .returned (.tuple #[.agg A, .int .i64 E]) ∧ Hid (Sm w' A re im m) ∧ Below W.heap.size W w') := by
  by_cases hU : ∃ m, msgOk m ∧ msgB m = l
  · obtain ⟨m, hm, hl⟩ := hU
    have key : ∀ {w w' : World} {e : Ending}, DecR l w w' e → ∃ A, e = .returned (.tuple #[.agg A, .int .i64 0]) ∧ Hid (Sm w' A (floatOfInt .f64 m.ep) (floatOfInt .f64 m.nb) m) ∧ Below w.heap.size w w' := fun hh => by
      rcases hh with ⟨m', ve, vk, hm', hB, he, h1, h2, hb⟩ | ⟨h0, _⟩
      · have := msgB_inj hm' hm (hB.trans hl.symm)
        subst this
        exact ⟨_, he, ⟨ve, vk, rfl, owns_le h1 (Nat.zero_le _), owns_le h2 (Nat.zero_le _)⟩, hb⟩
      · exact absurd hl (h0 m hm)
    have hn := hm.1
    have hb := hm.2
    refine ⟨m, _, _, 0, order_int ⟨hn.ep.1, by have := hn.ep.2; omega⟩, order_int ⟨hn.nb.1, by have := hn.nb.2; omega⟩, ?_, ?_, fun v W h => (decode_p v l W h hby (by omega)).mono fun _ _ hh => key hh, fun v W h => (decoded_any v l W h hby hlim).mono fun _ _ hh => key hh⟩
    · rcases hb with h | h | h | h
      · rw [h.2.2.1]; simp
      · have := h.2.2.1; omega
      · rw [h.2.2.1]; simp
      · rw [h.2.2.1]; simp
    · rcases hb with h | h | h | h
      · rw [h.2.2.2]; simp
      · rw [h.2.2.2.2]; simp
      · have := h.2.2.2.2.1; omega
      · rw [h.2.2.2]; simp
  · have key : ∀ {w w' : World} {e : Ending}, DecR l w w' e → ∃ A, e = .returned (.tuple #[.agg A, .int .i64 50]) ∧ Hid (Sm w' A 0 0 ⟨0, 0, 0, 0, 0, 0, 0, 0, zeroOp, [], []⟩) ∧ Below w.heap.size w w' := fun hh => by
      rcases hh with ⟨m, ve, vk, hm, hB, _⟩ | ⟨_, he, hb⟩
      · exact absurd ⟨m, hm, hB⟩ hU
      · exact ⟨_, he, ⟨.slice none 0 0, .slice none 0 0, rfl, World.ownsRow_nil _ _ _ _, World.ownsRow_nil _ _ _ _⟩, hb⟩
    exact ⟨⟨0, 0, 0, 0, 0, 0, 0, 0, zeroOp, [], []⟩, 0, 0, 50, by decide, by decide, by simp, by simp, fun v W h => (decode_p v l W h hby (by omega)).mono fun _ _ hh => key hh, fun v W h => (decoded_any v l W h hby hlim).mono fun _ _ hh => key hh⟩
/-- a box made and a message stored into it -/
theorem box_msg {w X Y : World} {A A' : Array Value} {re' im' : Nat} {m' : Mg} (h1 : w.alloc (.cells #[.int .i64 0, .int .i64 0, .int .i64 0, .int .i64 0, .complex .f64 0 0, .int .i64 0, .int .i64 0, .int .i64 0, .int .i64 0, .string ⟨#[]⟩, .int .i64 0, .string ⟨#[]⟩, .int .i64 0, .string ⟨#[]⟩, .slice none 0 0, .slice none 0 0] 30) = X) (h2 : X.setRow w.heap.size A = Y) (hs : Sm w A' re' im' m') : Y.heap[w.heap.size]? = some (.cells A 30 (0, 0)) ∧ Below w.heap.size w Y ∧ Sm Y A' re' im' m' := by
  have b := boxB h1
  rw [← h2]
  exact ⟨setRow_heap _ _ _ _ _ _ b.1, below_setRow b.2 (Nat.le_refl _) _, (hs.below b.2).off (setRow_onlyD _ _ _) ⟨_, _, b.1⟩⟩
set_option maxRecDepth 20000 in
set_option maxHeartbeats 8000000 in
theorem walk_WireDecodes (a0 : Option Addr) (n0 c0 : Nat) (l : List Int) (w : World) (hr : RC w (.slice a0 n0 c0) l) (hlen : l.length ≤ LB) (hbyt : Byt l) :
    Calls Try.prog 3 #[.slice a0 n0 c0] w fun e w' => e = .returned (.bool true) ∧ Below w.heap.size w w' := by
  have hLB : l.length ≤ 140737488351232 := hlen
  have HAw : Hid (∀ W, Calls Try.prog 10 #[] W fun e w' => e = .returned (.bool true) ∧ Below W.heap.size W w') := awake_w
  have HR : Hid (RC w (.slice a0 n0 c0) l) := hr
  have HCp : Hid (Calls Try.prog 7 #[.slice a0 n0 c0] w fun e w' => ∃ v', e = .returned v' ∧ Hid (RC w' v' l) ∧ Below w.heap.size w w') := (copyB_any _ l w hr.rb hlen).mono fun e w' ⟨v', he, ho, hb⟩ => ⟨v', he, ho.rc, hb⟩
  obtain ⟨m, re, im, E, f1, f2, f3, f4, h1, h2⟩ := dec_both l hbyt hLB
  have HF : Hid (FloatKind.f64.format.order re re = some .eq ∧ FloatKind.f64.format.order im im = some .eq ∧ m.es.length ≤ 1000000000 ∧ m.ks.length ≤ 1000000000) := ⟨f1, f2, f3, f4⟩
  have H1 : Hid (∀ v W, RC W v l → Calls Try.prog 6 #[v] W fun e w' => ∃ A, e = .returned (.tuple #[.agg A, .int .i64 E]) ∧ Hid (Sm w' A re im m) ∧ Below W.heap.size W w') := h1
  have H2 : Hid (∀ v W, RC W v l → Calls Try.prog 8 #[v] W fun e w' => ∃ A, e = .returned (.tuple #[.agg A, .int .i64 E]) ∧ Hid (Sm w' A re im m) ∧ Below W.heap.size W w') := h2
  clear hr hlen hLB hbyt f1 f2 f3 f4 h1 h2
  go_enter Try.func3, Try.ntmps3
  go_upto_region 2 with (first
    | (go_at_call 7; refine HCp.out.mono ?_; rintro e w1 ⟨v1, rfl, hr1, hb1⟩)
    | (go_at_call 6; refine (H1.out v1 w1 hr1.out).mono ?_; rintro e w2 ⟨A, rfl, hs2, hb2⟩; obtain ⟨W3, hW3⟩ : ∃ W, w2.alloc (.cells #[.int .i64 0, .int .i64 0, .int .i64 0, .int .i64 0, .complex .f64 0 0, .int .i64 0, .int .i64 0, .int .i64 0, .int .i64 0, .string ⟨#[]⟩, .int .i64 0, .string ⟨#[]⟩, .int .i64 0, .string ⟨#[]⟩, .slice none 0 0, .slice none 0 0] 30) = W := ⟨_, rfl⟩; obtain ⟨W4, hW4⟩ : ∃ W, W3.setRow w2.heap.size A = W := ⟨_, rfl⟩; have nt := msgTd_of (boxB hW3).1 rfl hs2.out.size.1 hs2.out.size.2 hW4))
  have H4 : Hid (W4.heap[w2.heap.size]? = some (.cells A 30 (0, 0)) ∧ Below w.heap.size w W4 ∧ Sm W4 A re im m) := by
    have h := box_msg hW3 hW4 hs2.out
    exact ⟨h.1, chainB (chainB hb1 hb2) h.2.1, h.2.2⟩
  clear hW3 hW4 nt hr1 hb1 hb2 hs2
  go_upto_region 3 with (go_at_call 8; refine (H2.out _ W4 (HR.out.below H4.out.2.1)).mono ?_; rintro e w5 ⟨A2, rfl, hs5, hb5⟩; obtain ⟨W6, hW6⟩ : ∃ W, w5.alloc (.cells #[.int .i64 0, .int .i64 0, .int .i64 0, .int .i64 0, .complex .f64 0 0, .int .i64 0, .int .i64 0, .int .i64 0, .int .i64 0, .string ⟨#[]⟩, .int .i64 0, .string ⟨#[]⟩, .int .i64 0, .string ⟨#[]⟩, .slice none 0 0, .slice none 0 0] 30) = W := ⟨_, rfl⟩; obtain ⟨W7, hW7⟩ : ∃ W, W6.setRow w5.heap.size A2 = W := ⟨_, rfl⟩; have nt := msgTd_of (boxB hW6).1 rfl hs5.out.size.1 hs5.out.size.2 hW7)
  have H7 : Hid (W7.heap[w2.heap.size]? = some (.cells A 30 (0, 0)) ∧ W7.heap[w5.heap.size]? = some (.cells A2 30 (0, 0)) ∧ Below w.heap.size w W7 ∧ Sm W7 A re im m ∧ Sm W7 A2 re im m) := by
    have h := box_msg hW6 hW7 hs5.out
    have h' := box_msg hW6 hW7 (H4.out.2.2.below hb5)
    exact ⟨hkeep (hkeep H4.out.1 hb5) h.2.1, h.1, chainB (chainB H4.out.2.1 hb5) h.2.1, h'.2.2, h.2.2⟩
  have nl1 := msgS_of H7.out.1 H7.out.2.2.2.1.size.1
  have nl2 := msgS_of H7.out.2.1 H7.out.2.2.2.2.size.1
  clear hW6 hW7 nt hb5 hs5
  go_wp2_with (first
    | (go_at_call 9; refine (H7.out.2.2.2.1.same H7.out.2.2.2.2 HF.out.1 HF.out.2.1 HF.out.2.2.1 HF.out.2.2.2).mono ?_; rintro e w8 ⟨rfl, hb8⟩; clear nl1 nl2)
    | (go_at_call 10; refine (HAw.out _).mono ?_; rintro e w9 ⟨rfl, hb9⟩))
  go_ret
  exact ⟨rfl, chainB H7.out.2.2.1 (chainB hb8 hb9)⟩
end
section
open Go.RowKit

def mk (i : Nat) : Int := 101 + (i : Int)
def marks (k : Nat) : List Int := (List.range k).map mk
theorem marks_len (k : Nat) : (marks k).length = k := by unfold marks; simp
theorem marks_succ (k : Nat) : marks (k + 1) = marks k ++ [mk k] := by unfold marks; rw [List.range_succ, List.map_append]; rfl
theorem marks_get (k i : Nat) (h : i < k) : (marks k)[i]? = some (mk i) := by unfold marks; rw [List.getElem?_map, List.getElem?_range h]; rfl

set_option maxHeartbeats 2000000 in
theorem lend_any (v : Value) (l : List Int) (w : World) (h : RB w v l) (hl : l.length ≤ LB) :
    Calls Try.prog 13 #[v] w fun e w' => ∃ g cap, e = .returned (.tuple #[.slice (some ⟨g, 0, none⟩) l.length cap, .slice (some ⟨g, 0, none⟩) (l.length + 70) cap]) ∧ OwnB w' w.heap.size (.slice (some ⟨g, 0, none⟩) (l.length + 70) cap) (l ++ marks 70) ∧ Below w.heap.size w w' := by
  obtain ⟨i0, hi, hz0, hz1, hz2⟩ := info_parts Try.infoU
  have hL : l.length ≤ 140737488351232 := hl
  obtain ⟨a, cap, rfl, _⟩ := id h
  have H : Hid (RB w (.slice a l.length cap) l ∧ l.length ≤ LB) := ⟨h, hl⟩
  clear h hl
  go_enter Try.func13, Try.ntmps13
  go_wp2_with (go_at_call 7; refine (copyB_any _ l _ H.out.1 H.out.2).mono ?_; rintro e w1 ⟨v1, rfl, ho1, hb1⟩)
  go_loopw [4, 5] (fun v i wr => ∃ k : Nat, k ≤ 70 ∧ i = .int .i64 k ∧ OwnB wr w.heap.size v (l ++ marks k) ∧ Below w.heap.size w wr) (fun _ i _ => 70 - (intOf i).toNat)
  case atStart => exact ⟨0, Nat.zero_le _, rfl, by simpa [marks] using ho1, hb1⟩
  case round =>
    clear ho1 hb1
    obtain ⟨k, hk, rfl, ho, hb⟩ := hrel
    by_cases hlt : k < 70
    · have hki : (k : Int) < 70 := by omega
      have ho' : wr.ownsRow w.heap.size 5 1 u4 (l.length + k) (ub (l ++ marks k)) := by
        have := ho; unfold OwnB at this; rw [List.length_append, marks_len] at this; exact this
      clear ho
      go_wp2_with (at_builtin; refine wpList_append_own _ rfl _ _ 22 rfl w.heap.size 5 i0 (.int .u8 0) 1 1 Try.underlying22 hi hz0 hz1 hz2 rfl (by decide) _ _ _ rfl (World.ownsRow.alloc ho' _) ⟨wr.heap.size, 0, none⟩ 1 1 [.int .u8 (mk k)] rfl rfl (one_at _ _ _) (one_cell _ rfl) (by unfold maxLen; omega) (by omega) (by have := hb.size; simp; omega) ?_; intro v' w1 hown hgrow _)
      have hb1 : Below w.heap.size w w1 := Below.grown (hb.alloc hb.size _) hgrow (by have := hb.size; simp; omega) (fun q hq => (ho'.lt q hq).1)
      have ho1 : OwnB w1 w.heap.size v' (l ++ marks (k + 1)) := by
        unfold OwnB
        rw [marks_succ, ← List.append_assoc, List.length_append, List.length_append, marks_len]
        unfold ub at hown ⊢
        rw [List.map_append (l₁ := l ++ marks k)]
        exact hown
      clear hown hgrow ho' hb
      go_wp2
      go_roundw
      case rel => exact ⟨k + 1, by omega, by go_num, ho1, hb1⟩
      case measure => simp [intOf]; omega
    · obtain rfl : k = 70 := by omega
      rcases ho.form with ⟨_, e⟩ | ⟨g, cap', e, _, hg, hcap, hc, hf⟩
      · have := congrArg List.length e; rw [List.length_append, marks_len] at this; simp at this
      rw [List.length_append, marks_len] at e hcap
      subst e
      clear hc hf
      go_wp2
      go_ret2
      exact ⟨g, cap', rfl, ho, hb⟩

set_option maxHeartbeats 4000000 in
theorem back_any (v v2 : Value) (l : List Int) (base2 : Nat) (w : World) (h : RB w v l) (h2 : OwnB w base2 v2 (l ++ marks 70)) (hl : l.length ≤ LB) :
    Calls Try.prog 14 #[v, v2] w fun e w' => e = .returned (.bool true) ∧ Below w.heap.size w w' := by
  have hL : l.length ≤ 140737488351232 := hl
  obtain ⟨a, cap, rfl, hR⟩ := h
  rcases h2.form with ⟨_, e⟩ | ⟨g', cap', e, _, hg', _, hc', _⟩
  · have := congrArg List.length e; rw [List.length_append, marks_len] at this; simp at this
  rw [List.length_append, marks_len] at e
  subst e
  have HC : Hid ((∀ k x, l[k]? = some x → ∃ g off, a = some ⟨g, off, none⟩ ∧ g < w.heap.size ∧ w.cell? ⟨g, off + k, none⟩ = some (.int .u8 x)) ∧ ∀ i x, (l ++ marks 70)[i]? = some x → w.cell? ⟨g', i, none⟩ = some (.int .u8 x)) := ⟨fun k x hx => by
    rcases hR with rfl | ⟨g, off, e, hg, hc⟩
    · simp at hx
    · exact ⟨g, off, e, hg, hc k x hx⟩, hc'⟩
  clear hc' h2 hR hl
  go_enter Try.func14, Try.ntmps14
  go_wp2
  go_loopw [5] (fun i wr => ∃ k : Nat, k ≤ l.length + 70 ∧ i = .int .i64 k ∧ Below w.heap.size w wr) (fun i _ => l.length + 70 - (intOf i).toNat)
  case atStart => exact ⟨0, Nat.zero_le _, rfl, Below.refl _ _⟩
  case round =>
    obtain ⟨k, hk, rfl, hb⟩ := hrel
    by_cases hlt : k < l.length + 70
    · have hki : (k : Int) < (l.length : Int) + 70 := by omega
      by_cases hkl : k < l.length
      · obtain ⟨x, hx⟩ : ∃ x, l[k]? = some x := ⟨_, List.getElem?_eq_getElem hkl⟩
        obtain ⟨g, off, rfl, hg, c1⟩ := HC.out.1 k x hx
        have d1 := (hb.cell (p := ⟨g, off + k, none⟩) hg).trans c1
        have d2 := (hb.cell (p := ⟨g', k, none⟩) hg').trans (HC.out.2 k x (by rw [List.getElem?_append_left hkl]; exact hx))
        have b1 : decide ((k : Int) < (l.length : Int)) = true := decide_eq_true (by omega)
        have b2 : decide (l.length ≤ k) = false := decide_eq_false (by omega)
        clear hx c1
        go_wp2
        go_quiet (fail)
        go_wp2
        go_roundw
        case rel => exact ⟨k + 1, by omega, by go_num, below_drewN hb _⟩
        case measure => simp [intOf]; omega
      · have d2 := (hb.cell (p := ⟨g', k, none⟩) hg').trans (HC.out.2 k (101 + (k : Int) - (l.length : Int)) (by rw [List.getElem?_append_right (by omega), marks_get _ _ (by omega)]; unfold mk; congr 1; omega))
        have b1 : decide ((k : Int) < (l.length : Int)) = false := decide_eq_false (by omega)
        have b2 : decide (l.length ≤ k) = true := decide_eq_true (by omega)
        have hkl' : (l.length : Int) ≤ (k : Int) := by omega
        go_wp2
        go_quiet (fail)
        go_wp2
        go_roundw
        case rel => exact ⟨k + 1, by omega, by go_num, below_drewN hb _⟩
        case measure => simp [intOf]; omega
    · have hkl : k = l.length + 70 := by omega
      subst hkl
      go_wp2
      go_ret
      exact ⟨rfl, hb⟩
end
section
open Go.ChangeShapes Go.WideShapes Go.ChangeAt Go.RowKit Go.Joins

set_option maxRecDepth 100000 in
/-- a message as plain data, by value -/
theorem mm_of {H : Type} {enc : TypeId × Value → H} {W : World} {r : Reach} {b0 : Nat} {v : Value} {d : DataW H} {ps : List MemPlace} (hv : Value.okWide Try.prog W r b0 54 v) (h : DataW.Trod enc Try.prog W 0 (fun _ => true) true 54 v d ps) (hw : ∀ n ∈ d.weights Try.prog 54, n ≤ reachBytes) : ∃ m : Mm, v = .agg m.arr ∧ ArgM W m := by
  obtain ⟨cs, rfl, hsz⟩ := okWide_struct Try.underlying54 hv
  obtain ⟨fuel, hf0⟩ := h
  obtain ⟨xs, n, _, hx, hl, hlen, hf⟩ := DataW.trod_struct Try.underlying54 hf0
  rw [Try.cellsMm] at hl
  have e : (Value.agg cs).cells.toList = cs.toList := rfl
  rw [e] at hl hf
  obtain ⟨c0, c1, c2, c3, c4, c5, c6, c7, c8, c9, c10, c11, c12, c13, c14, c15, c16, hcs⟩ := seventeen hl
  obtain ⟨y0, y1, y2, y3, y4, y5, y6, y7, y8, y9, y10, rfl⟩ := eleven (l := xs) (by simpa using hlen)
  rw [hcs] at hf
  have h0 : DataW.trod enc Try.prog W 0 (fun _ => true) true n 3 (([c0, c1, c2, c3, c4, c5, c6, c7, c8, c9, c10, c11, c12, c13, c14, c15, c16].drop 0).take (Try.prog.cellsOf 3)) = some y0 := hf 0 _ rfl
  have h1 : DataW.trod enc Try.prog W 0 (fun _ => true) true n 3 (([c0, c1, c2, c3, c4, c5, c6, c7, c8, c9, c10, c11, c12, c13, c14, c15, c16].drop 1).take (Try.prog.cellsOf 3)) = some y1 := hf 1 _ rfl
  have h2 : DataW.trod enc Try.prog W 0 (fun _ => true) true n 3 (([c0, c1, c2, c3, c4, c5, c6, c7, c8, c9, c10, c11, c12, c13, c14, c15, c16].drop 2).take (Try.prog.cellsOf 3)) = some y2 := hf 2 _ rfl
  have h3 : DataW.trod enc Try.prog W 0 (fun _ => true) true n 3 (([c0, c1, c2, c3, c4, c5, c6, c7, c8, c9, c10, c11, c12, c13, c14, c15, c16].drop 3).take (Try.prog.cellsOf 3)) = some y3 := hf 3 _ rfl
  have h4 : DataW.trod enc Try.prog W 0 (fun _ => true) true n 3 (([c0, c1, c2, c3, c4, c5, c6, c7, c8, c9, c10, c11, c12, c13, c14, c15, c16].drop 4).take (Try.prog.cellsOf 3)) = some y4 := hf 4 _ rfl
  have h5 : DataW.trod enc Try.prog W 0 (fun _ => true) true n 3 (([c0, c1, c2, c3, c4, c5, c6, c7, c8, c9, c10, c11, c12, c13, c14, c15, c16].drop 5).take (Try.prog.cellsOf 3)) = some y5 := hf 5 _ rfl
  have h6 : DataW.trod enc Try.prog W 0 (fun _ => true) true n 3 (([c0, c1, c2, c3, c4, c5, c6, c7, c8, c9, c10, c11, c12, c13, c14, c15, c16].drop 6).take (Try.prog.cellsOf 3)) = some y6 := hf 6 _ rfl
  have h7 : DataW.trod enc Try.prog W 0 (fun _ => true) true n 3 (([c0, c1, c2, c3, c4, c5, c6, c7, c8, c9, c10, c11, c12, c13, c14, c15, c16].drop 7).take (Try.prog.cellsOf 3)) = some y7 := hf 7 _ rfl
  have h8 : DataW.trod enc Try.prog W 0 (fun _ => true) true n 26 (([c0, c1, c2, c3, c4, c5, c6, c7, c8, c9, c10, c11, c12, c13, c14, c15, c16].drop 8).take (Try.prog.cellsOf 26)) = some y8 := hf 8 _ rfl
  have h9 : DataW.trod enc Try.prog W 0 (fun _ => true) true n 27 (([c0, c1, c2, c3, c4, c5, c6, c7, c8, c9, c10, c11, c12, c13, c14, c15, c16].drop 15).take (Try.prog.cellsOf 27)) = some y9 := hf 9 _ rfl
  have h10 : DataW.trod enc Try.prog W 0 (fun _ => true) true n 28 (([c0, c1, c2, c3, c4, c5, c6, c7, c8, c9, c10, c11, c12, c13, c14, c15, c16].drop 16).take (Try.prog.cellsOf 28)) = some y10 := hf 10 _ rfl
  rw [Try.cellsWord] at h0 h1 h2 h3 h4 h5 h6 h7
  rw [Try.cellsOpn] at h8
  rw [Try.cellsSlE] at h9
  rw [Try.cellsSlK] at h10
  obtain ⟨p0, e0, _, _⟩ := DataW.trod_int Try.underlying3 h0
  obtain ⟨p1, e1, _, _⟩ := DataW.trod_int Try.underlying3 h1
  obtain ⟨p2, e2, _, _⟩ := DataW.trod_int Try.underlying3 h2
  obtain ⟨p3, e3, _, _⟩ := DataW.trod_int Try.underlying3 h3
  obtain ⟨p4, e4, _, _⟩ := DataW.trod_int Try.underlying3 h4
  obtain ⟨p5, e5, _, _⟩ := DataW.trod_int Try.underlying3 h5
  obtain ⟨p6, e6, _, _⟩ := DataW.trod_int Try.underlying3 h6
  obtain ⟨p7, e7, _, _⟩ := DataW.trod_int Try.underlying3 h7
  obtain ⟨q, e8⟩ := op_of h8
  simp [Opn.arr] at e0 e1 e2 e3 e4 e5 e6 e7 e8
  simp only [Prod.mk.injEq] at hx
  rw [hx.1] at hw
  obtain ⟨es, hes⟩ := argE_of (v := c15) (x := y9) (by simpa using h9) (fun n hn => hw n (by
    simp only [DataW.weights, Try.underlying54]
    exact DataW.weights_mem_each (j := 9) rfl rfl n hn))
  obtain ⟨ks, hks⟩ := argK_of (v := c16) (x := y10) (by simpa using h10) (fun n hn => hw n (by
    simp only [DataW.weights, Try.underlying54]
    exact DataW.weights_mem_each (j := 10) rfl rfl n hn))
  refine ⟨⟨p0, p1, p2, p3, p4, p5, p6, p7, q, c15, c16, es, ks⟩, ?_, hes, hks⟩
  obtain ⟨f0, f1, f2, f3, f4, f5, f6⟩ := e8
  have : cs.toList = (Mm.arr ⟨p0, p1, p2, p3, p4, p5, p6, p7, q, c15, c16, es, ks⟩).toList := by
    rw [hcs, e0, e1, e2, e3, e4, e5, e6, e7, f0, f1, f2, f3, f4, f5, f6]; rfl
  rw [Array.toList_inj.1 this]
end
end Go.Proofs.Ytekonakanieeaaa
