/- Scripts of the laws among the arguments. -/
import Derived.Test.YtnklhdoiggomkaaJTSes27
import Derived.Test.YtnklhdoiggomkaaJTSes25
namespace Go.Proofs.Ytnklhdoiggomkaa
section
open Go.ChangeShapes Go.WideShapes Go.ChangeAt Go.RowKit Go.Joins

theorem Try.cellsTo : Try.prog.cellsOf 38 = 19 := by kernel_rfl
theorem Try.bytesTo : Try.prog.bytesOf 38 = 208 := by kernel_rfl
/-- a call of a script -/
structure TOp where
  ask : Bool
  seq : Int
  m : Mm
def TOp.vals (x : TOp) : List Value := .bool x.ask :: .int .i64 x.seq :: x.m.arr.toList
def TOp.arr (x : TOp) : Array Value := x.vals.toArray
def TOp.wf (x : TOp) : Prop := (Lit.int .i64 x.m.ep).wf = true ∧ (Lit.int .i64 x.m.nb).wf = true
/-- a script that came in -/
def RowT (w : World) (a : Option Addr) (ops : List TOp) : Prop := ops = [] ∨ ∃ b off, a = some ⟨b, off, none⟩ ∧ b < w.heap.size ∧ ∀ i x, ops[i]? = some x → (∀ j u, x.vals[j]? = some u → w.cell? ⟨b, off + i * 19 + j, none⟩ = some u) ∧ ArgM w x.m ∧ x.wf
theorem RowT.below {w w' : World} {a : Option Addr} {ops : List TOp} (h : RowT w a ops) (hb : Below w.heap.size w w') : RowT w' a ops := by
  rcases h with h | ⟨b, off, rfl, hs, hc⟩
  · exact .inl h
  · exact .inr ⟨b, off, rfl, Nat.lt_of_lt_of_le hs hb.size, fun i x hx => ⟨fun j u hu => (hb.cell (p := ⟨b, off + i * 19 + j, none⟩) hs).trans ((hc i x hx).1 j u hu), (hc i x hx).2.1.below hb, (hc i x hx).2.2⟩⟩
/-- one of a script's calls -/
theorem RowT.get {w : World} {a : Option Addr} {ops : List TOp} (h : RowT w a ops) {i : Nat} (hi : i < ops.length) : ∃ b off x, a = some ⟨b, off, none⟩ ∧ ops[i]? = some x ∧ (∀ j u, x.vals[j]? = some u → w.cell? ⟨b, off + i * 19 + j, none⟩ = some u) ∧ ArgM w x.m ∧ x.wf := by
  rcases h with h | ⟨b, off, rfl, hs, hc⟩
  · subst h; simp at hi
  · exact ⟨b, off, ops[i], rfl, List.getElem?_eq_getElem hi, hc i _ (List.getElem?_eq_getElem hi)⟩
theorem weights_elems {H : Type} {P : Program} {t e : TypeId} {elems spare : List (DataW H)} (hu : P.underlying t = some (.slice e)) (h : ∀ n ∈ (DataW.slice elems spare).weights P t, n ≤ reachBytes) : ∀ d ∈ elems, ∀ n ∈ d.weights P e, n ≤ reachBytes := by
  simp only [DataW.weights, hu] at h
  exact fun d hd n hn => h n (List.mem_cons_of_mem _ (List.mem_append_left _ (weightsAll_mem hd hn)))
section
variable {H : Type} {enc : TypeId × Value → H} {W : World}
set_option maxRecDepth 100000 in
theorem mmF_of {fuel : Nat} {cs : List Value} {x : DataW H × List MemPlace} (h : DataW.trod enc Try.prog W 0 (fun _ => true) true fuel 36 cs = some x) (hw : ∀ n ∈ x.1.weights Try.prog 36, n ≤ reachBytes) : ∃ m : Mm, cs = m.arr.toList ∧ ArgM W m ∧ (Lit.int .i64 m.ep).wf = true ∧ (Lit.int .i64 m.nb).wf = true := by
  obtain ⟨xs, n, _, rfl, hl, hlen, hf⟩ := DataW.trod_struct Try.underlying36 h
  rw [Try.cellsMm] at hl
  obtain ⟨c0, c1, c2, c3, c4, c5, c6, c7, c8, c9, c10, c11, c12, c13, c14, c15, c16, rfl⟩ := seventeen hl
  obtain ⟨y0, y1, y2, y3, y4, y5, y6, y7, y8, y9, y10, rfl⟩ := eleven (l := xs) (by simpa using hlen)
  have h0 : DataW.trod enc Try.prog W 0 (fun _ => true) true n 3 (([c0, c1, c2, c3, c4, c5, c6, c7, c8, c9, c10, c11, c12, c13, c14, c15, c16].drop 0).take (Try.prog.cellsOf 3)) = some y0 := hf 0 _ rfl
  have h1 : DataW.trod enc Try.prog W 0 (fun _ => true) true n 3 (([c0, c1, c2, c3, c4, c5, c6, c7, c8, c9, c10, c11, c12, c13, c14, c15, c16].drop 1).take (Try.prog.cellsOf 3)) = some y1 := hf 1 _ rfl
  have h2 : DataW.trod enc Try.prog W 0 (fun _ => true) true n 3 (([c0, c1, c2, c3, c4, c5, c6, c7, c8, c9, c10, c11, c12, c13, c14, c15, c16].drop 2).take (Try.prog.cellsOf 3)) = some y2 := hf 2 _ rfl
  have h3 : DataW.trod enc Try.prog W 0 (fun _ => true) true n 3 (([c0, c1, c2, c3, c4, c5, c6, c7, c8, c9, c10, c11, c12, c13, c14, c15, c16].drop 3).take (Try.prog.cellsOf 3)) = some y3 := hf 3 _ rfl
  have h4 : DataW.trod enc Try.prog W 0 (fun _ => true) true n 3 (([c0, c1, c2, c3, c4, c5, c6, c7, c8, c9, c10, c11, c12, c13, c14, c15, c16].drop 4).take (Try.prog.cellsOf 3)) = some y4 := hf 4 _ rfl
  have h5 : DataW.trod enc Try.prog W 0 (fun _ => true) true n 3 (([c0, c1, c2, c3, c4, c5, c6, c7, c8, c9, c10, c11, c12, c13, c14, c15, c16].drop 5).take (Try.prog.cellsOf 3)) = some y5 := hf 5 _ rfl
  have h6 : DataW.trod enc Try.prog W 0 (fun _ => true) true n 3 (([c0, c1, c2, c3, c4, c5, c6, c7, c8, c9, c10, c11, c12, c13, c14, c15, c16].drop 6).take (Try.prog.cellsOf 3)) = some y6 := hf 6 _ rfl
  have h7 : DataW.trod enc Try.prog W 0 (fun _ => true) true n 3 (([c0, c1, c2, c3, c4, c5, c6, c7, c8, c9, c10, c11, c12, c13, c14, c15, c16].drop 7).take (Try.prog.cellsOf 3)) = some y7 := hf 7 _ rfl
  have h8 : DataW.trod enc Try.prog W 0 (fun _ => true) true n 32 (([c0, c1, c2, c3, c4, c5, c6, c7, c8, c9, c10, c11, c12, c13, c14, c15, c16].drop 8).take (Try.prog.cellsOf 32)) = some y8 := hf 8 _ rfl
  have h9 : DataW.trod enc Try.prog W 0 (fun _ => true) true n 33 (([c0, c1, c2, c3, c4, c5, c6, c7, c8, c9, c10, c11, c12, c13, c14, c15, c16].drop 15).take (Try.prog.cellsOf 33)) = some y9 := hf 9 _ rfl
  have h10 : DataW.trod enc Try.prog W 0 (fun _ => true) true n 34 (([c0, c1, c2, c3, c4, c5, c6, c7, c8, c9, c10, c11, c12, c13, c14, c15, c16].drop 16).take (Try.prog.cellsOf 34)) = some y10 := hf 10 _ rfl
  rw [Try.cellsWord] at h0 h1 h2 h3 h4 h5 h6 h7
  rw [Try.cellsOpn] at h8
  rw [Try.cellsSlE] at h9
  rw [Try.cellsSlK] at h10
  obtain ⟨p0, e0, _, _⟩ := DataW.trod_int Try.underlying3 h0
  obtain ⟨p1, e1, _, _⟩ := DataW.trod_int Try.underlying3 h1
  obtain ⟨p2, e2, _, _⟩ := DataW.trod_int Try.underlying3 h2
  obtain ⟨p3, e3, _, _⟩ := DataW.trod_int Try.underlying3 h3
  obtain ⟨p4, e4, _, w4⟩ := DataW.trod_int Try.underlying3 h4
  obtain ⟨p5, e5, _, w5⟩ := DataW.trod_int Try.underlying3 h5
  obtain ⟨p6, e6, _, _⟩ := DataW.trod_int Try.underlying3 h6
  obtain ⟨p7, e7, _, _⟩ := DataW.trod_int Try.underlying3 h7
  obtain ⟨q, e8⟩ := op_of h8
  simp [Opn.arr] at e0 e1 e2 e3 e4 e5 e6 e7 e8
  obtain ⟨es, hes⟩ := argE_of (v := c15) (x := y9) (by simpa using h9) (fun n hn => hw n (by
    simp only [DataW.weights, Try.underlying36]
    exact DataW.weights_mem_each (j := 9) rfl rfl n hn))
  obtain ⟨ks, hks⟩ := argK_of (v := c16) (x := y10) (by simpa using h10) (fun n hn => hw n (by
    simp only [DataW.weights, Try.underlying36]
    exact DataW.weights_mem_each (j := 10) rfl rfl n hn))
  refine ⟨⟨p0, p1, p2, p3, p4, p5, p6, p7, q, c15, c16, es, ks⟩, ?_, ⟨hes, hks⟩, w4, w5⟩
  obtain ⟨f0, f1, f2, f3, f4, f5, f6⟩ := e8
  rw [e0, e1, e2, e3, e4, e5, e6, e7, f0, f1, f2, f3, f4, f5, f6]; rfl
theorem top_of {fuel : Nat} {cs : List Value} {x : DataW H × List MemPlace} (h : DataW.trod enc Try.prog W 0 (fun _ => true) true fuel 38 cs = some x) (hw : ∀ n ∈ x.1.weights Try.prog 38, n ≤ reachBytes) : ∃ p : TOp, cs = p.vals ∧ ArgM W p.m ∧ p.wf := by
  obtain ⟨xs, n, _, rfl, hl, hlen, hf⟩ := DataW.trod_struct Try.underlying38 h
  rw [Try.cellsTo] at hl
  obtain ⟨c0, c1, cs', rfl⟩ : ∃ c0 c1 cs', cs = c0 :: c1 :: cs' := by
    cases cs with
    | nil => simp at hl
    | cons c0 cs =>
      cases cs with
      | nil => simp at hl
      | cons c1 cs' => exact ⟨c0, c1, cs', rfl⟩
  obtain ⟨y0, y1, y2, rfl⟩ := three (l := xs) (by simpa using hlen)
  have h0 : DataW.trod enc Try.prog W 0 (fun _ => true) true n 4 (((c0 :: c1 :: cs').drop 0).take (Try.prog.cellsOf 4)) = some y0 := hf 0 _ rfl
  have h1 : DataW.trod enc Try.prog W 0 (fun _ => true) true n 3 (((c0 :: c1 :: cs').drop 1).take (Try.prog.cellsOf 3)) = some y1 := hf 1 _ rfl
  have h2 : DataW.trod enc Try.prog W 0 (fun _ => true) true n 36 (((c0 :: c1 :: cs').drop 2).take (Try.prog.cellsOf 36)) = some y2 := hf 2 _ rfl
  rw [Try.cellsYes] at h0
  rw [Try.cellsWord] at h1
  rw [Try.cellsMm] at h2
  obtain ⟨p0, e0, _⟩ := DataW.trod_bool Try.underlying4 h0
  obtain ⟨p1, e1, _, _⟩ := DataW.trod_int Try.underlying3 h1
  simp at e0 e1
  have hl' : cs'.length = 17 := by simpa using hl
  have e2 : (((c0 :: c1 :: cs').drop 2).take 17) = cs' := by
    rw [List.drop_succ_cons, List.drop_succ_cons, List.drop_zero, List.take_of_length_le (by omega)]
  rw [e2] at h2
  obtain ⟨m, rfl, hm, we, wn⟩ := mmF_of h2 (fun n hn => hw n (by
    simp only [DataW.weights, Try.underlying38]
    exact DataW.weights_mem_each (j := 2) rfl rfl n hn))
  subst e0 e1
  exact ⟨⟨p0, p1, m⟩, rfl, hm, we, wn⟩
theorem rowT_of {a : Option Addr} {len cap : Nat} {d : DataW H} {ps : List MemPlace} (h : DataW.Trod enc Try.prog W 0 (fun _ => true) true 22 (.slice a len cap) d ps) (hw : ∀ n ∈ d.weights Try.prog 22, n ≤ reachBytes) :
    ∃ ops : List TOp, ops.length = len ∧ RowT W a ops ∧ len ≤ 3000000000000 := by
  obtain ⟨fuel, hf⟩ := h
  rcases Go.Deep.open_slice Try.underlying22 hf with ⟨hcs, hx⟩ | ⟨a', len', cap', m, n, D, Pl, hcs, hb, hl, hm, hmm, hx, hel⟩
  · simp [Value.cells] at hcs
    obtain ⟨rfl, rfl, rfl⟩ := hcs
    exact ⟨[], rfl, .inl rfl, by omega⟩
  · simp [Value.cells] at hcs
    obtain ⟨rfl, rfl, rfl⟩ := hcs
    simp only [if_true] at hmm
    subst hmm
    simp only [Prod.mk.injEq] at hx
    obtain ⟨rfl, -⟩ := hx
    have w1 := weights_slice Try.underlying22 hw
    have w2 := weights_elems Try.underlying22 hw
    rw [Try.bytesTo] at w1
    simp [reachBytes] at w1
    by_cases h0 : len = 0
    · exact ⟨[], h0.symm, .inl rfl, by omega⟩
    have key : ∀ i, i < len → ∃ o : TOp, (∀ r u, o.vals[r]? = some u → W.cell? ((a'.add (i * 19)).add r) = some u) ∧ ArgM W o.m ∧ o.wf := by
      intro i hi
      obtain ⟨cs', hc, ht⟩ := hel i (by omega)
      rw [Try.cellsTo] at hc
      obtain ⟨_, hlen, hget⟩ := World.cells?_some hc
      obtain ⟨o, rfl, hk, ho⟩ := top_of ht (w2 (D i) (List.mem_map.2 ⟨i, List.mem_range.2 hi, rfl⟩))
      refine ⟨o, fun r u hu => ?_, hk, ho⟩
      have hr : r < 19 := by have := (List.getElem?_eq_some_iff.1 hu).1; rw [hlen] at this; exact this
      have := hget r (by omega)
      rw [hu] at this
      exact this
    have iO : Inhabited TOp := ⟨⟨false, 0, ⟨0, 0, 0, 0, 0, 0, 0, 0, ⟨0, 0, ⟨#[]⟩, 0, ⟨#[]⟩, 0, ⟨#[]⟩⟩, .slice none 0 0, .slice none 0 0, [], []⟩⟩⟩
    obtain ⟨X, hX⟩ := Go.Deep.choose_lt (α := TOp) key
    obtain ⟨b, off, spot⟩ := a'
    have hc0 := (hX 0 (by omega)).1 0 _ rfl
    have hs := World.cell?_spot hc0
    have hspot : spot = none := by simpa [Addr.add] using hs
    subst hspot
    refine ⟨(List.range len).map X, by simp, .inr ⟨b, off, rfl, cellLt hc0, fun i o ho => ?_⟩, by omega⟩
    have hi : i < len := by have := (List.getElem?_eq_some_iff.1 ho).1; simpa using this
    rw [List.getElem?_map, List.getElem?_range hi] at ho
    cases ho
    refine ⟨fun j u hu => ?_, (hX i hi).2⟩
    have := (hX i hi).1 j u hu
    rw [add_plain', add_plain'] at this
    exact this
end
/-- a message as plain data loaded whole, shut -/
theorem Try.sizeMmm : (Try.prog.info? 36).map (·.size) = some 17 := by kernel_rfl
def mmLd (v : Value) : Sem Value := Instr.loadAt 36 v
theorem loadMm (v : Value) : Instr.loadAt 36 v = mmLd v := rfl
theorem mmLd_at {w : World} {g o : Nat} {cs : Array Value} (h : ∀ j v, cs[j]? = some v → w.cell? ⟨g, o + j, none⟩ = some v) (hs : cs.size = 17) : (mmLd (.pointer (some ⟨g, o, none⟩))).run Try.prog w = .ok (.agg cs) w := by
  have := run_loadAt_mid (P := Try.prog) w g o 36 cs.toList _ (fun j v hv => h j v (by rw [← Array.getElem?_toList]; exact hv)) Try.underlying36 rfl (by rw [Array.length_toList, hs]; exact Try.sizeMmm)
  unfold mmLd
  rw [this, Array.toArray_toList]
theorem mmLd_of {w : World} {g : Nat} {cs : Array Value} {t : TypeId} {fr : Nat × Nat} (h : w.heap[g]? = some (.cells cs t fr)) (hs : cs.size = 17) : (mmLd (.pointer (some ⟨g, 0, none⟩))).run Try.prog w = .ok (.agg cs) w := by
  unfold mmLd Instr.loadAt Instr.sureAddr
  simp [run_loadVar_row w g t 36 cs fr _ h Try.underlying36 rfl (by rw [hs]; exact Try.sizeMmm)]
attribute [irreducible] mmLd
def mmSt (a v : Value) : Sem Unit := Instr.storeAt 36 a v
theorem storeMm (a v : Value) : Instr.storeAt 36 a v = mmSt a v := rfl
theorem mmSt_of {w W : World} {g : Nat} {old cs : Array Value} {t : TypeId} (h : w.heap[g]? = some (.cells old t (0, 0))) (ho : old.size = 17) (hs : cs.size = 17) (h1 : cs.all (·.oneCell') = true) (hW : w.setRow g cs = W) : (mmSt (.pointer (some ⟨g, 0, none⟩)) (.agg cs)).run Try.prog w = .ok () W := by
  subst hW
  unfold mmSt Instr.storeAt Instr.sureAddr
  simp [run_storeVar_row w g t 36 old cs h (by rw [hs]; exact Try.sizeMmm) (by rw [ho, hs]) h1]
attribute [irreducible] mmSt
theorem Mm.size (m : Mm) : m.arr.size = 17 := rfl
theorem RowT.msg {w : World} {b off i : Nat} {x : TOp} (h : ∀ j u, x.vals[j]? = some u → w.cell? ⟨b, off + i * 19 + j, none⟩ = some u) : (mmLd (.pointer (some ⟨b, off + i * 19 + 2, none⟩))).run Try.prog w = .ok (.agg x.m.arr) w :=
  mmLd_at (fun j v hv => by
    have := h (j + 2) v (by unfold TOp.vals; rw [List.getElem?_cons_succ, List.getElem?_cons_succ, Array.getElem?_toList]; exact hv)
    rw [show off + i * 19 + (j + 2) = off + i * 19 + 2 + j by omega] at this; exact this) x.m.size
end
section
open Go.RowKit Go.Shelf

/-- what stays, and what only rises -/
structure Rise (S S' : Ts) : Prop where
  cl : S'.client = S.client
  li : S'.life = S.life
  ho : S'.hold = S.hold
  up : S.e < S'.e ∨ (S'.e = S.e ∧ S.n ≤ S'.n)
  ve : S.ver ≤ S'.ver
  he : S.held.length ≤ S.hold → S'.held.length ≤ S.hold
  ak : S.asked = 0 → S'.asked = 0
theorem Rise.refl (S : Ts) : Rise S S := ⟨rfl, rfl, rfl, .inr ⟨rfl, Int.le_refl _⟩, Int.le_refl _, id, id⟩
theorem Rise.trans {A B C : Ts} (h : Rise A B) (k : Rise B C) : Rise A C := by
  refine ⟨k.cl.trans h.cl, k.li.trans h.li, k.ho.trans h.ho, ?_, Int.le_trans h.ve k.ve, fun x => ?_, fun x => k.ak (h.ak x)⟩
  · rcases h.up with a | ⟨a, b⟩ <;> rcases k.up with c | ⟨c, d⟩
    · left; omega
    · left; omega
    · left; omega
    · right; exact ⟨by omega, by omega⟩
  · have := k.he (by rw [h.ho]; exact h.he x)
    rw [h.ho] at this; exact this
theorem rise_meet (S : Ts) (m : Pm) : Rise S (S.meet m).1 := by
  unfold Ts.meet
  by_cases h2 : m.kind = 2
  · rw [if_pos h2]
    by_cases ha : S.asks m.seq = true
    · rw [if_pos ha]
      have hq : S.asked ≠ 0 := by
        unfold Ts.asks at ha
        have := of_decide_eq_true ha
        omega
      by_cases h0 : S.ahead m = 0
      · rw [if_pos h0]
        unfold Ts.used Ts.newer
        by_cases h7 : m.err = 70
        · rw [if_pos h7]; exact ⟨rfl, rfl, rfl, .inr ⟨rfl, Int.le_refl _⟩, by show S.ver ≤ max S.ver m.vers; omega, id, fun x => absurd x hq⟩
        · rw [if_neg h7]; exact ⟨rfl, rfl, rfl, .inr ⟨rfl, Int.le_refl _⟩, by show S.ver ≤ max S.ver m.vers; omega, id, fun _ => rfl⟩
      · rw [if_neg h0]
        unfold Ts.holds
        split
        · rename_i hh
          exact ⟨rfl, rfl, rfl, .inr ⟨rfl, Int.le_refl _⟩, Int.le_refl _, fun _ => by show (S.held ++ [m]).length ≤ S.hold; rw [List.length_append, List.length_singleton]; exact hh.1, id⟩
        · exact Rise.refl S
    · rw [if_neg ha]; exact Rise.refl S
  · rw [if_neg h2]
    by_cases h0 : S.ahead m = 0
    · rw [if_pos h0]; exact Rise.refl S
    · rw [if_neg h0]
      split
      · refine ⟨rfl, rfl, rfl, .inr ⟨rfl, ?_⟩, by show S.ver ≤ max S.ver m.vers; omega, id, id⟩
        show S.n ≤ m.num
        unfold Ts.ahead at h0
        by_cases hn : S.n ≤ m.num
        · exact hn
        · rw [if_neg hn] at h0; exact absurd rfl h0
      · unfold Ts.holds
        split
        · rename_i hh
          exact ⟨rfl, rfl, rfl, .inr ⟨rfl, Int.le_refl _⟩, Int.le_refl _, fun _ => by show (S.held ++ [m]).length ≤ S.hold; rw [List.length_append, List.length_singleton]; exact hh.1, id⟩
        · exact Rise.refl S
theorem rise_without (S : Ts) (i : Nat) : Rise S (S.without i) := ⟨rfl, rfl, rfl, .inr ⟨rfl, Int.le_refl _⟩, Int.le_refl _, fun h => Nat.le_trans (List.length_eraseIdx_le _ _) h, id⟩
theorem rise_settle : ∀ (f : Nat) (S : Ts), Rise S (Ts.settleF f S).1
  | 0, S => Rise.refl S
  | f + 1, S => by
    unfold Ts.settleF
    cases hd : S.due with
    | none => exact Rise.refl S
    | some i =>
      simp only []
      cases hm : S.held[i]? with
      | none => exact Rise.refl S
      | some m => exact ((rise_without S i).trans (rise_meet _ m)).trans (rise_settle f _)
theorem rise_take (S : Ts) (m : Pm) : Rise S (S.take m).1 := by
  unfold Ts.take
  by_cases hc : S.counts m = true
  · rw [if_pos hc]
    have h1 : Rise S (S.begun m) := by
      unfold Ts.begun
      by_cases he : S.e < m.ep
      · rw [if_pos he]; exact ⟨rfl, rfl, rfl, .inl he, Int.le_refl _, fun _ => Nat.zero_le _, id⟩
      · rw [if_neg he]; exact Rise.refl S
    exact (h1.trans (rise_meet _ m)).trans (rise_settle _ _)
  · rw [if_neg hc]; exact Rise.refl S
theorem rise_ask (S : Ts) (q : Int) : (S.ask q).client = S.client ∧ (S.ask q).life = S.life ∧ (S.ask q).hold = S.hold ∧ (S.ask q).e = S.e ∧ (S.ask q).n = S.n ∧ (S.ask q).ver = S.ver ∧ ((S.ask q).held.length ≤ S.held.length) := ⟨rfl, rfl, rfl, rfl, rfl, rfl, List.length_filter_le _ _⟩
/-- a message that does not count turns nothing -/
theorem take_strange {S : Ts} {m : Pm} (h : S.counts m = false) : S.take m = (S, []) := by
  unfold Ts.take
  rw [if_neg (by rw [h]; simp)]
/-- the first one of a later epoch, while nothing is asked -/
theorem take_later {S : Ts} {m : Pm} (hk : m.kind = 2) (hc : m.client = S.client) (hl : m.life = S.life) (hm : Mk m.re m.im (S.e + 1) 0) (ha : S.asked = 0) : S.take m = (⟨S.client, S.life, S.e + 1, 0, S.ver, 0, [], [], S.hold⟩, [allA]) := by
  have hep : m.ep = S.e + 1 := hm.pa
  have hcn : S.counts m = true := by
    unfold Ts.counts
    rw [hep, hm.good, hk, hc, hl]
    simp
    omega
  have hb : S.begun m = ⟨S.client, S.life, S.e + 1, 0, S.ver, 0, [], [], S.hold⟩ := by
    unfold Ts.begun Ts.restart
    rw [hep, if_pos (by omega), ha]
  have hbA : S.begunA m = [allA] := by
    unfold Ts.begunA
    rw [hep, if_pos (by omega)]
  have hmt : (⟨S.client, S.life, S.e + 1, 0, S.ver, 0, [], [], S.hold⟩ : Ts).meet m = (⟨S.client, S.life, S.e + 1, 0, S.ver, 0, [], [], S.hold⟩, []) := by
    unfold Ts.meet
    rw [if_pos hk, if_neg (by unfold Ts.asks; simp; omega)]
  unfold Ts.take
  rw [if_pos hcn, hb, hbA, hmt]
  simp only []
  rw [Ts.settle_none rfl]; rfl
/-- a law's mark -/
theorem Lt.marke {w W : World} {t : Nat} {S : Ts} {F : Nat → Prop} (r : Lt w W t S F) : ∃ x y, Mk x y S.e S.n ∧ Op.floatEq .f64 x (floatOfInt .f64 S.e) = true ∧ Op.floatEq .f64 y (floatOfInt .f64 S.n) = true ∧ Calls Try.prog 19 #[.pointer (some ⟨t, 0, none⟩)] W fun e w' => e = .returned (.complex .f64 x y) ∧ W = w' := by
  obtain ⟨x, y, hmk, hc⟩ := lt_mark r
  have k : Mk (floatOfInt .f64 S.e) (floatOfInt .f64 S.n) S.e S.n := Mk.of hmk.e0 hmk.e1 hmk.n0 hmk.n1
  refine ⟨x, y, hmk, ?_, ?_, hc⟩
  · rw [floatEq_whole hmk.ha k.ha]; exact decide_eq_true rfl
  · rw [floatEq_whole hmk.hb k.hb]; exact decide_eq_true rfl
theorem place_b (v : Int) (n : Nat) (w : World) (h : 1 ≤ n) (h2 : n ≤ 1099511627777) :
    Calls Try.prog 28 #[.int .i64 v, .int .i64 n] w fun e w' => e = .returned (.int .i64 (plw v n)) ∧ w = w' := by
  have b1 := Int.tmod_lt_of_pos v (show (0 : Int) < n by omega)
  have b2 := Int.lt_tmod_of_pos v (show (0 : Int) < n by omega)
  by_cases hm : v.tmod n < 0
  · have e : (plw v n : Int) = v.tmod n + n := by unfold plw; rw [if_pos hm]; omega
    rw [e]
    clear e
    go_enter Try.func28, Try.ntmps28
    go_wp2
    go_ret
    exact ⟨rfl, rfl⟩
  · have e : (plw v n : Int) = v.tmod n := by unfold plw; rw [if_neg hm]; omega
    rw [e]
    clear e
    go_enter Try.func28, Try.ntmps28
    go_wp2
    go_ret
    exact ⟨rfl, rfl⟩
end
end Go.Proofs.Ytnklhdoiggomkaa
