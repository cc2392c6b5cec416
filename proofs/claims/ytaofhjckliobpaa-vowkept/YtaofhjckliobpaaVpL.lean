/- What a law writes over: the shape of breaks and keys that were answered. -/
import Derived.Test.YtaofhjckliobpaaVpK
namespace Go.Proofs.Ytaofhjckliobpaa
open Go.RowKit Go.Shelf Go.Sort

/-- keys by their shape alone -/
def Sk (F : Nat → Prop) (w : World) (a : Option Addr) (m : Nat) : Prop := m = 0 ∨ ∃ gk ck, a = some ⟨gk, 0, none⟩ ∧ F gk ∧ w.heap[gk]? = some (.cells ck 36 (0, 0)) ∧ m * 2 ≤ ck.size
/-- breaks by their shape alone: where their keys lie, and how many; F: the blocks -/
structure Sh (F : Nat → Prop) (w : World) (a : Option Addr) (D : List (Option Addr × Nat × Nat)) : Prop where
  row : D = [] ∨ ∃ g cs, a = some ⟨g, 0, none⟩ ∧ F g ∧ w.heap[g]? = some (.cells cs 57 (0, 0)) ∧ D.length * 4 ≤ cs.size ∧ ∀ (k : Nat) x, D[k]? = some x → cs[k * 4 + 3]? = some (.slice x.1 x.2.1 x.2.2)
  each : ∀ x ∈ D, x.2.1 ≤ 10000000000000 ∧ Sk F w x.1 x.2.1
theorem Sk.below {F : Nat → Prop} {w w' : World} {a : Option Addr} {m : Nat} (h : Sk F w a m) (hb : Below w.heap.size w w') : Sk F w' a m := by
  rcases h with h | ⟨gk, ck, h1, h2, h3, h4⟩
  · exact .inl h
  · exact .inr ⟨gk, ck, h1, h2, (hb.block _ (Array.getElem?_eq_some_iff.1 h3).1).trans h3, h4⟩
theorem Sh.below {F : Nat → Prop} {w w' : World} {a : Option Addr} {D : List (Option Addr × Nat × Nat)} (h : Sh F w a D) (hb : Below w.heap.size w w') : Sh F w' a D := by
  refine ⟨?_, fun x hx => ⟨(h.each x hx).1, (h.each x hx).2.below hb⟩⟩
  rcases h.row with h | ⟨g, cs, h1, h2, h3, h4⟩
  · exact .inl h
  · exact .inr ⟨g, cs, h1, h2, (hb.block _ (Array.getElem?_eq_some_iff.1 h3).1).trans h3, h4⟩
theorem Sk.put {F : Nat → Prop} {w : World} {a : Option Addr} {m g o : Nat} {k : Ky} (h : Sk F w a m) : Sk F (put2 w g o k) a m := by
  rcases h with h | ⟨gk, ck, h1, h2, h3, h4⟩
  · exact .inl h
  · by_cases e : gk = g
    · subst e
      exact .inr ⟨gk, _, h1, h2, heap_set (heap_set h3 _ _) _ _, by simpa using h4⟩
    · exact .inr ⟨gk, ck, h1, h2, (heap_set_ne e).trans ((heap_set_ne e).trans h3), h4⟩
theorem Sk.setB {F : Nat → Prop} {w : World} {a : Option Addr} {m g i : Nat} {cs : Array Value} {u : Value} (h : Sk F w a m) (hg : w.heap[g]? = some (.cells cs 57 (0, 0))) : Sk F (w.setCell ⟨g, i, none⟩ u) a m := by
  rcases h with h | ⟨gk, ck, h1, h2, h3, h4⟩
  · exact .inl h
  · have e : gk ≠ g := Tag.ne (w := w) ⟨_, _, h3⟩ ⟨_, _, hg⟩ (by decide)
    exact .inr ⟨gk, ck, h1, h2, (heap_set_ne e).trans h3, h4⟩
/-- a key of one of them written over -/
theorem Sh.key {F : Nat → Prop} {w : World} {a : Option Addr} {D : List (Option Addr × Nat × Nat)} {g o : Nat} {k : Ky} {ck : Array Value} (h : Sh F w a D) (hg : w.heap[g]? = some (.cells ck 36 (0, 0))) : Sh F (put2 w g o k) a D := by
  refine ⟨?_, fun x hx => ⟨(h.each x hx).1, (h.each x hx).2.put⟩⟩
  rcases h.row with h | ⟨g', cs, h1, h2, h3, h4⟩
  · exact .inl h
  · have e : g' ≠ g := Tag.ne (w := w) ⟨_, _, h3⟩ ⟨_, _, hg⟩ (by decide)
    exact .inr ⟨g', cs, h1, h2, (heap_set_ne e).trans ((heap_set_ne e).trans h3), h4⟩
/-- a field of one of them, not its keys, written over -/
theorem Sh.fld {F : Nat → Prop} {w : World} {a : Option Addr} {D : List (Option Addr × Nat × Nat)} {g k r : Nat} {u : Value} (h : Sh F w a D) (ha : a = some ⟨g, 0, none⟩) (hr : r < 3) : Sh F (w.setCell ⟨g, k * 4 + r, none⟩ u) a D := by
  rcases h.row with h0 | ⟨g', cs, h1, h2, h3, h4, h5⟩
  · subst h0; exact ⟨.inl rfl, fun x hx => by cases hx⟩
  · rw [ha] at h1
    cases h1
    refine ⟨.inr ⟨g, _, ha, h2, heap_set h3 _ _, by simpa using h4, fun k' x hx => ?_⟩, fun x hx => ⟨(h.each x hx).1, (h.each x hx).2.setB h3⟩⟩
    rw [Array.getElem?_setIfInBounds_ne (by omega)]
    exact h5 k' x hx
theorem Sh.at {F : Nat → Prop} {w : World} {a : Option Addr} {D : List (Option Addr × Nat × Nat)} {k : Nat} {x : Option Addr × Nat × Nat} (h : Sh F w a D) (hx : D[k]? = some x) :
    ∃ g u0 u1, a = some ⟨g, 0, none⟩ ∧ F g ∧ w.cell? ⟨g, k * 4, none⟩ = some u0 ∧ w.cell? ⟨g, k * 4 + 1, none⟩ = some u1 ∧ w.cell? ⟨g, k * 4 + 3, none⟩ = some (.slice x.1 x.2.1 x.2.2) ∧ (∀ i, w.frozen? ⟨g, i, none⟩ = false) := by
  rcases h.row with h0 | ⟨g, cs, h1, h2, h3, h4, h5⟩
  · subst h0; cases hx
  · have hk := (List.getElem?_eq_some_iff.1 hx).1
    refine ⟨g, cs[k * 4]'(by omega), cs[k * 4 + 1]'(by omega), h1, h2, ?_, ?_, ?_, free_of h3⟩
    · rw [cell_of h3]; exact Array.getElem?_eq_getElem _
    · rw [cell_of h3]; exact Array.getElem?_eq_getElem _
    · rw [cell_of h3]; exact h5 k x hx
theorem Sk.at {F : Nat → Prop} {w : World} {a : Option Addr} {m j : Nat} (h : Sk F w a m) (hj : j < m) :
    ∃ g u0 u1 ck, a = some ⟨g, 0, none⟩ ∧ F g ∧ w.cell? ⟨g, j * 2, none⟩ = some u0 ∧ w.cell? ⟨g, j * 2 + 1, none⟩ = some u1 ∧ (∀ i, w.frozen? ⟨g, i, none⟩ = false) ∧ w.heap[g]? = some (.cells ck 36 (0, 0)) := by
  rcases h with h0 | ⟨g, ck, h1, h2, h3, h4⟩
  · omega
  · refine ⟨g, ck[j * 2]'(by omega), ck[j * 2 + 1]'(by omega), ck, h1, h2, ?_, ?_, free_of h3, h3⟩
    · rw [cell_of h3]; exact Array.getElem?_eq_getElem _
    · rw [cell_of h3]; exact Array.getElem?_eq_getElem _
theorem Sk.of {F : Nat → Prop} {w : World} {base n cap : Nat} {a : Option Addr} {ks : List Ky} (h : RowK w base (.slice a n cap) ks) (hF : ∀ k, base ≤ k → k < w.heap.size → F k) : n = ks.length ∧ Sk F w a n := by
  rcases h.2 with ⟨e, e2⟩ | ⟨g, cap', cur, e, h1, h2, h3, h4, h5, -⟩
  · cases e; exact ⟨e2.symm, .inl rfl⟩
  · cases e
    refine ⟨rfl, .inr ⟨g, cur, rfl, hF g h1 (Array.getElem?_eq_some_iff.1 h2).1, h2, ?_⟩⟩
    rw [h5]; exact Nat.mul_le_mul_right 2 h3
theorem Sh.of {F : Nat → Prop} {w : World} {base : Nat} {v : Value} {L : List Bs} {e : Int} (h : Rt w base v L e) (hF : ∀ k, base ≤ k → k < w.heap.size → F k) : ∃ a cap D, v = .slice a D.length cap ∧ D.length = L.length ∧ Sh F w a D := by
  obtain ⟨bs, hb, hl, -, hs⟩ := h
  have hkey : ∀ b ∈ bs, b.vn = b.ks.length ∧ Sk F w b.va b.vn := fun b hm => Sk.of (hb.each b hm) hF
  obtain ⟨a, cap, rfl⟩ := owns_len hb.row
  refine ⟨a, cap, bs.map fun b => (b.va, b.vn, b.vc), by rw [List.length_map], by rw [← hl]; simp, ?_⟩
  · refine ⟨?_, fun x hx => ?_⟩
    · rcases hb.row.2 with ⟨e1, e2⟩ | ⟨g, cap', cur, e1, h1, h2, h3, h4, h5, h6⟩
      · left; rw [List.length_eq_zero_iff.1 e2]; rfl
      · cases e1
        refine .inr ⟨g, cur, rfl, hF g h1 (Array.getElem?_eq_some_iff.1 h2).1, h2, ?_, fun k x hx => ?_⟩
        · rw [List.length_map, h5]; exact Nat.mul_le_mul_right 4 h3
        · rw [List.getElem?_map] at hx
          cases hq : bs[k]? with
          | none => rw [hq] at hx; cases hx
          | some b =>
            rw [hq] at hx
            cases hx
            have hc := (bc_get bs k b hq).2.2.2
            rw [← h6, List.getElem?_take] at hc
            split at hc
            · rw [← Array.getElem?_toList]; exact hc
            · cases hc
    · obtain ⟨b, hm, rfl⟩ := List.mem_map.1 hx
      obtain ⟨k1, k2⟩ := hkey b hm
      have := hs b.say (by rw [← hl]; exact List.mem_map_of_mem hm)
      refine ⟨?_, k2⟩
      have h9 : b.ks.length * 24 ≤ LK := this
      show b.vn ≤ _
      rw [k1]
      unfold LK at h9
      omega
theorem Sk.moved {F : Nat → Prop} {w w' : World} {a : Option Addr} {m : Nat} (h : Sk F w a m) (hk : ∀ k, F k → w'.heap[k]? = w.heap[k]?) : Sk F w' a m := by
  rcases h with h | ⟨gk, ck, h1, h2, h3, h4⟩
  · exact .inl h
  · exact .inr ⟨gk, ck, h1, h2, (hk _ h2).trans h3, h4⟩
theorem Sh.moved {F : Nat → Prop} {w w' : World} {a : Option Addr} {D : List (Option Addr × Nat × Nat)} (h : Sh F w a D) (hk : ∀ k, F k → w'.heap[k]? = w.heap[k]?) : Sh F w' a D := by
  refine ⟨?_, fun x hx => ⟨(h.each x hx).1, (h.each x hx).2.moved hk⟩⟩
  rcases h.row with h | ⟨g, cs, h1, h2, h3, h4⟩
  · exact .inl h
  · exact .inr ⟨g, cs, h1, h2, (hk _ h2).trans h3, h4⟩
theorem Sh.nil {F : Nat → Prop} {w : World} {a : Option Addr} : Sh F w a [] := ⟨.inl rfl, fun x hx => by cases hx⟩

/-- two tables, the law's own list, and what was answered (in the blocks from B up to C) -/
structure KA (w wr : World) (t u : Nat) (S S' : Vs) (mb B C : Nat) (mine : Value) (M : List Ky) (a : Option Addr) (D : List (Option Addr × Nat × Nat)) : Prop where
  lv : L2 w wr t u S S' (fun k => mine.ownBlock = some k ∨ B ≤ k ∧ k < C)
  row : RowK wr mb mine M
  sh : Sh (fun k => B ≤ k ∧ k < C) wr a D
  lt : ∀ k, mine.ownBlock = some k → k < B
  mw : w.heap.size ≤ mb
  bw : w.heap.size ≤ B
theorem KA.fF {w wr : World} {t u : Nat} {S S' : Vs} {mb B C : Nat} {mine : Value} {M : List Ky} {a : Option Addr} {D : List (Option Addr × Nat × Nat)} (h : KA w wr t u S S' mb B C mine M a D) (k : Nat) (hk : mine.ownBlock = some k ∨ B ≤ k ∧ k < C) : w.heap.size ≤ k := by
  rcases hk with e | e
  · exact Nat.le_trans h.mw (h.row.lt e).1
  · exact Nat.le_trans h.bw e.1
/-- what was answered is written over -/
theorem KA.wrote {w wr wr' : World} {t u : Nat} {S S' : Vs} {mb B C : Nat} {mine : Value} {M : List Ky} {a : Option Addr} {D : List (Option Addr × Nat × Nat)} (h : KA w wr t u S S' mb B C mine M a D) (hO : Only (fun k => B ≤ k ∧ k < C) wr wr') (hs : Sh (fun k => B ≤ k ∧ k < C) wr' a D) : KA w wr' t u S S' mb B C mine M a D :=
  ⟨(h.lv.own (hO.mono fun _ hk => .inr hk) h.fF).mono fun _ hk => .inl hk, h.row.moved fun k hk => hO.block k (h.row.lt hk).2 fun e => by have := h.lt k hk; omega, hs, h.lt, h.mw, h.bw⟩
theorem KA.fld {w wr : World} {t u : Nat} {S S' : Vs} {mb B C : Nat} {mine : Value} {M : List Ky} {D : List (Option Addr × Nat × Nat)} {g k r : Nat} {v : Value} (h : KA w wr t u S S' mb B C mine M (some ⟨g, 0, none⟩) D) (hg : B ≤ g ∧ g < C) (hr : r < 3) : KA w (wr.setCell ⟨g, k * 4 + r, none⟩ v) t u S S' mb B C mine M (some ⟨g, 0, none⟩) D :=
  h.wrote ((Only.refl _ _).setCell (p := ⟨g, _, none⟩) hg v) (h.sh.fld rfl hr)
theorem KA.key {w wr : World} {t u : Nat} {S S' : Vs} {mb B C : Nat} {mine : Value} {M : List Ky} {a : Option Addr} {D : List (Option Addr × Nat × Nat)} {g o : Nat} {x : Ky} {ck : Array Value} (h : KA w wr t u S S' mb B C mine M a D) (hg : B ≤ g ∧ g < C) (hh : wr.heap[g]? = some (.cells ck 36 (0, 0))) : KA w (put2 wr g o x) t u S S' mb B C mine M a D :=
  h.wrote ((put2_only wr g o x).mono fun k hk => by rw [hk]; exact hg) (h.sh.key hh)
/-- the law's own list is written over -/
theorem KA.own {w wr : World} {t u : Nat} {S S' : Vs} {mb B C : Nat} {M : List Ky} {a : Option Addr} {D : List (Option Addr × Nat × Nat)} {g i n cap : Nat} {x f : Ky} (h : KA w wr t u S S' mb B C (.slice (some ⟨g, 0, none⟩) n cap) M a D) (hn : M.length = n) (hf : M[i]? = some f) : KA w (put2 wr g (i * 2) x) t u S S' mb B C (.slice (some ⟨g, 0, none⟩) n cap) (M.set i x) a D := by
  have hO : Only (fun k => (Value.slice (some ⟨g, 0, none⟩) n cap).ownBlock = some k ∨ B ≤ k ∧ k < C) wr (put2 wr g (i * 2) x) := (put2_only wr g _ x).mono fun k hk => by rw [hk]; exact .inl rfl
  refine ⟨(h.lv.own hO h.fF).mono fun _ hk => .inl hk, ?_, h.sh.moved fun k hk => ?_, h.lt, h.mw, h.bw⟩
  · have hr := h.row
    unfold RowK at hr ⊢
    rw [hn] at hr
    rw [List.length_set, hn]
    exact put2_row hr hf
  · have : k ≠ g := fun e => by have := h.lt g rfl; omega
    exact (heap_set_ne this).trans (heap_set_ne this)
/-- a call that makes breaks -/
theorem KA.mk1 {w wr w' : World} {t u : Nat} {S' : Vs} {mb Bq : Nat} {mine : Value} {M : List Ky} {v' : Value} {r : Vs × List Bs} {e : Int} (hr : RowK wr mb mine M) (hm : w.heap.size ≤ mb) (hw : w.heap.size ≤ wr.heap.size) (hc : Lc2 w wr w' t u (fun k => mine.ownBlock = some k) v' r S' e Bq) :
    ∃ a cap D, v' = .slice a D.length cap ∧ D.length = r.2.length ∧ KA w w' t u r.1 S' mb Bq w'.heap.size mine M a D := by
  obtain ⟨a, cap, D, h1, h2, h3⟩ := Sh.of (F := fun k => Bq ≤ k ∧ k < w'.heap.size) hc.rt (fun k h1 h2 => ⟨h1, h2⟩)
  exact ⟨a, cap, D, h1, h2, hc.lv, hr.moved fun k hk => hc.kept k hk, h3, fun k hk => Nat.lt_of_lt_of_le (hr.lt hk).2 hc.bq, hm, Nat.le_trans hw hc.bq⟩
/-- the same call on the second table -/
theorem KA.mk2 {w wr w' : World} {t u : Nat} {S S' : Vs} {mb B C Bq : Nat} {mine : Value} {M : List Ky} {a : Option Addr} {D : List (Option Addr × Nat × Nat)} {v' : Value} {r : Vs × List Bs} {e : Int} (h : KA w wr t u S S' mb B C mine M a D) (hc : Lc2 w wr w' u t (fun k => mine.ownBlock = some k ∨ B ≤ k ∧ k < C) v' r S e Bq) :
    KA w w' t u S r.1 mb B C mine M a D :=
  ⟨(hc.lv.mono fun _ hk => .inl hk).symm, h.row.moved fun k hk => hc.kept k (.inl hk), h.sh.moved fun k hk => hc.kept k (.inr hk), h.lt, h.mw, h.bw⟩
theorem KA.on {w wr wr' : World} {t u : Nat} {S S' : Vs} {mb B C : Nat} {mine : Value} {M : List Ky} {a : Option Addr} {D : List (Option Addr × Nat × Nat)} (h : KA w wr t u S S' mb B C mine M a D) (hb : Below wr.heap.size wr wr') : KA w wr' t u S S' mb B C mine M a D :=
  ⟨(h.lv.on hb).mono fun _ hk => .inl hk, h.row.below hb, h.sh.below hb, h.lt, h.mw, h.bw⟩
theorem KA.shut {w wr : World} {t u : Nat} {S S' : Vs} {mb B C : Nat} {mine : Value} {M : List Ky} {a : Option Addr} {D : List (Option Addr × Nat × Nat)} (h : KA w wr t u S S' mb B C mine M a D) : L2 w wr t u S S' (fun k => mine.ownBlock = some k) ∧ RowK wr mb mine M := ⟨h.lv.mono fun _ hk => .inl hk, h.row⟩
theorem KA.mk0 {w wr w' : World} {t u : Nat} {S S' : Vs} {mb : Nat} {mine : Value} {M : List Ky} {a : Option Addr} {D : List (Option Addr × Nat × Nat)} (h : L2 w wr t u S S' (fun k => mine.ownBlock = some k)) (hr : RowK wr mb mine M) (hm : w.heap.size ≤ mb) (hb : Below wr.heap.size wr w') (hs : Sh (fun k => wr.heap.size ≤ k ∧ k < w'.heap.size) w' a D) : KA w w' t u S S' mb wr.heap.size w'.heap.size mine M a D :=
  ⟨h.on hb, hr.below hb, hs, fun _ hk => (hr.lt hk).2, hm, h.below.size⟩
theorem L2.lq {w wr : World} {t u : Nat} {S S' : Vs} {F : Nat → Prop} (h : L2 w wr t u S S' F) : S.q.length ≤ 16 ∧ S.ks.length ≤ 33 := by
  obtain ⟨s, s', h1, rfl, -⟩ := h.ex
  have := h1.lb
  have := h1.lq
  exact ⟨by show (s.bs.map Br.say).length ≤ 16; rw [List.length_map]; omega, h1.lk⟩
end Go.Proofs.Ytaofhjckliobpaa
