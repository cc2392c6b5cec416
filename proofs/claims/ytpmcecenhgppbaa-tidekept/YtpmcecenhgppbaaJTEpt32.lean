/- The document's tide: Ask. -/
import Derived.Test.YtpmcecenhgppbaaJTEpt31
namespace Go.Proofs.Ytpmcecenhgppbaa
section
open Go.RowKit Go.Shelf
attribute [local go_sem ↓ high] loadMsg storeMsg buildMsg storeAct loadAct buildAct
attribute [local go_sem high] run_store_complex eqC

/-- nothing is fresh any more -/
theorem IsD.clearF {w : World} {B t : Nat} {s : Dt} (h : IsD w B t s) : SD w (w.setCell ⟨t, 8, none⟩ (.slice none 0 0)) B t s { s with fv := .slice none 0 0, fs := [] } := by
  have ho := only1 w t 8 (.slice none 0 0)
  have hlt : ∀ {k ty}, Tag w k ty → 71 ≠ ty → k ≠ t := fun hk hty e => by rw [e] at hk; exact h.tt.two hty hk
  refine ⟨⟨(heap_set h.head 8 _).trans rfl, h.bt, h.held.moved fun k hk => ho.block k (h.held.lt hk).2 (hlt (h.held.tag hk) (by decide)), fun m hm => ⟨(h.each m hm).1.only ho fun q hq => ⟨by rw [hq]; exact h.tt.two (by decide), by rw [hq]; exact h.tt.two (by decide)⟩, (h.each m hm).2⟩, World.ownsRow_nil _ _ _ _, (fun f hf => by cases hf), h.e0, h.e1, h.n0, h.n1, h.ask0, h.lh, h.l8⟩, ho.mono fun k hk => .inl hk, ?_, ?_⟩
  · rintro k (e | e | e)
    · exact .inl (.inl e)
    · exact .inl (.inr (.inl e))
    · cases e
  · rintro k ((e | e | e) | e | ⟨f, hf, e⟩)
    · exact .inl (.inl (.inl e))
    · exact .inl (.inl (.inr (.inl e)))
    · cases e
    · exact .inl (.inr (.inl e))
    · cases hf
def keepA (q : Int) (h : Hm) : Bool := !(decide (h.m.kind = 2) && decide (h.m.seq ≠ q))
def AskR (w : World) (B t : Nat) (s : Dt) (q : Int) (e : Ending) (w' : World) : Prop := e = .returned (.tuple #[]) ∧ ∃ s', SD w w' B t s s' ∧ s'.say = s.say.ask q ∧ s'.fs = []
theorem filter_hm {l : List Hm} {j : Nat} {e : Hm} {f : Hm → Bool} (h : l[j]? = some e) : (l.take (j + 1)).filter f = (l.take j).filter f ++ (if f e then [e] else []) := by
  rw [List.take_add_one, h, List.filter_append]
  cases hf : f e <;> simp [hf]
/-- what Ask leaves, its worlds written out -/
theorem ask_endD {w W2 wr W5 : World} {B t : Nat} {s D2 : Dt} {q q' : Int} {v : Value} (S : SD w W2 B t s D2) (hD : D2 = { s with seq := q', fv := .slice none 0 0, fs := [] }) (hq : max q 0 = q') (hr : RowM wr W2.heap.size v (s.hs.filter (keepA q'))) (hb : Below W2.heap.size W2 wr) (hW : wr.setCell ⟨t, 7, none⟩ v = W5) :
    ∃ s', SD w W5 B t s s' ∧ s'.say = s.say.ask q ∧ s'.fs = [] := by
  have hB : B ≤ W2.heap.size := Nat.le_trans S.is.bt (Nat.le_of_lt S.is.tt.lt)
  have hh : D2.hs = s.hs := by rw [hD]
  have S5 := S.is.putH (Only.of hb) v (s.hs.filter (keepA q')) (owns_le hr hB) (fun m hm => .inl (by rw [hh]; exact (List.mem_filter.1 hm).1)) (Nat.le_trans (List.length_filter_le _ _) (by have := S.is.lh; rw [hh] at this; exact this)) (.inr fun k hk => (World.ownsRow.lt hr k hk).1)
  rw [hW] at S5
  refine ⟨_, S.trans S5, ?_, by rw [hD]⟩
  rw [hD]
  unfold Ts.ask Dt.say
  rw [hq]
  simp only [List.map_nil, List.filter_map]
  rfl
set_option maxHeartbeats 8000000 in
set_option maxRecDepth 100000 in
theorem ask_d (t B : Nat) (s : Dt) (q : Int) (w : World) (h : IsD w B t s) : Calls Try.prog 10 #[.pointer (some ⟨t, 0, none⟩), .int .i64 q] w fun e w' => AskR w B t s q e w' := by
  obtain ⟨q', hq'⟩ : ∃ q', max q 0 = q' := ⟨_, rfl⟩
  have hq0 : 0 ≤ q' := by omega
  obtain ⟨-, -, -, -, -, -, c6, -, -, cf⟩ := h.cells
  obtain ⟨W1, hW1⟩ : ∃ W1, w.setCell ⟨t, 6, none⟩ (.int .i64 q') = W1 := ⟨_, rfl⟩
  have S1 : SD w W1 B t s { s with seq := q' } := by rw [← hW1]; exact h.put { s with seq := q' } 6 (.int .i64 q') rfl ⟨rfl, rfl, rfl, rfl, rfl, rfl⟩ ⟨h.n0, h.n1, hq0⟩
  have c8 : W1.cell? ⟨t, 8, none⟩ = some s.fv := cell_of S1.is.head 8
  have cf1 := free_of S1.is.head
  obtain ⟨W2, hW2⟩ : ∃ W2, W1.setCell ⟨t, 8, none⟩ (.slice none 0 0) = W2 := ⟨_, rfl⟩
  obtain ⟨D2, hD2⟩ : ∃ D2, ({ s with seq := q', fv := .slice none 0 0, fs := [] } : Dt) = D2 := ⟨_, rfl⟩
  have S2 : SD w W2 B t s D2 := by rw [← hW2, ← hD2]; exact S1.trans S1.is.clearF
  obtain ⟨n, hn⟩ : ∃ n, s.hs.length = n := ⟨_, rfl⟩
  have hn8 : n ≤ 8 := by have := h.lh; have := h.l8; omega
  obtain ⟨a, cap, hv⟩ := owns_len h.held
  rw [hn] at hv
  have HX : Hid (SD w W2 B t s D2 ∧ D2 = { s with seq := q', fv := .slice none 0 0, fs := [] } ∧ s.hs.length = n ∧ s.hv = .slice a n cap ∧ max q 0 = q') := ⟨S2, hD2.symm, hn, hv, hq'⟩
  have HB : Hid (∀ V, Below W2.heap.size W2 V → V.cell? ⟨t, 7, none⟩ = some (.slice a n cap) ∧ IsD V B t D2 ∧ RowM V B (.slice a n cap) s.hs ∧ ∀ i, V.frozen? ⟨t, i, none⟩ = false) := fun V hV => by
    have iV := S2.is.below hV
    have e7 : V.cell? ⟨t, 7, none⟩ = some D2.hv := cell_of iV.head 7
    have hh := iV.held
    rw [← hD2] at e7 hh
    rw [show ({ s with seq := q', fv := .slice none 0 0, fs := [] } : Dt).hv = .slice a n cap from hv] at e7 hh
    exact ⟨e7, iV, hh, free_of iV.head⟩
  clear h S1 S2 hD2 hn hv
  have hcase : q < 0 ∧ q' = 0 ∨ ¬ q < 0 ∧ q' = q := by omega
  clear hq'
  rcases hcase with ⟨h1, h2⟩ | ⟨h1, h2⟩
  · subst h2
    go_enter Try.func10, Try.ntmps10
    go_wp2
    clear hW1 hW2 c6 cf c8 cf1
    go_loopw [4, 5] (fun s4 s5 wr => ∃ (b : Option Addr) (m c i : Nat), i ≤ n ∧ m ≤ i ∧ s4 = .slice b m c ∧ s5 = .int .i64 i ∧ Hid (RowM wr W2.heap.size (.slice b m c) ((s.hs.take i).filter (keepA (0 : Int))) ∧ Below W2.heap.size W2 wr ∧ ((s.hs.take i).filter (keepA (0 : Int))).length = m)) (fun _ s5 _ => n - (intOf s5).toNat)
    case atStart => exact ⟨none, 0, 0, 0, Nat.zero_le _, Nat.le_refl _, rfl, rfl, World.ownsRow_nil _ _ _ _, Below.refl _ _, rfl⟩
    case round =>
      obtain ⟨b, m, c, i, hi, hm, rfl, rfl, HR⟩ := hrel
      obtain ⟨c7, -, hrow, cf7⟩ := HB.out wr HR.out.2.1
      by_cases hlt : i < n
      · have hlz : (i : Int) < (n : Int) := by omega
        have hi0 : (0 : Int) ≤ (i : Int) := by omega
        obtain ⟨o, ho⟩ : ∃ o, s.hs[i]? = some o := ⟨_, List.getElem?_eq_getElem (by rw [HX.out.2.2.1]; exact hlt)⟩
        obtain ⟨g, rfl, -, -, hg, qq⟩ := owns_msg hrow ho
        have e0 : wr.cell? ⟨g, i * 16, none⟩ = some (.int .i64 o.m.kind) := qq 0 _ rfl
        have e3 : wr.cell? ⟨g, i * 16 + 3, none⟩ = some (.int .i64 o.m.seq) := qq 3 _ rfl
        have ml : (msgLd (.pointer (some ⟨g, i * 16, none⟩))).run Try.prog wr = .ok (.agg o.arr) wr := msgLd_at qq o.size
        have mo : (msgOne #[(0, .agg o.arr)]).run Try.prog wr = .ok (.slice (some ⟨wr.heap.size, 0, none⟩) 1 1) (wr.alloc (.cells o.arr 45)) := msgOne_of o.arr rfl wr
        obtain ⟨W3, hW3⟩ : ∃ W3, wr.alloc (.cells o.arr 45) = W3 := ⟨_, rfl⟩
        have b3 := boxB hW3
        obtain ⟨a9, q9, W4, happ, hr4, ho4, -⟩ := msgs_append (l2 := [o]) (HR.out.1.below b3.2) ⟨wr.heap.size, 0, none⟩ 1 (fun j u hu => by
          have e : mc [o] = o.vals := by simp [mc]
          rw [e] at hu
          rw [add_plain', Nat.zero_add, cell_of b3.1, ← Array.getElem?_toList]; exact hu) (Nat.le_trans HR.out.2.1.size b3.2.size) (by rw [HR.out.2.2]; simp; omega)
        have bW4 : Below W2.heap.size W2 W4 := ho4.below (chainB HR.out.2.1 b3.2) (Nat.le_trans HR.out.2.1.size b3.2.size) (fun k hk => (World.ownsRow.lt HR.out.1 k hk).1)
        obtain ⟨m', hm'⟩ : ∃ m', m + 1 = m' := ⟨_, rfl⟩
        have happ' : ∀ ty, (Builtin.append_ #[60, 60] ty #[.slice b m c, .slice (some ⟨wr.heap.size, 0, none⟩) 1 1]).run Try.prog W3 = .ok (.slice a9 m' q9) W4 := fun ty => by
          have := happ ty
          rw [HR.out.2.2, show [o].length = 1 from rfl, hm'] at this; exact this
        have HN : Hid (RowM W4 W2.heap.size (.slice a9 m' q9) ((s.hs.take i).filter (keepA (0 : Int)) ++ [o]) ∧ Below W2.heap.size W2 W4 ∧ m + 1 = m' ∧ s.hs[i]? = some o) := by
          refine ⟨?_, bW4, hm', ho⟩
          have := hr4
          rw [HR.out.2.2, show [o].length = 1 from rfl, hm'] at this; exact this
        obtain ⟨X, hX⟩ : ∃ X, o.arr = X := ⟨_, rfl⟩
        rw [hX] at ml mo hW3
        rw [hW3] at mo
        obtain ⟨ok, hok⟩ : ∃ k, o.m.kind = k := ⟨_, rfl⟩
        obtain ⟨sq, hsq⟩ : ∃ k, o.m.seq = k := ⟨_, rfl⟩
        have HK : Hid (keepA (0 : Int) o = !(decide (ok = 2) && decide (sq ≠ (0 : Int)))) := by
          show keepA (0 : Int) o = _
          unfold keepA; rw [hok, hsq]
        rw [hok] at e0
        rw [hsq] at e3
        clear hrow qq ho b3 happ hr4 ho4 bW4 hX hok hsq hm'
        by_cases hk2 : ok = 2
        · by_cases hsq : sq = (0 : Int)
          · subst hk2
            subst hsq
            go_wp2_with (at_builtin; refine wpList_append_run rfl (.tmp 45) (.tmp 53) 60 rfl _ _ (.slice a9 m' q9) W4 rfl rfl happ' ?_)
            have hkk := HK.out
            simp at hkk
            refine ⟨⟨a9, m', q9, i + 1, by omega, by have := HN.out.2.2.1; omega, rfl, by simp, ?_, HN.out.2.1, ?_⟩, by simp [intOf]; omega⟩
            · rw [filter_hm HN.out.2.2.2, hkk]; exact HN.out.1
            · rw [filter_hm HN.out.2.2.2, hkk]; simp [HR.out.2.2]; exact HN.out.2.2.1
          · subst hk2
            go_wp2_with fail
            have hkk := HK.out
            simp [hsq] at hkk
            refine ⟨⟨b, m, c, i + 1, by omega, by omega, rfl, by simp, ?_, HR.out.2.1, ?_⟩, by simp [intOf]; omega⟩
            · rw [filter_hm HN.out.2.2.2, hkk]; simpa using HR.out.1
            · rw [filter_hm HN.out.2.2.2, hkk]; simpa using HR.out.2.2
        · go_wp2_with (at_builtin; refine wpList_append_run rfl (.tmp 45) (.tmp 53) 60 rfl _ _ (.slice a9 m' q9) W4 rfl rfl happ' ?_)
          have hkk := HK.out
          simp [hk2] at hkk
          refine ⟨⟨a9, m', q9, i + 1, by omega, by have := HN.out.2.2.1; omega, rfl, by simp, ?_, HN.out.2.1, ?_⟩, by simp [intOf]; omega⟩
          · rw [filter_hm HN.out.2.2.2, hkk]; exact HN.out.1
          · rw [filter_hm HN.out.2.2.2, hkk]; simp [HR.out.2.2]; exact HN.out.2.2.1
      · have hlz : ¬ (i : Int) < (n : Int) := by omega
        obtain ⟨W5, hW5⟩ : ∃ W5, wr.setCell ⟨t, 7, none⟩ (.slice b m c) = W5 := ⟨_, rfl⟩
        have HE : Hid (wr.setCell ⟨t, 7, none⟩ (.slice b m c) = W5) := hW5
        clear hrow
        go_wp2
        go_end0
        have hin : i = n := by omega
        subst hin
        have hall : s.hs.take i = s.hs := List.take_of_length_le (by rw [HX.out.2.2.1]; exact Nat.le_refl _)
        have hrw := HR.out.1
        rw [hall] at hrw
        refine ⟨rfl, ask_endD HX.out.1 HX.out.2.1 HX.out.2.2.2.2 hrw HR.out.2.1 HE.out⟩
  · subst h2
    go_enter Try.func10, Try.ntmps10
    go_wp2
    clear hW1 hW2 c6 cf c8 cf1
    go_loopw [4, 5] (fun s4 s5 wr => ∃ (b : Option Addr) (m c i : Nat), i ≤ n ∧ m ≤ i ∧ s4 = .slice b m c ∧ s5 = .int .i64 i ∧ Hid (RowM wr W2.heap.size (.slice b m c) ((s.hs.take i).filter (keepA q')) ∧ Below W2.heap.size W2 wr ∧ ((s.hs.take i).filter (keepA q')).length = m)) (fun _ s5 _ => n - (intOf s5).toNat)
    case atStart => exact ⟨none, 0, 0, 0, Nat.zero_le _, Nat.le_refl _, rfl, rfl, World.ownsRow_nil _ _ _ _, Below.refl _ _, rfl⟩
    case round =>
      obtain ⟨b, m, c, i, hi, hm, rfl, rfl, HR⟩ := hrel
      obtain ⟨c7, -, hrow, cf7⟩ := HB.out wr HR.out.2.1
      by_cases hlt : i < n
      · have hlz : (i : Int) < (n : Int) := by omega
        have hi0 : (0 : Int) ≤ (i : Int) := by omega
        obtain ⟨o, ho⟩ : ∃ o, s.hs[i]? = some o := ⟨_, List.getElem?_eq_getElem (by rw [HX.out.2.2.1]; exact hlt)⟩
        obtain ⟨g, rfl, -, -, hg, qq⟩ := owns_msg hrow ho
        have e0 : wr.cell? ⟨g, i * 16, none⟩ = some (.int .i64 o.m.kind) := qq 0 _ rfl
        have e3 : wr.cell? ⟨g, i * 16 + 3, none⟩ = some (.int .i64 o.m.seq) := qq 3 _ rfl
        have ml : (msgLd (.pointer (some ⟨g, i * 16, none⟩))).run Try.prog wr = .ok (.agg o.arr) wr := msgLd_at qq o.size
        have mo : (msgOne #[(0, .agg o.arr)]).run Try.prog wr = .ok (.slice (some ⟨wr.heap.size, 0, none⟩) 1 1) (wr.alloc (.cells o.arr 45)) := msgOne_of o.arr rfl wr
        obtain ⟨W3, hW3⟩ : ∃ W3, wr.alloc (.cells o.arr 45) = W3 := ⟨_, rfl⟩
        have b3 := boxB hW3
        obtain ⟨a9, q9, W4, happ, hr4, ho4, -⟩ := msgs_append (l2 := [o]) (HR.out.1.below b3.2) ⟨wr.heap.size, 0, none⟩ 1 (fun j u hu => by
          have e : mc [o] = o.vals := by simp [mc]
          rw [e] at hu
          rw [add_plain', Nat.zero_add, cell_of b3.1, ← Array.getElem?_toList]; exact hu) (Nat.le_trans HR.out.2.1.size b3.2.size) (by rw [HR.out.2.2]; simp; omega)
        have bW4 : Below W2.heap.size W2 W4 := ho4.below (chainB HR.out.2.1 b3.2) (Nat.le_trans HR.out.2.1.size b3.2.size) (fun k hk => (World.ownsRow.lt HR.out.1 k hk).1)
        obtain ⟨m', hm'⟩ : ∃ m', m + 1 = m' := ⟨_, rfl⟩
        have happ' : ∀ ty, (Builtin.append_ #[60, 60] ty #[.slice b m c, .slice (some ⟨wr.heap.size, 0, none⟩) 1 1]).run Try.prog W3 = .ok (.slice a9 m' q9) W4 := fun ty => by
          have := happ ty
          rw [HR.out.2.2, show [o].length = 1 from rfl, hm'] at this; exact this
        have HN : Hid (RowM W4 W2.heap.size (.slice a9 m' q9) ((s.hs.take i).filter (keepA q') ++ [o]) ∧ Below W2.heap.size W2 W4 ∧ m + 1 = m' ∧ s.hs[i]? = some o) := by
          refine ⟨?_, bW4, hm', ho⟩
          have := hr4
          rw [HR.out.2.2, show [o].length = 1 from rfl, hm'] at this; exact this
        obtain ⟨X, hX⟩ : ∃ X, o.arr = X := ⟨_, rfl⟩
        rw [hX] at ml mo hW3
        rw [hW3] at mo
        obtain ⟨ok, hok⟩ : ∃ k, o.m.kind = k := ⟨_, rfl⟩
        obtain ⟨sq, hsq⟩ : ∃ k, o.m.seq = k := ⟨_, rfl⟩
        have HK : Hid (keepA q' o = !(decide (ok = 2) && decide (sq ≠ q'))) := by
          show keepA q' o = _
          unfold keepA; rw [hok, hsq]
        rw [hok] at e0
        rw [hsq] at e3
        clear hrow qq ho b3 happ hr4 ho4 bW4 hX hok hsq hm'
        by_cases hk2 : ok = 2
        · by_cases hsq : sq = q'
          · subst hk2
            subst hsq
            go_wp2_with (at_builtin; refine wpList_append_run rfl (.tmp 45) (.tmp 53) 60 rfl _ _ (.slice a9 m' q9) W4 rfl rfl happ' ?_)
            have hkk := HK.out
            simp at hkk
            refine ⟨⟨a9, m', q9, i + 1, by omega, by have := HN.out.2.2.1; omega, rfl, by simp, ?_, HN.out.2.1, ?_⟩, by simp [intOf]; omega⟩
            · rw [filter_hm HN.out.2.2.2, hkk]; exact HN.out.1
            · rw [filter_hm HN.out.2.2.2, hkk]; simp [HR.out.2.2]; exact HN.out.2.2.1
          · subst hk2
            go_wp2_with fail
            have hkk := HK.out
            simp [hsq] at hkk
            refine ⟨⟨b, m, c, i + 1, by omega, by omega, rfl, by simp, ?_, HR.out.2.1, ?_⟩, by simp [intOf]; omega⟩
            · rw [filter_hm HN.out.2.2.2, hkk]; simpa using HR.out.1
            · rw [filter_hm HN.out.2.2.2, hkk]; simpa using HR.out.2.2
        · go_wp2_with (at_builtin; refine wpList_append_run rfl (.tmp 45) (.tmp 53) 60 rfl _ _ (.slice a9 m' q9) W4 rfl rfl happ' ?_)
          have hkk := HK.out
          simp [hk2] at hkk
          refine ⟨⟨a9, m', q9, i + 1, by omega, by have := HN.out.2.2.1; omega, rfl, by simp, ?_, HN.out.2.1, ?_⟩, by simp [intOf]; omega⟩
          · rw [filter_hm HN.out.2.2.2, hkk]; exact HN.out.1
          · rw [filter_hm HN.out.2.2.2, hkk]; simp [HR.out.2.2]; exact HN.out.2.2.1
      · have hlz : ¬ (i : Int) < (n : Int) := by omega
        obtain ⟨W5, hW5⟩ : ∃ W5, wr.setCell ⟨t, 7, none⟩ (.slice b m c) = W5 := ⟨_, rfl⟩
        have HE : Hid (wr.setCell ⟨t, 7, none⟩ (.slice b m c) = W5) := hW5
        clear hrow
        go_wp2
        go_end0
        have hin : i = n := by omega
        subst hin
        have hall : s.hs.take i = s.hs := List.take_of_length_le (by rw [HX.out.2.2.1]; exact Nat.le_refl _)
        have hrw := HR.out.1
        rw [hall] at hrw
        refine ⟨rfl, ask_endD HX.out.1 HX.out.2.1 HX.out.2.2.2.2 hrw HR.out.2.1 HE.out⟩
end
section
open Go.RowKit Go.Shelf
attribute [local go_sem ↓ high] loadMsg storeMsg buildMsg storeAct loadAct buildAct
attribute [local go_sem high] run_store_complex eqC

theorem newOk_parts (client life hold : Int) : newOk client life hold = true ↔ ¬ client < 1 ∧ ¬ client > 4 ∧ ¬ life < 1 ∧ ¬ life > 1099511627776 ∧ ¬ hold < 0 ∧ ¬ hold > 8 := by
  unfold newOk withB
  simp
  omega
set_option maxHeartbeats 2000000 in
theorem new_noD (client life hold : Int) (w : World) (h : newOk client life hold = false) : Calls Try.prog 7 #[.int .i64 client, .int .i64 life, .int .i64 hold] w fun e w' => e = .returned (.tuple #[.pointer none, .int .i64 1]) ∧ w' = w := by
  have hh : ¬ (¬ client < 1 ∧ ¬ client > 4 ∧ ¬ life < 1 ∧ ¬ life > 1099511627776 ∧ ¬ hold < 0 ∧ ¬ hold > 8) := by rw [← newOk_parts, h]; simp
  have hc : client < 1 ∨ ¬ client < 1 ∧ client > 4 ∨ ¬ client < 1 ∧ ¬ client > 4 ∧ life < 1 ∨ ¬ client < 1 ∧ ¬ client > 4 ∧ ¬ life < 1 ∧ life > 1099511627776 ∨ ¬ client < 1 ∧ ¬ client > 4 ∧ ¬ life < 1 ∧ ¬ life > 1099511627776 ∧ hold < 0 ∨ ¬ client < 1 ∧ ¬ client > 4 ∧ ¬ life < 1 ∧ ¬ life > 1099511627776 ∧ ¬ hold < 0 ∧ hold > 8 := by omega
  clear h hh
  rcases hc with h1 | ⟨h1, h2⟩ | ⟨h1, h2, h3⟩ | ⟨h1, h2, h3, h4⟩ | ⟨h1, h2, h3, h4, h5⟩ | ⟨h1, h2, h3, h4, h5, h6⟩
  all_goals
    go_enter Try.func7, Try.ntmps7
    go_wp2
    go_ret2
    exact ⟨rfl, rfl⟩
set_option maxHeartbeats 2000000 in
theorem new_yesD (client life : Int) (hold : Nat) (w : World) (h : newOk client life hold = true) : Calls Try.prog 7 #[.int .i64 client, .int .i64 life, .int .i64 hold] w fun e w' => e = .returned (.tuple #[.pointer (some ⟨w.heap.size, 0, none⟩), .int .i64 0]) ∧ (∃ s, IsD w' w.heap.size w.heap.size s ∧ s.say = Ts.new client life hold ∧ s.hs = [] ∧ s.fs = [] ∧ ∀ k, s.blk w.heap.size k → w.heap.size ≤ k) ∧ Below w.heap.size w w' := by
  obtain ⟨h1, h2, h3, h4, h5, h6⟩ := (newOk_parts _ _ _).1 h
  have hl8 : hold ≤ 8 := by omega
  clear h
  go_enter Try.func7, Try.ntmps7
  go_wp2
  go_ret2
  refine ⟨rfl, ⟨⟨client, life, hold, 0, 0, 0, 0, .slice none 0 0, [], .slice none 0 0, []⟩, ⟨heap_new _ _, Nat.le_refl _, World.ownsRow_nil _ _ _ _, (fun m hm => by cases hm), World.ownsRow_nil _ _ _ _, (fun m hm => by cases hm), Int.le_refl _, (by show (0 : Int) ≤ 1099511627776; omega), Int.le_refl _, (by show (0 : Int) ≤ 1099511627776; omega), Int.le_refl _, Nat.zero_le _, hl8⟩, rfl, rfl, rfl, ?_⟩, below_alloc _ _⟩
  rintro k ((rfl | hk | hk) | ⟨m, hm, -⟩ | ⟨m, hm, -⟩)
  · exact Nat.le_refl _
  · cases hk
  · cases hk
  · cases hm
  · cases hm
end
section
open Go.RowKit

def rwp (x : Nat) : Int := match fval x with
  | some a => if 0 ≤ a ∧ a ≤ 1099511627776 * U then a / U else 0
  | none => 0

theorem rwp_eq {x : Nat} (h : wholeB x = true) : rwp x = part x := by
  obtain ⟨n, h0, h1, hv⟩ := (wholeB_iff x).1 h
  rw [part_of hv]
  unfold rwp
  rw [hv]
  simp only
  rw [if_pos ⟨Int.mul_nonneg h0 (Int.le_of_lt U_pos), Int.mul_le_mul_of_nonneg_right h1 (Int.le_of_lt U_pos)⟩, Int.mul_ediv_cancel _ (Int.ne_of_gt U_pos)]

set_option maxHeartbeats 400000 in
theorem rwhole_no (x : Nat) (w : World) (c1 c2 : Option Ordering) (h1 : FloatKind.f64.format.order x 0 = c1) (h2 : FloatKind.f64.format.order x 4787326403894837248 = c2)
    (hn : ((c1 == some .gt || c1 == some .eq) && (c2 == some .lt || c2 == some .eq)) = false) :
    Calls Try.prog 53 #[.float .f64 x] w fun e w' => e = .returned (.tuple #[.int .i64 0, .bool false]) ∧ w' = w := by
  rcases c1 with _ | _ | _ | _ <;> rcases c2 with _ | _ | _ | _ <;> first | (exfalso; revert hn; decide) | skip
  all_goals
    clear hn
    go_enter Try.func53, Try.ntmps53
    go_wp2
    go_ret2
    exact ⟨rfl, rfl⟩

set_option maxHeartbeats 400000 in
theorem rwhole_mid (x : Nat) (n : Int) (w : World) (c1 c2 c3 : Option Ordering) (h1 : FloatKind.f64.format.order x 0 = c1) (h2 : FloatKind.f64.format.order x 4787326403894837248 = c2)
    (h3 : FloatKind.f64.format.order (floatOfInt .f64 n) x = c3) (hy : ((c1 == some .gt || c1 == some .eq) && (c2 == some .lt || c2 == some .eq)) = true)
    (hc : ∀ w, (convert 49 3 (.float .f64 x)).run Try.prog w = .ok (.int .i64 n) w) :
    Calls Try.prog 53 #[.float .f64 x] w fun e w' => e = .returned (.tuple #[.int .i64 n, .bool (c3 == some .eq)]) ∧ w' = w := by
  rcases c1 with _ | _ | _ | _ <;> rcases c2 with _ | _ | _ | _ <;> first | (exfalso; revert hy; decide) | skip
  all_goals
    clear hy
    go_enter Try.func53, Try.ntmps53
    go_wp2
    go_ret2
    exact ⟨rfl, rfl⟩

theorem rwhole_any (x : Nat) (w : World) : Calls Try.prog 53 #[.float .f64 x] w fun e w' => e = .returned (.tuple #[.int .i64 (rwp x), .bool (wholeB x)]) ∧ w' = w := by
  cases hx : fval x with
  | none =>
    have hf : wholeB x = false := by unfold wholeB; rw [hx]
    have hr : rwp x = 0 := by unfold rwp; rw [hx]
    rw [hf, hr]
    refine rwhole_no x w _ _ rfl rfl ?_
    rcases order_none hx with h | h | h
    · rw [order64, order64, h 0 _ val_zero, h _ _ val_max]; rfl
    · rw [order64, order64, h 0 _ val_zero, h _ _ val_max]; rfl
    · rw [order64, order64, h 0, h]; rfl
  | some a =>
    have e1 : FloatKind.f64.format.order x 0 = some (compare a 0) := order_val hx val_zero
    have e2 : FloatKind.f64.format.order x 4787326403894837248 = some (compare a (1099511627776 * U)) := order_val hx val_max
    have ht : ((some (compare a 0) == some Ordering.gt || some (compare a 0) == some Ordering.eq) && (some (compare a (1099511627776 * U)) == some Ordering.lt || some (compare a (1099511627776 * U)) == some Ordering.eq)) = decide (0 ≤ a ∧ a ≤ 1099511627776 * U) := by
      rw [beq_cmp_gt, beq_cmp_eq, beq_cmp_lt, beq_cmp_eq]
      generalize 1099511627776 * U = z
      rw [Bool.eq_iff_iff]; simp; omega
    by_cases hr : 0 ≤ a ∧ a ≤ 1099511627776 * U
    · have hu := U_pos
      have hd : a / U ≤ 1099511627776 := Int.le_of_mul_le_mul_right (Int.le_trans (Int.ediv_mul_le a (Int.ne_of_gt hu)) hr.2) hu
      have hd0 : 0 ≤ a / U := Int.ediv_nonneg hr.1 (Int.le_of_lt hu)
      have h3 := order_val (ofInt_val (a / U) (by omega)) hx
      have hc : ∀ w, (convert 49 3 (.float .f64 x)).run Try.prog w = .ok (.int .i64 (a / U)) w := by
        intro w
        refine run_convert_float_int w 49 3 .f64 .i64 x (a / U) (by rw [Try.underlying49]; rfl) Try.underlying3 ?_
        unfold floatToIntVal
        have ht : (FloatKind.f64.decode x).toInt .zero = some (a / U) := toInt_val hx hr.1
        rw [ht]
        have hb : IntKind.i64.min ≤ a / U ∧ a / U ≤ IntKind.i64.max := by
          have a1 : IntKind.i64.min = -9223372036854775808 := rfl
          have a2 : IntKind.i64.max = 9223372036854775807 := rfl
          omega
        simp only [if_pos hb]
      have := rwhole_mid x (a / U) w _ _ _ e1 e2 h3 (by rw [ht]; simpa using hr) hc
      rw [beq_cmp_eq] at this
      have hw : wholeB x = decide (a / U * U = a) := by
        unfold wholeB; rw [hx]; simp only [hr.1, hr.2, true_and]
      have hp : rwp x = a / U := by unfold rwp; rw [hx]; simp only; rw [if_pos hr]
      rw [hw, hp]; exact this
    · have hf : wholeB x = false := by unfold wholeB; rw [hx]; simp; intro h1 h2; exact absurd ⟨h1, h2⟩ hr
      have hp : rwp x = 0 := by unfold rwp; rw [hx]; simp only; rw [if_neg hr]
      rw [hf, hp]
      exact rwhole_no x w _ _ e1 e2 (by rw [ht]; simpa using hr)

set_option maxHeartbeats 400000 in
theorem parts_no (a b : Nat) (w : World) (h : (wholeB a && wholeB b) = false) :
    Calls Try.prog 34 #[.complex .f64 a b] w fun e w' => e = .returned (.tuple #[.int .i64 0, .int .i64 0, .bool false]) ∧ w' = w := by
  cases h1 : wholeB a
  · clear h
    go_enter Try.func34, Try.ntmps34
    go_wp2_with (go_at_call 53; refine (rwhole_any _ _).mono ?_; rintro e w' ⟨rfl, rfl⟩)
    go_ret3
    exact ⟨rfl, rfl⟩
  · have h2 : wholeB b = false := by rw [h1] at h; simpa using h
    clear h
    go_enter Try.func34, Try.ntmps34
    go_wp2_with (go_at_call 53; refine (rwhole_any _ _).mono ?_; rintro e w' ⟨rfl, rfl⟩)
    go_ret3
    exact ⟨rfl, rfl⟩

set_option maxHeartbeats 400000 in
theorem parts_yes (a b : Nat) (w : World) (h1 : wholeB a = true) (h2 : wholeB b = true) :
    Calls Try.prog 34 #[.complex .f64 a b] w fun e w' => e = .returned (.tuple #[.int .i64 (rwp a), .int .i64 (rwp b), .bool true]) ∧ w' = w := by
  go_enter Try.func34, Try.ntmps34
  go_wp2_with (go_at_call 53; refine (rwhole_any _ _).mono ?_; rintro e w' ⟨rfl, rfl⟩)
  go_ret3
  exact ⟨rfl, rfl⟩

theorem parts_any (a b : Nat) (w : World) : Calls Try.prog 34 #[.complex .f64 a b] w fun e w' => e = .returned (.tuple #[.int .i64 (if goodB a b then part a else 0), .int .i64 (if goodB a b then part b else 0), .bool (goodB a b)]) ∧ w' = w := by
  cases h : goodB a b
  · exact parts_no a b w h
  · have h' := h
    unfold goodB at h'
    simp only [Bool.and_eq_true] at h'
    have := parts_yes a b w h'.1 h'.2
    rw [rwp_eq h'.1, rwp_eq h'.2] at this
    exact this
end
end Go.Proofs.Ytpmcecenhgppbaa
