/- What is fresh: add, walked. -/
import Derived.Test.YtpmcecenhgppbaaJTEpt07
namespace Go.Proofs.Ytpmcecenhgppbaa
section
open Go.RowKit Go.Shelf
attribute [local go_sem ↓ high] loadMsg storeMsg
attribute [local go_sem high] run_store_complex

def Td.fr1 (s : Td) (x : Pm) : Fb := ⟨part s.b, decide (x.kind = 4), x.ks⟩
set_option maxHeartbeats 2000000 in
theorem add_4 (t B : Nat) (s : Td) (x : Hm) (w : World) (h : IsT w B t s) (hm : Mk x.m.re x.m.im (part s.a) (part s.b)) (hp : 0 < part s.b) (n0 : Int) (hfr : FrOk n0 s.fr) (hn0 : n0 < part s.b) (hn1 : 0 ≤ n0) (hk : x.m.kind = 4) :
    Calls Try.prog 63 #[.pointer (some ⟨t, 5, none⟩), .agg x.arr] w fun e w' => e = .returned (.tuple #[]) ∧ ∃ s', ST w w' B t s s' ∧ s'.say = { s.say with fr := s.fr ++ [s.fr1 x.m] } ∧ s'.hs = s.hs := by
  obtain ⟨X, hX⟩ : ∃ X, x.arr = X := ⟨_, rfl⟩
  rw [hX]
  obtain ⟨W, hW⟩ : ∃ W, w.alloc (.cells X 45) = W := ⟨_, rfl⟩
  have bx := boxB hW
  have h1 := h.below bx.2
  obtain ⟨-, -, -, -, -, c5, c6, c7, -, -, cf⟩ := h1.cells
  have m0 : W.cell? ⟨w.heap.size, 0, none⟩ = some (.int .i64 4) := by rw [cell_of bx.1, ← hX, ← hk]; rfl
  have m4 : W.cell? ⟨w.heap.size, 4, none⟩ = some (.complex .f64 x.m.re x.m.im) := by rw [cell_of bx.1, ← hX]; rfl
  obtain ⟨s', hs'⟩ : ∃ s' : Td, s' = { s with la := x.m.re, lb := x.m.im, fa := x.m.re, fb := x.m.im, kv := none, ml := [], fr := s.fr ++ [s.fr1 x.m] } := ⟨_, rfl⟩
  have hlt : t < w.heap.size := h.tt.lt
  have hne : t ≠ w.heap.size := by omega
  have HF : Hid (∀ W3, ((W.setCell ⟨t, 5, none⟩ (.complex .f64 x.m.re x.m.im)).setCell ⟨t, 6, none⟩ (.complex .f64 x.m.re x.m.im)).setCell ⟨t, 7, none⟩ (.map none) = W3 → ∃ s', ST w W3 B t s s' ∧ s'.say = { s.say with fr := s.fr ++ [s.fr1 x.m] } ∧ s'.hs = s.hs) := by
    intro W3 hW3
    have hh : W3.heap[t]? = some (.cells s'.arr 68 (0, 0)) := by
      rw [← hW3, hs']
      have := heap_set (heap_set (heap_set h1.head 5 (.complex .f64 x.m.re x.m.im)) 6 (.complex .f64 x.m.re x.m.im)) 7 (.map none)
      simpa [Td.arr] using this
    have ho : Only (· = t) W W3 := by
      rw [← hW3]
      exact ((only1 _ t _ _).trans (only1 _ t _ _)).trans (only1 _ t _ _)
    refine ⟨s', ST.pre bx.2 h ⟨h1.put s' W3 hh ho (by rw [hs']) (by rw [hs']; exact h.mkk) (by rw [hs']) (by rw [hs']) (by rw [hs']) (by rw [hs']; rfl) ?_ ?_ (by rw [hs']; exact h.ask0), ho.mono fun k e => .inl e, ?_, ?_⟩, by rw [hs']; rfl, by rw [hs']⟩
    · rw [hs']
      have := IsF.flushed (fr := s.fr) hm hp x.m.ks
      simp only [Td.fr1, hk]
      exact this
    · rw [hs']
      exact hfr.snoc _ hn0 hn1 (Int.le_refl _)
    · rintro k (e | e | e)
      · exact .inl (.inl e)
      · rw [hs'] at e; exact .inl (.inr (.inl e))
      · rw [hs'] at e; cases e
    · rintro k ((e | e | e) | ⟨m, hm, e⟩)
      · exact .inl (.inl (.inl e))
      · rw [hs'] at e; exact .inl (.inl (.inr (.inl e)))
      · rw [hs'] at e; cases e
      · rw [hs'] at hm; exact .inl (.inr ⟨m, hm, e⟩)
  clear h h1 bx hX hm hp hfr hk hs' hn0 hn1
  go_enter Try.func63, Try.ntmps63
  go_wp2
  (try simp only [Exit.inBlock, Exit.then])
  refine bodyPost_ret (results_none rfl _ _ _) rfl ?_
  exact ⟨rfl, HF.out _ rfl⟩
/-- the tide while keys are added -/
structure AddL (w W0 : World) (B t g : Nat) (s : Td) (x : Hm) (ML : Ml) : Prop where
  head : W0.heap[t]? = some (.cells ({ s with la := x.m.re, lb := x.m.im, kv := some g } : Td).arr 68 (0, 0))
  box : W0.heap[w.heap.size]? = some (.cells x.arr 45 (0, 0))
  map : MapAt W0 g ML
  hg : B ≤ g
  was : ML = s.ml
  new : s.kv = some g ∨ w.heap.size ≤ g
  ks : RowK W0 0 x.vk x.m.ks
  only : Only (fun q => q = t) w W0
theorem AddL.fin {w W0 wr : World} {B t g : Nat} {s : Td} {x : Hm} {ML : Ml} (a : AddL w W0 B t g s x ML) (h : IsT w B t s) (hm : Mk x.m.re x.m.im (part s.a) (part s.b)) (hp : 0 < part s.b) {n0 : Int} (hfr : FrOk n0 s.fr) (hn0 : n0 < part s.b) (hn1 : 0 ≤ n0) (hk : x.m.kind = 3)
    (hM : MapAt wr g (mputs ML x.m.ks x.m.re x.m.im)) (hO : Only (fun q => q = g ∨ W0.heap.size ≤ q) W0 wr) : ∃ s', ST w wr B t s s' ∧ s'.say = { s.say with fr := s.fr ++ [s.fr1 x.m] } ∧ s'.hs = s.hs := by
  have hgt : t ≠ g := fun e => by
    have : Tag W0 g 68 := by rw [← e]; exact ⟨_, _, a.head⟩
    exact a.map.no this
  have tlt : t < W0.heap.size := (Array.getElem?_eq_some_iff.1 a.head).1
  have keep : ∀ q, q < W0.heap.size → q ≠ g → wr.heap[q]? = W0.heap[q]? := fun q hq hne => hO.block q hq (fun e => by rcases e with e | e <;> omega)
  have hs0 := a.only.size
  refine ⟨{ s with la := x.m.re, lb := x.m.im, kv := some g, ml := mputs ML x.m.ks x.m.re x.m.im, fr := s.fr ++ [s.fr1 x.m] }, ⟨⟨(keep t tlt hgt).trans a.head, h.bt, h.mkk, ?_, fun m hm => ?_, ⟨hM, a.hg⟩, ?_, ?_, h.ask0, h.lh, h.l8⟩, ?_, ?_, ?_⟩, rfl, rfl⟩
  · refine h.held.moved fun q e => ?_
    have t1 := h.held.tag e
    have ne1 : q ≠ t := fun e' => by rw [e'] at t1; exact h.tt.two (by decide) t1
    have w0 := a.only.block q t1.lt ne1
    exact (keep q (Nat.lt_of_lt_of_le t1.lt hs0) (fun e' => by rw [e'] at t1 w0; exact a.map.no (t1.moved w0))).trans w0
  · refine ⟨(h.each m hm).1.moved fun q e => ?_, (h.each m hm).2⟩
    have t1 : Tag w q 57 ∨ Tag w q 53 := by
      rcases e with e | e
      · exact .inl (Tag.own (h.each m hm).1.es e)
      · exact .inr (Tag.own (h.each m hm).1.ks e)
    have hlt : q < w.heap.size := by rcases t1 with t1 | t1 <;> exact t1.lt
    have ne1 : q ≠ t := fun e' => by
      rw [e'] at t1
      rcases t1 with t1 | t1
      · exact h.tt.two (by decide) t1
      · exact h.tt.two (by decide) t1
    have w0 := a.only.block q hlt ne1
    refine (keep q (Nat.lt_of_lt_of_le hlt hs0) (fun e' => ?_)).trans w0
    rw [e'] at t1 w0
    rcases t1 with t1 | t1 <;> exact a.map.no (t1.moved w0)
  · have hf := h.isf
    have := hf.add hm hp x.m.ks
    simp only [Td.fr1, hk]
    rw [a.was]
    exact this
  · exact hfr.snoc _ hn0 hn1 (Int.le_refl _)
  · refine ⟨hO.os.trans a.only.os, hO.tape.trans a.only.tape, hO.output.trans a.only.output, Nat.le_trans hs0 hO.size, fun q hq hn => ?_⟩
    have ne1 : q ≠ t := fun e => hn (.inl e)
    have ne2 : q ≠ g := fun e => by
      rcases a.new with e' | e'
      · exact hn (.inr (.inr (by rw [e, e'])))
      · omega
    exact (keep q (Nat.lt_of_lt_of_le hq hs0) ne2).trans (a.only.block q hq ne1)
  · rintro q (e | e | e)
    · exact .inl (.inl e)
    · exact .inl (.inr (.inl e))
    · rcases a.new with e' | e'
      · exact .inl (.inr (.inr (e'.trans e)))
      · exact .inr (by rw [← Option.some.inj e]; exact e')
  · rintro q ((e | e | e) | ⟨m, hm, e⟩)
    · exact .inl (.inl (.inl e))
    · exact .inl (.inl (.inr (.inl e)))
    · rcases a.new with e' | e'
      · exact .inl (.inl (.inr (.inr (e'.trans e))))
      · exact .inr (by rw [← Option.some.inj e]; exact e')
    · exact .inl (.inr ⟨m, hm, e⟩)
theorem AddL.ht {w W0 wr : World} {B t g : Nat} {s : Td} {x : Hm} {ML : Ml} (a : AddL w W0 B t g s x ML) (hO : Only (fun q => q = g ∨ W0.heap.size ≤ q) W0 wr) : wr.cell? ⟨t, 7, none⟩ = some (.map (some g)) ∧ wr.cell? ⟨w.heap.size, 4, none⟩ = some (.complex .f64 x.m.re x.m.im) := by
  have tlt : t < W0.heap.size := (Array.getElem?_eq_some_iff.1 a.head).1
  have blt : w.heap.size < W0.heap.size := (Array.getElem?_eq_some_iff.1 a.box).1
  have h1 := (hO.block t tlt (fun e => by
    rcases e with e | e
    · have : Tag W0 g 68 := by rw [← e]; exact ⟨_, _, a.head⟩
      exact a.map.no this
    · omega)).trans a.head
  have h2 := (hO.block _ blt (fun e => by
    rcases e with e | e
    · have : Tag W0 g 45 := by rw [← e]; exact ⟨_, _, a.box⟩
      exact a.map.no this
    · omega)).trans a.box
  exact ⟨by rw [cell_of h1]; rfl, by rw [cell_of h2]; rfl⟩
theorem AddL.hk {w W0 wr : World} {B t g : Nat} {s : Td} {x : Hm} {ML : Ml} (a : AddL w W0 B t g s x ML) (hO : Only (fun q => q = g ∨ W0.heap.size ≤ q) W0 wr) : RowK wr 0 x.vk x.m.ks :=
  owns_moved a.ks fun q e => by
    have t1 := Tag.own a.ks e
    exact hO.block q t1.lt (fun e' => by
      rcases e' with e' | e'
      · rw [e'] at t1; exact a.map.no t1
      · have := t1.lt; omega)
set_option maxHeartbeats 4000000 in
set_option maxRecDepth 100000 in
theorem add_3s (t B g : Nat) (s : Td) (x : Hm) (w : World) (h : IsT w B t s) (hks : RowK w 0 x.vk x.m.ks) (hlk : x.m.ks.length * 24 ≤ LB) (hm : Mk x.m.re x.m.im (part s.a) (part s.b)) (hp : 0 < part s.b) (n0 : Int) (hfr : FrOk n0 s.fr) (hn0 : n0 < part s.b) (hn1 : 0 ≤ n0) (hk : x.m.kind = 3) (hkv : s.kv = some g) :
    Calls Try.prog 63 #[.pointer (some ⟨t, 5, none⟩), .agg x.arr] w fun e w' => e = .returned (.tuple #[]) ∧ ∃ s', ST w w' B t s s' ∧ s'.say = { s.say with fr := s.fr ++ [s.fr1 x.m] } ∧ s'.hs = s.hs := by
  obtain ⟨X, hX⟩ : ∃ X, x.arr = X := ⟨_, rfl⟩
  rw [hX]
  obtain ⟨W, hW⟩ : ∃ W, w.alloc (.cells X 45) = W := ⟨_, rfl⟩
  have bx := boxB hW
  have h1 := h.below bx.2
  obtain ⟨-, -, -, -, -, c5, -, c7, -, -, cf⟩ := h1.cells
  rw [hkv] at c7
  have m0 : W.cell? ⟨w.heap.size, 0, none⟩ = some (.int .i64 3) := by rw [cell_of bx.1, ← hX, ← hk]; rfl
  have m4 : W.cell? ⟨w.heap.size, 4, none⟩ = some (.complex .f64 x.m.re x.m.im) := by rw [cell_of bx.1, ← hX]; rfl
  have m15 : W.cell? ⟨w.heap.size, 15, none⟩ = some (.slice x.ak x.m.ks.length x.ck) := by rw [cell_of bx.1, ← hX]; rfl
  have hlt : t < w.heap.size := h.tt.lt
  have hne : t ≠ w.heap.size := by omega
  obtain ⟨W0, hW0⟩ : ∃ W0, W.setCell ⟨t, 5, none⟩ (.complex .f64 x.m.re x.m.im) = W0 := ⟨_, rfl⟩
  have ho0 : Only (· = t) W W0 := by rw [← hW0]; exact only1 _ t _ _
  have AL : Hid (AddL w W0 B t g s x s.ml) := by
    have hgm := h1.map.some' hkv
    have hgt : g ≠ t := fun e => by
      have := hgm.1.no (t := 68)
      rw [e] at this; exact this h1.tt
    refine ⟨?_, ?_, hgm.1.moved (ho0.block g hgm.1.lt hgt), hgm.2, rfl, .inl hkv, ?_, ?_⟩
    · rw [← hW0]
      have := heap_set h1.head 5 (.complex .f64 x.m.re x.m.im)
      simpa [Td.arr, hkv] using this
    · rw [hX]; exact (ho0.block _ (Array.getElem?_eq_some_iff.1 bx.1).1 (fun e => hne e.symm)).trans bx.1
    · exact owns_moved (owns_below hks bx.2) fun q e => ho0.block q (Tag.own (owns_below hks bx.2) e).lt fun e' => by
        have t1 := Tag.own (owns_below hks bx.2) e
        rw [e'] at t1; exact h1.tt.two (by decide) t1
    · exact ((Only.of bx.2).mono (fun q e => e)).trans ho0
  have d0 : W0.cell? ⟨w.heap.size, 0, none⟩ = some (.int .i64 3) := by rw [cell_of AL.out.box, ← hk]; rfl
  have d7 : W0.cell? ⟨t, 7, none⟩ = some (.map (some g)) := (AL.out.ht (Only.refl _ _)).1
  have d15 : W0.cell? ⟨w.heap.size, 15, none⟩ = some (.slice x.ak x.m.ks.length x.ck) := by rw [cell_of AL.out.box]; rfl
  obtain ⟨ML, hML⟩ : ∃ ML, s.ml = ML := ⟨_, rfl⟩
  rw [hML] at AL
  have HF : Hid (∀ wr, MapAt wr g (mputs ML x.m.ks x.m.re x.m.im) → Only (fun q => q = g ∨ W0.heap.size ≤ q) W0 wr → ∃ s', ST w wr B t s s' ∧ s'.say = { s.say with fr := s.fr ++ [s.fr1 x.m] } ∧ s'.hs = s.hs) := fun wr h1 h2 => AL.out.fin h hm hp hfr hn0 hn1 hk h1 h2
  have HC : Hid (∀ wr, Only (fun q => q = g ∨ W0.heap.size ≤ q) W0 wr → wr.cell? ⟨t, 7, none⟩ = some (.map (some g)) ∧ wr.cell? ⟨w.heap.size, 4, none⟩ = some (.complex .f64 x.m.re x.m.im)) := fun wr hO => AL.out.ht hO
  have HK : Hid (∀ wr, Only (fun q => q = g ∨ W0.heap.size ≤ q) W0 wr → RowK wr 0 (.slice x.ak x.m.ks.length x.ck) x.m.ks) := fun wr hO => AL.out.hk hO
  have HM : Hid (MapAt W0 g ML) := AL.out.map
  have HKL : Hid (x.m.ks.length ≤ 1000000000000000) := by unfold LB at hlk; exact (by omega : x.m.ks.length ≤ 1000000000000000)
  have qm : ∀ W : World, (binOp .eql 64 (.map (some g)) (.map none)).run Try.prog W = .ok (.bool false) W := fun W => run_eql_map_nil W _ _ _ (some g) Try.underlying64
  obtain ⟨ak, hak⟩ : ∃ ak, x.ak = ak := ⟨_, rfl⟩
  rw [hak] at m15 d15 HK
  clear h h1 bx hX hm hp hfr hk hn0 hn1 AL hML hlk hks hkv ho0 hak
  go_enter Try.func63, Try.ntmps63
  go_wp2
  clear hW0 hW
  have hkl := HKL.out
  go_loopw [34, 5] (fun s34 _ wr => ∃ j : Nat, j ≤ x.m.ks.length ∧ s34 = .int .i64 j ∧ Hid (MapAt wr g (mputs ML (x.m.ks.take j) x.m.re x.m.im) ∧ Only (fun q => q = g ∨ W0.heap.size ≤ q) W0 wr)) (fun s34 _ _ => x.m.ks.length - (intOf s34).toNat)
  case atStart => exact ⟨0, Nat.zero_le _, rfl, HM.out, Only.refl _ _⟩
  case round =>
    obtain ⟨j, hj, rfl, HR⟩ := hrel
    by_cases hlt : j < x.m.ks.length
    · obtain ⟨k, hk⟩ : ∃ k, x.m.ks[j]? = some k := ⟨_, List.getElem?_eq_getElem hlt⟩
      obtain ⟨gk, hgk, -, -, k0, k1, -⟩ := (HK.out wr HR.out.2).key hk
      cases hgk
      have hltz : (j : Int) < (x.m.ks.length : Int) := by omega
      obtain ⟨W1, hW1⟩ : ∃ W1, wr.alloc (.cells #[.int .i64 k.d, .string k.nm] 53) = W1 := ⟨_, rfl⟩
      have b1 := boxB hW1
      obtain ⟨d7, d4⟩ := HC.out W1 (HR.out.2.trans (Only.of b1.2))
      have e0 : W1.cell? ⟨wr.heap.size, 0, none⟩ = some (.int .i64 k.d) := by rw [cell_of b1.1]; rfl
      have e1 : W1.cell? ⟨wr.heap.size, 1, none⟩ = some (.string k.nm) := by rw [cell_of b1.1]; rfl
      obtain ⟨W2, hu, hM2, hO2⟩ := storeM k x.m.re x.m.im W1.drew g _ (MapAt.moved HR.out.1 (b1.2.block g HR.out.1.lt))
      have H2 : Hid (MapAt W2 g (mputs ML (x.m.ks.take (j + 1)) x.m.re x.m.im) ∧ Only (fun q => q = g ∨ W0.heap.size ≤ q) W0 W2) := by
        refine ⟨?_, (HR.out.2.trans (Only.of b1.2)).trans ((Only.drew (Only.refl _ W1)).trans (hO2.mono fun q e => .inl e))⟩
        rw [List.take_add_one, hk, show (some k).toList = [k] from rfl, mputs_snoc]; exact hM2
      have S2 := fun (h : W2.heap[W0.heap.size]? = W2.heap[W0.heap.size]?) => HC.out W2 H2.out.2
      have e0' : W2.cell? ⟨wr.heap.size, 0, none⟩ = some (.int .i64 k.d) := (World.cell?_of_block (hO2.block _ (Array.getElem?_eq_some_iff.1 b1.1).1 (fun (e : wr.heap.size = g) => by have := HR.out.1.lt; omega))).trans e0
      have e1' : W2.cell? ⟨wr.heap.size, 1, none⟩ = some (.string k.nm) := (World.cell?_of_block (hO2.block _ (Array.getElem?_eq_some_iff.1 b1.1).1 (fun (e : wr.heap.size = g) => by have := HR.out.1.lt; omega))).trans e1
      have SS := S2 rfl
      have kS : W1.drew.cell? ⟨t, 7, none⟩ = some (.map (some g)) ∧ W1.drew.cell? ⟨w.heap.size, 4, none⟩ = some (.complex .f64 x.m.re x.m.im) ∧ W1.drew.cell? ⟨wr.heap.size, 0, none⟩ = some (.int .i64 k.d) ∧ W1.drew.cell? ⟨wr.heap.size, 1, none⟩ = some (.string k.nm) := ⟨d7, d4, e0, e1⟩
      have kT : W2.cell? ⟨t, 7, none⟩ = some (.map (some g)) ∧ W2.cell? ⟨w.heap.size, 4, none⟩ = some (.complex .f64 x.m.re x.m.im) ∧ W2.cell? ⟨wr.heap.size, 0, none⟩ = some (.int .i64 k.d) ∧ W2.cell? ⟨wr.heap.size, 1, none⟩ = some (.string k.nm) := ⟨SS.1, SS.2, e0', e1'⟩
      clear S2 hk hM2 hO2 b1
      go_upto_region 9 with fail
      clear hW1
      unfold Ky.agg at hu
      go_region_held3 (fun w' => w'.cell? ⟨t, 7, none⟩ = some (.map (some g)) ∧ w'.cell? ⟨w.heap.size, 4, none⟩ = some (.complex .f64 x.m.re x.m.im) ∧ w'.cell? ⟨wr.heap.size, 0, none⟩ = some (.int .i64 k.d) ∧ w'.cell? ⟨wr.heap.size, 1, none⟩ = some (.string k.nm))
        (with_reducible first | exact kS | exact kT)
        (first | (refine step_mapUpdate rfl (.tmp 41) (.tmp 42) (.tmp 44) 64 rfl _ _ _ (by simp [Act.eval]) (by simp [Act.eval]) (by simp [Act.eval]) W2 hu ?_))
      go_wp2
      exact ⟨⟨j + 1, by omega, by simp, H2⟩, by simp [intOf]; omega⟩
    · obtain rfl : j = x.m.ks.length := by omega
      have hltz : ¬ (x.m.ks.length : Int) < (x.m.ks.length : Int) := by omega
      have HE : Hid (MapAt wr g (mputs ML x.m.ks x.m.re x.m.im) ∧ Only (fun q => q = g ∨ W0.heap.size ≤ q) W0 wr) := by
        have := HR.out
        rw [List.take_length] at this; exact this
      clear HR
      go_wp2
      go_end0
      exact ⟨rfl, HF.out wr HE.out.1 HE.out.2⟩
set_option maxHeartbeats 4000000 in
set_option maxRecDepth 100000 in
theorem add_3n (t B : Nat) (s : Td) (x : Hm) (w : World) (h : IsT w B t s) (hks : RowK w 0 x.vk x.m.ks) (hlk : x.m.ks.length * 24 ≤ LB) (hm : Mk x.m.re x.m.im (part s.a) (part s.b)) (hp : 0 < part s.b) (n0 : Int) (hfr : FrOk n0 s.fr) (hn0 : n0 < part s.b) (hn1 : 0 ≤ n0) (hk : x.m.kind = 3) (hkv : s.kv = none) :
    Calls Try.prog 63 #[.pointer (some ⟨t, 5, none⟩), .agg x.arr] w fun e w' => e = .returned (.tuple #[]) ∧ ∃ s', ST w w' B t s s' ∧ s'.say = { s.say with fr := s.fr ++ [s.fr1 x.m] } ∧ s'.hs = s.hs := by
  obtain ⟨X, hX⟩ : ∃ X, x.arr = X := ⟨_, rfl⟩
  rw [hX]
  obtain ⟨W, hW⟩ : ∃ W, w.alloc (.cells X 45) = W := ⟨_, rfl⟩
  have bx := boxB hW
  have h1 := h.below bx.2
  obtain ⟨-, -, -, -, -, c5, -, c7, -, -, cf⟩ := h1.cells
  rw [hkv] at c7
  have m0 : W.cell? ⟨w.heap.size, 0, none⟩ = some (.int .i64 3) := by rw [cell_of bx.1, ← hX, ← hk]; rfl
  have m4 : W.cell? ⟨w.heap.size, 4, none⟩ = some (.complex .f64 x.m.re x.m.im) := by rw [cell_of bx.1, ← hX]; rfl
  have m15 : W.cell? ⟨w.heap.size, 15, none⟩ = some (.slice x.ak x.m.ks.length x.ck) := by rw [cell_of bx.1, ← hX]; rfl
  have hlt : t < w.heap.size := h.tt.lt
  have hne : t ≠ w.heap.size := by omega
  obtain ⟨V1, hV1⟩ : ∃ V1, W.setCell ⟨t, 5, none⟩ (.complex .f64 x.m.re x.m.im) = V1 := ⟨_, rfl⟩
  obtain ⟨V2, hV2⟩ : ∃ V2, V1.alloc (.map #[] 0) = V2 := ⟨_, rfl⟩
  obtain ⟨g, hgv⟩ : ∃ g, V1.heap.size = g := ⟨_, rfl⟩
  obtain ⟨W0, hW0⟩ : ∃ W0, V2.setCell ⟨t, 7, none⟩ (.map (some g)) = W0 := ⟨_, rfl⟩
  have hv1 : Only (· = t) W V1 := by rw [← hV1]; exact only1 _ t _ _
  have hv2 : Below V1.heap.size V1 V2 := by rw [← hV2]; exact (Below.refl _ _).alloc (Nat.le_refl _) _
  have hv0 : Only (· = t) V2 W0 := by rw [← hW0]; exact only1 _ t _ _
  have ho0 : Only (· = t) W W0 := (hv1.trans (Only.of hv2)).trans hv0
  have hm1 : V2.heap[g]? = some (.map #[] 0) := by rw [← hV2, ← hgv]; exact heap_new _ _
  have hgw : w.heap.size < g := by
    have e1 := (Array.getElem?_eq_some_iff.1 bx.1).1
    have e2 := hv1.size
    omega
  have hd1 : V1.heap[t]? = some (.cells ({ s with la := x.m.re, lb := x.m.im } : Td).arr 68 (0, 0)) := by
    rw [← hV1]
    have := heap_set h1.head 5 (.complex .f64 x.m.re x.m.im)
    simpa [Td.arr] using this
  have hd2 : V2.heap[t]? = some (.cells ({ s with la := x.m.re, lb := x.m.im } : Td).arr 68 (0, 0)) := (hv2.block t (Array.getElem?_eq_some_iff.1 hd1).1).trans hd1
  have AL : Hid (AddL w W0 B t g s x s.ml) := by
    have hgt : g ≠ t := fun e => by omega
    have hml : s.ml = [] := by
      have := h.map
      rw [hkv] at this; exact this
    refine ⟨?_, ?_, ⟨#[], 0, (hv0.block g (Array.getElem?_eq_some_iff.1 hm1).1 hgt).trans hm1, by rw [hml]; rfl⟩, by have := h.bt; omega, rfl, .inr (Nat.le_of_lt hgw), ?_, ?_⟩
    · rw [← hW0]
      have := heap_set hd2 7 (.map (some g))
      simpa [Td.arr] using this
    · rw [hX]; exact (ho0.block _ (Array.getElem?_eq_some_iff.1 bx.1).1 (fun e => hne e.symm)).trans bx.1
    · exact owns_moved (owns_below hks bx.2) fun q e => ho0.block q (Tag.own (owns_below hks bx.2) e).lt fun e' => by
        have t1 := Tag.own (owns_below hks bx.2) e
        rw [e'] at t1; exact h1.tt.two (by decide) t1
    · exact ((Only.of bx.2).mono (fun q e => e)).trans ho0
  have v0 : V1.cell? ⟨w.heap.size, 0, none⟩ = some (.int .i64 3) := (World.cell?_of_block (hv1.block _ (Array.getElem?_eq_some_iff.1 bx.1).1 (fun e => hne e.symm))).trans m0
  have v7 : V1.cell? ⟨t, 7, none⟩ = some (.map none) := by rw [cell_of hd1]; simp [Td.arr, hkv]
  have u7 : V2.cell? ⟨t, 7, none⟩ = some (.map none) := by rw [cell_of hd2]; simp [Td.arr, hkv]
  have uf : ∀ i, V2.frozen? ⟨t, i, none⟩ = false := free_of hd2
  have hmm := @run_makeMap Try.prog
  have d0 : W0.cell? ⟨w.heap.size, 0, none⟩ = some (.int .i64 3) := by rw [cell_of AL.out.box, ← hk]; rfl
  have d7 : W0.cell? ⟨t, 7, none⟩ = some (.map (some g)) := (AL.out.ht (Only.refl _ _)).1
  have d15 : W0.cell? ⟨w.heap.size, 15, none⟩ = some (.slice x.ak x.m.ks.length x.ck) := by rw [cell_of AL.out.box]; rfl
  obtain ⟨ML, hML⟩ : ∃ ML, s.ml = ML := ⟨_, rfl⟩
  rw [hML] at AL
  have HF : Hid (∀ wr, MapAt wr g (mputs ML x.m.ks x.m.re x.m.im) → Only (fun q => q = g ∨ W0.heap.size ≤ q) W0 wr → ∃ s', ST w wr B t s s' ∧ s'.say = { s.say with fr := s.fr ++ [s.fr1 x.m] } ∧ s'.hs = s.hs) := fun wr h1 h2 => AL.out.fin h hm hp hfr hn0 hn1 hk h1 h2
  have HC : Hid (∀ wr, Only (fun q => q = g ∨ W0.heap.size ≤ q) W0 wr → wr.cell? ⟨t, 7, none⟩ = some (.map (some g)) ∧ wr.cell? ⟨w.heap.size, 4, none⟩ = some (.complex .f64 x.m.re x.m.im)) := fun wr hO => AL.out.ht hO
  have HK : Hid (∀ wr, Only (fun q => q = g ∨ W0.heap.size ≤ q) W0 wr → RowK wr 0 (.slice x.ak x.m.ks.length x.ck) x.m.ks) := fun wr hO => AL.out.hk hO
  have HM : Hid (MapAt W0 g ML) := AL.out.map
  have HKL : Hid (x.m.ks.length ≤ 1000000000000000) := by unfold LB at hlk; exact (by omega : x.m.ks.length ≤ 1000000000000000)
  have qm : ∀ W : World, (binOp .eql 64 (.map none) (.map none)).run Try.prog W = .ok (.bool true) W := fun W => run_eql_map_nil W _ _ _ none Try.underlying64
  obtain ⟨ak, hak⟩ : ∃ ak, x.ak = ak := ⟨_, rfl⟩
  rw [hak] at m15 d15 HK
  clear h h1 bx hX hm hp hfr hk hn0 hn1 AL hML hlk hks hkv ho0 hak hv1 hv2 hv0 hm1 hd1 hd2
  go_enter Try.func63, Try.ntmps63
  go_wp2
  clear hW0 hW hV1 hV2 hgv hmm v0 v7 u7 uf
  have hkl := HKL.out
  go_loopw [34, 5] (fun s34 _ wr => ∃ j : Nat, j ≤ x.m.ks.length ∧ s34 = .int .i64 j ∧ Hid (MapAt wr g (mputs ML (x.m.ks.take j) x.m.re x.m.im) ∧ Only (fun q => q = g ∨ W0.heap.size ≤ q) W0 wr)) (fun s34 _ _ => x.m.ks.length - (intOf s34).toNat)
  case atStart => exact ⟨0, Nat.zero_le _, rfl, HM.out, Only.refl _ _⟩
  case round =>
    obtain ⟨j, hj, rfl, HR⟩ := hrel
    by_cases hlt : j < x.m.ks.length
    · obtain ⟨k, hk⟩ : ∃ k, x.m.ks[j]? = some k := ⟨_, List.getElem?_eq_getElem hlt⟩
      obtain ⟨gk, hgk, -, -, k0, k1, -⟩ := (HK.out wr HR.out.2).key hk
      cases hgk
      have hltz : (j : Int) < (x.m.ks.length : Int) := by omega
      obtain ⟨W1, hW1⟩ : ∃ W1, wr.alloc (.cells #[.int .i64 k.d, .string k.nm] 53) = W1 := ⟨_, rfl⟩
      have b1 := boxB hW1
      obtain ⟨d7, d4⟩ := HC.out W1 (HR.out.2.trans (Only.of b1.2))
      have e0 : W1.cell? ⟨wr.heap.size, 0, none⟩ = some (.int .i64 k.d) := by rw [cell_of b1.1]; rfl
      have e1 : W1.cell? ⟨wr.heap.size, 1, none⟩ = some (.string k.nm) := by rw [cell_of b1.1]; rfl
      obtain ⟨W2, hu, hM2, hO2⟩ := storeM k x.m.re x.m.im W1.drew g _ (MapAt.moved HR.out.1 (b1.2.block g HR.out.1.lt))
      have H2 : Hid (MapAt W2 g (mputs ML (x.m.ks.take (j + 1)) x.m.re x.m.im) ∧ Only (fun q => q = g ∨ W0.heap.size ≤ q) W0 W2) := by
        refine ⟨?_, (HR.out.2.trans (Only.of b1.2)).trans ((Only.drew (Only.refl _ W1)).trans (hO2.mono fun q e => .inl e))⟩
        rw [List.take_add_one, hk, show (some k).toList = [k] from rfl, mputs_snoc]; exact hM2
      have S2 := fun (h : W2.heap[W0.heap.size]? = W2.heap[W0.heap.size]?) => HC.out W2 H2.out.2
      have e0' : W2.cell? ⟨wr.heap.size, 0, none⟩ = some (.int .i64 k.d) := (World.cell?_of_block (hO2.block _ (Array.getElem?_eq_some_iff.1 b1.1).1 (fun (e : wr.heap.size = g) => by have := HR.out.1.lt; omega))).trans e0
      have e1' : W2.cell? ⟨wr.heap.size, 1, none⟩ = some (.string k.nm) := (World.cell?_of_block (hO2.block _ (Array.getElem?_eq_some_iff.1 b1.1).1 (fun (e : wr.heap.size = g) => by have := HR.out.1.lt; omega))).trans e1
      have SS := S2 rfl
      have kS : W1.drew.cell? ⟨t, 7, none⟩ = some (.map (some g)) ∧ W1.drew.cell? ⟨w.heap.size, 4, none⟩ = some (.complex .f64 x.m.re x.m.im) ∧ W1.drew.cell? ⟨wr.heap.size, 0, none⟩ = some (.int .i64 k.d) ∧ W1.drew.cell? ⟨wr.heap.size, 1, none⟩ = some (.string k.nm) := ⟨d7, d4, e0, e1⟩
      have kT : W2.cell? ⟨t, 7, none⟩ = some (.map (some g)) ∧ W2.cell? ⟨w.heap.size, 4, none⟩ = some (.complex .f64 x.m.re x.m.im) ∧ W2.cell? ⟨wr.heap.size, 0, none⟩ = some (.int .i64 k.d) ∧ W2.cell? ⟨wr.heap.size, 1, none⟩ = some (.string k.nm) := ⟨SS.1, SS.2, e0', e1'⟩
      clear S2 hk hM2 hO2 b1
      go_upto_region 9 with fail
      clear hW1
      unfold Ky.agg at hu
      go_region_held3 (fun w' => w'.cell? ⟨t, 7, none⟩ = some (.map (some g)) ∧ w'.cell? ⟨w.heap.size, 4, none⟩ = some (.complex .f64 x.m.re x.m.im) ∧ w'.cell? ⟨wr.heap.size, 0, none⟩ = some (.int .i64 k.d) ∧ w'.cell? ⟨wr.heap.size, 1, none⟩ = some (.string k.nm))
        (with_reducible first | exact kS | exact kT)
        (first | (refine step_mapUpdate rfl (.tmp 41) (.tmp 42) (.tmp 44) 64 rfl _ _ _ (by simp [Act.eval]) (by simp [Act.eval]) (by simp [Act.eval]) W2 hu ?_))
      go_wp2
      exact ⟨⟨j + 1, by omega, by simp, H2⟩, by simp [intOf]; omega⟩
    · obtain rfl : j = x.m.ks.length := by omega
      have hltz : ¬ (x.m.ks.length : Int) < (x.m.ks.length : Int) := by omega
      have HE : Hid (MapAt wr g (mputs ML x.m.ks x.m.re x.m.im) ∧ Only (fun q => q = g ∨ W0.heap.size ≤ q) W0 wr) := by
        have := HR.out
        rw [List.take_length] at this; exact this
      clear HR
      go_wp2
      go_end0
      exact ⟨rfl, HF.out wr HE.out.1 HE.out.2⟩

theorem add_p (t B : Nat) (s : Td) (x : Hm) (w : World) (h : IsT w B t s) (hks : RowK w 0 x.vk x.m.ks) (hlk : x.m.ks.length * 24 ≤ LB) (hm : Mk x.m.re x.m.im (part s.a) (part s.b)) (hp : 0 < part s.b) (n0 : Int) (hfr : FrOk n0 s.fr) (hn0 : n0 < part s.b) (hn1 : 0 ≤ n0) (hk : x.m.kind = 3 ∨ x.m.kind = 4) :
    Calls Try.prog 63 #[.pointer (some ⟨t, 5, none⟩), .agg x.arr] w fun e w' => e = .returned (.tuple #[]) ∧ ∃ s', ST w w' B t s s' ∧ s'.say = { s.say with fr := s.fr ++ [s.fr1 x.m] } ∧ s'.hs = s.hs := by
  rcases hk with hk | hk
  · cases hkv : s.kv with
    | none => exact add_3n t B s x w h hks hlk hm hp n0 hfr hn0 hn1 hk hkv
    | some g => exact add_3s t B g s x w h hks hlk hm hp n0 hfr hn0 hn1 hk hkv
  · exact add_4 t B s x w h hm hp n0 hfr hn0 hn1 hk
end
end Go.Proofs.Ytpmcecenhgppbaa
