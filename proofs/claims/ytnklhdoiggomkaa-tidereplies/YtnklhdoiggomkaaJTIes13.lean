/- One message as a new list; hold, where there is room. -/
import Derived.Test.YtnklhdoiggomkaaJTIes12
namespace Go.Proofs.Ytnklhdoiggomkaa
section
open Go.RowKit Go.Shelf

/-- a list of one message, made, shut -/
def msgOne (ps : Array (Nat × Value)) : Sem Value := Instr.buildSlice 53 1 ps
theorem buildMsg (ps : Array (Nat × Value)) : Instr.buildSlice 53 1 ps = msgOne ps := rfl
theorem msgOne_of (Y : Array Value) (hY : Y.size = 16) (w : World) : (msgOne #[(0, .agg Y)]).run Try.prog w = .ok (.slice (some ⟨w.heap.size, 0, none⟩) 1 1) (w.alloc (.cells Y 45)) := by
  obtain ⟨l⟩ := Y
  match l, hY with
  | [y0 , y1 , y2 , y3 , y4 , y5 , y6 , y7 , y8 , y9 , y10 , y11 , y12 , y13 , y14 , y15], _ =>
    unfold msgOne Instr.buildSlice
    simp [run_underlying Try.underlying53, Try.sizeOf45, Try.zeroValue45, Instr.fill, Value.cells, newRow]
    rw [show Array.range 16 = #[0, 1, 2, 3, 4, 5, 6, 7, 8, 9, 10, 11, 12, 13, 14, 15] from rfl]
    simp
attribute [irreducible] msgOne
attribute [local go_sem ↓ high] loadMsg storeMsg buildMsg
attribute [local go_sem high] run_store_complex eqC
/-- what is behind an append to what is held -/
theorem hold_end {w w1 w2 w3 : World} {B t : Nat} {s : Td} {y : Hm} {v3 : Value} (h : IsT w B t s) (hb : Below w.heap.size w w1) (h1 : IsT w1 B t s) (hb2 : Below w1.heap.size w1 w2) (hL : Lists w2 w1.heap.size y) (hG : Good (part s.a) y.m) (hf : s.hs.length < s.hold) (hB : B ≤ w.heap.size)
    (ho : w3.ownsRow B 45 16 v3 (s.hs.length + 1) (mc s.hs ++ y.vals)) (hg : (w2.alloc (.cells y.arr 45)).grownBy w3 s.hv.ownBlock) (hat : v3.ownBlock = s.hv.ownBlock ∨ v3.ownBlock = some (w2.alloc (.cells y.arr 45)).heap.size) :
    (w3.cell? ⟨t, 8, none⟩ = some s.hv ∧ ∀ i, w3.frozen? ⟨t, i, none⟩ = false) ∧ ∃ s', ST w (w3.setCell ⟨t, 8, none⟩ v3) B t s s' ∧ s'.say = { s.say with held := s.say.held ++ [y.m] } := by
  have ha : Below w2.heap.size w2 (w2.alloc (.cells y.arr 45)) := below_alloc _ _
  have hb3 : Below w1.heap.size w1 (w2.alloc (.cells y.arr 45)) := chainB hb2 ha
  have h2 := h1.below hb3
  have hLa := hL.below ha
  have hO := only_grown hg
  have hno : ∀ k, s.hv.ownBlock = some k → ∀ ty, 45 ≠ ty → ¬ Tag (w2.alloc (.cells y.arr 45)) k ty := fun k e ty hne => (h2.th e).two hne
  have htd : w3.heap[t]? = (w2.alloc (.cells y.arr 45)).heap[t]? := hO.block t h2.tt.lt fun e => hno t e _ (by decide) h2.tt
  have hd3 := htd.trans h2.head
  have hc3 : w3.cell? ⟨t, 8, none⟩ = some s.hv := by rw [cell_of hd3]; rfl
  refine ⟨⟨hc3, free_of hd3⟩, { s with hv := v3, hs := s.hs ++ [y] }, ?_, by simp [Td.say]⟩
  have o4 : Only (· = t) w3 (w3.setCell ⟨t, 8, none⟩ v3) := only1 _ t _ _
  have tt3 : Tag w3 t 83 := ⟨_, _, hd3⟩
  have ne4 : ∀ k ty, Tag w3 k ty → 83 ≠ ty → k ≠ t := fun k ty hk hne e => by rw [e] at hk; exact tt3.two hne hk
  have lists : ∀ z : Hm, Lists (w2.alloc (.cells y.arr 45)) B z → Lists (w3.setCell ⟨t, 8, none⟩ v3) B z := fun z hz => by
    have hz3 : Lists w3 B z := hz.only hO fun q e => ⟨hno q e _ (by decide), hno q e _ (by decide)⟩
    exact hz3.only o4 fun q (e : q = t) => by rw [e]; exact ⟨tt3.two (by decide), tt3.two (by decide)⟩
  have sz1 := hb.size
  have sz2 := hb3.size
  have sz3 := hO.size
  refine ⟨⟨?_, h.bt, h.mkk, ?_, fun z hz => ?_, ?_, h.isf, h.frn, h.ask0, ?_, h.l8⟩, ?_, ?_, ?_⟩
  · have := heap_set hd3 8 v3
    simpa [Td.arr] using this
  · show World.ownsRow _ _ _ _ _ _ _
    rw [List.length_append, mc_app, show mc [y] = y.vals by simp [mc]]
    exact owns_moved ho fun k e => o4.block k (Tag.own ho e).lt (ne4 k _ (Tag.own ho e) (by decide))
  · rcases List.mem_append.1 hz with hz | hz
    · exact ⟨lists z (h2.each z hz).1, (h2.each z hz).2⟩
    · rw [List.mem_singleton.1 hz]
      exact ⟨lists y (hLa.down (by omega)), hG⟩
  · refine h2.map.moved fun g e => ?_
    have hm := (h2.map.some' e).1
    have hn1 : s.hv.ownBlock ≠ some g := fun e' => by
      have := h2.th e'
      exact hm.no this
    have e3 := hO.block g hm.lt (fun e' => hn1 e')
    have hm3 := hm.moved e3
    refine (o4.block g (Nat.lt_of_lt_of_le hm.lt sz3) fun (e' : g = t) => ?_).trans e3
    rw [e'] at hm3; exact hm3.no tt3
  · rw [List.length_append]; exact hf
  · refine ⟨o4.os.trans (hO.os.trans (hb3.os.trans hb.os)), o4.tape.trans (hO.tape.trans (hb3.tape.trans hb.tape)), o4.output.trans (hO.output.trans (hb3.output.trans hb.output)), by have := o4.size; omega, fun k hk hn => ?_⟩
    have e1 := hb.block k hk
    have e2 := hb3.block k (by omega)
    have e3 := hO.block k (by omega) (fun e => hn (.inr (.inl e)))
    have e4 := o4.block k (by omega) (fun e => hn (.inl e))
    exact e4.trans (e3.trans (e2.trans e1))
  · rintro k (e | e | e)
    · exact .inl (.inl e)
    · rcases hat with h' | h'
      · exact .inl (.inr (.inl (h'.symm.trans e)))
      · have : (w2.alloc (.cells y.arr 45)).heap.size = k := Option.some.inj (h'.symm.trans e)
        exact .inr (by omega)
    · exact .inl (.inr (.inr e))
  · rintro k ((e | e | e) | ⟨z, hz, e⟩)
    · exact .inl (.inl (.inl e))
    · rcases hat with h' | h'
      · exact .inl (.inl (.inr (.inl (h'.symm.trans e))))
      · have : (w2.alloc (.cells y.arr 45)).heap.size = k := Option.some.inj (h'.symm.trans e)
        exact .inr (by omega)
    · exact .inl (.inl (.inr (.inr e)))
    · rcases List.mem_append.1 hz with hz | hz
      · exact .inl (.inr ⟨z, hz, e⟩)
      · rw [List.mem_singleton.1 hz] at e
        refine .inr ?_
        rcases e with e | e
        · have := (World.ownsRow.lt hL.es k e).1; omega
        · have := (World.ownsRow.lt hL.ks k e).1; omega
set_option maxHeartbeats 4000000 in
set_option maxRecDepth 100000 in
theorem hold_yes (t B : Nat) (s : Td) (x : Hm) (B' : Nat) (w : World) (h : IsT w B t s) (hB : B ≤ w.heap.size) (hL : Lists w B' x) (hG : Good (part s.a) x.m) (hf : s.hs.length < s.hold) (hl : (s.hs.any fun y => likeV y.m x.m) = false) : Calls Try.prog 56 #[.pointer (some ⟨t, 0, none⟩), .agg x.arr] w fun e w' => e = .returned (.tuple #[]) ∧ ∃ s', ST w w' B t s s' ∧ s'.say = { s.say with held := s.say.held ++ [x.m] } := by
  obtain ⟨a, cap, hv⟩ := owns_len h.held
  obtain ⟨W, hW⟩ : ∃ W, w.alloc (.cells x.arr 45) = W := ⟨_, rfl⟩
  have bx := boxB hW
  have h1 := h.below bx.2
  obtain ⟨-, -, -, -, -, -, -, -, c8, c9, -⟩ := h1.cells
  rw [hv] at c8
  have hcon : Hid (Calls Try.prog 72 #[.slice a s.hs.length cap, .func (.func 71) #[] #[.pointer (some ⟨w.heap.size, 0, none⟩)]] W.drew fun e w' => e = .returned (.bool false) ∧ Below W.drew.heap.size W.drew w') := by
    have := contains_m 71 #[.pointer (some ⟨w.heap.size, 0, none⟩)] (fun y => likeV y.m x.m) a s.hs.length cap B s.hs W.drew (by rw [← hv]; exact (h.held.below bx.2).below (Below.refl _ _).drew) (by have := h.lh; have := h.l8; omega) eg_like (fun V y hb => like_p y x _ V (hkeep (hkeep bx.1 (Below.refl _ _).drew) hb))
    rw [hl] at this; exact this
  obtain ⟨X, hX⟩ : ∃ X, x.arr = X := ⟨_, rfl⟩
  rw [hX] at hW ⊢
  have hd : decide ((s.hs.length : Int) < (s.hold : Int)) = true := decide_eq_true (by omega)
  have hz : (s.hs.length : Int) < (s.hold : Int) := by omega
  have kS : W.drew.cell? ⟨t, 8, none⟩ = some (.slice a s.hs.length cap) ∧ W.drew.cell? ⟨t, 9, none⟩ = some (.int .i64 s.hold) := ⟨c8, c9⟩
  have HI : Hid (IsT w B t s ∧ Below w.heap.size w W ∧ W.heap[w.heap.size]? = some (.cells X 45 (0, 0)) ∧ X.size = 16 ∧ Lists w B' x ∧ s.hv = .slice a s.hs.length cap ∧ Good (part s.a) x.m ∧ x.arr = X) := ⟨h, bx.2, by rw [← hX]; exact bx.1, by rw [← hX]; rfl, hL, hv, hG, hX⟩
  clear h h1 bx hX hv hl hL hG
  go_enter Try.func56, Try.ntmps56
  go_upto_region 2 with fail
  clear hW
  go_region_held3 (fun w' => w'.cell? ⟨t, 8, none⟩ = some (.slice a s.hs.length cap) ∧ w'.cell? ⟨t, 9, none⟩ = some (.int .i64 s.hold))
    (with_reducible first | exact kS | exact kT)
    (first | (go_at_call 72; refine hcon.out.mono ?_; rintro e w1 ⟨rfl, hb1⟩; have kT : w1.cell? ⟨t, 8, none⟩ = some (.slice a s.hs.length cap) ∧ w1.cell? ⟨t, 9, none⟩ = some (.int .i64 s.hold) := ⟨(hb1.cell (cellLt kS.1)).trans kS.1, (hb1.cell (cellLt kS.2)).trans kS.2⟩))
  go_upto_region 3 with fail
  have hb : Below w.heap.size w w1 := chainB (chainB HI.out.2.1 (Below.refl _ _).drew) hb1
  have ix := HI.out.1.below hb
  have bx1 : w1.heap[w.heap.size]? = some (.cells X 45 (0, 0)) := hkeep (hkeep HI.out.2.2.1 (Below.refl _ _).drew) hb1
  have ml := msgLd_of bx1 HI.out.2.2.2.1
  have cf := ix.cells.2.2.2.2.2.2.2.2.2.2
  obtain ⟨d8, -⟩ := kT
  have ml' : (msgLd (.pointer (some ⟨w.heap.size, 0, none⟩))).run Try.prog w1.drew = .ok (.agg X) w1.drew := msgLd_of (w := w1.drew) bx1 HI.out.2.2.2.1
  have hcp : Hid (Calls Try.prog 48 #[.agg X] w1.drew fun e w' => ∃ y : Hm, e = .returned (.agg y.arr) ∧ y.m = x.m ∧ Lists w' w1.drew.heap.size y ∧ Below w1.drew.heap.size w1.drew w') := by
    have := copied_p x B' w1.drew ((HI.out.2.2.2.2.1.below hb).below (Below.refl _ _).drew)
    rw [HI.out.2.2.2.2.2.2.2] at this; exact this
  have HY : Hid (Below w.heap.size w w1 ∧ IsT w1 B t s) := ⟨hb, ix⟩
  obtain ⟨i1, hi1, hw0, hw1, hw2⟩ := info_parts Try.infoMg
  have htl : t < w1.heap.size := ix.tt.lt
  clear hb ix bx1 hcon kS hb1 c8 c9 ml
  have hlen8 : s.hs.length ≤ 8 := by have := HY.out.2.lh; have := HY.out.2.l8; omega
  have hBs : ∀ V : World, Below w1.heap.size w1 V → B ≤ V.heap.size := fun V hV => by have := HY.out.1.size; have := hV.size; omega
  go_region_law (first
    | (refine step_append_own_at rfl (.tmp 29) (.tmp 32) 53 rfl B 45 i1 _ 16 192 Try.underlying53 hi1 hw0 hw1 hw2 rfl (by decide) (.slice a s.hs.length cap) s.hs.length (mc s.hs) (by simp [Act.eval]) (by exact e1) ⟨w2.heap.size, 0, none⟩ 1 1 y.vals (by simp [Act.eval]) rfl (by exact yat) y.one' (by unfold maxLen; omega) (by omega) (by exact hBw) ?_; intro v3 w3 hown3 hgrow3 hat3; have HE : Hid _ := hold_end HI.out.1 HY.out.1 HY.out.2 b2 hLy (by rw [hym]; exact HI.out.2.2.2.2.2.2.1) hf hB hown3 (by rw [HI.out.2.2.2.2.2.1]; exact hgrow3) (by rw [HI.out.2.2.2.2.2.1]; exact hat3); obtain ⟨a3, q3, rfl⟩ := owns_len hown3; obtain ⟨f8, ff⟩ := HE.out.1; rw [HI.out.2.2.2.2.2.1] at f8; clear hown3 hgrow3 hat3)
    | (go_simp; go_at_call 48; refine hcp.out.mono ?_; rintro e w2 ⟨y, rfl, hym, hLy, hb2⟩; have mo := msgOne_of y.arr rfl w2; have b2 : Below w1.heap.size w1 w2 := ⟨hb2.os, hb2.tape, hb2.output, hb2.size, hb2.block⟩; have e2 := (b2.cell (p := ⟨t, 8, none⟩) htl).trans d8; have ef := fun i => (b2.frozen (p := ⟨t, i, none⟩) htl).trans (cf i); have ba := chainB b2 (below_alloc w2 (.cells y.arr 45)); have hBw := hBs _ ba; have e1 : (w2.alloc (.cells y.arr 45)).ownsRow B 45 16 (.slice a s.hs.length cap) s.hs.length (mc s.hs) := (by rw [← HI.out.2.2.2.2.2.1]; exact (HY.out.2.held.below ba)); have yat : ∀ j u, y.vals[j]? = some u → (w2.alloc (.cells y.arr 45)).cell? ((⟨w2.heap.size, 0, none⟩ : Addr).add j) = some u := (fun j u hu => by rw [add_plain', Nat.zero_add, cell_of (heap_new _ _), ← Array.getElem?_toList]; exact hu); have e8 : (w2.alloc (.cells y.arr 45)).cell? ⟨t, 8, none⟩ = some (.slice a s.hs.length cap) := (ba.cell (p := ⟨t, 8, none⟩) htl).trans d8))
  all_goals
    have hE := HE.out.2
    rw [hym] at hE
    have HZ : Hid _ := hE
    clear HE hE
    go_wp2
    go_end0
    exact ⟨rfl, HZ.out⟩
end
end Go.Proofs.Ytnklhdoiggomkaa
