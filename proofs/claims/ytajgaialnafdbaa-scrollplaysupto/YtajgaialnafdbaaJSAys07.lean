/- The contracts of package scroll's headers. -/
import Derived.Test.YtajgaialnafdbaaJSAys06
namespace Go.Proofs.Ytajgaialnafdbaa
section
open Go.RowKit

theorem Try.sizeH : (Try.prog.info? 71).map (·.size) = some 2 := by kernel_rfl
theorem half_tdiv (n : Nat) (h : 1 ≤ n) : ((n : Int) - 1) / 2 = (((n - 1) / 2 : Nat) : Int) := by omega
theorem read_at (b g : Nat) (s : Dsk) (i : Nat) (l : List Int) (hl : s.cs[i]? = some l) (w : World) (h : IsD w b g s) :
    Calls Try.prog 30 #[.pointer (some ⟨b, 0, none⟩), .int .i64 i] w fun e w' => ∃ k cap, e = .returned (.tuple #[.slice (some ⟨k, 0, none⟩) 64 cap, .int .i64 0]) ∧ 64 ≤ cap ∧ OwnB w' w.heap.size (.slice (some ⟨k, 0, none⟩) 64 cap) l ∧ (k < w'.heap.size ∧ ∀ i x, l[i]? = some x → w'.cell? ⟨k, i, none⟩ = some (.int .u8 x)) ∧ Below w.heap.size w w' := by
  have hi : i < s.cs.length := (List.getElem?_eq_some_iff.1 hl).1
  have hlen : l.length = 64 := h.each l (List.mem_of_getElem? hl)
  refine (read_yes b g s i w h hi).mono ?_
  rintro e w2 ⟨v, rfl, ho, hb2⟩
  have e1 : s.cs[i]'hi = l := (List.getElem?_eq_some_iff.1 hl).2
  rw [e1] at ho
  rcases ho.form with ⟨_, e⟩ | ⟨k, cap, rfl, _, hk, hc, hcl, _⟩
  · rw [e] at hlen; cases hlen
  · rw [hlen] at ho hc ⊢
    exact ⟨k, cap, rfl, hc, ho, ⟨hk, hcl⟩, hb2⟩
theorem ret_hdr {fn : Func} {p u : Tmp} (h : fn.results = #[.cell p 71, .tmp u]) (tmps : Array Value) (w : World) (g : Nat) {t : TypeId} {cs : Array Value} {fr : Nat × Nat} (hp : tmps.getD p undef = .pointer (some ⟨g, 0, none⟩)) (hg : w.heap[g]? = some (.cells cs t fr)) (hs : cs.size = 2 := by rfl) :
    (results fn tmps).run Try.prog w = .ok (.tuple #[.agg cs, tmps.getD u undef]) w := by
  rw [results_cell_tmp h, hp]
  simp [asAddr, run_loadVar_row w g t 71 cs fr _ hg Try.underlying71 rfl (by rw [hs]; exact Try.sizeH), Result.andThen]
theorem halfSize_any (b g : Nat) (s : Dsk) (w : World) (h : IsD w b g s) (h1 : 1 ≤ s.cs.length) :
    Calls Try.prog 47 #[.pointer (some ⟨b, 0, none⟩)] w fun e w' => e = .returned (.int .i64 (hS s.cs : Nat)) ∧ w' = w := by
  have hfew := h.few
  have H : Hid (IsD w b g s) := h
  have ht := half_tdiv s.cs.length h1
  have e : hS s.cs = (s.cs.length - 1) / 2 := rfl
  rw [e, ← ht]
  clear h e ht
  go_enter Try.func47, Try.ntmps47
  go_wp2_with (go_at_call 67; refine (size_any b g s _ H.out).mono ?_; rintro e w' ⟨rfl, rfl⟩)
  go_ret
  exact ⟨rfl, rfl⟩
theorem hS_lt {cs : List (List Int)} (h : cs.length ≤ 1024) : hS cs ≤ 511 := by unfold hS; omega
theorem halfStart_any (b g : Nat) (s : Dsk) (hf : Nat) (w : World) (h : IsD w b g s) (h1 : 1 ≤ s.cs.length) (hh : hf ≤ 1) :
    Calls Try.prog 62 #[.pointer (some ⟨b, 0, none⟩), .int .i64 hf] w fun e w' => e = .returned (.int .i64 (1 + hf * hS s.cs : Nat)) ∧ w' = w := by
  have hb := hS_lt h.few
  have H : Hid (IsD w b g s) := h
  obtain ⟨K, hK⟩ : ∃ K, hS s.cs = K := ⟨_, rfl⟩
  have HK : Hid (hS s.cs = K) := hK
  rw [hK] at hb
  rw [hK]
  have hm : hf * K ≤ 1 * 511 := Nat.mul_le_mul hh hb
  have hm2 : (0 : Int) ≤ (hf : Int) * (K : Int) ∧ (hf : Int) * (K : Int) ≤ 511 := by
    rw [← Int.natCast_mul]; omega
  have e : ((1 + hf * K : Nat) : Int) = 1 + (hf : Int) * (K : Int) := by rw [Int.natCast_add, Int.natCast_mul]; rfl
  rw [e]
  clear h hK e hm
  go_enter Try.func62, Try.ntmps62
  go_wp2_with (go_at_call 47; refine (halfSize_any b g s _ H.out h1).mono ?_; rintro e w' ⟨rfl, rfl⟩; rw [HK.out])
  go_ret
  exact ⟨rfl, rfl⟩

def hdrV (o : Option (Nat × Nat)) : Value := match o with | some (g, h) => .agg #[.int .i64 (g : Nat), .int .i64 (h : Nat)] | none => .agg #[.int .i64 0, .int .i64 0]
theorem hdr_bad {b : List Int} (h : ¬ (1 ≤ le4 (b.drop 4) ∧ le4 (b.drop 4) ≤ 1073741824 ∧ gB b 8 ≤ 1 ∧ b = hdrB (le4 (b.drop 4)) (gB b 8))) : hdrOf b = none := by unfold hdrOf; rw [if_neg h]
theorem hdr_good {b : List Int} (h : 1 ≤ le4 (b.drop 4) ∧ le4 (b.drop 4) ≤ 1073741824 ∧ gB b 8 ≤ 1 ∧ b = hdrB (le4 (b.drop 4)) (gB b 8)) : hdrOf b = some (le4 (b.drop 4), gB b 8) := by unfold hdrOf; rw [if_pos h]
set_option maxRecDepth 100000 in
set_option maxHeartbeats 4000000 in
theorem readHdr_any (b g : Nat) (s : Dsk) (w : World) (h : IsD w b g s) (l : List Int) (hl : s.cs[0]? = some l) (hb : Byt l) :
    Calls Try.prog 53 #[.pointer (some ⟨b, 0, none⟩)] w fun e w' => e = .returned (.tuple #[hdrV (hdrOf l), .bool (hdrOf l).isSome]) ∧ Below w.heap.size w w' := by
  have hlen : l.length = 64 := h.each l (List.mem_of_getElem? hl)
  have HR : Hid (∀ w', Below w.heap.size w w' → Calls Try.prog 30 #[.pointer (some ⟨b, 0, none⟩), .int .i64 0] w' fun e w2 => ∃ k cap, e = .returned (.tuple #[.slice (some ⟨k, 0, none⟩) 64 cap, .int .i64 0]) ∧ 64 ≤ cap ∧ OwnB w2 w'.heap.size (.slice (some ⟨k, 0, none⟩) 64 cap) l ∧ (k < w2.heap.size ∧ ∀ i x, l[i]? = some x → w2.cell? ⟨k, i, none⟩ = some (.int .u8 x)) ∧ Below w'.heap.size w' w2) := fun w' hw => read_at b g s 0 l hl w' (h.below hw)
  have HB : Hid (Byt l ∧ l.length = 64) := ⟨hb, hlen⟩
  obtain ⟨G, hG⟩ : ∃ G, le4 (l.drop 4) = G := ⟨_, rfl⟩
  obtain ⟨X, hX⟩ : ∃ X, gB l 8 = X := ⟨_, rfl⟩
  have hG2 : G < 4294967296 := by rw [← hG]; exact le4_lt (byt_drop hb 4)
  have hX2 : X < 256 := by rw [← hX]; exact gB_lt hb 8
  have HG : Hid (le4 (l.drop 4) = G ∧ gB l 8 = X) := ⟨hG, hX⟩
  clear h hl hb hlen hG hX
  go_enter Try.func53, Try.ntmps53
  go_upto_region 4 with (go_at_call 30; refine (HR.out _ (below_alloc _ _)).mono ?_; rintro e w1 ⟨k, cap, rfl, hcap, ho, ⟨hk, hcl⟩, hb1⟩; have hm := (hb1.block w.heap.size (by simp)).trans (heap_new _ _); have c0 := cell_of hm 0; have c1 := cell_of hm 1; have hfr := free_of hm)
  have hx : w1.cell? ⟨k, 8, none⟩ = some (.int .u8 (X : Nat)) := by
    have hq : l[8]? = some (l[8]'(by rw [HB.out.2]; decide)) := List.getElem?_eq_getElem _
    rw [hcl 8 _ hq, ← HG.out.2, gB_get hq (HB.out.1 _ (List.mem_of_getElem? hq)).1]
  have HN : Hid (∀ w', Below w1.heap.size w1 w' → Calls Try.prog 63 #[.slice (some ⟨k, 4, none⟩) 60 (cap - 4)] w' fun e w2 => e = .returned (.int .i64 (G : Nat)) ∧ w2 = w') := by
    intro w' hw'
    have hr : RB w1 (.slice (some ⟨k, 4, none⟩) 60 (cap - 4)) ((l.drop 4).take 60) := RB.sub (off := 0) (fun i x hx => by rw [Nat.zero_add]; exact hcl i x hx) hk 4 rfl (by rw [HB.out.2]; decide)
    rw [List.take_of_length_le (by rw [List.length_drop, HB.out.2]; decide)] at hr
    have := number_any _ _ w' (hr.below hw') (by rw [List.length_drop, HB.out.2]; decide) (byt_drop HB.out.1 4)
    rw [HG.out.1] at this
    exact this
  have hcp : ¬ (cap = 4) := by omega
  have hcp2 : (4 : Int) ≤ (cap : Int) := by omega
  have hsz : w.heap.size < w1.heap.size := (Array.getElem?_eq_some_iff.1 hm).1
  have HM : Hid (Below w.heap.size w w1 ∧ w1.heap[w.heap.size]? = some (.cells #[.int .i64 0, .int .i64 0] 71 (0, 0))) := ⟨chainB (below_alloc _ _) hb1, hm⟩
  have HO : Hid _ := ho
  clear hb1 hm ho c0 c1 hfr hcl
  go_cut [6] from 15 to 22 (fun x wx => x = .pointer (some ⟨w1.heap.size, 0, none⟩) ∧ wx.heap[w1.heap.size]? = some (.cells #[.int .i64 (G : Nat), .int .i64 (X : Nat)] 71 (0, 0)) ∧ Below w1.heap.size w1 wx)
  case first =>
    have hwX : IntKind.i64.wrap (X : Int) = (X : Int) := IntWalk.i64_in _ (by omega)
    go_region_law (go_simp; go_at_call 63; refine (HN.out _ (by first | exact (Below.refl _ _) | exact (Below.refl _ _).drew | exact ((Below.refl _ _).alloc (Nat.le_refl _) _) | exact ((Below.refl _ _).drew.alloc (Nat.le_refl _) _) | exact ((Below.refl _ _).alloc (Nat.le_refl _) _).drew)).mono ?_; rintro e w3 ⟨rfl, rfl⟩)
    all_goals
      go_wp2
      go_meet
      exact ⟨rfl, by first | (rw [hwX]; exact heap_new _ _) | exact heap_new _ _, ((Below.refl _ _).alloc (Nat.le_refl _) _).drew⟩
  case rest =>
    obtain ⟨rfl, hn, hbx⟩ := hcut
    have hs1 := hbx.size
    have hm : wc.heap[w.heap.size]? = some (.cells #[.int .i64 0, .int .i64 0] 71 (0, 0)) := (hbx.block _ hsz).trans HM.out.2
    have n0 : wc.cell? ⟨w1.heap.size, 0, none⟩ = some (.int .i64 (G : Nat)) := by rw [cell_of hn]; rfl
    have n1 : wc.cell? ⟨w1.heap.size, 1, none⟩ = some (.int .i64 (X : Nat)) := by rw [cell_of hn]; rfl
    have m0 : wc.cell? ⟨w.heap.size, 0, none⟩ = some (.int .i64 0) := by rw [cell_of hm]; rfl
    have m1 : wc.cell? ⟨w.heap.size, 1, none⟩ = some (.int .i64 0) := by rw [cell_of hm]; rfl
    have mf := free_of hm
    have HW : Hid (Below w.heap.size w wc ∧ wc.heap[w.heap.size]? = some (.cells #[.int .i64 0, .int .i64 0] 71 (0, 0))) := ⟨chainB HM.out.1 hbx, hm⟩
    clear hm hn
    by_cases b1 : G < 1
    · have e1 : decide ((G : Int) < 1) = true := decide_eq_true (by omega)
      have HE : Hid (hdrOf l = none) := hdr_bad (by rw [HG.out.1]; omega)
      clear hbx HN HR hx
      go_wp2
      refine bodyPost_ret (ret_hdr rfl _ _ _ rfl (heap_set (heap_set HW.out.2 0 _) 1 _)) rfl ?_
      exact ⟨by rw [HE.out]; rfl, (HW.out.1.setCell (p := ⟨w.heap.size, 0, none⟩) (Nat.le_refl _) _).setCell (p := ⟨w.heap.size, 1, none⟩) (Nat.le_refl _) _⟩
    have e1 : decide ((G : Int) < 1) = false := decide_eq_false (by omega)
    by_cases b2 : 1073741824 < G
    · have e2 : decide ((1073741824 : Int) < (G : Int)) = true := decide_eq_true (by omega)
      have HE : Hid (hdrOf l = none) := hdr_bad (by rw [HG.out.1]; omega)
      clear hbx HN HR hx
      go_wp2
      refine bodyPost_ret (ret_hdr rfl _ _ _ rfl (heap_set (heap_set HW.out.2 0 _) 1 _)) rfl ?_
      exact ⟨by rw [HE.out]; rfl, (HW.out.1.setCell (p := ⟨w.heap.size, 0, none⟩) (Nat.le_refl _) _).setCell (p := ⟨w.heap.size, 1, none⟩) (Nat.le_refl _) _⟩
    have e2 : decide ((1073741824 : Int) < (G : Int)) = false := decide_eq_false (by omega)
    by_cases b3 : 1 < X
    · have e3 : decide ((1 : Int) < (X : Int)) = true := decide_eq_true (by omega)
      have HE : Hid (hdrOf l = none) := hdr_bad (by rw [HG.out.1, HG.out.2]; omega)
      clear hbx HN HR hx
      go_wp2
      refine bodyPost_ret (ret_hdr rfl _ _ _ rfl (heap_set (heap_set HW.out.2 0 _) 1 _)) rfl ?_
      exact ⟨by rw [HE.out]; rfl, (HW.out.1.setCell (p := ⟨w.heap.size, 0, none⟩) (Nat.le_refl _) _).setCell (p := ⟨w.heap.size, 1, none⟩) (Nat.le_refl _) _⟩
    have e3 : decide ((1 : Int) < (X : Int)) = false := decide_eq_false (by omega)
    have HK : Hid (RB wc (.slice (some ⟨k, 0, none⟩) 64 cap) l) := by
      have := (OwnB.rb HO.out).below hbx
      exact this
    by_cases b4 : l = hdrB G X
    · have HE : Hid (hdrOf l = some (G, X) ∧ decide (l = hdrB G X) = true) := ⟨by rw [hdr_good ⟨by rw [HG.out.1]; omega, by rw [HG.out.1]; omega, by rw [HG.out.2]; omega, by rw [HG.out.1, HG.out.2]; exact b4⟩, HG.out.1, HG.out.2], decide_eq_true b4⟩
      clear hbx HN HR hx b4
      go_wp2_with (first
        | (go_at_call 64; refine (hdrBlock_any G X _ (by omega)).mono ?_; rintro e w5 ⟨v5, rfl, ho5, hb5⟩)
        | (go_at_call 69; refine (equal_any _ v5 l (hdrB G X) _ (RB.below HK.out hb5) ho5.rb HB.out.1 (byt_hdr _ _)).mono ?_; rintro e w6 ⟨rfl, rfl⟩; rw [HE.out.2]; have hm5 := (hb5.block w.heap.size (by omega)).trans HW.out.2; have p0 := cell_of hm5 0; have p1 := cell_of hm5 1; have pf := free_of hm5; simp at p0 p1; have q0 := (hb5.cell (p := ⟨w1.heap.size, 0, none⟩) (cellLt n0)).trans n0; have q1 := (hb5.cell (p := ⟨w1.heap.size, 1, none⟩) (cellLt n1)).trans n1; have HW5 : Hid (Below w.heap.size w w6 ∧ w6.heap[w.heap.size]? = some (.cells #[.int .i64 0, .int .i64 0] 71 (0, 0))) := ⟨chainB HW.out.1 hb5, hm5⟩; clear hm5))
      refine bodyPost_ret (ret_hdr rfl _ _ _ rfl (heap_set (heap_set HW5.out.2 0 _) 1 _)) rfl ?_
      exact ⟨by rw [HE.out.1]; rfl, (HW5.out.1.setCell (p := ⟨w.heap.size, 0, none⟩) (Nat.le_refl _) _).setCell (p := ⟨w.heap.size, 1, none⟩) (Nat.le_refl _) _⟩
    · have HE : Hid (hdrOf l = none ∧ decide (l = hdrB G X) = false) := ⟨hdr_bad (by rw [HG.out.1, HG.out.2]; rintro ⟨_, _, _, h⟩; exact b4 h), decide_eq_false b4⟩
      clear hbx HN HR hx b4
      go_wp2_with (first
        | (go_at_call 64; refine (hdrBlock_any G X _ (by omega)).mono ?_; rintro e w5 ⟨v5, rfl, ho5, hb5⟩)
        | (go_at_call 69; refine (equal_any _ v5 l (hdrB G X) _ (RB.below HK.out hb5) ho5.rb HB.out.1 (byt_hdr _ _)).mono ?_; rintro e w6 ⟨rfl, rfl⟩; rw [HE.out.2]; have hm5 := (hb5.block w.heap.size (by omega)).trans HW.out.2; have p0 := cell_of hm5 0; have p1 := cell_of hm5 1; have pf := free_of hm5; simp at p0 p1; have HW5 : Hid (Below w.heap.size w w6 ∧ w6.heap[w.heap.size]? = some (.cells #[.int .i64 0, .int .i64 0] 71 (0, 0))) := ⟨chainB HW.out.1 hb5, hm5⟩; clear hm5))
      refine bodyPost_ret (ret_hdr rfl _ _ _ rfl (heap_set (heap_set HW5.out.2 0 _) 1 _)) rfl ?_
      exact ⟨by rw [HE.out.1]; rfl, (HW5.out.1.setCell (p := ⟨w.heap.size, 0, none⟩) (Nat.le_refl _) _).setCell (p := ⟨w.heap.size, 1, none⟩) (Nat.le_refl _) _⟩
end
end Go.Proofs.Ytajgaialnafdbaa
