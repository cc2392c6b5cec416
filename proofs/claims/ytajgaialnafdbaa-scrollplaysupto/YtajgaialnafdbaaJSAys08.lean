/- The contracts of package scroll's nextHeader, write and Format. -/
import Derived.Test.YtajgaialnafdbaaJSAys07
namespace Go.Proofs.Ytajgaialnafdbaa
section
open Go.RowKit

def BytC (cs : List (List Int)) : Prop := ∀ l ∈ cs, Byt l
theorem gmax_step (x : Nat) (bs : List (List Int)) (k : Nat) (l : List Int) (h : bs[k]? = some l) : gmax x (bs.take (k + 1)) = max (gmax x (bs.take k)) (le4 l) := by
  unfold gmax
  rw [List.take_add_one, h, List.foldl_append]; rfl
theorem gmax_lt {x : Nat} {bs : List (List Int)} (hx : x < 4294967296) (h : ∀ l ∈ bs, le4 l < 4294967296) : gmax x bs < 4294967296 := by
  unfold gmax
  induction bs generalizing x with
  | nil => exact hx
  | cons a bs ih => rw [List.foldl_cons]; exact ih (by have := h a (by simp); omega) (fun l hl => h l (by simp [hl]))
theorem half_mem {cs : List (List Int)} {h : Nat} {l : List Int} (hl : l ∈ halfL cs h) : l ∈ cs := List.mem_of_mem_drop (List.mem_of_mem_take hl)
theorem nextO_le (o : Option (Nat × Nat)) : (nextO o).2 ≤ 1 := by
  unfold nextO; split
  · show 1 - _ ≤ 1; omega
  · exact Nat.zero_le _
set_option maxRecDepth 100000 in
set_option maxHeartbeats 4000000 in
theorem next_any (b g : Nat) (s : Dsk) (w : World) (h : IsD w b g s) (h1 : 1 ≤ s.cs.length) (hb : BytC s.cs) :
    Calls Try.prog 42 #[.pointer (some ⟨b, 0, none⟩)] w fun e w' => e = .returned (.tuple #[.agg #[.int .i64 (nextG s.cs : Nat), .int .i64 (nextH s.cs : Nat)], .bool (decide (nextG s.cs ≤ 1073741824))]) ∧ Below w.heap.size w w' := by
  obtain ⟨l, hl⟩ : ∃ l, s.cs[0]? = some l := ⟨_, List.getElem?_eq_getElem (by omega)⟩
  have e0 : (s.cs[0]?).getD [] = l := by rw [hl]; rfl
  have hlb := h.lb
  have hlg := h.lg
  have HR : Hid (∀ w', Below w.heap.size w w' → Calls Try.prog 53 #[.pointer (some ⟨b, 0, none⟩)] w' fun e w2 => e = .returned (.tuple #[hdrV (hdrOf l), .bool (hdrOf l).isSome]) ∧ Below w'.heap.size w' w2) := fun w' hw => readHdr_any b g s w' (h.below hw) l hl (hb l (List.mem_of_getElem? hl))
  have H : Hid (∀ w', Below w.heap.size w w' → IsD w' b g s) := fun w' hw => h.below hw
  have hH := hS_lt h.few
  obtain ⟨O, hO⟩ : ∃ O, hdrOf l = O := ⟨_, rfl⟩
  obtain ⟨X, hX⟩ : ∃ X, (nextO O).1 = X := ⟨_, rfl⟩
  obtain ⟨Y, hY⟩ : ∃ Y, (nextO O).2 = Y := ⟨_, rfl⟩
  obtain ⟨N, hN⟩ : ∃ N, hS s.cs = N := ⟨_, rfl⟩
  have hY1 : Y ≤ 1 := by rw [← hY]; exact nextO_le O
  have hXb : X < 4294967296 := by
    rw [← hX]
    cases hq : O with
    | none => simp [nextO]
    | some p =>
      obtain ⟨a, c⟩ := p
      rw [hq] at hO
      have := (hdrOf_some hO).2.1
      show a < _
      omega
  have eG : nextG s.cs = gmax X (halfL s.cs Y) + 1 := by unfold nextG; rw [e0, hO, hX, hY]
  have eH : nextH s.cs = Y := by unfold nextH; rw [e0, hO, hY]
  have HB : Hid (∀ k, k < N → ∃ l, (halfL s.cs Y)[k]? = some l ∧ s.cs[1 + Y * N + k]? = some l ∧ Byt l) := by
    intro k hk
    have hf := half_fits s.cs Y k hY1 (by rw [hN]; exact hk)
    rw [hN] at hf
    refine ⟨s.cs[1 + Y * N + k]'hf, ?_, List.getElem?_eq_getElem hf, hb _ (List.getElem_mem hf)⟩
    rw [halfL_get, hN, if_pos hk, List.getElem?_eq_getElem hf]
  have HL : Hid ((halfL s.cs Y).length = N ∧ ∀ k, gmax X ((halfL s.cs Y).take k) < 4294967296) := ⟨by rw [halfL_len _ _ hY1, hN], fun k => gmax_lt hXb fun l hl => le4_lt (hb l (half_mem (List.mem_of_mem_take hl)))⟩
  rw [eG, eH]
  rw [hO] at HR
  rw [hN] at hH
  have HO : Hid (nextO O = (X, Y) ∧ hS s.cs = N) := ⟨by rw [← hX, ← hY], hN⟩
  have HOO : Hid (hdrOf l = O) := hO
  clear h hl e0 hb hX hY hN eG eH hO
  obtain ⟨BS, hBS⟩ : ∃ BS, halfL s.cs Y = BS := ⟨_, rfl⟩
  rw [hBS] at HB HL
  rw [hBS]
  clear hBS
  have key : ∀ (a c : Nat) (B : Bool), (B = true → X = a ∧ Y = 1 - c ∧ c ≤ 1) → (B = false → X = 0 ∧ Y = 0) → a < 4294967296 → c < 4294967296 → (∀ w', Below w.heap.size w w' → Calls Try.prog 53 #[.pointer (some ⟨b, 0, none⟩)] w' fun e w2 => e = .returned (.tuple #[.agg #[.int .i64 (a : Nat), .int .i64 (c : Nat)], .bool B]) ∧ Below w'.heap.size w' w2) →
      Calls Try.prog 42 #[.pointer (some ⟨b, 0, none⟩)] w fun e w' => e = .returned (.tuple #[.agg #[.int .i64 (gmax X BS + 1 : Nat), .int .i64 (Y : Nat)], .bool (decide (gmax X BS + 1 ≤ 1073741824))]) ∧ Below w.heap.size w w' := by
    intro a c B hyes hno ha hc hR
    have HR : Hid (∀ w', Below w.heap.size w w' → Calls Try.prog 53 #[.pointer (some ⟨b, 0, none⟩)] w' fun e w2 => e = .returned (.tuple #[.agg #[.int .i64 (a : Nat), .int .i64 (c : Nat)], .bool B]) ∧ Below w'.heap.size w' w2) := hR
    have HY : Hid ((B = true → X = a ∧ Y = 1 - c ∧ c ≤ 1) ∧ (B = false → X = 0 ∧ Y = 0)) := ⟨hyes, hno⟩
    clear hR hyes hno
    go_enter Try.func42, Try.ntmps42
    go_upto_if 15 with (go_at_call 53; refine (HR.out _ (by exact ((Below.refl _ _).alloc (Nat.le_refl _) _).alloc (by simp) _)).mono ?_; rintro e w1 ⟨rfl, hb1⟩)
    have hs1 := hb1.size
    simp only [World.size_alloc] at hs1
    have r0 : w1.heap[w.heap.size]? = some (.cells #[.int .i64 0, .int .i64 0] 71 (0, 0)) := by
      rw [hb1.block _ (by simp; omega), Below.heap_alloc _ _ _ (by simp)]; exact heap_new _ _
    have r1 : w1.heap[w.heap.size + 1]? = some (.cells #[.int .i64 0, .int .i64 0] 71 (0, 0)) := by
      rw [hb1.block _ (by simp)]
      have := heap_new (w.alloc (.cells #[.int .i64 0, .int .i64 0] 71)) (.cells #[.int .i64 0, .int .i64 0] 71)
      rw [World.size_alloc] at this
      exact this
    have B1 : Below w.heap.size w w1 := below_al (below_al (hb1.mono (by simp; omega)) (by simp)) (by omega)
    have HQ : Hid (w1.heap[w.heap.size]? = some (.cells #[.int .i64 0, .int .i64 0] 71 (0, 0)) ∧ w1.heap[w.heap.size + 1]? = some (.cells #[.int .i64 0, .int .i64 0] 71 (0, 0)) ∧ Below w.heap.size w w1) := ⟨r0, r1, B1⟩
    clear r0 r1 B1 hb1
    go_cut [22] from 16 to 21 (fun x wx => x = undef ∧ wx.heap[w.heap.size]? = some (.cells #[.int .i64 0, .int .i64 0] 71 (0, 0)) ∧ wx.heap[w.heap.size + 1]? = some (.cells #[.int .i64 (X : Nat), .int .i64 (Y : Nat)] 71 (0, 0)) ∧ Below w.heap.size w wx)
    case first =>
      cases B
      · have hY := HY.out.2 rfl
        have HY' : Hid (X = 0 ∧ Y = 0) := hY
        clear hY HY
        go_wp2
        go_meet
        refine ⟨rfl, ?_, ?_, ?_⟩
        · rw [Below.heap_alloc _ _ _ (by omega)]; exact HQ.out.1
        · rw [Below.heap_alloc _ _ _ (by omega), HQ.out.2.1, HY'.out.1, HY'.out.2]; rfl
        · exact chainB HQ.out.2.2 (below_alloc _ _)
      · have hY := HY.out.1 rfl
        have hc1 := hY.2.2
        have HY' : Hid (X = a ∧ Y = 1 - c ∧ c ≤ 1) := hY
        have m1 : (w1.alloc (.cells #[.int .i64 (a : Nat), .int .i64 (c : Nat)] 71)).heap[w.heap.size + 1]? = some (.cells #[.int .i64 0, .int .i64 0] 71 (0, 0)) := by rw [Below.heap_alloc _ _ _ (by omega)]; exact HQ.out.2.1
        have p0 := cell_of m1 0
        have p1 := cell_of m1 1
        have pf := free_of m1
        have HM : Hid _ := m1
        clear hY HY m1
        simp at p0 p1
        go_wp2
        go_meet
        have hz : (1 : Int) - (c : Int) = (Y : Int) := by rw [HY'.out.2.1]; omega
        refine ⟨rfl, ?_, ?_, ?_⟩
        · rw [heap_set_ne (by omega), heap_set_ne (by omega), Below.heap_alloc _ _ _ (by omega)]; exact HQ.out.1
        · rw [heap_set (heap_set HM.out 0 _) 1 _, hz, ← HY'.out.1]; rfl
        · exact ((chainB HQ.out.2.2 (below_alloc _ _)).setCell (p := ⟨w.heap.size + 1, 0, none⟩) (by simp) _).setCell (p := ⟨w.heap.size + 1, 1, none⟩) (by simp) _
    case rest =>
      obtain ⟨rfl, hr0, hr1, hB⟩ := hcut
      obtain ⟨P, hP⟩ : ∃ P, 1 + Y * N = P := ⟨_, rfl⟩
      have hP2 : P ≤ 512 := by
        have : Y * N ≤ 1 * 511 := Nat.mul_le_mul hY1 hH
        omega
      have HS : Hid (∀ w', Below w.heap.size w w' → Calls Try.prog 62 #[.pointer (some ⟨b, 0, none⟩), .int .i64 (Y : Nat)] w' fun e w2 => e = .returned (.int .i64 (P : Nat)) ∧ w2 = w') := fun w' hw => by
        have := halfStart_any b g s Y w' (H.out w' hw) h1 hY1
        rw [HO.out.2, hP] at this; exact this
      have HZ : Hid (∀ w', Below w.heap.size w w' → Calls Try.prog 47 #[.pointer (some ⟨b, 0, none⟩)] w' fun e w2 => e = .returned (.int .i64 (N : Nat)) ∧ w2 = w') := fun w' hw => by
        have := halfSize_any b g s w' (H.out w' hw) h1
        rw [HO.out.2] at this; exact this
      have HRd : Hid (∀ (k : Nat) (l : List Int) w', Below w.heap.size w w' → s.cs[P + k]? = some l → Calls Try.prog 30 #[.pointer (some ⟨b, 0, none⟩), .int .i64 ((P : Int) + (k : Int))] w' fun e w2 => ∃ q cap, e = .returned (.tuple #[.slice (some ⟨q, 0, none⟩) 64 cap, .int .i64 0]) ∧ RB w2 (.slice (some ⟨q, 0, none⟩) 64 cap) l ∧ l.length = 64 ∧ Below w'.heap.size w' w2) := fun k l w' hw hl => by
        have := read_at b g s (P + k) l hl w' (H.out w' hw)
        rw [Int.natCast_add] at this
        refine this.mono ?_
        rintro e w2 ⟨q, cap, rfl, _, ho, _, hb⟩
        exact ⟨q, cap, rfl, ho.rb, (H.out w' hw).each l (List.mem_of_getElem? hl), hb⟩
      rw [hP] at HB
      clear hP HQ
      go_wp2_with (go_at_call 47; refine (HZ.out _ hB).mono ?_; rintro e w2 ⟨rfl, rfl⟩)
      go_loopw [24] (fun i wr => ∃ k : Nat, k ≤ N ∧ i = .int .i64 k ∧ wr.heap[w.heap.size]? = some (.cells #[.int .i64 0, .int .i64 0] 71 (0, 0)) ∧ wr.heap[w.heap.size + 1]? = some (.cells #[.int .i64 (gmax X (BS.take k) : Nat), .int .i64 (Y : Nat)] 71 (0, 0)) ∧ Below w.heap.size w wr) (fun i _ => N - (intOf i).toNat)
      case atStart => exact ⟨0, Nat.zero_le _, rfl, hr0, by simpa [gmax] using hr1, hB⟩
      case round =>
        clear hr0 hr1 hB
        obtain ⟨k, hk, rfl, hr0, hr1, hB⟩ := hrel
        obtain ⟨A, hA⟩ : ∃ A, gmax X (BS.take k) = A := ⟨_, rfl⟩
        have hA2 : A < 4294967296 := by rw [← hA]; exact HL.out.2 k
        have HA : Hid (gmax X (BS.take k) = A) := hA
        rw [hA] at hr1
        have c0 : wr.cell? ⟨w.heap.size + 1, 0, none⟩ = some (.int .i64 (A : Nat)) := by rw [cell_of hr1]; rfl
        have c1 : wr.cell? ⟨w.heap.size + 1, 1, none⟩ = some (.int .i64 (Y : Nat)) := by rw [cell_of hr1]; rfl
        have cf := free_of hr1
        have hsz : w.heap.size + 1 < wr.heap.size := (Array.getElem?_eq_some_iff.1 hr1).1
        have HQ : Hid (wr.heap[w.heap.size]? = some (.cells #[.int .i64 0, .int .i64 0] 71 (0, 0)) ∧ wr.heap[w.heap.size + 1]? = some (.cells #[.int .i64 (A : Nat), .int .i64 (Y : Nat)] 71 (0, 0))) := ⟨hr0, hr1⟩
        clear hA hr0 hr1
        by_cases hlt : k < N
        · obtain ⟨l, hl1, hl2, hl3⟩ := HB.out k hlt
          have hki : (k : Int) < (N : Int) := by omega
          have HL1 : Hid (BS[k]? = some l ∧ s.cs[P + k]? = some l ∧ Byt l) := ⟨hl1, hl2, hl3⟩
          clear hl1 hl2 hl3
          go_upto_region 9 with (first
            | (go_at_call 62; refine (HS.out _ hB).mono ?_; rintro e w2 ⟨rfl, rfl⟩)
            | (go_at_call 30; refine (HRd.out k l _ hB HL1.out.2.1).mono ?_; rintro e w3 ⟨q, cap, rfl, hrb, hl64, hb3⟩; have d0 := (hb3.cell (p := ⟨w.heap.size + 1, 0, none⟩) hsz).trans c0; have df := (free_of ((hb3.block _ hsz).trans HQ.out.2))))
          have HN : Hid (∀ w', Below w3.heap.size w3 w' → Calls Try.prog 63 #[.slice (some ⟨q, 0, none⟩) 64 cap] w' fun e w2 => e = .returned (.int .i64 (le4 l : Nat)) ∧ w2 = w') := fun w' hw' => number_any _ l w' (hrb.below hw') (by omega) HL1.out.2.2
          have HQ3 : Hid (w3.heap[w.heap.size]? = some (.cells #[.int .i64 0, .int .i64 0] 71 (0, 0)) ∧ w3.heap[w.heap.size + 1]? = some (.cells #[.int .i64 (A : Nat), .int .i64 (Y : Nat)] 71 (0, 0)) ∧ Below w.heap.size w w3) := ⟨(hb3.block _ (by omega)).trans HQ.out.1, (hb3.block _ hsz).trans HQ.out.2, chainB hB hb3⟩
          obtain ⟨Z, hZ⟩ : ∃ Z, le4 l = Z := ⟨_, rfl⟩
          have HZ2 : Hid (le4 l = Z) := hZ
          have hZ2 : Z < 4294967296 := by rw [← hZ]; exact le4_lt HL1.out.2.2
          rw [hZ] at HN
          clear hrb hb3 c0 c1 cf hl64 hZ hB
          go_region_law (go_simp; go_at_call 63; refine (HN.out _ (by first | exact (Below.refl _ _) | exact (Below.refl _ _).drew)).mono ?_; rintro e w4 ⟨rfl, rfl⟩)
          all_goals
            go_wp2
            go_roundw
            case rel =>
              refine ⟨k + 1, by omega, by go_num, ?_, ?_, ?_⟩
              · exact (heap_set_ne (by omega)).trans HQ3.out.1
              · rw [gmax_step X BS k l HL1.out.1, HA.out, HZ2.out]
                have e := heap_set HQ3.out.2.1 0 (.int .i64 (max (A : Int) (Z : Int)))
                rw [show ((max A Z : Nat) : Int) = max (A : Int) (Z : Int) by omega]
                exact e
              · exact (HQ3.out.2.2.drew).setCell (p := ⟨w.heap.size + 1, 0, none⟩) (by simp) _
            case measure => simp [intOf]; omega
        · obtain rfl : k = N := by omega
          have HE : Hid (A = gmax X BS) := by
            have := HA.out
            rw [List.take_of_length_le (by rw [HL.out.1]; exact Nat.le_refl _)] at this
            exact this.symm
          have hr0 := HQ.out.1
          have z0 := cell_of hr0 0
          have z1 := cell_of hr0 1
          have zf := free_of hr0
          simp at z0 z1
          clear hr0 HA
          go_upto_region 12 with fail
          obtain ⟨W, hW⟩ : ∃ W, wr.setCell ⟨w.heap.size + 1, 0, none⟩ (.int .i64 ((A : Int) + 1)) = W := ⟨_, rfl⟩
          have q0 : W.heap[w.heap.size]? = some (.cells #[.int .i64 0, .int .i64 0] 71 (0, 0)) := by rw [← hW, heap_set_ne (by omega)]; exact HQ.out.1
          have q1 : W.heap[w.heap.size + 1]? = some (.cells #[.int .i64 ((A : Int) + 1), .int .i64 (Y : Nat)] 71 (0, 0)) := by rw [← hW]; exact (heap_set HQ.out.2 0 _).trans rfl
          have hBW : Below w.heap.size w W := by rw [← hW]; exact hB.setCell (p := ⟨w.heap.size + 1, 0, none⟩) (by simp) _
          have HQW : Hid (W.heap[w.heap.size]? = some (.cells #[.int .i64 0, .int .i64 0] 71 (0, 0)) ∧ Below w.heap.size w W) := ⟨q0, hBW⟩
          have a0 := cell_of q0 0
          have a1 := cell_of q0 1
          have af := free_of q0
          have b0 := cell_of q1 0
          have b1 := cell_of q1 1
          simp at a0 a1 b0 b1
          rw [hW]
          clear hW q0 q1 hBW z0 z1 zf c0 c1 cf hB HQ
          go_region
          all_goals
            go_wp2
            refine bodyPost_ret (ret_hdr rfl _ _ _ rfl (heap_set (heap_set HQW.out.1 0 _) 1 _)) rfl ?_
            refine ⟨?_, (HQW.out.2.drew.setCell (p := ⟨w.heap.size, 0, none⟩) (Nat.le_refl _) _).setCell (p := ⟨w.heap.size, 1, none⟩) (Nat.le_refl _) _⟩
            rw [← HE.out, Int.natCast_add, show decide (A + 1 ≤ 1073741824) = decide ((A : Int) + 1 ≤ 1073741824) from decide_eq_decide.2 (by omega)]
            rfl
  cases O with
  | none =>
    have e := HO.out.1
    simp only [nextO, Prod.mk.injEq] at e
    exact key 0 0 false (fun h => by cases h) (fun _ => ⟨e.1.symm, e.2.symm⟩) (by omega) (by omega) HR.out
  | some p =>
    obtain ⟨a, c⟩ := p
    have e := HO.out.1
    simp only [nextO, Prod.mk.injEq] at e
    have := hdrOf_some HOO.out
    exact key a c true (fun _ => ⟨e.1.symm, e.2.symm, this.2.2.1⟩) (fun h => by cases h) (by omega) (by omega) HR.out
end
end Go.Proofs.Ytajgaialnafdbaa
