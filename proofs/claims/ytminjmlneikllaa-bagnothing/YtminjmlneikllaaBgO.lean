/- The walk of BagOrder. -/
import Derived.Test.YtminjmlneikllaaBgF
namespace Go.Proofs.Ytminjmlneikllaa
open Go.RowKit

/-- a slice of slices of bytes that came in -/
def RowB (w : World) (a : Option Addr) (len : Nat) (V : Nat → Value) (L : Nat → List Int) : Prop :=
  len = 0 ∨ ∃ b off, a = some ⟨b, off, none⟩ ∧ b < w.heap.size ∧ ∀ i, i < len → w.cell? ⟨b, off + i, none⟩ = some (V i) ∧ RB w (V i) (L i) ∧ (L i).length ≤ LB

def recs (L : Nat → List Int) (k : Nat) : List (Int × List Int) := (List.range k).map fun (i : Nat) => ((i : Int), L i)
theorem recs_len (L : Nat → List Int) (k : Nat) : (recs L k).length = k := by unfold recs; simp
theorem recs_succ (L : Nat → List Int) (k : Nat) : recs L (k + 1) = recs L k ++ [((k : Int), L k)] := by unfold recs; rw [List.range_succ, List.map_append]; rfl
theorem recs_get (L : Nat → List Int) (k i : Nat) (h : i < k) : (recs L k)[i]? = some ((i : Int), L i) := by unfold recs; rw [List.getElem?_map, List.getElem?_range h]; rfl
theorem drop_erase {α : Type} (l : List α) (i : Nat) : (l.drop i).eraseIdx 0 = l.drop (i + 1) := by
  rw [List.eraseIdx_zero, List.tail_drop]
theorem recs_all (L : Nat → List Int) (m K i j : Nat) (hj : (i < m ∧ j = i) ∨ (i = m ∧ j = K)) : ((recs L m ++ [((K : Int), L K)]).drop i)[0]? = some ((j : Int), L j) := by
  rw [List.getElem?_drop, Nat.add_zero]
  rcases hj with ⟨h, rfl⟩ | ⟨rfl, rfl⟩
  · rw [List.getElem?_append_left (by rw [recs_len]; exact h)]; exact recs_get _ _ _ h
  · rw [List.getElem?_append_right (by rw [recs_len]; exact Nat.le_refl _), recs_len, Nat.sub_self]; rfl
theorem keep3 {W W' : World} {p q r : Addr} {x y u : Value} (h : W.cell? p = some x ∧ W.cell? q = some y ∧ W.cell? r = some u) (hb : Below W.heap.size W W') : W'.cell? p = some x ∧ W'.cell? q = some y ∧ W'.cell? r = some u :=
  ⟨(hb.cell (cellLt h.1)).trans h.1, (hb.cell (cellLt h.2.1)).trans h.2.1, (hb.cell (cellLt h.2.2)).trans h.2.2⟩

set_option maxHeartbeats 8000000 in
theorem walk_BagOrder (a : Option Addr) (len cap : Nat) (V : Nat → Value) (L : Nat → List Int) (t : Int) (w : World) (row : RowB w a len V L) (hlen : len * 24 ≤ 140737488351232) (_ : (Lit.int .i64 t).wf = true) :
    Calls Try.prog 6 #[.slice a len cap, .int .i64 t] w fun e w' => e = .returned (.bool true) ∧ Below w.heap.size w w' := by
  obtain ⟨m, hm⟩ : ∃ m, m = if 63 < len then 63 else len := ⟨_, rfl⟩
  have hm63 : m ≤ 63 := by rw [hm]; split <;> omega
  have hml : m ≤ len := by rw [hm]; split <;> omega
  have HR : Hid (∀ wr, Below w.heap.size w wr → ∀ i, i < len → ∃ b off, a = some ⟨b, off, none⟩ ∧ wr.cell? ⟨b, off + i, none⟩ = some (V i) ∧ RB wr (V i) (L i) ∧ (L i).length ≤ LB) := by
    intro wr hb i hi
    rcases row with rfl | ⟨b, off, e, hlt, h⟩
    · omega
    · obtain ⟨h1, h2, h3⟩ := h i hi
      exact ⟨b, off, e, (hb.cell (p := ⟨b, off + i, none⟩) hlt).trans h1, h2.below hb, h3⟩
  have HM : Hid (m = if 63 < len then 63 else len) := hm
  clear row hm
  go_enter Try.func6, Try.ntmps6
  go_upto_if 29 with (go_at_call 8; refine (new64 _).mono ?_; rintro e w1 ⟨b, rfl, hb, hB, hW⟩; have HX : Hid _ := Bx.new w.heap.size hb hB hW hW.size; clear hB hW)
  go_cut [7] from 28 to 29 (fun x wx => x = .int .i64 (m : Nat) ∧ w1 = wx)
  case first =>
    by_cases h63 : 63 < len
    · have hmi : m = 63 := by rw [HM.out, if_pos h63]
      have HI : Hid (m = 63) := hmi
      have h63i : (63 : Int) < (len : Int) := by omega
      clear hmi
      go_wp2_with fail
      go_meet
      exact ⟨by rw [HI.out]; rfl, rfl⟩
    · have hmi : m = len := by rw [HM.out, if_neg h63]
      have HI : Hid (m = len) := hmi
      have h63i : ¬ (63 : Int) < (len : Int) := by omega
      clear hmi
      go_wp2_with fail
      go_meet
      exact ⟨by rw [HI.out], rfl⟩
  case rest =>
    obtain ⟨rfl, rfl⟩ := hcut
    clear HM
    go_wp2
    go_loopw [8] (fun i wr => ∃ k s, k ≤ m ∧ i = .int .i64 (k : Nat) ∧ Bx w wr w.heap.size b s ∧ s.n = 64 ∧ s.say = recs L k) (fun i _ => m - (intOf i).toNat)
    case atStart => exact ⟨0, _, Nat.zero_le _, rfl, HX.out, rfl, rfl⟩
    case round =>
      clear HX
      obtain ⟨k, s, hk, rfl, hX, hsn, hsay⟩ := hrel
      have HX : Hid (Bx w wr w.heap.size b s ∧ s.n = 64 ∧ s.say = recs L k) := ⟨hX, hsn, hsay⟩
      clear hX hsn hsay
      by_cases hlt : k < m
      · have hki : (k : Int) < (m : Int) := by omega
        obtain ⟨g, off, rfl, c0, hr, hl⟩ := HR.out wr HX.out.1.bel k (by omega)
        have HB : Hid (RB wr (V k) (L k) ∧ (L k).length ≤ LB) := ⟨hr, hl⟩
        have hkl : (k : Int) < (len : Int) := by omega
        clear hr hl
        go_wp2_with (first
          | (go_at_call 27; refine (copyB_any _ (L k) _ HB.out.1 HB.out.2).mono ?_; rintro e w2 ⟨v2, rfl, ho2, hb2⟩; obtain ⟨a2, c2, rfl⟩ := owns_len ho2)
          | (go_at_call 12; refine (post_x w w.heap.size b s k _ (L k) _ (HX.out.1.below hb2) (by rw [HX.out.2.2, HX.out.2.1, recs_len]; omega) ho2.rb HB.out.2).mono ?_; rintro e w3 ⟨rfl, s3, hS3, hX3⟩; have H3 : Hid (Bx w w3 w.heap.size b s3 ∧ s3.n = 64 ∧ s3.say = recs L (k + 1)) := ⟨hX3, hS3.n.trans HX.out.2.1, by rw [hS3.say, HX.out.2.2, recs_succ]⟩; clear hS3 hX3 ho2 hb2))
        go_roundw
        case rel => exact ⟨k + 1, s3, by omega, by go_num, H3.out.1, H3.out.2.1, H3.out.2.2⟩
        case measure => simp [intOf]; omega
      · obtain rfl : k = m := by omega
        by_cases h0 : k = 0
        · subst h0
          go_wp2_with (first
            | (go_at_call 20; refine (double_nx w w.heap.size b s _ _ HX.out.1 (by rw [HX.out.2.2]; show ¬ (0 ≤ (0 : Int) ∧ (0 : Int) < 0); omega)).mono ?_; rintro e w4 ⟨rfl, rfl⟩)
            | (go_at_call 18; refine (drop_nx w w.heap.size b s _ _ HX.out.1 (by rw [HX.out.2.2]; show ¬ (0 ≤ (0 : Int) ∧ (0 : Int) < 0); omega)).mono ?_; rintro e w4 ⟨rfl, rfl⟩)
            | (go_at_call 10; refine (awake_any _).mono ?_; rintro e w9 ⟨rfl, hb9⟩))
          go_ret
          exact ⟨rfl, chainB HX.out.1.bel hb9⟩
        · have hk1 : 1 ≤ k := by omega
          have hk0 : ((k : Int) == 0) = false := by simp; omega
          have hK := pl_lt t k hk1
          obtain ⟨K, hK'⟩ : ∃ K, pl t k = K := ⟨_, rfl⟩
          have HK : Hid (pl t k = K) := hK'
          rw [hK'] at hK
          clear hK'
          go_wp2_with (first
            | (go_at_call 11; refine (place_any t k _ hk1 (by omega)).mono ?_; rintro e w5 ⟨rfl, rfl⟩; rw [HK.out])
            | (go_at_call 20; refine (double_x w w.heap.size b K s K (L K) _ HX.out.1 (by rw [HX.out.2.2]; exact recs_get _ _ _ hK) (by rw [HX.out.2.2, HX.out.2.1, recs_len]; omega)).mono ?_; rintro e w6 ⟨rfl, s6, hS6, hX6⟩; have H6 : Hid (Bx w w6 w.heap.size b s6 ∧ s6.say = recs L k ++ [((K : Int), L K)] ∧ s6.say.length = k + 1) := ⟨hX6, by rw [hS6.say, HX.out.2.2], by rw [hS6.say, HX.out.2.2, List.length_append, recs_len]; rfl⟩; clear hS6 hX6)
            | (go_at_call 22; refine (len_x w w.heap.size b s6 _ H6.out.1).mono ?_; rintro e w7 ⟨rfl, rfl⟩; rw [H6.out.2.2]))
          obtain ⟨R, hR⟩ : ∃ R, recs L k ++ [((K : Int), L K)] = R := ⟨_, rfl⟩
          have HR2 : Hid (∀ i j, (i < k ∧ j = i) ∨ (i = k ∧ j = K) → (R.drop i)[0]? = some ((j : Int), L j)) := fun i j hj => by rw [← hR]; exact recs_all L k K i j hj
          have HR3 : Hid (R.length = k + 1) := by rw [← hR, List.length_append, recs_len]; rfl
          have H7 : Hid (Bx w w7 w.heap.size b s6 ∧ s6.say = R) := ⟨H6.out.1, by rw [H6.out.2.1, hR]⟩
          clear H6 HX hR
          go_loopw [10] (fun i wr => ∃ k' s, k' ≤ k + 1 ∧ i = .int .i64 (k' : Nat) ∧ Bx w wr w.heap.size b s ∧ s.say = R.drop k') (fun i _ => k + 1 - (intOf i).toNat)
          case atStart => exact ⟨0, s6, Nat.zero_le _, rfl, H7.out.1, H7.out.2⟩
          case round =>
            clear H7
            obtain ⟨i, s, hi, rfl, hX, hsay⟩ := hrel
            have HX : Hid (Bx w wr w.heap.size b s ∧ s.say = R.drop i) := ⟨hX, hsay⟩
            clear hX hsay
            by_cases hlt : i < k + 1
            · obtain ⟨j, hj⟩ : ∃ j, (i < k ∧ j = i) ∨ (i = k ∧ j = K) := by
                by_cases h : i < k
                · exact ⟨i, .inl ⟨h, rfl⟩⟩
                · exact ⟨K, .inr ⟨by omega, rfl⟩⟩
              have hjl : j < len := by omega
              have hget := HR2.out i j hj
              have HG : Hid (s.say[0]? = some ((j : Int), L j)) := by rw [HX.out.2]; exact hget
              have hik : (i : Int) ≤ (k : Int) := by omega
              have hii : i ≤ k := by omega
              have HJ : Hid (∀ wr, Below w.heap.size w wr → ∃ b off, a = some ⟨b, off, none⟩ ∧ wr.cell? ⟨b, off + j, none⟩ = some (V j) ∧ RB wr (V j) (L j) ∧ (L j).length ≤ LB) := fun wr hb => HR.out wr hb j hjl
              clear hget
              obtain ⟨g, off, rfl, _⟩ := HJ.out wr HX.out.1.bel
              have hjli : (j : Int) < (len : Int) := by omega
              rcases hj with ⟨h1, rfl⟩ | ⟨rfl, rfl⟩
              · have hne : ((j : Int) == (k : Int)) = false := by simp; omega
                go_upto_region 24 with (go_at_call 15; refine (take_x w w.heap.size b 0 s j (L j) _ HX.out.1 HG.out).mono ?_; rintro e w8 ⟨v8, rfl, ho8, hl8, s8, hS8, hX8⟩; have H8 : Hid (Bx w w8 w.heap.size b s8 ∧ s8.say = R.drop (j + 1) ∧ OwnB w8 wr.heap.size v8 (L j) ∧ (L j).length ≤ LB) := ⟨hX8, by rw [hS8.say, HX.out.2, drop_erase], ho8, hl8⟩; clear hS8 hX8 hl8; obtain ⟨a8, c8, rfl⟩ := owns_len ho8; clear ho8)
                obtain ⟨W, hW⟩ : ∃ W, w8.alloc (.cells #[.int .i64 (j : Nat), .slice a8 (L j).length c8] 37) = W := ⟨_, rfl⟩
                rw [hW]
                obtain ⟨m0, hbW, _⟩ := box1 hW
                have y0 := cell_of m0 0
                have y1 := cell_of m0 1
                simp at y0 y1
                obtain ⟨g', off', eg, y2, hrv, hlv⟩ := HJ.out W (chainB H8.out.1.bel hbW)
                cases eg
                have HB : Hid (RB W.drew (.slice a8 (L j).length c8) (L j) ∧ RB W.drew (V j) (L j) ∧ (L j).length ≤ LB ∧ decide (L j = L j) = true ∧ Bx w W w.heap.size b s8 ∧ s8.say = R.drop (j + 1)) := ⟨(H8.out.2.2.1.below hbW).rb.below (Below.refl _ _).drew, hrv.below (Below.refl _ _).drew, hlv, decide_eq_true rfl, H8.out.1.below hbW, H8.out.2.1⟩
                clear m0 hW hbW hrv hlv H8
                go_region_held3 (fun w' => w'.cell? ⟨w8.heap.size, 0, none⟩ = some (.int .i64 (j : Nat)) ∧ w'.cell? ⟨w8.heap.size, 1, none⟩ = some (.slice a8 (L j).length c8) ∧ w'.cell? ⟨g, off + j, none⟩ = some (V j))
                  (first | exact ⟨y0, y1, y2⟩ | exact keep3 (by assumption) (by assumption) | assumption)
                  (first | (go_at_call 17; refine (same_any _ _ (L j) (L j) _ HB.out.1 HB.out.2.1 HB.out.2.2.1 HB.out.2.2.1).mono ?_; rintro e w5 ⟨rfl, hb5⟩; rw [HB.out.2.2.2.1]))
                go_wp2
                go_roundw
                case rel => exact ⟨j + 1, s8, by omega, by go_num, HB.out.2.2.2.2.1.drew.below hb5, HB.out.2.2.2.2.2⟩
                case measure => simp [intOf]; omega
              · go_upto_region 24 with (go_at_call 15; refine (take_x w w.heap.size b 0 s j (L j) _ HX.out.1 HG.out).mono ?_; rintro e w8 ⟨v8, rfl, ho8, hl8, s8, hS8, hX8⟩; have H8 : Hid (Bx w w8 w.heap.size b s8 ∧ s8.say = R.drop (i + 1) ∧ OwnB w8 wr.heap.size v8 (L j) ∧ (L j).length ≤ LB) := ⟨hX8, by rw [hS8.say, HX.out.2, drop_erase], ho8, hl8⟩; clear hS8 hX8 hl8; obtain ⟨a8, c8, rfl⟩ := owns_len ho8; clear ho8)
                obtain ⟨W, hW⟩ : ∃ W, w8.alloc (.cells #[.int .i64 (j : Nat), .slice a8 (L j).length c8] 37) = W := ⟨_, rfl⟩
                rw [hW]
                obtain ⟨m0, hbW, _⟩ := box1 hW
                have y0 := cell_of m0 0
                have y1 := cell_of m0 1
                simp at y0 y1
                obtain ⟨g', off', eg, y2, hrv, hlv⟩ := HJ.out W (chainB H8.out.1.bel hbW)
                cases eg
                have HB : Hid (RB W.drew (.slice a8 (L j).length c8) (L j) ∧ RB W.drew (V j) (L j) ∧ (L j).length ≤ LB ∧ decide (L j = L j) = true ∧ Bx w W w.heap.size b s8 ∧ s8.say = R.drop (i + 1)) := ⟨(H8.out.2.2.1.below hbW).rb.below (Below.refl _ _).drew, hrv.below (Below.refl _ _).drew, hlv, decide_eq_true rfl, H8.out.1.below hbW, H8.out.2.1⟩
                clear m0 hW hbW hrv hlv H8
                go_region_held3 (fun w' => w'.cell? ⟨w8.heap.size, 0, none⟩ = some (.int .i64 (j : Nat)) ∧ w'.cell? ⟨w8.heap.size, 1, none⟩ = some (.slice a8 (L j).length c8) ∧ w'.cell? ⟨g, off + j, none⟩ = some (V j))
                  (first | exact ⟨y0, y1, y2⟩ | exact keep3 (by assumption) (by assumption) | assumption)
                  (first | (go_at_call 17; refine (same_any _ _ (L j) (L j) _ HB.out.1 HB.out.2.1 HB.out.2.2.1 HB.out.2.2.1).mono ?_; rintro e w5 ⟨rfl, hb5⟩; rw [HB.out.2.2.2.1]))
                go_wp2
                go_roundw
                case rel => exact ⟨i + 1, s8, by omega, by go_num, HB.out.2.2.2.2.1.drew.below hb5, HB.out.2.2.2.2.2⟩
                case measure => simp [intOf]
            · obtain rfl : i = k + 1 := by omega
              have hz : s.say.length = 0 := by rw [HX.out.2, List.length_drop, HR3.out, Nat.sub_self]
              have HZ : Hid (s.say.length = 0) := hz
              clear hz
              have hnk : ¬ (k : Int) + 1 ≤ (k : Int) := by omega
              go_wp2_with (first
                | (go_at_call 15; refine (take_nx w w.heap.size b s _ _ HX.out.1 (by rw [HZ.out]; omega)).mono ?_; rintro e w8 ⟨rfl, hb8⟩; have H8 : Hid _ := HX.out.1.below hb8; clear hb8)
                | (go_at_call 22; refine (len_x w w.heap.size b s _ (H8.out.alloc _)).mono ?_; rintro e w9 ⟨rfl, rfl⟩; rw [HZ.out])
                | (go_at_call 10; refine (awake_any _).mono ?_; rintro e w10 ⟨rfl, hb10⟩))
              go_ret
              exact ⟨rfl, chainB (H8.out.alloc _).bel hb10⟩
end Go.Proofs.Ytminjmlneikllaa
