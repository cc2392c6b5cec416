/- The document's Trim (vistaref13). -/
import Derived.Test.YtabdicbmecgogaaJPIms00
import Derived.Test.YtabdicbmecgogaaJPIms01
namespace Go.Proofs.Ytabdicbmecgogaa
section
open Go.RowKit
attribute [local go_sem ↓ high] loadEn storeEn
attribute [local go_sem high] eqK neqK guardK

/-- both caches, and the keys that the document's Trim has told so far -/
structure Tg (w0 w wr : World) (p q : Nat) (s t : Cs) (n : Nat) (F : Nat → Prop) (v : Value) (G : List Ky) : Prop where
  tw : Tw w0 wr p q s t n (fun b => F b ∨ v.ownBlock = some b)
  row : RowK wr w.heap.size v G
  kept : ∀ b, F b → wr.heap[b]? = w.heap[b]?
  fl : ∀ b, F b → w0.heap.size ≤ b ∧ b < w.heap.size
  size : w.heap.size ≤ wr.heap.size
  b0 : w0.heap.size ≤ w.heap.size
section
variable {w0 w wr w' : World} {p q : Nat} {s t t' : Cs} {n : Nat} {F : Nat → Prop} {v : Value} {G : List Ky}
theorem Tg.start (h : Tw w0 w p q s t n F) (hlo : ∀ b, F b → w0.heap.size ≤ b) : Tg w0 w w p q s t n F (.slice none 0 0) [] :=
  ⟨h.mono (fun b hb => hb.elim id fun e => by cases e) (Nat.le_refl _), World.ownsRow_nil _ _ _ _, fun _ _ => rfl, fun b hb => ⟨hlo b hb, h.ld.fl b hb⟩, Nat.le_refl _, h.below.size⟩
theorem Tg.on (h : Tg w0 w wr p q s t n F v G) (hb : Below wr.heap.size wr w') : Tg w0 w w' p q s t n F v G :=
  ⟨h.tw.on' hb, owns_below h.row hb, fun b hf => (hb.block b (Nat.lt_of_lt_of_le (h.fl b hf).2 h.size)).trans (h.kept b hf), h.fl, Nat.le_trans h.size hb.size, h.b0⟩
theorem Tg.push (h : Tg w0 w wr p q s t n F v G) (k : Ky) (hl : G.length + 1 ≤ 1500000000000) : ∃ a6 N6 c6 Z, (∀ ty, (Builtin.append_ #[33, 33] ty #[v, .slice (some ⟨wr.heap.size, 0, none⟩) 1 1]).run Try.prog (wr.alloc (.cells #[.int .i64 k.d, .string k.nm] 28)) = .ok (.slice a6 N6 c6) Z) ∧ Tg w0 w Z p q s t n F (.slice a6 N6 c6) (G ++ [k]) ∧ N6 = G.length + 1 := by
  obtain ⟨a6, N6, c6, Z, r6, row6, o6, n6, e6⟩ := keepK2 k h.row h.size hl
  refine ⟨a6, N6, c6, Z, r6, ⟨?_, row6, fun b hf => ?_, h.fl, Nat.le_trans h.size o6.size, h.b0⟩, e6⟩
  · refine (h.tw.own (o6.mono fun b hb => .inr hb) fun b hb => ?_).mono (fun b hb => ?_) (Nat.le_refl _)
    · rcases hb with hb | hb
      · exact (h.fl b hb).1
      · exact Nat.le_trans h.b0 (World.ownsRow.lt h.row b hb).1
    · rcases hb with hb | hb
      · exact .inl (.inl hb)
      · rcases n6 b hb with hb' | hb'
        · exact .inl (.inr hb')
        · exact .inr ⟨hb', (World.ownsRow.lt row6 b hb).2⟩
  · refine (o6.block b (Nat.lt_of_lt_of_le (h.fl b hf).2 h.size) fun e => ?_).trans (h.kept b hf)
    have h1 := (World.ownsRow.lt h.row b e).1
    have h2 := (h.fl b hf).2
    omega
/-- a key goes: it lies in a box of its own -/
theorem Tg.drop1 (h : Tg w0 w wr p q s t n F v G) (hk : KeysOk t.L) (hn : n < 1300000000000) (k : Ky) :
    Calls Try.prog 17 #[.pointer (some ⟨q, 0, none⟩), .agg #[.int .i64 k.d, .string k.nm]] (wr.alloc (.cells #[.int .i64 k.d, .string k.nm] 28)) fun r w5 => (∃ b, r = .returned (.bool b)) ∧ Tg w0 w w5 p q s (t.evict k) n F v G ∧ w5.heap[wr.heap.size]? = some (.cells #[.int .i64 k.d, .string k.nm] 28 (0, 0)) := by
  have hb := below_alloc wr (.cells #[.int .i64 k.d, .string k.nm] 28)
  refine (tw_revict (h.tw.box (.cells #[.int .i64 k.d, .string k.nm] 28)) hk k hn).mono ?_
  rintro r w5 ⟨rfl, hc⟩
  have g := h.on hb
  refine ⟨⟨_, rfl⟩, ⟨hc.tw.mono (fun b hb => .inl hb) (Nat.le_refl _), owns_moved g.row fun b hb' => hc.kept b (.inl (.inr hb')), fun b hf => (hc.kept b (.inl (.inl hf))).trans (g.kept b hf), h.fl, Nat.le_trans g.size hc.size, h.b0⟩, (hc.kept _ (.inr rfl)).trans (heap_new _ _)⟩
theorem Tg.list (h : Tg w0 w wr p q s t n F v G) : ∃ al cl, wr.cell? ⟨q, 0, none⟩ = some (.slice al t.L.length cl) := by
  obtain ⟨k, h1, -, -⟩ := h.tw.ex
  obtain ⟨al, cl, e⟩ := owns_len h1.rowL
  exact ⟨al, cl, by rw [← e]; exact h1.cells.1⟩
theorem Tg.vic (h : Tg w0 w wr p q s t n F v G) (hn : n < 1300000000000) (b : Bool) : Calls Try.prog 8 #[.pointer (some ⟨q, 0, none⟩), .bool b] wr fun r w' => r = .returned (vicV (vicS t b)) ∧ Tg w0 w w' p q s t n F v G := by
  obtain ⟨k, h1, -, -⟩ := h.tw.ex
  exact (rvic_d b _ q k t wr h1 (by have := h.tw.lt; omega)).mono fun r w' hh => ⟨hh.1, h.on hh.2⟩
theorem Tg.neg (h : Tg w0 w wr p q s t n F v G) (hn : n < 1300000000000) : Calls Try.prog 37 #[.pointer (some ⟨q, 0, none⟩)] wr fun r w' => r = .returned (.int .i64 (negN t.L)) ∧ Tg w0 w w' p q s t n F v G := by
  obtain ⟨k, h1, -, -⟩ := h.tw.ex
  exact (rneg_d _ q k t wr h1 (by have := h.tw.lt; omega)).mono fun r w' hh => ⟨hh.1, h.on hh.2⟩
end
theorem evN_sum (b : Bool) : ∀ (n : Nat) (s : Cs), KeysOk s.L → (evN b n s).1.length + (evN b n s).2.L.length = s.L.length
  | 0, _, _ => Nat.zero_add _
  | n + 1, s, hk => by
    rw [evN]
    cases hv : vicS s b with
    | none => exact Nat.zero_add _
    | some e =>
      have h1 := evN_sum b n (s.evict e.key) (by rw [evict_L]; exact hk.filter _)
      have h2 := len_out hk (List.mem_of_find?_eq_some hv)
      rw [evict_L] at h1
      show (evN b n (s.evict e.key)).1.length + 1 + (evN b n (s.evict e.key)).2.L.length = s.L.length
      omega
theorem evN_keys (b : Bool) : ∀ (n : Nat) (s : Cs), KeysOk s.L → KeysOk (evN b n s).2.L
  | 0, _, h => h
  | n + 1, s, hk => by
    rw [evN]
    cases hv : vicS s b with
    | none => exact hk
    | some e => exact evN_keys b n (s.evict e.key) (by rw [evict_L]; exact hk.filter _)
def slLen : Value → Nat
  | .slice _ n _ => n
  | _ => 0
set_option maxRecDepth 20000 in
set_option maxHeartbeats 8000000 in
theorem rtrim_d {w0 w : World} {p q : Nat} {s t : Cs} {n : Nat} {F : Nat → Prop} (h : Tw w0 w p q s t n F) (hlo : ∀ b, F b → w0.heap.size ≤ b) (hk : KeysOk t.L) (hn : n < 1290000000000) (most neg : Int) :
    Calls Try.prog 11 #[.pointer (some ⟨q, 0, none⟩), .int .i64 most, .int .i64 neg] w fun r w' => ∃ v, r = .returned v ∧ Tg w0 w w' p q s (trimS t most neg).2 n F v (trimS t most neg).1 := by
  obtain ⟨A, hA⟩ : ∃ A, ((negN t.L : Int) - max neg 0).toNat = A := ⟨_, rfl⟩
  have hAt : trimA t neg = evN true A t := by unfold trimA; rw [hA]
  obtain ⟨Q, hQ⟩ : ∃ Q, negN t.L = Q := ⟨_, rfl⟩
  rw [hQ] at hA
  have hAQ : A ≤ Q := by omega
  have hQl : Q ≤ t.L.length := by rw [← hQ]; exact neg_le _
  have HC1 : Hid (∀ j, j ≤ A → (evN true j t).1.length = j ∧ negN (evN true j t).2.L = Q - j ∧ KeysOk (evN true j t).2.L) := fun j hj => by
    have := evT_counts j t hk (by omega)
    exact ⟨this.1, by omega, evN_keys _ _ _ hk⟩
  obtain ⟨U, hU⟩ : ∃ U, (trimA t neg).2 = U := ⟨_, rfl⟩
  obtain ⟨G1, hG1⟩ : ∃ G, (trimA t neg).1 = G := ⟨_, rfl⟩
  have hUk : KeysOk U.L := by rw [← hU]; exact evN_keys _ _ _ hk
  have hsum : A + U.L.length = t.L.length := by
    have h1 := evN_sum true A t hk
    have h2 := (HC1.out A (Nat.le_refl _)).1
    rw [← hAt, hU, hG1] at h1
    rw [← hAt, hG1] at h2
    omega
  obtain ⟨lu, hlu⟩ : ∃ l, U.L.length = l := ⟨_, rfl⟩
  rw [hlu] at hsum
  obtain ⟨C, hC⟩ : ∃ C, ((lu : Int) - max most 0).toNat = C := ⟨_, rfl⟩
  have hBt : trimB U most = evN false C U := by unfold trimB; rw [hlu, hC]
  have hTn : t.L.length ≤ n := h.lt
  have HC2 : Hid (∀ j, (evN false j U).1.length = j → (evN false j U).2.L.length = lu - j ∧ j ≤ lu ∧ KeysOk (evN false j U).2.L) := fun j hj => by
    have h1 := evN_sum false j U hUk
    exact ⟨by omega, by omega, evN_keys _ _ _ hUk⟩
  have HEnd : Hid (∀ j W v, (evN false j U) = evN false C U → Tg w0 w W p q s (evN false j U).2 n F v (G1 ++ (evN false j U).1) → Tg w0 w W p q s (trimS t most neg).2 n F v (trimS t most neg).1) := fun j W v e hh => by
    unfold trimS
    rw [hU, hG1, hBt, ← e]
    exact hh
  have HMid : Hid (evN true A t = (G1, U) ∧ G1.length = A) := by
    have h2 := (HC1.out A (Nat.le_refl _)).1
    rw [← hAt] at h2
    rw [hG1] at h2
    exact ⟨by rw [← hAt, ← hU, ← hG1], h2⟩
  have H0 : Hid (Tg w0 w w p q s t n F (.slice none 0 0) []) := Tg.start h hlo
  have HK : Hid (KeysOk t.L) := hk
  clear hk hlo h hU hG1 hUk hBt hAt hlu hQ
  go_enter Try.func11, Try.ntmps11
  go_wp2
  go_loopw [7, 8, 9] (fun s7 _ _ wr => ∃ (j : Nat) (a : Option Addr) (c : Nat), j ≤ A ∧ s7 = .slice a j c ∧ Hid (Tg w0 w wr p q s (evN true j t).2 n F (.slice a j c) (evN true j t).1)) (fun s7 _ _ _ => A - slLen s7)
  case atStart => exact ⟨0, none, 0, Nat.zero_le _, rfl, H0.out⟩
  case round =>
    obtain ⟨j, a, c, hj, rfl, HJ⟩ := hrel
    obtain ⟨gl, gn, gk⟩ := HC1.out j hj
    obtain ⟨M, hM⟩ : ∃ M, Q - j = M := ⟨_, rfl⟩
    rw [hM] at gn
    have HNg : Hid (∀ W, Tg w0 w W p q s (evN true j t).2 n F (.slice a j c) (evN true j t).1 → Calls Try.prog 37 #[.pointer (some ⟨q, 0, none⟩)] W fun r w' => r = .returned (.int .i64 M) ∧ Tg w0 w w' p q s (evN true j t).2 n F (.slice a j c) (evN true j t).1) := fun W hh => by
      rw [← gn]; exact hh.neg (by omega)
    by_cases hlt : j < A
    · have hM0 : (0 : Int) < (M : Int) := by omega
      have hM1 : neg < (M : Int) := by omega
      obtain ⟨e, hv, he, hen⟩ := vic_true (s := (evN true j t).2) (by omega)
      have hmore := evN_more (b := true) (n := j) (s := t) (s' := (evN true j t).2) (g := (evN true j t).1) (e := e) rfl gl hv
      obtain ⟨tj, htj⟩ : ∃ x, (evN true j t).2 = x := ⟨_, rfl⟩
      obtain ⟨Gj, hGj⟩ : ∃ x, (evN true j t).1 = x := ⟨_, rfl⟩
      rw [htj, hGj] at hmore HNg HJ
      rw [htj] at hv gk
      rw [hGj] at gl
      have HVi : Hid (∀ W, Tg w0 w W p q s tj n F (.slice a j c) Gj → Calls Try.prog 8 #[.pointer (some ⟨q, 0, none⟩), .bool true] W fun r w' => r = .returned (.tuple #[.agg #[.int .i64 e.d, .string e.nm], .bool true]) ∧ Tg w0 w w' p q s tj n F (.slice a j c) Gj) := fun W hh => by
        have := hh.vic (by omega) true
        rw [hv] at this
        exact this
      have HEv : Hid (∀ W, Tg w0 w W p q s tj n F (.slice a j c) Gj → Calls Try.prog 17 #[.pointer (some ⟨q, 0, none⟩), .agg #[.int .i64 e.d, .string e.nm]] (W.alloc (.cells #[.int .i64 e.d, .string e.nm] 28)) fun r w5 => ∃ b, r = .returned (.bool b) ∧ w5.cell? ⟨W.heap.size, 0, none⟩ = some (.int .i64 e.d) ∧ w5.cell? ⟨W.heap.size, 1, none⟩ = some (.string e.nm) ∧ ∃ a6 c6 Z, (∀ ty, (Builtin.append_ #[33, 33] ty #[.slice a j c, .slice (some ⟨w5.heap.size, 0, none⟩) 1 1]).run Try.prog (w5.alloc (.cells #[.int .i64 e.d, .string e.nm] 28)) = .ok (.slice a6 (j + 1) c6) Z) ∧ Tg w0 w Z p q s (evN true (j + 1) t).2 n F (.slice a6 (j + 1) c6) (evN true (j + 1) t).1) := fun W hh => by
        refine (hh.drop1 gk (by omega) e.key).mono ?_
        rintro r w5 ⟨⟨b, rfl⟩, h5, hbx⟩
        obtain ⟨a6, N6, c6, Z, r6, h6, e6⟩ := h5.push e.key (by omega)
        rw [e6, gl] at r6 h6
        refine ⟨b, rfl, by rw [cell_of hbx]; rfl, by rw [cell_of hbx]; rfl, a6, c6, Z, r6, ?_⟩
        rw [hmore]
        exact h6
      clear hmore hv he hen gk gl gn htj hGj HK hM
      go_wp2_with (first
        | (at_builtin; refine wpList_apR rfl (.tmp 29) (.tmp 31) 33 rfl _ _ (.slice a6 (j + 1) c6) Z (by simp [Act.eval]) (by simp [Act.eval]) r6 ?_)
        | (go_at_call 17; refine (HEv.out w3 N3.out).mono ?_; rintro r w5 ⟨b5, rfl, k0, k1, a6, c6, Z, r6, h6⟩; have H6 : Hid (Tg w0 w Z p q s (evN true (j + 1) t).2 n F (.slice a6 (j + 1) c6) (evN true (j + 1) t).1) := h6; clear h6)
        | (go_at_call 8; refine (HVi.out w2 N2.out).mono ?_; rintro r w3 ⟨rfl, hh⟩; have N3 : Hid (Tg w0 w w3 p q s tj n F (.slice a j c) Gj) := hh; clear hh)
        | (go_at_call 37; first
          | (refine (HNg.out w1 N1.out).mono ?_; rintro r w2 ⟨rfl, hh⟩; have N2 : Hid (Tg w0 w w2 p q s tj n F (.slice a j c) Gj) := hh; clear hh)
          | (refine (HNg.out wr HJ.out).mono ?_; rintro r w1 ⟨rfl, hh⟩; have N1 : Hid (Tg w0 w w1 p q s tj n F (.slice a j c) Gj) := hh; clear hh)))
      go_roundw
      case rel => exact ⟨j + 1, a6, c6, by omega, rfl, H6.out⟩
      case measure => simp [slLen]; omega
    · obtain rfl : j = A := by omega
      have HJ2 : Hid (∀ W, Tg w0 w W p q s (evN true j t).2 n F (.slice a j c) (evN true j t).1 → Tg w0 w W p q s U n F (.slice a j c) G1) := fun W hh => by
        rw [HMid.out.1] at hh
        exact hh
      have hMc : ¬ (0 : Int) < (M : Int) ∨ ((0 : Int) < (M : Int) ∧ ¬ neg < (M : Int)) := by omega
      have HB1 : Hid (j + lu ≤ n ∧ n < 1290000000000) := ⟨by omega, hn⟩
      clear gl gk gn hM hj hlt
      rcases hMc with hMc | ⟨hMc, hMd⟩
      case' inl => go_wp2_with (go_at_call 37; refine (HNg.out wr HJ.out).mono ?_; rintro r w2 ⟨rfl, hh⟩; have N2 : Hid (Tg w0 w w2 p q s U n F (.slice a j c) G1) := HJ2.out w2 hh; clear hh)
      case' inr => go_wp2_with (go_at_call 37; first
          | (refine (HNg.out w1 N1.out).mono ?_; rintro r w2 ⟨rfl, hh⟩; have N2 : Hid (Tg w0 w w2 p q s U n F (.slice a j c) G1) := HJ2.out w2 hh; clear hh)
          | (refine (HNg.out wr HJ.out).mono ?_; rintro r w1 ⟨rfl, hh⟩; have N1 : Hid (Tg w0 w w1 p q s (evN true j t).2 n F (.slice a j c) (evN true j t).1) := hh; clear hh))
      all_goals (
        go_loopw [7, 10, 11] (fun s7 _ _ wr => ∃ (k l : Nat) (a : Option Addr) (c : Nat), k ≤ C ∧ s7 = .slice a l c ∧ Hid (l = j + k ∧ (evN false k U).1.length = k ∧ Tg w0 w wr p q s (evN false k U).2 n F (.slice a l c) (G1 ++ (evN false k U).1))) (fun s7 _ _ _ => j + C - slLen s7)
        case atStart => exact ⟨0, j, a, c, Nat.zero_le _, rfl, rfl, rfl, by rw [show (evN false 0 U).1 = [] from rfl, List.append_nil]; exact N2.out⟩
        case round =>
          obtain ⟨k, l, a2, c2, hkC, rfl, HX⟩ := hrel
          obtain ⟨ll, lk, hT⟩ := HX.out
          obtain ⟨g1, g2, g3⟩ := HC2.out k lk
          obtain ⟨al, cl, hcl⟩ := hT.list
          rw [g1] at hcl
          obtain ⟨Lk, hLk⟩ : ∃ x, lu - k = x := ⟨_, rfl⟩
          rw [hLk] at hcl
          have HLL : Hid (l = j + k) := ll
          by_cases hlt : k < C
          · have hM0 : (0 : Int) < (Lk : Int) := by omega
            have hM1 : most < (Lk : Int) := by omega
            obtain ⟨uk, huk⟩ : ∃ x, (evN false k U).2 = x := ⟨_, rfl⟩
            obtain ⟨Gk, hGk⟩ : ∃ x, (evN false k U).1 = x := ⟨_, rfl⟩
            have hpair : evN false k U = (Gk, uk) := by rw [← huk, ← hGk]
            rw [huk] at hT g3
            rw [hGk] at hT lk
            have HTk : Hid (Tg w0 w wr p q s uk n F (.slice a2 l c2) (G1 ++ Gk)) := hT
            cases hv : vicS uk false with
            | none =>
              have HVi : Hid (Calls Try.prog 8 #[.pointer (some ⟨q, 0, none⟩), .bool false] wr fun r w' => r = .returned (.tuple #[.agg #[.int .i64 0, .string ⟨#[]⟩], .bool false]) ∧ Tg w0 w w' p q s (trimS t most neg).2 n F (.slice a2 l c2) (trimS t most neg).1) := by
                have := hT.vic (by omega) false
                rw [hv] at this
                refine this.mono ?_
                rintro r w' ⟨rfl, hh⟩
                refine ⟨rfl, HEnd.out k w' _ ?_ ?_⟩
                · rw [hpair]; exact (evN_stop hpair lk hv (by omega)).symm
                · rw [hpair]; exact hh
              clear hv hT g1 g2 g3 huk hGk hpair lk ll HX HTk HB1 HK hLk
              go_wp2_with (go_at_call 8; refine HVi.out.mono ?_; rintro r w3 ⟨rfl, hh⟩; have N3 : Hid (Tg w0 w w3 p q s (trimS t most neg).2 n F (.slice a2 l c2) (trimS t most neg).1) := hh; clear hh)
              go_ret
              exact ⟨_, rfl, N3.out.on (below_alloc _ _)⟩
            | some e =>
              have hmore := evN_more (b := false) (n := k) (s := U) (s' := uk) (g := Gk) (e := e) hpair lk hv
              have HVi : Hid (Calls Try.prog 8 #[.pointer (some ⟨q, 0, none⟩), .bool false] wr fun r w' => r = .returned (.tuple #[.agg #[.int .i64 e.d, .string e.nm], .bool true]) ∧ Tg w0 w w' p q s uk n F (.slice a2 l c2) (G1 ++ Gk)) := by
                have := hT.vic (by omega) false
                rw [hv] at this
                exact this
              have HEv : Hid (∀ W, Tg w0 w W p q s uk n F (.slice a2 l c2) (G1 ++ Gk) → Calls Try.prog 17 #[.pointer (some ⟨q, 0, none⟩), .agg #[.int .i64 e.d, .string e.nm]] (W.alloc (.cells #[.int .i64 e.d, .string e.nm] 28)) fun r w5 => ∃ b, r = .returned (.bool b) ∧ w5.cell? ⟨W.heap.size, 0, none⟩ = some (.int .i64 e.d) ∧ w5.cell? ⟨W.heap.size, 1, none⟩ = some (.string e.nm) ∧ ∃ a6 N6 c6 Z, (∀ ty, (Builtin.append_ #[33, 33] ty #[.slice a2 l c2, .slice (some ⟨w5.heap.size, 0, none⟩) 1 1]).run Try.prog (w5.alloc (.cells #[.int .i64 e.d, .string e.nm] 28)) = .ok (.slice a6 N6 c6) Z) ∧ Hid (N6 = j + (k + 1) ∧ (evN false (k + 1) U).1.length = k + 1 ∧ Tg w0 w Z p q s (evN false (k + 1) U).2 n F (.slice a6 N6 c6) (G1 ++ (evN false (k + 1) U).1))) := fun W hh => by
                refine (hh.drop1 g3 (by omega) e.key).mono ?_
                rintro r w5 ⟨⟨b, rfl⟩, h5, hbx⟩
                have hgl : (G1 ++ Gk).length = j + k := by rw [List.length_append, HMid.out.2, lk]
                obtain ⟨a6, N6, c6, Z, r6, h6, e6⟩ := h5.push e.key (by have := HB1.out; omega)
                refine ⟨b, rfl, by rw [cell_of hbx]; rfl, by rw [cell_of hbx]; rfl, a6, N6, c6, Z, r6, by rw [e6, hgl]; omega, ?_, ?_⟩
                · rw [hmore]; simp [lk]
                · rw [hmore, ← List.append_assoc]
                  exact h6
              clear hmore hv hT g1 g2 g3 huk hGk hpair lk ll HX HK hLk
              go_wp2_with (first
                | (at_builtin; refine wpList_apR rfl (.tmp 58) (.tmp 60) 33 rfl _ _ (.slice a6 N6 c6) Z (by simp [Act.eval]) (by simp [Act.eval]) r6 ?_)
                | (go_at_call 17; refine (HEv.out w3 N3.out).mono ?_; rintro r w5 ⟨b5, rfl, k0, k1, a6, N6, c6, Z, r6, H6⟩)
                | (go_at_call 8; refine HVi.out.mono ?_; rintro r w3 ⟨rfl, hh⟩; have N3 : Hid (Tg w0 w w3 p q s uk n F (.slice a2 l c2) (G1 ++ Gk)) := hh; clear hh))
              go_roundw
              case rel => exact ⟨k + 1, N6, a6, c6, by omega, rfl, H6.out⟩
              case measure => simp only [slLen]; have := H6.out.1; have := HLL.out; omega
          · obtain rfl : k = C := by omega
            have HE : Hid (Tg w0 w wr p q s (trimS t most neg).2 n F (.slice a2 l c2) (trimS t most neg).1) := HEnd.out k wr _ rfl hT
            have hMe : ¬ (0 : Int) < (Lk : Int) ∨ ((0 : Int) < (Lk : Int) ∧ ¬ most < (Lk : Int)) := by omega
            clear hT g1 g2 g3 lk ll HX HB1 HK hLk hlt
            rcases hMe with hMe | ⟨hMe, hMf⟩
            all_goals (
              go_wp2
              go_ret
              exact ⟨_, rfl, HE.out⟩))
end
end Go.Proofs.Ytabdicbmecgogaa
