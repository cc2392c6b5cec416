/- prune's sortOut. (Written by genprg.py.) -/
import Derived.Test.YtabdicbmecgogaaJPEpt27
namespace Go.Proofs.Ytabdicbmecgogaa
section
open Go.RowKit
attribute [local go_sem ↓ high] loadEn storeEn

/-- what sortOut answers -/
def SoR (p : En → Bool) (l : List En) (n : Nat) (w : World) (r : Ending) (w' : World) : Prop := ∃ vn gh hm, r = .returned (.tuple #[vn, .map (some gh)]) ∧ So w w' gh vn hm (plcs p l n) (heldL p l n)
set_option maxRecDepth 100000 in
set_option maxHeartbeats 8000000 in
theorem sort1_p (p : En → Bool) (v : Value) (B0 : Nat) (l : List En) (w : World) (h : Row7 w B0 v l) (hl : l.length ≤ 1400000000000) (hp : ∀ W (x : En), Below w.heap.size w W → Calls Try.prog 53 #[x.agg] W fun r w' => r = .returned (.bool (p x)) ∧ Below W.heap.size W w') :
    Calls Try.prog 55 #[v, .func (.func 53) #[] #[]] w fun r w' => SoR p l l.length w r w' := by
  obtain ⟨a, cap, rfl⟩ := owns_len h
  obtain ⟨n, hn⟩ : ∃ n, l.length = n := ⟨_, rfl⟩
  have HR : Hid (Row7 w B0 (.slice a n cap) l ∧ l.length = n ∧ n ≤ 1400000000000) := ⟨by rw [← hn]; exact h, hn, by rw [← hn]; exact hl⟩
  have HP : Hid (∀ W (x : En), Below w.heap.size w W → Calls Try.prog 53 #[x.agg] W fun r w' => r = .returned (.bool (p x)) ∧ Below W.heap.size W w') := hp
  rw [hn] at hl ⊢
  have H0 : Hid (So w (w.alloc (.map #[] 0)) w.heap.size (.slice none 0 0) [] (plcs p l 0) (heldL p l 0)) := by
    refine ⟨World.ownsRow_nil _ _ _ _, ⟨madeM w _ _, by simp, fun x hx => (by cases hx), fun d _ => rfl, fun x hx => (by cases hx)⟩, fun x hx => (by cases hx), below_alloc _ _, Nat.le_refl _⟩
  have bx := box7
  have hmm := @run_makeMap Try.prog
  clear h hn hp
  go_enter Try.func55, Try.ntmps55
  go_wp2
  clear hmm
  go_loopw [4, 11] (fun s4 s11 wr => ∃ k : Nat, k ≤ n ∧ s11 = .int .i64 k ∧ ∃ a1 n1 c1, s4 = .slice a1 n1 c1 ∧ ∃ hm, Hid (So w wr w.heap.size (.slice a1 n1 c1) hm (plcs p l k) (heldL p l k))) (fun _ s11 _ => n - (intOf s11).toNat)
  case atStart => exact ⟨0, Nat.zero_le _, rfl, _, _, _, rfl, _, H0.out⟩
  case round =>
    obtain ⟨k, hk, rfl, a1, n1, c1, rfl, hm, HJ⟩ := hrel
    by_cases hlt : k < n
    · have hltz : (k : Int) < (n : Int) := by omega
      obtain ⟨x, hx⟩ : ∃ x, l[k]? = some x := ⟨_, List.getElem?_eq_getElem (by rw [HR.out.2.1]; exact hlt)⟩
      obtain ⟨g, rfl, -, -, -, hc, -⟩ := owns_entry (HR.out.1.below HJ.out.below) hx
      have hld := enLd_at hc
      obtain ⟨V, hV⟩ : ∃ V, wr.alloc (.cells x.vals.toArray 47) = V := ⟨_, rfl⟩
      have bV := boxO hV
      have HBx : Hid (∀ W, Below V.heap.size V W → (enLd (.pointer (some ⟨wr.heap.size, 0, none⟩))).run Try.prog W = .ok x.agg W) := fun W hb => enLd_at (cells7_of (hkeep bV.1 hb))
      have l1 := HBx.out V (Below.refl _ _)
      have HV : Hid (Below wr.heap.size wr V) := bV.2.1
      have HV0 : Hid (wr.heap.size < V.heap.size) := by show _ < _; have := bV.2.2; omega
      have HBc : Hid (∀ W, Below V.heap.size V W → W.heap[wr.heap.size]? = some (.cells x.vals.toArray 47 (0, 0))) := fun W hb => hkeep bV.1 hb
      obtain ⟨b, hb⟩ : ∃ b, p x = b := ⟨_, rfl⟩
      have HPx : Hid (Calls Try.prog 53 #[x.agg] V fun r w' => r = .returned (.bool b) ∧ Below V.heap.size V w') := by rw [← hb]; exact HP.out V x (chainB HJ.out.below bV.2.1)
      have Hx : Hid (l[k]? = some x ∧ p x = b) := ⟨hx, hb⟩
      clear hx hb hc bV
      cases b with
      | true =>
        have HAp : Hid (∀ X, Below wr.heap.size wr X → ∃ a6 N6 c6 Z, (∀ ty, (Builtin.append_ #[50, 50] ty #[.slice a1 n1 c1, .slice (some ⟨X.heap.size, 0, none⟩) 1 1]).run Try.prog (X.alloc (.cells #[.int .i64 (k : Int)] 3)) = .ok (.slice a6 N6 c6) Z) ∧ Hid (So w Z w.heap.size (.slice a6 N6 c6) hm (plcs p l (k + 1)) (heldL p l (k + 1)))) := fun X hb => by
          obtain ⟨a6, N6, c6, Z, r6, h6⟩ := HJ.out.push (chainB hb (below_alloc X (.cells #[.int .i64 (k : Int)] 3))) k X.heap.size (heap_new _ _) (Nat.le_trans (plcs_len p l k) (by have := HR.out.2.2; omega))
          refine ⟨a6, N6, c6, Z, r6, ?_⟩
          rw [plcs_step Hx.out.1, Hx.out.2, held_yes Hx.out.1 Hx.out.2]
          exact h6
        go_upto_region 6 with (go_at_call 53; refine HPx.out.mono ?_; rintro r w1 ⟨rfl, hb⟩; obtain ⟨a6, N6, c6, Z, r6, H6⟩ := HAp.out w1 (chainB HV.out hb); clear hb)
        clear hV hld l1 bx
        go_wp2_with (at_builtin; refine wpList_apR rfl (.tmp 19) (.tmp 21) 50 rfl _ _ (.slice a6 N6 c6) Z (by simp [Act.eval]) (by simp [Act.eval]) r6 ?_)
        go_roundw
        case rel => exact ⟨k + 1, by omega, rfl, _, _, _, rfl, _, H6⟩
        case measure => simp [intOf]; omega
      | false =>
        obtain ⟨d, hd⟩ : ∃ d, idOf x = d := ⟨_, rfl⟩
        have HNd : Hid (∀ W, Calls Try.prog 64 #[x.agg] W fun r w' => r = .returned (.int .i64 d) ∧ Below W.heap.size W w') := fun W => by
          rw [← hd]
          exact nodeID_p x W
        have HAp : Hid (∀ X b, Below wr.heap.size wr X → X.heap[b]? = some (.cells #[.int .i64 (k : Int)] 3 (0, 0)) → ∃ a6 N6 c6 Z, (∀ ty, (Builtin.append_ #[50, 50] ty #[hget hm d, .slice (some ⟨b, 0, none⟩) 1 1]).run Try.prog X = .ok (.slice a6 N6 c6) Z) ∧
            ∃ Z2 hm', (Instr.mapUpdate 84 (.map (some w.heap.size)) (.int .i64 d) (.slice a6 N6 c6)).run Try.prog Z = .ok () Z2 ∧ Hid (So w Z2 w.heap.size (.slice a1 n1 c1) hm' (plcs p l (k + 1)) (heldL p l (k + 1))) ∧ (Below V.heap.size V X → (enLd (.pointer (some ⟨wr.heap.size, 0, none⟩))).run Try.prog Z = .ok x.agg Z ∧ (enLd (.pointer (some ⟨wr.heap.size, 0, none⟩))).run Try.prog Z2 = .ok x.agg Z2)) := fun X b hb hX => by
          obtain ⟨a6, N6, c6, Z, r6, Z2, hm', m6, h6, o6⟩ := HJ.out.hold hb d k b hX (Nat.le_trans (plcs_len _ l k) (by have := HR.out.2.2; omega))
          refine ⟨a6, N6, c6, Z, r6, Z2, hm', m6, ?_, ?_⟩
          · rw [plcs_step Hx.out.1, Hx.out.2, held_no Hx.out.1 Hx.out.2, hd]
            show So w Z2 w.heap.size _ hm' (plcs p l k ++ []) _
            rw [List.append_nil]
            exact h6
          · intro hVX
            have q1 : wr.heap.size < X.heap.size := by have := HV0.out; have := hVX.size; omega
            have e1 : Z.heap[wr.heap.size]? = X.heap[wr.heap.size]? := o6.1.block _ q1 fun hq => by
              rcases hq with hq | hq
              · have := HJ.out.hd.map.lt; omega
              · have := (RowI.tag (HJ.out.hd.get d).1 hq).2.1; omega
            have e2 : Z2.heap[wr.heap.size]? = Z.heap[wr.heap.size]? := o6.2.block _ (Nat.lt_of_lt_of_le q1 o6.1.size) fun hq => by
              have := HJ.out.hd.map.lt; omega
            have e0 := HBc.out X hVX
            exact ⟨enLd_at (cells7_of (e1.trans e0)), enLd_at (cells7_of (e2.trans (e1.trans e0)))⟩
        go_upto_region 7 with (go_at_call 53; refine HPx.out.mono ?_; rintro r w1 ⟨rfl, hb⟩; have H1 : Hid (Below V.heap.size V w1) := hb; clear hb)
        have HD : Hid (Below V.heap.size V w1.drew ∧ Below V.heap.size V (w1.alloc (.cells #[.int .i64 (k : Int)] 3)).drew) := ⟨chainB H1.out (below_drewN (Below.refl _ _) 1), chainB H1.out (below_drewN (below_alloc _ _) 1)⟩
        have HL : Hid (∀ W, Below V.heap.size V W → (Instr.lookup 84 (.map (some w.heap.size)) (.int .i64 d) false).run Try.prog W = .ok (hget hm d) W) := fun W hb => ((HJ.out.on (chainB HV.out hb)).hd.get d).2.2
        have k0 := HBx.out _ HD.out.1
        have k0' := HBx.out _ HD.out.2
        clear hV hld l1 bx
        go_region_held3 (fun W => (enLd (.pointer (some ⟨wr.heap.size, 0, none⟩))).run Try.prog W = .ok x.agg W)
          (with_reducible first | exact k0 | exact k0' | exact k1 | exact k1' | exact k2 | exact k2' | exact k5 | exact k6)
          (first
            | (go_at_call 64; first
              | (have q := HB2; (refine (HNd.out _).mono ?_); rintro r w3 ⟨rfl, hb⟩; have HC3 : Hid (w3.heap[w2.heap.size]? = some (.cells #[.int .i64 (k : Int)] 3 (0, 0))) := hkeep (heap_new w2 _) hb; have HB3 : Hid (Below V.heap.size V w3) := chainB (chainB HB2.out (below_alloc _ _)) hb; clear q; have k2 := HBx.out w3 HB3.out; have k2' := HBx.out (w3.alloc (.cells #[.int .i64 (k : Int)] 3)) (chainB HB3.out (below_alloc _ _)); have m2 := HL.out w3 HB3.out; have m2' := HL.out (w3.alloc (.cells #[.int .i64 (k : Int)] 3)) (chainB HB3.out (below_alloc _ _)); clear hb)
              | (have q := HQ2; (refine (HNd.out _).mono ?_); rintro r w3 ⟨rfl, hb⟩; have HC1 : Hid (w3.heap[w1.heap.size]? = some (.cells #[.int .i64 (k : Int)] 3 (0, 0))) := hkeep HQ2.out hb; have HB3 : Hid (Below V.heap.size V w3) := chainB HB2.out hb; clear q; have k2 := HBx.out w3 HB3.out; have k2' := HBx.out (w3.alloc (.cells #[.int .i64 (k : Int)] 3)) (chainB HB3.out (below_alloc _ _)); have m2 := HL.out w3 HB3.out; have m2' := HL.out (w3.alloc (.cells #[.int .i64 (k : Int)] 3)) (chainB HB3.out (below_alloc _ _)); clear hb)
              | (have q := HB2; (refine (HNd.out _).mono ?_); rintro r w3 ⟨rfl, hb⟩; have HB3 : Hid (Below V.heap.size V w3) := chainB HB2.out hb; clear q; have k2 := HBx.out w3 HB3.out; have k2' := HBx.out (w3.alloc (.cells #[.int .i64 (k : Int)] 3)) (chainB HB3.out (below_alloc _ _)); have m2 := HL.out w3 HB3.out; have m2' := HL.out (w3.alloc (.cells #[.int .i64 (k : Int)] 3)) (chainB HB3.out (below_alloc _ _)); clear hb)
              | ((refine (HNd.out _).mono ?_); rintro r w2 ⟨rfl, hb⟩; have HQ2 : Hid (w2.heap[w1.heap.size]? = some (.cells #[.int .i64 (k : Int)] 3 (0, 0))) := hkeep (W := (w1.alloc (.cells #[.int .i64 (k : Int)] 3)).drew) (heap_new w1 _) hb; have HB2 : Hid (Below V.heap.size V w2) := chainB HD.out.2 hb; have k1 := HBx.out w2 HB2.out; have k1' := HBx.out (w2.alloc (.cells #[.int .i64 (k : Int)] 3)) (chainB HB2.out (below_alloc _ _)); have m1 := HL.out w2 HB2.out; have m1' := HL.out (w2.alloc (.cells #[.int .i64 (k : Int)] 3)) (chainB HB2.out (below_alloc _ _)); clear hb)
              | ((refine (HNd.out _).mono ?_); rintro r w2 ⟨rfl, hb⟩; have HB2 : Hid (Below V.heap.size V w2) := chainB HD.out.1 hb; have k1 := HBx.out w2 HB2.out; have k1' := HBx.out (w2.alloc (.cells #[.int .i64 (k : Int)] 3)) (chainB HB2.out (below_alloc _ _)); have m1 := HL.out w2 HB2.out; have m1' := HL.out (w2.alloc (.cells #[.int .i64 (k : Int)] 3)) (chainB HB2.out (below_alloc _ _)); clear hb))
            | (with_reducible refine step_updM rfl (.tmp 23) (.tmp 25) (.tmp 32) 84 rfl _ _ _ (by simp [Act.eval]) (by simp [Act.eval]) (by simp [Act.eval]) Z2 m6 ?_)
            | (have q := HC3; obtain ⟨a6, N6, c6, Z, r6, Z2, hm', m6, H6, hk⟩ := HAp.out w3 w2.heap.size (chainB HV.out HB3.out) HC3.out; have k5 := (hk HB3.out).1; have k6 := (hk HB3.out).2; clear hk; with_reducible refine step_apR rfl (.tmp 29) (.tmp 31) 50 rfl _ _ (.slice a6 N6 c6) Z (by simp [Act.eval]) (by simp [Act.eval]) r6 ?_)
            | (have q := HC1; obtain ⟨a6, N6, c6, Z, r6, Z2, hm', m6, H6, hk⟩ := HAp.out w3 w1.heap.size (chainB HV.out HB3.out) HC1.out; have k5 := (hk HB3.out).1; have k6 := (hk HB3.out).2; clear hk; with_reducible refine step_apR rfl (.tmp 29) (.tmp 31) 50 rfl _ _ (.slice a6 N6 c6) Z (by simp [Act.eval]) (by simp [Act.eval]) r6 ?_)
            | (obtain ⟨a6, N6, c6, Z, r6, Z2, hm', m6, H6, hk⟩ := HAp.out (w3.alloc (.cells #[.int .i64 (k : Int)] 3)) w3.heap.size (chainB HV.out (chainB HB3.out (below_alloc _ _))) (heap_new _ _); have k5 := (hk (chainB HB3.out (below_alloc _ _))).1; have k6 := (hk (chainB HB3.out (below_alloc _ _))).2; clear hk; with_reducible refine step_apR rfl (.tmp 29) (.tmp 31) 50 rfl _ _ (.slice a6 N6 c6) Z (by simp [Act.eval]) (by simp [Act.eval]) r6 ?_))
        all_goals (
          go_wp2
          go_roundw
          case rel => exact ⟨k + 1, by omega, rfl, _, _, _, rfl, _, H6⟩
          case measure => simp [intOf]; omega)
    · obtain rfl : k = n := by omega
      have hltz : ¬ (k : Int) < (k : Int) := by omega
      clear bx H0
      go_wp2
      go_ret2
      exact ⟨_, _, _, rfl, HJ.out⟩
set_option maxRecDepth 100000 in
set_option maxHeartbeats 8000000 in
theorem sort2_p (gc : Nat) (p : En → Bool) (v : Value) (B0 : Nat) (l : List En) (w : World) (h : Row7 w B0 v l) (hl : l.length ≤ 1400000000000) (hp : ∀ W (x : En), Below w.heap.size w W → Calls Try.prog 54 #[x.agg, .pointer (some ⟨gc, 0, none⟩)] W fun r w' => r = .returned (.bool (p x)) ∧ Below W.heap.size W w') :
    Calls Try.prog 55 #[v, .func (.func 54) #[] #[.pointer (some ⟨gc, 0, none⟩)]] w fun r w' => SoR p l l.length w r w' := by
  obtain ⟨a, cap, rfl⟩ := owns_len h
  obtain ⟨n, hn⟩ : ∃ n, l.length = n := ⟨_, rfl⟩
  have HR : Hid (Row7 w B0 (.slice a n cap) l ∧ l.length = n ∧ n ≤ 1400000000000) := ⟨by rw [← hn]; exact h, hn, by rw [← hn]; exact hl⟩
  have HP : Hid (∀ W (x : En), Below w.heap.size w W → Calls Try.prog 54 #[x.agg, .pointer (some ⟨gc, 0, none⟩)] W fun r w' => r = .returned (.bool (p x)) ∧ Below W.heap.size W w') := hp
  rw [hn] at hl ⊢
  have H0 : Hid (So w (w.alloc (.map #[] 0)) w.heap.size (.slice none 0 0) [] (plcs p l 0) (heldL p l 0)) := by
    refine ⟨World.ownsRow_nil _ _ _ _, ⟨madeM w _ _, by simp, fun x hx => (by cases hx), fun d _ => rfl, fun x hx => (by cases hx)⟩, fun x hx => (by cases hx), below_alloc _ _, Nat.le_refl _⟩
  have bx := box7
  have hmm := @run_makeMap Try.prog
  clear h hn hp
  go_enter Try.func55, Try.ntmps55
  go_wp2
  clear hmm
  go_loopw [4, 11] (fun s4 s11 wr => ∃ k : Nat, k ≤ n ∧ s11 = .int .i64 k ∧ ∃ a1 n1 c1, s4 = .slice a1 n1 c1 ∧ ∃ hm, Hid (So w wr w.heap.size (.slice a1 n1 c1) hm (plcs p l k) (heldL p l k))) (fun _ s11 _ => n - (intOf s11).toNat)
  case atStart => exact ⟨0, Nat.zero_le _, rfl, _, _, _, rfl, _, H0.out⟩
  case round =>
    obtain ⟨k, hk, rfl, a1, n1, c1, rfl, hm, HJ⟩ := hrel
    by_cases hlt : k < n
    · have hltz : (k : Int) < (n : Int) := by omega
      obtain ⟨x, hx⟩ : ∃ x, l[k]? = some x := ⟨_, List.getElem?_eq_getElem (by rw [HR.out.2.1]; exact hlt)⟩
      obtain ⟨g, rfl, -, -, -, hc, -⟩ := owns_entry (HR.out.1.below HJ.out.below) hx
      have hld := enLd_at hc
      obtain ⟨V, hV⟩ : ∃ V, wr.alloc (.cells x.vals.toArray 47) = V := ⟨_, rfl⟩
      have bV := boxO hV
      have HBx : Hid (∀ W, Below V.heap.size V W → (enLd (.pointer (some ⟨wr.heap.size, 0, none⟩))).run Try.prog W = .ok x.agg W) := fun W hb => enLd_at (cells7_of (hkeep bV.1 hb))
      have l1 := HBx.out V (Below.refl _ _)
      have HV : Hid (Below wr.heap.size wr V) := bV.2.1
      have HV0 : Hid (wr.heap.size < V.heap.size) := by show _ < _; have := bV.2.2; omega
      have HBc : Hid (∀ W, Below V.heap.size V W → W.heap[wr.heap.size]? = some (.cells x.vals.toArray 47 (0, 0))) := fun W hb => hkeep bV.1 hb
      obtain ⟨b, hb⟩ : ∃ b, p x = b := ⟨_, rfl⟩
      have HPx : Hid (Calls Try.prog 54 #[x.agg, .pointer (some ⟨gc, 0, none⟩)] V fun r w' => r = .returned (.bool b) ∧ Below V.heap.size V w') := by rw [← hb]; exact HP.out V x (chainB HJ.out.below bV.2.1)
      have Hx : Hid (l[k]? = some x ∧ p x = b) := ⟨hx, hb⟩
      clear hx hb hc bV
      cases b with
      | true =>
        have HAp : Hid (∀ X, Below wr.heap.size wr X → ∃ a6 N6 c6 Z, (∀ ty, (Builtin.append_ #[50, 50] ty #[.slice a1 n1 c1, .slice (some ⟨X.heap.size, 0, none⟩) 1 1]).run Try.prog (X.alloc (.cells #[.int .i64 (k : Int)] 3)) = .ok (.slice a6 N6 c6) Z) ∧ Hid (So w Z w.heap.size (.slice a6 N6 c6) hm (plcs p l (k + 1)) (heldL p l (k + 1)))) := fun X hb => by
          obtain ⟨a6, N6, c6, Z, r6, h6⟩ := HJ.out.push (chainB hb (below_alloc X (.cells #[.int .i64 (k : Int)] 3))) k X.heap.size (heap_new _ _) (Nat.le_trans (plcs_len p l k) (by have := HR.out.2.2; omega))
          refine ⟨a6, N6, c6, Z, r6, ?_⟩
          rw [plcs_step Hx.out.1, Hx.out.2, held_yes Hx.out.1 Hx.out.2]
          exact h6
        go_upto_region 6 with (go_at_call 54; refine HPx.out.mono ?_; rintro r w1 ⟨rfl, hb⟩; obtain ⟨a6, N6, c6, Z, r6, H6⟩ := HAp.out w1 (chainB HV.out hb); clear hb)
        clear hV hld l1 bx
        go_wp2_with (at_builtin; refine wpList_apR rfl (.tmp 19) (.tmp 21) 50 rfl _ _ (.slice a6 N6 c6) Z (by simp [Act.eval]) (by simp [Act.eval]) r6 ?_)
        go_roundw
        case rel => exact ⟨k + 1, by omega, rfl, _, _, _, rfl, _, H6⟩
        case measure => simp [intOf]; omega
      | false =>
        obtain ⟨d, hd⟩ : ∃ d, idOf x = d := ⟨_, rfl⟩
        have HNd : Hid (∀ W, Calls Try.prog 64 #[x.agg] W fun r w' => r = .returned (.int .i64 d) ∧ Below W.heap.size W w') := fun W => by
          rw [← hd]
          exact nodeID_p x W
        have HAp : Hid (∀ X b, Below wr.heap.size wr X → X.heap[b]? = some (.cells #[.int .i64 (k : Int)] 3 (0, 0)) → ∃ a6 N6 c6 Z, (∀ ty, (Builtin.append_ #[50, 50] ty #[hget hm d, .slice (some ⟨b, 0, none⟩) 1 1]).run Try.prog X = .ok (.slice a6 N6 c6) Z) ∧
            ∃ Z2 hm', (Instr.mapUpdate 84 (.map (some w.heap.size)) (.int .i64 d) (.slice a6 N6 c6)).run Try.prog Z = .ok () Z2 ∧ Hid (So w Z2 w.heap.size (.slice a1 n1 c1) hm' (plcs p l (k + 1)) (heldL p l (k + 1))) ∧ (Below V.heap.size V X → (enLd (.pointer (some ⟨wr.heap.size, 0, none⟩))).run Try.prog Z = .ok x.agg Z ∧ (enLd (.pointer (some ⟨wr.heap.size, 0, none⟩))).run Try.prog Z2 = .ok x.agg Z2)) := fun X b hb hX => by
          obtain ⟨a6, N6, c6, Z, r6, Z2, hm', m6, h6, o6⟩ := HJ.out.hold hb d k b hX (Nat.le_trans (plcs_len _ l k) (by have := HR.out.2.2; omega))
          refine ⟨a6, N6, c6, Z, r6, Z2, hm', m6, ?_, ?_⟩
          · rw [plcs_step Hx.out.1, Hx.out.2, held_no Hx.out.1 Hx.out.2, hd]
            show So w Z2 w.heap.size _ hm' (plcs p l k ++ []) _
            rw [List.append_nil]
            exact h6
          · intro hVX
            have q1 : wr.heap.size < X.heap.size := by have := HV0.out; have := hVX.size; omega
            have e1 : Z.heap[wr.heap.size]? = X.heap[wr.heap.size]? := o6.1.block _ q1 fun hq => by
              rcases hq with hq | hq
              · have := HJ.out.hd.map.lt; omega
              · have := (RowI.tag (HJ.out.hd.get d).1 hq).2.1; omega
            have e2 : Z2.heap[wr.heap.size]? = Z.heap[wr.heap.size]? := o6.2.block _ (Nat.lt_of_lt_of_le q1 o6.1.size) fun hq => by
              have := HJ.out.hd.map.lt; omega
            have e0 := HBc.out X hVX
            exact ⟨enLd_at (cells7_of (e1.trans e0)), enLd_at (cells7_of (e2.trans (e1.trans e0)))⟩
        go_upto_region 7 with (go_at_call 54; refine HPx.out.mono ?_; rintro r w1 ⟨rfl, hb⟩; have H1 : Hid (Below V.heap.size V w1) := hb; clear hb)
        have HD : Hid (Below V.heap.size V w1.drew ∧ Below V.heap.size V (w1.alloc (.cells #[.int .i64 (k : Int)] 3)).drew) := ⟨chainB H1.out (below_drewN (Below.refl _ _) 1), chainB H1.out (below_drewN (below_alloc _ _) 1)⟩
        have HL : Hid (∀ W, Below V.heap.size V W → (Instr.lookup 84 (.map (some w.heap.size)) (.int .i64 d) false).run Try.prog W = .ok (hget hm d) W) := fun W hb => ((HJ.out.on (chainB HV.out hb)).hd.get d).2.2
        have k0 := HBx.out _ HD.out.1
        have k0' := HBx.out _ HD.out.2
        clear hV hld l1 bx
        go_region_held3 (fun W => (enLd (.pointer (some ⟨wr.heap.size, 0, none⟩))).run Try.prog W = .ok x.agg W)
          (with_reducible first | exact k0 | exact k0' | exact k1 | exact k1' | exact k2 | exact k2' | exact k5 | exact k6)
          (first
            | (go_at_call 64; first
              | (have q := HB2; (refine (HNd.out _).mono ?_); rintro r w3 ⟨rfl, hb⟩; have HC3 : Hid (w3.heap[w2.heap.size]? = some (.cells #[.int .i64 (k : Int)] 3 (0, 0))) := hkeep (heap_new w2 _) hb; have HB3 : Hid (Below V.heap.size V w3) := chainB (chainB HB2.out (below_alloc _ _)) hb; clear q; have k2 := HBx.out w3 HB3.out; have k2' := HBx.out (w3.alloc (.cells #[.int .i64 (k : Int)] 3)) (chainB HB3.out (below_alloc _ _)); have m2 := HL.out w3 HB3.out; have m2' := HL.out (w3.alloc (.cells #[.int .i64 (k : Int)] 3)) (chainB HB3.out (below_alloc _ _)); clear hb)
              | (have q := HQ2; (refine (HNd.out _).mono ?_); rintro r w3 ⟨rfl, hb⟩; have HC1 : Hid (w3.heap[w1.heap.size]? = some (.cells #[.int .i64 (k : Int)] 3 (0, 0))) := hkeep HQ2.out hb; have HB3 : Hid (Below V.heap.size V w3) := chainB HB2.out hb; clear q; have k2 := HBx.out w3 HB3.out; have k2' := HBx.out (w3.alloc (.cells #[.int .i64 (k : Int)] 3)) (chainB HB3.out (below_alloc _ _)); have m2 := HL.out w3 HB3.out; have m2' := HL.out (w3.alloc (.cells #[.int .i64 (k : Int)] 3)) (chainB HB3.out (below_alloc _ _)); clear hb)
              | (have q := HB2; (refine (HNd.out _).mono ?_); rintro r w3 ⟨rfl, hb⟩; have HB3 : Hid (Below V.heap.size V w3) := chainB HB2.out hb; clear q; have k2 := HBx.out w3 HB3.out; have k2' := HBx.out (w3.alloc (.cells #[.int .i64 (k : Int)] 3)) (chainB HB3.out (below_alloc _ _)); have m2 := HL.out w3 HB3.out; have m2' := HL.out (w3.alloc (.cells #[.int .i64 (k : Int)] 3)) (chainB HB3.out (below_alloc _ _)); clear hb)
              | ((refine (HNd.out _).mono ?_); rintro r w2 ⟨rfl, hb⟩; have HQ2 : Hid (w2.heap[w1.heap.size]? = some (.cells #[.int .i64 (k : Int)] 3 (0, 0))) := hkeep (W := (w1.alloc (.cells #[.int .i64 (k : Int)] 3)).drew) (heap_new w1 _) hb; have HB2 : Hid (Below V.heap.size V w2) := chainB HD.out.2 hb; have k1 := HBx.out w2 HB2.out; have k1' := HBx.out (w2.alloc (.cells #[.int .i64 (k : Int)] 3)) (chainB HB2.out (below_alloc _ _)); have m1 := HL.out w2 HB2.out; have m1' := HL.out (w2.alloc (.cells #[.int .i64 (k : Int)] 3)) (chainB HB2.out (below_alloc _ _)); clear hb)
              | ((refine (HNd.out _).mono ?_); rintro r w2 ⟨rfl, hb⟩; have HB2 : Hid (Below V.heap.size V w2) := chainB HD.out.1 hb; have k1 := HBx.out w2 HB2.out; have k1' := HBx.out (w2.alloc (.cells #[.int .i64 (k : Int)] 3)) (chainB HB2.out (below_alloc _ _)); have m1 := HL.out w2 HB2.out; have m1' := HL.out (w2.alloc (.cells #[.int .i64 (k : Int)] 3)) (chainB HB2.out (below_alloc _ _)); clear hb))
            | (with_reducible refine step_updM rfl (.tmp 23) (.tmp 25) (.tmp 32) 84 rfl _ _ _ (by simp [Act.eval]) (by simp [Act.eval]) (by simp [Act.eval]) Z2 m6 ?_)
            | (have q := HC3; obtain ⟨a6, N6, c6, Z, r6, Z2, hm', m6, H6, hk⟩ := HAp.out w3 w2.heap.size (chainB HV.out HB3.out) HC3.out; have k5 := (hk HB3.out).1; have k6 := (hk HB3.out).2; clear hk; with_reducible refine step_apR rfl (.tmp 29) (.tmp 31) 50 rfl _ _ (.slice a6 N6 c6) Z (by simp [Act.eval]) (by simp [Act.eval]) r6 ?_)
            | (have q := HC1; obtain ⟨a6, N6, c6, Z, r6, Z2, hm', m6, H6, hk⟩ := HAp.out w3 w1.heap.size (chainB HV.out HB3.out) HC1.out; have k5 := (hk HB3.out).1; have k6 := (hk HB3.out).2; clear hk; with_reducible refine step_apR rfl (.tmp 29) (.tmp 31) 50 rfl _ _ (.slice a6 N6 c6) Z (by simp [Act.eval]) (by simp [Act.eval]) r6 ?_)
            | (obtain ⟨a6, N6, c6, Z, r6, Z2, hm', m6, H6, hk⟩ := HAp.out (w3.alloc (.cells #[.int .i64 (k : Int)] 3)) w3.heap.size (chainB HV.out (chainB HB3.out (below_alloc _ _))) (heap_new _ _); have k5 := (hk (chainB HB3.out (below_alloc _ _))).1; have k6 := (hk (chainB HB3.out (below_alloc _ _))).2; clear hk; with_reducible refine step_apR rfl (.tmp 29) (.tmp 31) 50 rfl _ _ (.slice a6 N6 c6) Z (by simp [Act.eval]) (by simp [Act.eval]) r6 ?_))
        all_goals (
          go_wp2
          go_roundw
          case rel => exact ⟨k + 1, by omega, rfl, _, _, _, rfl, _, H6⟩
          case measure => simp [intOf]; omega)
    · obtain rfl : k = n := by omega
      have hltz : ¬ (k : Int) < (k : Int) := by omega
      clear bx H0
      go_wp2
      go_ret2
      exact ⟨_, _, _, rfl, HJ.out⟩
end
end Go.Proofs.Ytabdicbmecgogaa
