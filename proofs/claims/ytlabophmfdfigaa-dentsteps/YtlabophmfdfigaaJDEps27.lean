/- keysOf of one call. -/
import Derived.Test.YtlabophmfdfigaaJDEps26
namespace Go.Proofs.Ytlabophmfdfigaa
section
open Go.RowKit
set_option maxRecDepth 100000 in
set_option maxHeartbeats 16000000 in
theorem keysOf_1 (g o cap : Nat) (x : DOp) (w : World) (hg : g < w.heap.size) (hc : ∀ (j : Nat) u, x.vals[j]? = some u → w.cell? ⟨g, o + j, none⟩ = some u) (hk : ArgK w x.vk x.ks) :
    Calls Try.prog 11 #[.slice (some ⟨g, o, none⟩) 1 cap] w fun r w' => ∃ v, r = .returned v ∧ RowK w' w.heap.size v ([x.e.key, ⟨x.dir, nob⟩, ⟨x.e.id, ⟨#[97]⟩⟩] ++ x.ks) ∧ Below w.heap.size w w' := by
  obtain ⟨ak, ck, hvk, hkl, hkc⟩ := hk
  obtain ⟨m, hm⟩ : ∃ m, x.ks.length = m := ⟨_, rfl⟩
  rw [hm] at hvk hkl
  have HC : Hid (∀ (j : Nat) u W, Below w.heap.size w W → x.vals[j]? = some u → W.cell? ⟨g, o + j, none⟩ = some u) := fun j u W hW hu => (hW.cell (p := ⟨g, o + j, none⟩) hg).trans (hc j u hu)
  have HKS : Hid (x.ks.length = m ∧ (x.ks = [] ∨ ∃ b off, ak = some ⟨b, off, none⟩ ∧ b < w.heap.size ∧ ∀ j u, (kc x.ks)[j]? = some u → w.cell? ⟨b, off + j, none⟩ = some u)) := ⟨hm, hkc⟩
  clear hkc hm hc
  go_enter Try.func11, Try.ntmps11
  go_wp2
  go_loopw [3, 4] (fun s3 s4 wr => ∃ i : Nat, i ≤ 1 ∧ s4 = .int .i64 i ∧ ∃ a2 n2 c2, s3 = .slice a2 n2 c2 ∧ Hid (RowK wr w.heap.size (.slice a2 n2 c2) (if i = 0 then [] else [x.e.key, ⟨x.dir, nob⟩, ⟨x.e.id, ⟨#[97]⟩⟩] ++ x.ks) ∧ Below w.heap.size w wr)) (fun _ s4 _ => 1 - (intOf s4).toNat)
  case atStart => exact ⟨0, by omega, rfl, _, _, _, rfl, World.ownsRow_nil _ _ _ _, Below.refl _ _⟩
  case round =>
    obtain ⟨i, hi, rfl, a2, n2, c2, rfl, HJ⟩ := hrel
    by_cases h0 : i = 0
    · subst h0
      obtain ⟨hrow, hb⟩ := HJ.out
      rw [if_pos rfl] at hrow
      have p1 := HC.out 1 _ wr hb rfl
      have p2 := HC.out 2 _ wr hb rfl
      have p3 := HC.out 3 _ wr hb rfl
      have p5 := HC.out 5 _ wr hb rfl
      obtain ⟨V, hV⟩ : ∃ V, wr.drew.alloc (.cells #[.int .i64 x.e.d, .string x.e.nm, .int .i64 x.dir, .string ⟨#[]⟩, .int .i64 x.e.id, .string ⟨#[97]⟩] 33) = V := ⟨_, rfl⟩
      have bV := boxO hV
      have bb : Below w.heap.size w wr.drew := below_drewN hb 1
      obtain ⟨v3, Z, papp, rowZ, oZ, -⟩ := appK (w := V) (B := w.heap.size) (v := .slice a2 n2 c2) (l := []) (l2 := [x.e.key, ⟨x.dir, nob⟩, ⟨x.e.id, ⟨#[97]⟩⟩]) (ad := ⟨wr.drew.heap.size, 0, none⟩) (c := 3) (owns_below (owns_below hrow (below_drewN (Below.refl _ _) 1)) bV.2.1) (by
        intro j u hu
        rw [← hV]
        exact one_atG (cs := [.int .i64 x.e.d, .string x.e.nm, .int .i64 x.dir, .string ⟨#[]⟩, .int .i64 x.e.id, .string ⟨#[97]⟩]) j u hu) (Nat.le_trans bb.size bV.2.1.size) (by simp)
      obtain ⟨a6, c6, hv6⟩ := owns_len rowZ
      subst hv6
      obtain ⟨g6, hg6, hc6⟩ : ∃ g6, a6 = some ⟨g6, 0, none⟩ ∧ 3 ≤ c6 := by
        have h2 := rowZ.2
        rcases h2 with ⟨h, h0⟩ | ⟨g6, cc6, _, h, _, _, h6, _⟩
        · simp at h0
        · injection h with h _ h7
          exact ⟨g6, h, by rw [h7]; exact h6⟩
      subst hg6
      have hbZ : Below w.heap.size w Z := oZ.below (chainB bb bV.2.1) (chainB bb bV.2.1).size fun b hb' => (World.ownsRow.lt hrow b hb').1
      have HZ : Hid (RowK Z w.heap.size (.slice (some ⟨g6, 0, none⟩) 3 c6) [x.e.key, ⟨x.dir, nob⟩, ⟨x.e.id, ⟨#[97]⟩⟩] ∧ Below w.heap.size w Z) := ⟨rowZ, hbZ⟩
      have r9 := HC.out 9 _ Z hbZ rfl
      rw [hvk] at r9
      have HS : Hid (∀ W, Below w.heap.size w W → W.cell? ⟨g, o + 1, none⟩ = some (.int .i64 x.dir) ∧ W.cell? ⟨g, o + 2, none⟩ = some (.int .i64 x.e.d) ∧ W.cell? ⟨g, o + 3, none⟩ = some (.string x.e.nm) ∧ W.cell? ⟨g, o + 5, none⟩ = some (.int .i64 x.e.id)) := fun W hW => ⟨HC.out 1 _ W hW rfl, HC.out 2 _ W hW rfl, HC.out 3 _ W hW rfl, HC.out 5 _ W hW rfl⟩
      have kA := HS.out _ bb
      have kB := HS.out _ (chainB bb bV.2.1)
      have kC := HS.out _ hbZ
      clear HJ hrow hb rowZ oZ hbZ bV bb HS
      go_upto_region 5 with fail
      go_region_held3 (fun W => W.cell? ⟨g, o + 1, none⟩ = some (.int .i64 x.dir) ∧ W.cell? ⟨g, o + 2, none⟩ = some (.int .i64 x.e.d) ∧ W.cell? ⟨g, o + 3, none⟩ = some (.string x.e.nm) ∧ W.cell? ⟨g, o + 5, none⟩ = some (.int .i64 x.e.id))
        (with_reducible first | exact kA | exact kB | exact kC)
        (first | (refine step_apR rfl (.tmp 11) (.tmp 32) 28 rfl _ _ (.slice (some ⟨g6, 0, none⟩) 3 c6) Z (by simp [Act.eval]) (by simp [Act.eval]) papp ?_))
      clear hV papp kA kB kC p1 p2 p3 p5
      have hw1 : IntKind.i64.wrap ((0 : Int) + 1) = ((0 + 1 : Nat) : Int) := by rfl
      cases ak with
      | none =>
        have hks : x.ks = [] := by
          rcases HKS.out.2 with h | ⟨b, off, e, _⟩
          · exact h
          · cases e
        have hm0 : m = 0 := by rw [← HKS.out.1, hks]; rfl
        subst hm0
        have HE : Hid (RowK Z w.heap.size (.slice (some ⟨g6, 0, none⟩) 3 c6) ([x.e.key, ⟨x.dir, nob⟩, ⟨x.e.id, ⟨#[97]⟩⟩] ++ x.ks) ∧ Below w.heap.size w Z) := by rw [hks, List.append_nil]; exact HZ.out
        clear hks hvk
        go_wp2
        go_roundw
        case rel => exact ⟨1, by omega, rfl, _, _, _, rfl, HE⟩
        case measure => simp [intOf]
      | some ad =>
        obtain ⟨v9, Y, papp, rowY, oY, -⟩ := appK (w := Z) (B := w.heap.size) (v := .slice (some ⟨g6, 0, none⟩) 3 c6) (l := [x.e.key, ⟨x.dir, nob⟩, ⟨x.e.id, ⟨#[97]⟩⟩]) (l2 := x.ks) (ad := ad) (c := ck) HZ.out.1 (by
          intro j u hu
          rcases HKS.out.2 with h | ⟨b, off, e, hb, hc⟩
          · rw [h] at hu; simp [kc] at hu
          · cases e
            rw [add_plain']
            exact (HZ.out.2.cell (p := ⟨b, off + j, none⟩) hb).trans (hc j u hu)) HZ.out.2.size (by rw [HKS.out.1]; simp only [List.length_cons, List.length_nil]; omega)
        rw [HKS.out.1] at papp
        obtain ⟨a9, N9, c9, hv9⟩ : ∃ a N c, v9 = .slice a N c := by
          obtain ⟨a9, c9, h9⟩ := owns_len rowY
          exact ⟨_, _, _, h9⟩
        subst hv9
        have HE : Hid (RowK Y w.heap.size (.slice a9 N9 c9) ([x.e.key, ⟨x.dir, nob⟩, ⟨x.e.id, ⟨#[97]⟩⟩] ++ x.ks) ∧ Below w.heap.size w Y) := ⟨rowY, oY.below HZ.out.2 HZ.out.2.size fun b hb' => (World.ownsRow.lt HZ.out.1 b hb').1⟩
        clear rowY oY hvk
        go_wp2_with (at_builtin; refine wpList_apR rfl (.tmp 34) (.tmp 39) 28 rfl _ _ (.slice a9 N9 c9) Y (by simp [Act.eval]) (by simp [Act.eval]) papp ?_)
        go_roundw
        case rel => exact ⟨1, by omega, rfl, _, _, _, rfl, HE⟩
        case measure => simp [intOf]
    · obtain rfl : i = 1 := by omega
      have H := HJ.out
      rw [if_neg (by decide)] at H
      have HE : Hid (RowK wr w.heap.size (.slice a2 n2 c2) ([x.e.key, ⟨x.dir, nob⟩, ⟨x.e.id, ⟨#[97]⟩⟩] ++ x.ks) ∧ Below w.heap.size w wr) := H
      clear HJ H h0
      go_wp2
      go_ret
      exact ⟨_, rfl, HE.out⟩
end
section
open Go.RowKit
attribute [local go_sem ↓ high] loadDo storeDo builddo

theorem RowK.rdF {w : World} {base : Nat} {v : Value} {ks : List Ky} (h : RowK w base v ks) : RdK w v ks (fun _ => False) := h.rd fun _ _ e => e
theorem dc_one {w : World} {l : List DOp} (h : ∀ x ∈ l, ArgK w x.vk x.ks) : ∀ u ∈ dc l, u.oneCell' = true := by
  intro u hu
  obtain ⟨x, hx, hx2⟩ := List.mem_flatMap.1 hu
  exact dvals_one (h x hx).one u hx2
theorem rowD_all {w : World} {a : Option Addr} {ops : List DOp} (h : RowD w a ops) : ∀ x ∈ ops, ArgK w x.vk x.ks := by
  intro x hx
  obtain ⟨i, hi⟩ := List.mem_iff_getElem?.1 hx
  rcases h with h | ⟨b, off, _, _, h⟩
  · rw [h] at hx; cases hx
  · exact (h i x hi).2
set_option maxRecDepth 100000 in
set_option maxHeartbeats 16000000 in
theorem walk_DentSteps (a : Option Addr) (cap : Nat) (ops : List DOp) (x : DOp) (w : World) (row : RowD w a ops) (hlen : ops.length * 112 ≤ 140737488351232) (hx : ArgK w x.vk x.ks) :
    Calls Try.prog 4 #[.slice a ops.length cap, x.agg] w fun r w' => r = .returned (.bool true) ∧ Below w.heap.size w w' := by
  obtain ⟨n, hn⟩ : ∃ n, ops.length = n := ⟨_, rfl⟩
  obtain ⟨W1, hW1⟩ : ∃ W, w.alloc (.cells x.vals.toArray 39) = W := ⟨_, rfl⟩
  have b1 := boxO hW1
  have HB1 : Hid (Below w.heap.size w W1 ∧ W1.heap[w.heap.size]? = some (.cells x.vals.toArray 39 (0, 0)) ∧ w.heap.size < W1.heap.size) := ⟨b1.2.1, b1.1, by have := b1.2.2; omega⟩
  have HX : Hid (∀ W, Below W1.heap.size W1 W → (doLd (.pointer (some ⟨w.heap.size, 0, none⟩))).run Try.prog W = .ok x.agg W) := fun W hW => doLd_at fun j u hu => by
    rw [cell_of ((hW.block _ HB1.out.2.2).trans HB1.out.2.1)]
    simpa using hu
  have HO : Hid (Calls Try.prog 9 #[.slice a n cap] W1 fun r w2 => ∃ p q, r = .returned (.tuple #[.pointer (some ⟨p, 0, none⟩), .pointer (some ⟨q, 0, none⟩), .bool true]) ∧ Tw W1 w2 p q (runS ops) (runS ops) n (fun _ => False)) := by
    rw [← hn]
    exact of_p a cap ops W1 (row.below b1.2.1) (by omega)
  have HKo : Hid (∀ W, Below W1.heap.size W1 W → Calls Try.prog 11 #[.slice (some ⟨W.heap.size, 0, none⟩) 1 1] (W.alloc (.cells x.vals.toArray 39)) fun r w' => ∃ v ks, r = .returned v ∧ RdK w' v ks (fun _ => False) ∧ ks.length ≤ 100000000000000 ∧ Below W.heap.size W w') := fun W hW => by
    have hh := heap_new W (.cells x.vals.toArray 39)
    refine (keysOf_1 W.heap.size 0 1 x _ (cellLt (p := ⟨W.heap.size, 0, none⟩) (v := .int .i64 x.kind) (by rw [cell_of hh]; rfl)) (fun j u hu => by rw [cell_of hh, Nat.zero_add]; simpa using hu) (((hx.below HB1.out.1).below hW).below (below_alloc _ _))).mono ?_
    rintro r w' ⟨v, rfl, hr, hb⟩
    refine ⟨v, _, rfl, hr.rdF, ?_, chainB (below_alloc _ _) hb⟩
    obtain ⟨_, _, _, hl, _⟩ := hx
    simp only [List.length_append, List.length_cons, List.length_nil]
    omega
  have HLk : Hid (∀ W0 W W' p q s m v ks, Tw W0 W p q s s m (fun _ => False) → m < 1300000000000 → Below W.heap.size W W' → RdK W' v ks (fun _ => False) → ks.length ≤ 100000000000000 → Calls Try.prog 10 #[.pointer (some ⟨p, 0, none⟩), .pointer (some ⟨q, 0, none⟩), v] W' fun r w' => r = .returned (.bool true) ∧ Below W'.heap.size W' w') := fun W0 W W' p q s m v ks ht hm hb hk hl => like_p W0 W' p q s m _ (ht.on' hb) hm v ks hk hl
  have HA : Hid (∀ w, Calls Try.prog 12 #[] w fun x w' => x = .returned (.bool true) ∧ Below w.heap.size w w') := awake_p
  have HR : Hid (RowD w a ops ∧ ops.length = n ∧ ArgK w x.vk x.ks) := ⟨row, hn, hx⟩
  have onee := doOne_of
  rw [hn, show x.agg = .agg x.vals.toArray from rfl]
  rw [hn] at hlen
  have hnb : n < 1290000000000 := by omega
  clear row hx b1 hn
  have HO2 : Hid (∀ W B a6 n6 c6, Below W1.heap.size W1 W → RowO W B (.slice a6 n6 c6) (ops ++ [x]) → Calls Try.prog 9 #[.slice a6 n6 c6] W fun r w2 => ∃ p q, r = .returned (.tuple #[.pointer (some ⟨p, 0, none⟩), .pointer (some ⟨q, 0, none⟩), .bool true]) ∧ Tw W w2 p q (runS (ops ++ [x])) (runS (ops ++ [x])) (n + 1) (fun _ => False)) := fun W B a6 n6 c6 hW hr => by
    obtain ⟨hrd, hn6⟩ := hr.rowD fun y hy => by
      rcases List.mem_append.1 hy with hy | hy
      · exact ((rowD_all HR.out.1 y hy).below HB1.out.1).below hW
      · rw [List.mem_singleton.1 hy]; exact (HR.out.2.2.below HB1.out.1).below hW
    have hl6 : (ops ++ [x]).length = n + 1 := by rw [List.length_append, HR.out.2.1]; rfl
    have := of_p a6 c6 (ops ++ [x]) W hrd (by omega)
    rw [hl6] at this hn6
    rw [hn6]
    exact this
  have HP2 : Hid (∀ W B v, RowO W B v ops → B ≤ W.heap.size → ∃ a7 N7 c7 Z, (∀ ty, (Builtin.append_ #[22, 22] ty #[v, .slice (some ⟨W.heap.size, 0, none⟩) 1 1]).run Try.prog (W.alloc (.cells x.vals.toArray 39)) = .ok (.slice a7 N7 c7) Z) ∧ RowO Z B (.slice a7 N7 c7) (ops ++ [x]) ∧ Only (fun b => v.ownBlock = some b) W Z) := fun W B v hr hB => keep_op x hr HR.out.2.2.one hB (by rw [HR.out.2.1]; omega)
  go_enter Try.func4, Try.ntmps4
  go_wp2_with (first
    | (go_at_call 10; refine (HLk.out _ _ _ _ _ _ _ _ _ H2.out (by omega) H3.out.1 H3.out.2.1 H3.out.2.2).mono ?_; rintro r w4 ⟨rfl, hb⟩; have H4 : Hid (Below W1.heap.size W1 w4) := chainB H2.out.ld.below (chainB H3.out.1 hb); have l4 := HX.out w4 H4.out; clear hb)
    | (go_at_call 11; refine (HKo.out _ H2.out.ld.below).mono ?_; rintro r w3 ⟨v3, k3, rfl, hr, hl, hb⟩; have H3 : Hid (Below w2.heap.size w2 w3 ∧ RdK w3 v3 k3 (fun _ => False) ∧ k3.length ≤ 100000000000000) := ⟨hb, hr, hl⟩; clear hr hl hb)
    | (go_at_call 9; refine HO.out.mono ?_; rintro r w2 ⟨p, q, rfl, hl⟩; have H2 : Hid (Tw W1 w2 p q (runS ops) (runS ops) n (fun _ => False)) := hl; have l2 := HX.out w2 hl.ld.below; clear hl))
  have HD : Hid (Below W1.heap.size W1 w4.drew) := below_drewN H4.out 1
  have k0 := HX.out _ HD.out
  cases a with
  | none =>
    have hops : ops = [] := by
      rcases HR.out.1 with h | ⟨b, off, e, _⟩
      · exact h
      · cases e
    have hn0 : n = 0 := by rw [← HR.out.2.1, hops]; rfl
    subst hn0
    obtain ⟨a7, N7, c7, Z, pap, rowZ, oZ⟩ := HP2.out w4.drew w4.drew.heap.size (.slice none 0 0) (by rw [hops]; exact World.ownsRow_nil _ _ _ _) (Nat.le_refl _)
    have hbZ : Below W1.heap.size W1 Z := chainB HD.out ⟨oZ.os, oZ.tape, oZ.output, oZ.size, fun k hk => oZ.block k hk (fun e => by cases e)⟩
    have HZ : Hid (RowO Z w4.drew.heap.size (.slice a7 N7 c7) (ops ++ [x]) ∧ Below W1.heap.size W1 Z) := ⟨rowZ, hbZ⟩
    have k1 := HX.out _ (below_drewN (chainB H4.out (below_alloc w4 (.cells x.vals.toArray 39))) 1)
    have pap1 : ∀ ty, (Builtin.append_ #[22, 22] ty #[.slice none 0 0, .slice (some ⟨w4.heap.size, 0, none⟩) 1 1]).run Try.prog (w4.alloc (.cells x.vals.toArray 39)).drew = .ok (.slice a7 N7 c7) Z := pap
    clear pap
    change (doLd (.pointer (some ⟨w.heap.size, 0, none⟩))).run Try.prog (w4.alloc (.cells x.vals.toArray 39)).drew = .ok x.agg (w4.alloc (.cells x.vals.toArray 39)).drew at k1
    have k2 := HX.out _ hbZ
    clear rowZ oZ hbZ hops l2 l4
    go_region_held3 (fun W => (doLd (.pointer (some ⟨w.heap.size, 0, none⟩))).run Try.prog W = .ok x.agg W)
      (with_reducible first | exact k0 | exact k1 | exact k2 | exact k5)
      (first
        | (go_at_call 9; refine (HO2.out _ _ _ _ _ HZ.out.2 HZ.out.1).mono ?_; rintro r w5 ⟨p5, q5, rfl, hl⟩; have H5 : Hid (Tw Z w5 p5 q5 (runS (ops ++ [x])) (runS (ops ++ [x])) (0 + 1) (fun _ => False) ∧ Below W1.heap.size W1 w5) := ⟨hl, chainB HZ.out.2 hl.ld.below⟩; have k5 := HX.out w5 H5.out.2; clear hl)
        | (refine step_apR rfl (.tmp 27) (.tmp 29) 22 rfl _ _ (.slice a7 N7 c7) Z (by simp [Act.eval]) (by simp [Act.eval]) pap1 ?_))
    all_goals (
      go_wp2_with (first
        | (go_at_call 12; refine (HA.out _).mono ?_; rintro r w8 ⟨rfl, hb⟩; have H8 : Hid (Below w.heap.size w w8) := chainB HB1.out.1 (chainB H7.out hb); clear hb)
        | (go_at_call 10; refine (HLk.out _ _ _ _ _ _ _ _ _ H5.out.1 (by omega) H6.out.1 H6.out.2.1 H6.out.2.2).mono ?_; rintro r w7 ⟨rfl, hb⟩; have H7 : Hid (Below W1.heap.size W1 w7) := chainB H5.out.2 (chainB H6.out.1 hb); clear hb)
        | (go_at_call 11; refine (HKo.out _ H5.out.2).mono ?_; rintro r w6 ⟨v6, k6, rfl, hr, hl, hb⟩; have H6 : Hid (Below w5.heap.size w5 w6 ∧ RdK w6 v6 k6 (fun _ => False) ∧ k6.length ≤ 100000000000000) := ⟨hb, hr, hl⟩; clear hr hl hb))
      go_ret
      exact ⟨rfl, H8.out⟩)
  | some ad =>
    have HAp : Hid (∀ W, Below W1.heap.size W1 W → ∃ a6 c6 Z, (∀ ty, (Builtin.append_ #[22, 22] ty #[.slice none 0 0, .slice (some ad) n cap]).run Try.prog W = .ok (.slice a6 n c6) Z) ∧ RowO Z W.heap.size (.slice a6 n c6) ops ∧ Below W.heap.size W Z) := fun W hW => by
      obtain ⟨v6, Z, r6, row6, o6⟩ := appO (w := W) (B := W.heap.size) (v := .slice none 0 0) (l := []) (l2 := ops) (ad := ad) (c := cap) (World.ownsRow_nil _ _ _ _) (by
        intro j u hu
        rcases HR.out.1 with h | ⟨b, off, e, hb, hc⟩
        · rw [h] at hu; simp [dc] at hu
        · cases e
          have hjl : j < ops.length * 10 := by
            have := (List.getElem?_eq_some_iff.1 hu).1
            rw [dc_len] at this; exact this
          obtain ⟨y, hy⟩ : ∃ y, ops[j / 10]? = some y := ⟨_, List.getElem?_eq_getElem (by omega)⟩
          have hg := dc_get ops (j / 10) (j % 10) y hy (by omega)
          rw [show j / 10 * 10 + j % 10 = j by omega, hu] at hg
          have hcc := (hc _ y hy).1 (j % 10) u hg.symm
          rw [show off + j / 10 * 10 + j % 10 = off + j by omega] at hcc
          rw [add_plain']
          exact ((chainB HB1.out.1 hW).cell (p := ⟨b, off + j, none⟩) hb).trans hcc) (dc_one (rowD_all HR.out.1)) (Nat.le_refl _) (by rw [HR.out.2.1]; simp only [List.length_nil]; omega)
      obtain ⟨a6, c6, hv6⟩ := owns_len row6
      subst hv6
      simp only [List.nil_append, HR.out.2.1] at r6 row6
      exact ⟨a6, c6, Z, r6, row6, ⟨o6.os, o6.tape, o6.output, o6.size, fun k hk => o6.block k hk (fun e => by cases e)⟩⟩
    -- the script's copy first
    obtain ⟨aA, cA, ZA, papA, rowA, bA⟩ := HAp.out w4.drew HD.out
    obtain ⟨aB, NB, cB, ZB, papB, rowB, oB⟩ := HP2.out ZA w4.drew.heap.size _ rowA bA.size
    have hbB : Below W1.heap.size W1 ZB := oB.below (chainB HD.out bA) (chainB HD.out bA).size fun b hb' => Nat.le_trans HD.out.size (World.ownsRow.lt rowA b hb').1
    -- the one more first
    have bY : Below w4.heap.size w4 (w4.alloc (.cells x.vals.toArray 39)).drew := below_drewN (below_alloc _ _) 1
    obtain ⟨aC, cC, ZC, papC, rowC, bC⟩ := HAp.out (w4.alloc (.cells x.vals.toArray 39)).drew (chainB H4.out bY)
    obtain ⟨vD, ZD, papD, rowD', oD⟩ := appO (w := ZC) (B := (w4.alloc (.cells x.vals.toArray 39)).drew.heap.size) (v := .slice aC n cC) (l := ops) (l2 := [x]) (ad := ⟨w4.heap.size, 0, none⟩) (c := 1) rowC (by
      intro j u hu
      have e1 : dc [x] = x.vals := by simp [dc]
      rw [e1] at hu
      have := one_atG (w := w4) (t := 39) j u hu
      exact (bC.cell (cellLt this)).trans this) (by
      have e1 : dc [x] = x.vals := by simp [dc]
      rw [e1]; exact dvals_one HR.out.2.2.one) bC.size (by rw [HR.out.2.1]; simp only [List.length_cons, List.length_nil]; omega)
    obtain ⟨aD, ND, cD, hvD⟩ : ∃ a N c, vD = .slice a N c := by
      obtain ⟨a9, c9, h9⟩ := owns_len rowD'
      exact ⟨_, _, _, h9⟩
    subst hvD
    have hbC := chainB (chainB H4.out bY) bC
    have hbD : Below W1.heap.size W1 ZD := oD.below hbC hbC.size fun b hb' => Nat.le_trans (chainB H4.out bY).size (World.ownsRow.lt rowC b hb').1
    have HZB : Hid (RowO ZB w4.drew.heap.size (.slice aB NB cB) (ops ++ [x]) ∧ Below W1.heap.size W1 ZB) := ⟨rowB, hbB⟩
    have HZD : Hid (RowO ZD (w4.alloc (.cells x.vals.toArray 39)).drew.heap.size (.slice aD ND cD) (ops ++ [x]) ∧ Below W1.heap.size W1 ZD) := ⟨rowD', hbD⟩
    have HOB : Hid (Calls Try.prog 9 #[.slice aB NB cB] ZB fun r w2 => ∃ p q, r = .returned (.tuple #[.pointer (some ⟨p, 0, none⟩), .pointer (some ⟨q, 0, none⟩), .bool true]) ∧ Tw ZB w2 p q (runS (ops ++ [x])) (runS (ops ++ [x])) (n + 1) (fun _ => False)) := HO2.out ZB _ aB NB cB HZB.out.2 HZB.out.1
    have HOD : Hid (Calls Try.prog 9 #[.slice aD ND cD] ZD fun r w2 => ∃ p q, r = .returned (.tuple #[.pointer (some ⟨p, 0, none⟩), .pointer (some ⟨q, 0, none⟩), .bool true]) ∧ Tw ZD w2 p q (runS (ops ++ [x])) (runS (ops ++ [x])) (n + 1) (fun _ => False)) := HO2.out ZD _ aD ND cD HZD.out.2 HZD.out.1
    have k1 := HX.out _ (chainB HD.out bA)
    have k2 := HX.out _ (chainB (chainB HD.out bA) (below_alloc ZA (.cells x.vals.toArray 39)))
    have k3 := HX.out _ hbB
    have k4 := HX.out _ (chainB H4.out bY)
    have k6 := HX.out _ hbC
    have k7 := HX.out _ hbD
    clear rowA bA rowB oB hbB bY rowC bC rowD' oD hbC hbD l2 l4
    go_region_held3 (fun W => (doLd (.pointer (some ⟨w.heap.size, 0, none⟩))).run Try.prog W = .ok x.agg W)
      (with_reducible first | exact k0 | exact k1 | exact k2 | exact k3 | exact k4 | exact k6 | exact k7 | exact k5)
      (first
        | (go_at_call 9; first
          | ((with_reducible refine HOB.out.mono ?_); rintro r w5 ⟨p5, q5, rfl, hl⟩; have H5 : Hid (Tw ZB w5 p5 q5 (runS (ops ++ [x])) (runS (ops ++ [x])) (n + 1) (fun _ => False) ∧ Below W1.heap.size W1 w5) := ⟨hl, chainB HZB.out.2 hl.ld.below⟩; have k5 := HX.out w5 H5.out.2; clear hl)
          | ((with_reducible refine HOD.out.mono ?_); rintro r w5 ⟨p5, q5, rfl, hl⟩; have H5 : Hid (Tw ZD w5 p5 q5 (runS (ops ++ [x])) (runS (ops ++ [x])) (n + 1) (fun _ => False) ∧ Below W1.heap.size W1 w5) := ⟨hl, chainB HZD.out.2 hl.ld.below⟩; have k5 := HX.out w5 H5.out.2; clear hl))
        | (with_reducible refine step_apR rfl (.const (.slice none 0 0)) (.tmp 26) 22 rfl _ _ (.slice aA n cA) ZA (by simp [Act.eval]) (by simp [Act.eval]) papA ?_)
        | (with_reducible refine step_apR rfl (.const (.slice none 0 0)) (.tmp 26) 22 rfl _ _ (.slice aC n cC) ZC (by simp [Act.eval]) (by simp [Act.eval]) papC ?_)
        | (with_reducible refine step_apR rfl (.tmp 27) (.tmp 29) 22 rfl _ _ (.slice aB NB cB) ZB (by simp [Act.eval]) (by simp [Act.eval]) papB ?_)
        | (with_reducible refine step_apR rfl (.tmp 27) (.tmp 29) 22 rfl _ _ (.slice aD ND cD) ZD (by simp [Act.eval]) (by simp [Act.eval]) papD ?_))
    all_goals (
      go_wp2_with (first
        | (go_at_call 12; refine (HA.out _).mono ?_; rintro r w8 ⟨rfl, hb⟩; have H8 : Hid (Below w.heap.size w w8) := chainB HB1.out.1 (chainB H7.out hb); clear hb)
        | (go_at_call 10; refine (HLk.out _ _ _ _ _ _ _ _ _ H5.out.1 (by omega) H6.out.1 H6.out.2.1 H6.out.2.2).mono ?_; rintro r w7 ⟨rfl, hb⟩; have H7 : Hid (Below W1.heap.size W1 w7) := chainB H5.out.2 (chainB H6.out.1 hb); clear hb)
        | (go_at_call 11; refine (HKo.out _ H5.out.2).mono ?_; rintro r w6 ⟨v6, k6, rfl, hr, hl, hb⟩; have H6 : Hid (Below w5.heap.size w5 w6 ∧ RdK w6 v6 k6 (fun _ => False) ∧ k6.length ≤ 100000000000000) := ⟨hb, hr, hl⟩; clear hr hl hb))
      go_ret
      exact ⟨rfl, H8.out⟩)
end
end Go.Proofs.Ytlabophmfdfigaa
