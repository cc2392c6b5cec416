/- awake: one fixed answer. -/
import Derived.Test.YtnklhdoiggomkaaJTIes23
namespace Go.Proofs.Ytnklhdoiggomkaa
section
open Go.RowKit Go.Shelf
attribute [local go_sem ↓ high] loadMsg storeMsg buildMsg storeAct loadAct buildAct
attribute [local go_sem high] run_store_complex eqC

theorem val_two : fval 4611686018427387904 = some (2 * U) := by decide +kernel
theorem mk_of {re im : Nat} {e n : Int} (h1 : fval re = some (e * U)) (h2 : fval im = some (n * U)) (a : 0 ≤ e ∧ e ≤ 1099511627776) (b : 0 ≤ n ∧ n ≤ 1099511627776) : Mk re im e n := ⟨h1, h2, a.1, a.2, b.1, b.2⟩
def nilOp : Opn := ⟨0, 0, ⟨#[]⟩, 0, ⟨#[]⟩, 0, ⟨#[]⟩⟩
/-- a break of client 1, life 1 -/
def brk (re im : Nat) (v : Int) (ks : List Ky) : Pm := ⟨3, 1, 1, 0, re, im, v, 0, nilOp, [], ks⟩
theorem brk_counts {re im : Nat} {e n v : Int} {ks : List Ky} {S : Ts} (h : Mk re im e n) (hc : S.client = 1) (hl : S.life = 1) (he : S.e ≤ e) : S.counts (brk re im v ks) = true := by
  unfold Ts.counts
  simp only [brk, hc, hl, h.good]
  have : Pm.ep (brk re im v ks) = e := h.pa
  simp only [Pm.ep, h.pa]
  simp [he]
def kyA : Ky := ⟨1, ⟨#[97]⟩⟩
def kyB : Ky := ⟨1, ⟨#[98]⟩⟩
def mA : Pm := brk 4607182418800017408 4611686018427387904 5 [kyA]
def mB : Pm := brk 4607182418800017408 4607182418800017408 4 [kyB]
theorem mkA : Mk 4607182418800017408 4611686018427387904 1 2 := mk_of val_one val_two (by omega) (by omega)
theorem mkB : Mk 4607182418800017408 4607182418800017408 1 1 := mk_of val_one val_one (by omega) (by omega)
theorem awake_a : (Ts.new 1 1 2).take mA = (⟨1, 1, 1, 0, 0, 0, [], [mA], 2⟩, [allA]) := by
  have hc : (Ts.new 1 1 2).counts mA = true := brk_counts mkA rfl rfl (by show (0 : Int) ≤ 1; omega)
  have he : mA.ep = 1 := mkA.pa
  have hn : mA.num = 2 := mkA.pb
  have hk : mA.kind = 3 := rfl
  unfold Ts.take
  rw [if_pos hc]
  have hb : (Ts.new 1 1 2).begun mA = ⟨1, 1, 1, 0, 0, 0, [], [], 2⟩ := by unfold Ts.begun Ts.restart Ts.new; simp [he]
  have hbA : (Ts.new 1 1 2).begunA mA = [allA] := by unfold Ts.begunA Ts.new; simp [he]
  have hm : (⟨1, 1, 1, 0, 0, 0, [], [], 2⟩ : Ts).meet mA = (⟨1, 1, 1, 0, 0, 0, [], [mA], 2⟩, []) := by
    unfold Ts.meet Ts.ahead Ts.holds
    simp [hk, hn]
  have hs : (⟨1, 1, 1, 0, 0, 0, [], [mA], 2⟩ : Ts).settle = (⟨1, 1, 1, 0, 0, 0, [], [mA], 2⟩, []) := by
    apply Ts.settle_none
    unfold Ts.due Ts.due1 Ts.due2 Ts.due3 Ts.ahead
    simp [hk, hn, List.findIdx?_cons]
  rw [hb, hbA, hm, hs]; rfl
theorem awake_b : (⟨1, 1, 1, 0, 0, 0, [], [mA], 2⟩ : Ts).take mB = (⟨1, 1, 1, 2, 5, 0, [], [], 2⟩, [keysA [kyB], keysA [kyA]]) := by
  have hc : (⟨1, 1, 1, 0, 0, 0, [], [mA], 2⟩ : Ts).counts mB = true := brk_counts mkB rfl rfl (by show (1 : Int) ≤ 1; omega)
  have he : mB.ep = 1 := mkB.pa
  have hn : mB.num = 1 := mkB.pb
  have hn2 : mA.num = 2 := mkA.pb
  have hk : mB.kind = 3 := rfl
  have hk2 : mA.kind = 3 := rfl
  unfold Ts.take
  rw [if_pos hc]
  have hb : (⟨1, 1, 1, 0, 0, 0, [], [mA], 2⟩ : Ts).begun mB = ⟨1, 1, 1, 0, 0, 0, [], [mA], 2⟩ := by unfold Ts.begun; simp [he]
  have hbA : (⟨1, 1, 1, 0, 0, 0, [], [mA], 2⟩ : Ts).begunA mB = [] := by unfold Ts.begunA; simp [he]
  have hm : (⟨1, 1, 1, 0, 0, 0, [], [mA], 2⟩ : Ts).meet mB = (⟨1, 1, 1, 1, 4, 0, [], [mA], 2⟩, [keysA [kyB]]) := by
    unfold Ts.meet Ts.ahead Ts.apply actOf
    simp [hk, hn]
    exact ⟨rfl, rfl⟩
  have hd : (⟨1, 1, 1, 1, 4, 0, [], [mA], 2⟩ : Ts).due = some 0 := by
    unfold Ts.due Ts.due1 Ts.ahead
    simp [hk2, hn2, List.findIdx?_cons]
  have hm2 : ((⟨1, 1, 1, 1, 4, 0, [], [mA], 2⟩ : Ts).without 0).meet mA = (⟨1, 1, 1, 2, 5, 0, [], [], 2⟩, [keysA [kyA]]) := by
    unfold Ts.without Ts.meet Ts.ahead Ts.apply actOf
    simp [hk2, hn2]
    exact ⟨rfl, rfl⟩
  have hs2 : (⟨1, 1, 1, 2, 5, 0, [], [], 2⟩ : Ts).settle = (⟨1, 1, 1, 2, 5, 0, [], [], 2⟩, []) := Ts.settle_none rfl
  rw [hb, hbA, hm]
  simp only []
  rw [Ts.settle_some hd rfl, hm2]
  simp only []
  rw [hs2]; rfl
theorem acts1 {l : List Am} {c : Ac} (h : l.map Am.c = [c]) : ∃ a, l = [a] ∧ a.c = c := by
  match l, h with
  | [a], h => exact ⟨a, rfl, by simpa using h⟩
theorem acts2 {l : List Am} {c d : Ac} (h : l.map Am.c = [c, d]) : ∃ a b, l = [a, b] ∧ a.c = c ∧ b.c = d := by
  match l, h with
  | [a, b], h => exact ⟨a, b, rfl, by simpa using h⟩
theorem one_key {w : World} (k : Ky) : RowK (w.alloc (.cells #[.int .i64 k.d, .string k.nm] 65)) 0 (.slice (some ⟨w.heap.size, 0, none⟩) 1 1) [k] := owns_whole (xs := kc [k]) (Nat.zero_le _) (heap_new _ _) rfl (by unfold maxLen; omega)
theorem lists_key {w : World} {x : Hm} (k : Ky) (h1 : x.m.es = []) (h2 : x.m.ks = [k]) (h3 : x.ve = .slice none 0 0) (h4 : x.vk = .slice (some ⟨w.heap.size, 0, none⟩) 1 1) : Lists (w.alloc (.cells #[.int .i64 k.d, .string k.nm] 65)) 0 x := by
  refine ⟨?_, ?_, ?_, ?_⟩
  · rw [h1, h3]; exact World.ownsRow_nil _ _ _ _
  · rw [h2, h4]; exact one_key k
  · rw [h1]; exact Nat.zero_le _
  · rw [h2]; unfold LB; simp
set_option maxHeartbeats 8000000 in
set_option maxRecDepth 100000 in
theorem awake_p (w : World) : Calls Try.prog 11 #[] w fun e w' => e = .returned (.bool true) ∧ Below w.heap.size w w' := by
  have HN : Hid (Calls Try.prog 9 #[.int .i64 1, .int .i64 1, .int .i64 2] w fun e w' => e = .returned (.tuple #[.pointer (some ⟨w.heap.size, 0, none⟩), .int .i64 0]) ∧ Lt w w' w.heap.size (Ts.new 1 1 2) (fun _ => False) ∧ Below w.heap.size w w') := lt_new 1 1 2 w w (Below.refl _ _) _ (fun k hk => hk.elim) (by decide)
  obtain ⟨t, ht⟩ : ∃ t, w.heap.size = t := ⟨_, rfl⟩
  rw [ht] at HN
  have HT : Hid (∀ (S : Ts) (W : World) (re im : Nat) (v : Int) (k : Ky), Lt w W t S (fun _ => False) → Calls Try.prog 15 #[.pointer (some ⟨t, 0, none⟩), .agg #[.int .i64 3, .int .i64 1, .int .i64 1, .int .i64 0, .complex .f64 re im, .int .i64 v, .int .i64 0, .int .i64 0, .int .i64 0, .string ⟨#[]⟩, .int .i64 0, .string ⟨#[]⟩, .int .i64 0, .string ⟨#[]⟩, .slice none 0 0, .slice (some ⟨W.heap.size, 0, none⟩) 1 1]] (W.alloc (.cells #[.int .i64 k.d, .string k.nm] 65)) fun e w' => TkL w (W.alloc (.cells #[.int .i64 k.d, .string k.nm] 65)) t S (fun _ => False) (brk re im v [k]) e w') := fun S W re im v k hL =>
    lt_take (hL.below (below_alloc _ _)) ⟨brk re im v [k], none, 0, some ⟨W.heap.size, 0, none⟩, 1⟩ (lists_key k rfl rfl rfl rfl)
  go_enter Try.func11, Try.ntmps11
  go_upto_region 6 with (first
    | (go_at_call 9; refine HN.out.mono ?_; rintro e w1 ⟨rfl, hL1, hb1⟩; have H1 : Hid _ := hL1; clear hL1)
    | (have _q := H2; go_at_call 15; refine (HT.out _ _ _ _ _ kyB H2.out.1).mono ?_; rintro e w3 ⟨v3, l3, rfl, ha3, hc3, hL3, hk3⟩; obtain ⟨a3, c3, rfl⟩ := owns_len ha3.row; have H3 : Hid (Acts w3 _ (.slice a3 l3.length c3) l3 ∧ l3.map Am.c = _ ∧ Lt w w3 t _ (fun _ => False) ∧ Kt (fun _ => False) _ w3) := ⟨ha3, hc3, hL3, hk3⟩; clear ha3 hc3 hL3 hk3)
    | (go_at_call 15; refine (HT.out _ _ _ _ _ kyA H1.out).mono ?_; rintro e w2 ⟨v2, l2, rfl, ha2, hc2, hL2, hk2⟩; obtain ⟨a2, c2, rfl⟩ := owns_len ha2.row; have H2 : Hid (Lt w w2 t _ (fun _ => False) ∧ Acts w2 _ (.slice a2 l2.length c2) l2 ∧ l2.map Am.c = _) := ⟨hL2, ha2, hc2⟩; clear ha2 hc2 hL2 hk2))
  have hA : (Ts.new 1 1 2).take (brk 4607182418800017408 4611686018427387904 5 [kyA]) = _ := awake_a
  have hB : (⟨1, 1, 1, 0, 0, 0, [], [mA], 2⟩ : Ts).take (brk 4607182418800017408 4607182418800017408 4 [kyB]) = _ := awake_b
  rw [hA] at H2 H3
  simp only [hB] at H3
  obtain ⟨x2, rfl, hx2⟩ := acts1 H2.out.2.2
  obtain ⟨y, z, rfl, hy, hz⟩ := acts2 H3.out.2.1
  have ac2 : Acts w3 _ (.slice a2 1 c2) [x2] := H3.out.2.2.2.acts (H2.out.2.1.below (below_alloc _ _))
  obtain ⟨g2, rfl, -, -, -, q2⟩ := owns_act ac2.row (i := 0) rfl
  obtain ⟨g3, rfl, -, -, -, q3⟩ := owns_act H3.out.1.row (i := 0) (h := y) rfl
  obtain ⟨g3', e3, -, -, -, q4⟩ := owns_act H3.out.1.row (i := 1) (h := z) rfl
  cases e3
  have c20 : w3.cell? ⟨g2, 0, none⟩ = some (.bool true) := by have := q2 0 (.bool x2.c.all) rfl; rw [hx2] at this; exact this
  have hyk : y.vk = .slice y.ak 1 y.ck := by unfold Am.vk; rw [hy]; rfl
  have hzk : z.vk = .slice z.ak 1 z.ck := by unfold Am.vk; rw [hz]; rfl
  have c34 : w3.cell? ⟨g3, 4, none⟩ = some (.slice y.ak 1 y.ck) := by rw [← hyk]; exact q3 4 y.vk rfl
  have c311 : w3.cell? ⟨g3, 11, none⟩ = some (.slice z.ak 1 z.ck) := by rw [← hzk]; exact q4 4 z.vk rfl
  have hrk := (H3.out.1.each y (by simp)).ks
  rw [hyk, hy] at hrk
  obtain ⟨gk, hgk, -, -, -, kn, -⟩ := RowK.key hrk (i := 0) (p := kyB) rfl
  rw [hgk] at c34
  have kn' : w3.cell? ⟨gk, 1, none⟩ = some (.string ⟨#[98]⟩) := kn
  obtain ⟨ma, mb, hmk, hmc⟩ := lt_mark H3.out.2.2.1
  have f1 : Op.floatEq .f64 ma 4607182418800017408 = true := by rw [floatEq_whole hmk.ha val_one]; rfl
  have f2 : Op.floatEq .f64 mb 4611686018427387904 = true := by rw [floatEq_whole hmk.hb val_two]; rfl
  have HV : Hid (Calls Try.prog 20 #[.pointer (some ⟨t, 0, none⟩)] w3 fun e w' => e = .returned (.int .i64 5) ∧ w3 = w') := lt_version H3.out.2.2.1
  have HM : Hid (Calls Try.prog 19 #[.pointer (some ⟨t, 0, none⟩)] w3 fun e w' => e = .returned (.complex .f64 ma mb) ∧ w3 = w') := hmc
  have HB : Hid (Below w.heap.size w w3) := H3.out.2.2.1.bel
  clear q2 q3 q4 ac2 hrk kn hmk hmc hA hB hx2 hy hz hyk hzk hgk
  go_wp2_with (first
    | (go_at_call 19; refine HM.out.mono ?_; rintro e w' ⟨rfl, rfl⟩)
    | (go_at_call 20; refine HV.out.mono ?_; rintro e w' ⟨rfl, rfl⟩))
  go_ret
  exact ⟨rfl, HB.out⟩
end
section
open Go.RowKit Go.Shelf
attribute [local go_sem ↓ high] loadMsg storeMsg buildMsg storeAct loadAct buildAct
attribute [local go_sem high] run_store_complex eqC

def plw (v : Int) (n : Nat) : Nat := (if v.tmod n < 0 then v.tmod n + n else v.tmod n).toNat
theorem plw_lt (v : Int) (n : Nat) (h : 1 ≤ n) : plw v n < n := by
  have h1 := Int.tmod_lt_of_pos v (show (0 : Int) < n by omega)
  have h2 := Int.lt_tmod_of_pos v (show (0 : Int) < n by omega)
  unfold plw
  split <;> omega
theorem place_w (v : Int) (n : Nat) (w : World) (h : 1 ≤ n) (h2 : n ≤ 1000000) :
    Calls Try.prog 28 #[.int .i64 v, .int .i64 n] w fun e w' => e = .returned (.int .i64 (plw v n)) ∧ w = w' := by
  have b1 := Int.tmod_lt_of_pos v (show (0 : Int) < n by omega)
  have b2 := Int.lt_tmod_of_pos v (show (0 : Int) < n by omega)
  by_cases hm : v.tmod n < 0
  · have e : (plw v n : Int) = v.tmod n + n := by unfold plw; rw [if_pos hm]; omega
    rw [e]
    clear e
    go_enter Try.func28, Try.ntmps28
    go_wp2
    go_ret
    exact ⟨rfl, rfl⟩
  · have e : (plw v n : Int) = v.tmod n := by unfold plw; rw [if_neg hm]; omega
    rw [e]
    clear e
    go_enter Try.func28, Try.ntmps28
    go_wp2
    go_ret
    exact ⟨rfl, rfl⟩

/-- the break of a number -/
def kyN (i : Nat) : Ky := ⟨(i : Int), ⟨#[107]⟩⟩
def brkN (i : Nat) : Pm := brk (floatOfInt .f64 1) (floatOfInt .f64 (i : Nat)) (2 * (i : Int)) [kyN i]
theorem brkN_mk (i : Nat) (h : i ≤ 1000) : Mk (brkN i).re (brkN i).im 1 i := show Mk (floatOfInt .f64 1) (floatOfInt .f64 (i : Int)) 1 (i : Int) from Mk.of (by omega) (by omega) (by omega) (by omega)
theorem brkN_ep (i : Nat) (h : i ≤ 1000) : (brkN i).ep = 1 := (brkN_mk i h).pa
theorem brkN_num (i : Nat) (h : i ≤ 1000) : (brkN i).num = i := (brkN_mk i h).pb
def stream (n : Nat) : List Pm := (List.range n).map fun i => brkN (i + 1)
def BrR (w : World) (n : Nat) (e : Ending) (w' : World) : Prop := ∃ v l, e = .returned v ∧ Msgs w' w.heap.size v l ∧ l.map Hm.m = stream n ∧ Below w.heap.size w w'
theorem stream_succ (n : Nat) : stream (n + 1) = stream n ++ [brkN (n + 1)] := by unfold stream; rw [List.range_succ, List.map_append]; rfl
set_option maxHeartbeats 4000000 in
set_option maxRecDepth 100000 in
theorem breaks_p (n : Nat) (w : World) (hn : n ≤ 8) : Calls Try.prog 27 #[.int .i64 n] w fun e w' => BrR w n e w' := by
  obtain ⟨i1, hi1, hw0, hw1, hw2⟩ := info_parts Try.infoMg
  go_enter Try.func27, Try.ntmps27
  go_wp2
  go_loopw [3, 4] (fun s3 s4 wr => ∃ (i : Nat) (l : List Hm), i ≤ n ∧ s4 = .int .i64 (i + 1 : Nat) ∧ Hid (Msgs wr w.heap.size s3 l ∧ l.map Hm.m = stream i ∧ Below w.heap.size w wr)) (fun _ s4 _ => n + 1 - (intOf s4).toNat)
  case atStart => exact ⟨0, [], Nat.zero_le _, rfl, ⟨World.ownsRow_nil _ _ _ _, fun m hm => by cases hm⟩, rfl, Below.refl _ _⟩
  case round =>
    obtain ⟨i, l, hi, rfl, HR⟩ := hrel
    have hl8 : l.length ≤ 8 := by
      have := congrArg List.length HR.out.2.1
      unfold stream at this
      rw [List.length_map, List.length_map, List.length_range] at this
      omega
    by_cases hlt : i < n
    · obtain ⟨J, hJ⟩ : ∃ J : Int, ((i + 1 : Nat) : Int) = J := ⟨_, rfl⟩
      have HJ : Hid (((i + 1 : Nat) : Int) = J) := hJ
      rw [hJ]
      have z1 : J ≤ (n : Int) := by omega
      have z2 : J ≤ 8 := by omega
      have z3 : 0 ≤ J := by omega
      have hmk : Hid (∀ W, Calls Try.prog 30 #[.int .i64 1, .int .i64 J] W fun e w' => e = .returned (.complex .f64 (floatOfInt .f64 1) (floatOfInt .f64 J)) ∧ W = w') := fun W => (mark_any 1 J W).mono fun e w' hh => ⟨hh.1, hh.2.symm⟩
      clear hJ
      obtain ⟨aV, cV, rfl⟩ := owns_len HR.out.1.row
      obtain ⟨W1, hW1⟩ : ∃ W1, wr.alloc (.cells #[.int .i64 J, .string ⟨#[107]⟩] 65) = W1 := ⟨_, rfl⟩
      have b1 := boxB hW1
      obtain ⟨z, hz⟩ : ∃ z : Hm, z = ⟨brkN (i + 1), none, 0, some ⟨wr.heap.size, 0, none⟩, 1⟩ := ⟨_, rfl⟩
      have hL : Lists W1 w.heap.size z := by
        rw [hz, ← hW1, ← HJ.out]
        have hk := lists_key (w := wr) (x := ⟨brkN (i + 1), none, 0, some ⟨wr.heap.size, 0, none⟩, 1⟩) (kyN (i + 1)) rfl rfl rfl rfl
        exact ⟨World.ownsRow_nil _ _ _ _, owns_up hk.ks (fun k hk => by cases hk; exact HR.out.2.2.size), hk.le, hk.lk⟩
      have mo : (msgOne #[(0, .agg #[.int .i64 3, .int .i64 1, .int .i64 1, .int .i64 0, .complex .f64 (floatOfInt .f64 1) (floatOfInt .f64 J), .int .i64 (2 * J), .int .i64 0, .int .i64 0, .int .i64 0, .string ⟨#[]⟩, .int .i64 0, .string ⟨#[]⟩, .int .i64 0, .string ⟨#[]⟩, .slice none 0 0, .slice (some ⟨wr.heap.size, 0, none⟩) 1 1])]).run Try.prog W1 = .ok (.slice (some ⟨W1.heap.size, 0, none⟩) 1 1) (W1.alloc (.cells z.arr 45)) := by
        rw [hz, ← HJ.out]
        exact msgOne_of (Hm.arr ⟨brkN (i + 1), none, 0, some ⟨wr.heap.size, 0, none⟩, 1⟩) rfl W1
      have ro : (W1.alloc (.cells z.arr 45)).ownsRow w.heap.size 45 16 (.slice aV l.length cV) l.length (mc l) := World.ownsRow.alloc (HR.out.1.row.below b1.2) _
      have zat : ∀ j u, z.vals[j]? = some u → (W1.alloc (.cells z.arr 45)).cell? ((⟨W1.heap.size, 0, none⟩ : Addr).add j) = some u := fun j u hu => by rw [add_plain', Nat.zero_add, cell_of (heap_new _ _), ← Array.getElem?_toList]; exact hu
      have K3 : Hid (Msgs W1 w.heap.size (.slice aV l.length cV) l ∧ Lists W1 w.heap.size z ∧ Below w.heap.size w W1 ∧ z.m = brkN (i + 1)) := ⟨HR.out.1.below b1.2, hL, chainB HR.out.2.2 b1.2, by rw [hz]⟩
      have hsz : w.heap.size ≤ (W1.alloc (.cells z.arr 45)).heap.size := Nat.le_trans K3.out.2.2.1.size (below_alloc W1 (.cells z.arr 45)).size
      have HS : Hid (stream (i + 1) = stream i ++ [brkN (i + 1)]) := stream_succ i
      clear b1 hz hL
      go_wp2_with (first
        | (at_builtin; refine wpList_append_own_at _ rfl (.tmp 14) (.tmp 23) 53 rfl w.heap.size 45 i1 _ 16 192 Try.underlying53 hi1 hw0 hw1 hw2 rfl (by decide) _ l.length (mc l) rfl ro ⟨W1.heap.size, 0, none⟩ 1 1 z.vals rfl rfl zat z.one' (by unfold maxLen; omega) (by omega) hsz ?_; intro v5 w5 hown5 hgrow5 _ _; have H5 : Hid (Msgs w5 w.heap.size v5 (l ++ [z]) ∧ Below w.heap.size w w5) := held_push K3.out.1 K3.out.2.1 K3.out.2.2.1 hown5 hgrow5; obtain ⟨a5, q5, rfl⟩ := owns_len hown5; clear hown5 hgrow5)
        | (go_at_call 30; refine (hmk.out _).mono ?_; rintro e w' ⟨rfl, rfl⟩))
      exact ⟨⟨i + 1, l ++ [z], by omega, by rw [← HJ.out]; simp, H5.out.1, by rw [List.map_append, HR.out.2.1, HS.out, ← K3.out.2.2.2]; rfl, H5.out.2⟩, by have := HJ.out; simp [intOf]; omega⟩
    · obtain rfl : i = n := by omega
      have z1 : ¬ ((i + 1 : Nat) : Int) ≤ (i : Int) := by omega
      have HF : Hid (Msgs wr w.heap.size u3 l ∧ l.map Hm.m = stream i ∧ Below w.heap.size w wr) := HR
      clear HR
      go_wp2
      go_ret
      exact ⟨_, l, rfl, HF.out.1, HF.out.2.1, HF.out.2.2⟩
end
end Go.Proofs.Ytnklhdoiggomkaa
