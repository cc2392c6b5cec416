/- The contracts of package scroll's small functions: numbers, whole blocks, bytes.Equal. -/
import Derived.Test.YtajgaialnafdbaaJSAys03
import Derived.Laws.BytesArg
import Derived.Lib.Bytes
import Derived.Lib.Walk
import Derived.Lib.AppendZeros
namespace Go.Proofs.Ytajgaialnafdbaa
section
open Go.RowKit

/-- the same memory, whatever was drawn -/
def Same (w0 w : World) : Prop := w.heap = w0.heap ∧ w.os = w0.os ∧ w.tape = w0.tape ∧ w.output = w0.output
theorem Same.refl (w : World) : Same w w := ⟨rfl, rfl, rfl, rfl⟩
theorem Same.trans {a b c : World} (h : Same a b) (k : Same b c) : Same a c := ⟨k.1.trans h.1, k.2.1.trans h.2.1, k.2.2.1.trans h.2.2.1, k.2.2.2.trans h.2.2.2⟩
theorem Same.below {w0 w : World} (hs : Same w0 w) : Below w0.heap.size w0 w := ⟨hs.2.1, hs.2.2.1, hs.2.2.2, by rw [hs.1]; exact Nat.le_refl _, fun k _ => by rw [hs.1]⟩

theorem nums_inj : ∀ {l m : List Int}, Byt l → Byt m → (l.map fun n => UInt8.ofNat n.toNat) = (m.map fun n => UInt8.ofNat n.toNat) → l = m
  | [], [], _, _, _ => rfl
  | [], _ :: _, _, _, h => by cases h
  | _ :: _, [], _, _, h => by cases h
  | x :: l, y :: m, hl, hm, h => by
    simp only [List.map_cons, List.cons.injEq] at h
    have hx := hl x (by simp)
    have hy := hm y (by simp)
    have e : x = y := by
      have := congrArg UInt8.toNat h.1
      simp only [UInt8.toNat_ofNat'] at this
      omega
    rw [e, nums_inj (fun z hz => hl z (by simp [hz])) (fun z hz => hm z (by simp [hz])) h.2]
theorem RB.conv {w : World} {v : Value} {l : List Int} (h : RB w v l) : (convert 22 9 v).run Try.prog w = .ok (.string (strOfNums l)) w := by
  obtain ⟨a, cap, rfl, h⟩ := h
  by_cases h0 : l = []
  · subst h0
    cases a with
    | none => exact run_convert_bytes_nil w 22 5 Try.underlying22 Try.underlying5 0 cap 9 Try.underlying9
    | some ad =>
      rw [run_convert_bytes_string w 22 9 5 _ _ cap Try.underlying22 Try.underlying5 Try.underlying9]
      have hl : (loadCells ad 0).run Try.prog w = .ok #[] w := by simpa using run_loadCells_list (P := Try.prog) w ad [] (by simp)
      rw [show ([] : List Int).length = 0 from rfl, run_bytesToString w _ 0 cap [] (by simpa using hl)]
      rfl
  · rcases h with h | ⟨g, off, rfl, hg, hc⟩
    · exact absurd h h0
    · exact run_convert_bytes_arg w 22 5 Try.underlying22 Try.underlying5 g off l.length cap l rfl (fun i hi => by rw [hc i _ (List.getElem?_eq_getElem hi)]; simp [List.getD, List.getElem?_eq_getElem hi]) 9 Try.underlying9
theorem strOf_eq {l m : List Int} (hl : Byt l) (hm : Byt m) : ((strOfNums l).toList == (strOfNums m).toList) = decide (l = m) := by
  rw [Lib.strOfNums_toList, Lib.strOfNums_toList]
  by_cases h : l = m
  · subst h; simp
  · rw [decide_eq_false h, beq_eq_false_iff_ne]
    intro e
    exact h (nums_inj hl hm e)
theorem equal_any (v1 v2 : Value) (l m : List Int) (w : World) (h1 : RB w v1 l) (h2 : RB w v2 m) (hl : Byt l) (hm : Byt m) :
    Calls Try.prog 69 #[v1, v2] w fun e w' => e = .returned (.bool (decide (l = m))) ∧ w' = w := by
  rw [← strOf_eq hl hm]
  have c1 := h1.conv
  have c2 := h2.conv
  clear h1 h2 hl hm
  go_enter Try.func69, Try.ntmps69
  go_wp2
  go_ret
  exact ⟨rfl, rfl⟩

/-- bytes that are said -/
theorem RB.cells {w : World} {v : Value} {l : List Int} (h : RB w v l) (hn : l ≠ []) : ∃ g off cap, v = .slice (some ⟨g, off, none⟩) l.length cap ∧ g < w.heap.size ∧ ∀ i x, l[i]? = some x → w.cell? ⟨g, off + i, none⟩ = some (.int .u8 x) := by
  obtain ⟨a, cap, rfl, h⟩ := h
  rcases h with h | ⟨g, off, rfl, hg, hc⟩
  · exact absurd h hn
  · exact ⟨g, off, cap, rfl, hg, hc⟩
def lo (l : List Int) : Nat → Nat
  | 0 => 0
  | k + 1 => lo l k + gB l k * 256 ^ k
theorem lo_four (l : List Int) : lo l 4 = le4 l := by
  unfold le4; simp only [lo]; omega
theorem gB_get {l : List Int} {i : Nat} {x : Int} (h : l[i]? = some x) (hx : 0 ≤ x) : (gB l i : Int) = x := by
  unfold gB; rw [h, Option.getD_some]; omega
theorem or_sum (a b : Nat) (k : Nat) (ha : a < 2 ^ k) : a ||| b * 2 ^ k = a + b * 2 ^ k := by
  rw [Nat.or_comm, Nat.mul_comm b, ← Nat.two_pow_add_eq_or_of_lt ha b, Nat.add_comm]
theorem or_i64 (a b : Nat) (ha : a < 4611686018427387904) (hb : b < 4611686018427387904) : bits .or .i64 (a : Int) (b : Int) = ((a ||| b : Nat) : Int) := by
  have hx : a ||| b < 2 ^ 62 := Nat.or_lt_two_pow (by omega) (by omega)
  have h1 : (BitVec.ofInt 64 (a : Int)).toNat = a := by
    rw [BitVec.ofInt_natCast, BitVec.toNat_ofNat]; exact Nat.mod_eq_of_lt (by omega)
  have h2 : (BitVec.ofInt 64 (b : Int)).toNat = b := by
    rw [BitVec.ofInt_natCast, BitVec.toNat_ofNat]; exact Nat.mod_eq_of_lt (by omega)
  show IntKind.i64.wrap ((BitVec.ofInt 64 (a : Int) ||| BitVec.ofInt 64 (b : Int)).toNat : Int) = _
  rw [BitVec.toNat_or, h1, h2]
  exact IntWalk.i64_in _ (by omega)
theorem or_step {l : List Int} (k m : Nat) {x y : Int} (hk : m = 2 ^ (8 * k)) (hm : m ≤ 16777216) (hlo : lo l k < m) (hx : (gB l k : Int) = x) (hb : x < 256) (hy : y = x * (m : Int)) (h256 : 256 ^ k = m) : bits .or .i64 (lo l k : Nat) y = (lo l (k + 1) : Nat) := by
  have e : y = ((gB l k * m : Nat) : Int) := by rw [hy, ← hx]; exact (Int.natCast_mul _ _).symm
  have h2 : gB l k * m ≤ 255 * 16777216 := Nat.mul_le_mul (by omega) hm
  rw [e, or_i64 _ _ (by omega) (by omega)]
  show _ = ((lo l k + gB l k * 256 ^ k : Nat) : Int)
  rw [h256]
  subst hk
  rw [or_sum _ _ _ hlo]
theorem lo_lt {l : List Int} (h : Byt l) : lo l 0 < 1 ∧ lo l 1 < 256 ∧ lo l 2 < 65536 ∧ lo l 3 < 16777216 := by
  have := gB_lt h 0; have := gB_lt h 1; have := gB_lt h 2
  simp only [lo]; omega
theorem number_any (v : Value) (l : List Int) (w : World) (h : RB w v l) (hl : 4 ≤ l.length) (hb : Byt l) :
    Calls Try.prog 63 #[v] w fun e w' => e = .returned (.int .i64 (le4 l : Nat)) ∧ w' = w := by
  obtain ⟨g, off, cap, rfl, hg, hc⟩ := h.cells (by rintro rfl; simp at hl)
  rw [← lo_four]
  obtain ⟨n, hn⟩ : ∃ n, l.length = n := ⟨_, rfl⟩
  have HC : Hid ((∀ i x, l[i]? = some x → w.cell? ⟨g, off + i, none⟩ = some (.int .u8 x)) ∧ l.length = n) := ⟨hc, hn⟩
  have HB : Hid (Byt l) := hb
  rw [hn] at hl
  rw [hn]
  clear h hc hn hb
  go_enter Try.func63, Try.ntmps63
  go_wp2
  go_loopw [3, 5] (fun s i wr => ∃ k : Nat, k ≤ 4 ∧ i = .int .i64 k ∧ s = .int .i64 (lo l k : Nat) ∧ wr = w) (fun _ i _ => 4 - (intOf i).toNat)
  case atStart => exact ⟨0, Nat.zero_le _, rfl, rfl, rfl⟩
  case round =>
    obtain ⟨k, hk, rfl, rfl, rfl⟩ := hrel
    by_cases h4 : k = 4
    · subst h4
      go_wp2
      go_ret
      exact ⟨rfl, rfl⟩
    · obtain ⟨x, hx⟩ : ∃ x, l[k]? = some x := ⟨_, List.getElem?_eq_getElem (by rw [HC.out.2]; omega)⟩
      have d1 := HC.out.1 k x hx
      have hb := HB.out x (List.mem_of_getElem? hx)
      have hx' := gB_get hx hb.1
      have hkl : (k : Int) < (n : Int) := by omega
      rcases (by omega : k = 0 ∨ k = 1 ∨ k = 2 ∨ k = 3) with rfl | rfl | rfl | rfl
      · clear hx
        simp only [Nat.add_zero] at d1
        go_wp2
        go_roundw
        case rel => exact ⟨1, by omega, rfl, congrArg (Value.int .i64) (or_step 0 1 rfl (by omega) (lo_lt HB.out).1 hx' hb.2 (Int.mul_one x).symm rfl), trivial⟩
        case measure => simp [intOf]
      · clear hx
        go_wp2
        go_roundw
        case rel => exact ⟨2, by omega, rfl, congrArg (Value.int .i64) (or_step 1 256 rfl (by omega) (lo_lt HB.out).2.1 hx' hb.2 rfl rfl), trivial⟩
        case measure => simp [intOf]
      · clear hx
        go_wp2
        go_roundw
        case rel => exact ⟨3, by omega, rfl, congrArg (Value.int .i64) (or_step 2 65536 rfl (by omega) (lo_lt HB.out).2.2.1 hx' hb.2 rfl rfl), trivial⟩
        case measure => simp [intOf]
      · clear hx
        go_wp2
        go_roundw
        case rel => exact ⟨4, by omega, rfl, congrArg (Value.int .i64) (or_step 3 16777216 rfl (by omega) (lo_lt HB.out).2.2.2 hx' hb.2 rfl rfl), trivial⟩
        case measure => simp [intOf]

/-- append of bytes to a row of the call's own -/
theorem below_own {base : Nat} {w w' : World} {v : Value} {l : List Int} (h : OwnB w base v l) (hg : w.grownBy w' v.ownBlock) (hb : base ≤ w.heap.size) : Below base w w' :=
  ⟨hg.os, hg.tape, hg.output, hg.size, fun k hk => hg.block k (by omega) (fun e => by have := (h.at k e.symm).1; omega)⟩
theorem wpList_appB {w : World} {ops : Array Oper} {rest : List Oper} {o : Oper} {a : Act} {Q : Exit → Act → World → Prop} (hgd : o.guard = none) (s x : Operand)
    (ho : o.op = .call { callee := .builtin .append, args := #[s, x], argTypes := #[22, 22] }) (base : Nat) (v : Value) (l : List Int) (hs : a.eval s = v) (hown : OwnB w base v l)
    (vx : Value) (m : List Int) (hx : a.eval x = vx) (hm : RB w vx m) (hlen : l.length + m.length ≤ 140737488351232) (hbase : base ≤ w.heap.size)
    (h : ∀ v' w', OwnB w' base v' (l ++ m) → Below base w w' → (v'.ownBlock = v.ownBlock ∨ v'.ownBlock = some w.heap.size) → wpList Try.prog ops Q rest (a.put o.dst v') w') : wpList Try.prog ops Q (o :: rest) a w := by
  obtain ⟨i0, hi0, hz0, hz1, hz2⟩ := info_parts Try.infoU
  obtain ⟨ax, cx, rfl, _⟩ := id hm
  rcases hm.src with ⟨rfl, rfl⟩ | ⟨ad, rfl, hsrc⟩
  · refine wpList_plain hgd fun K hK => ?_
    have hrun := run_append_owned_none (P := Try.prog) (w := w) base 22 o.type 5 i0 1 Try.underlying22 hi0 v l.length (ub l) hown
    obtain ⟨a1, c1, e1⟩ := owns_len hown
    have hx' : a.eval x = .slice none 0 cx := hx
    have hr2 : (Builtin.append_ #[22, 22] o.type #[v, .slice none 0 cx]).run Try.prog w = .ok v w := by
      rw [← hrun]; rfl
    unfold Oper.wp
    simp [execOp, ho, resolve, invoke, builtin, hs, hx', hr2, Result.andThen]
    exact hK _ _ (h v w (by rw [List.append_nil]; exact hown) (Below.refl _ _) (.inl rfl))
  · refine wpList_append_own_at _ hgd s x 22 ho base 5 i0 (.int .u8 0) 1 1 Try.underlying22 hi0 hz0 hz1 hz2 rfl (by decide) v l.length (ub l) hs hown ad m.length cx (ub m) hx (by rw [ub_len, Nat.mul_one]) hsrc (ub_one m) (by unfold maxLen; omega) (by omega) hbase ?_
    intro v' w' h1 h2 _ h4
    refine h v' w' ?_ (below_own hown h2 hbase) h4
    unfold OwnB ub
    rw [List.length_append, List.map_append]
    exact h1
/-- bytes of the call's own, or a literal of just its length -/
def AB (w : World) (base : Nat) (v : Value) (l : List Int) : Prop :=
  OwnB w base v l ∨ ∃ g, v = .slice (some ⟨g, 0, none⟩) l.length l.length ∧ l ≠ [] ∧ g < w.heap.size ∧ ∀ i x, l[i]? = some x → w.cell? ⟨g, i, none⟩ = some (.int .u8 x)
theorem AB.below {w w' : World} {base : Nat} {v : Value} {l : List Int} (h : AB w base v l) (hb : Below w.heap.size w w') : AB w' base v l := by
  rcases h with h | ⟨g, rfl, hn, hg, hc⟩
  · exact .inl (h.below hb)
  · exact .inr ⟨g, rfl, hn, Nat.lt_of_lt_of_le hg hb.size, fun i x hx => (hb.cell (p := ⟨g, i, none⟩) hg).trans (hc i x hx)⟩
theorem wpList_appA {w : World} {ops : Array Oper} {rest : List Oper} {o : Oper} {a : Act} {Q : Exit → Act → World → Prop} (hgd : o.guard = none) (s x : Operand)
    (ho : o.op = .call { callee := .builtin .append, args := #[s, x], argTypes := #[22, 22] }) (base : Nat) (v : Value) (l : List Int) (hs : a.eval s = v) (hown : AB w base v l)
    (vx : Value) (y : Int) (m : List Int) (hx : a.eval x = vx) (hm : RB w vx (y :: m)) (hlen : l.length + (y :: m).length ≤ 140737488351232) (hbase : base ≤ w.heap.size)
    (h : ∀ v' w', OwnB w' base v' (l ++ y :: m) → Below base w w' → wpList Try.prog ops Q rest (a.put o.dst v') w') : wpList Try.prog ops Q (o :: rest) a w := by
  rcases hown with hown | ⟨g, rfl, hn, hg, hc⟩
  · exact wpList_appB hgd s x ho base v l hs hown vx (y :: m) hx hm hlen hbase fun v' w' h1 h2 _ => h v' w' h1 h2
  · obtain ⟨i0, hi0, hz0, hz1, hz2⟩ := info_parts Try.infoU
    obtain ⟨ax, cx, rfl, _⟩ := id hm
    rcases hm.src with ⟨_, e⟩ | ⟨ad, rfl, hsrc⟩
    · cases e
    · have holds : ∀ j u, (ub l)[j]? = some u → w.cell? ((⟨g, 0, none⟩ : Addr).add j) = some u := by
        intro j u hu
        rw [add_plain', Nat.zero_add]
        rw [ub_get] at hu
        cases hq : l[j]? with
        | none => rw [hq] at hu; cases hu
        | some q => rw [hq] at hu; cases hu; exact hc j q hq
      have hpos : 0 < (y :: m).length := by simp
      have hr := run_append_grow (P := Try.prog) w 22 o.type 5 i0 (.int .u8 0) Try.underlying22 hi0 hz0 ⟨g, 0, none⟩ l.length l.length (ub l) (by rw [ub_len, hz1, Nat.mul_one]) holds ad (y :: m).length cx (ub (y :: m)) (by rw [ub_len, hz1, Nat.mul_one]) hsrc (by omega) (by omega) (growslice_fits (by omega) (by rw [hz2]; omega))
      refine Lib.wpList_append_run w hgd s x 22 22 ho _ _ hs hx _ _ hr (h _ _ ?_ ?_)
      · have hge := grownCap_ge w (l.length + (y :: m).length) l.length 5
        have hcm : grownCap w (l.length + (y :: m).length) l.length 5 ≤ maxLen := grownCap_le_maxLen w _ _ _ (by unfold maxLen; omega)
        have hL : ub (l ++ y :: m) = ub l ++ ub (y :: m) := by unfold ub; rw [List.map_append]
        unfold OwnB
        rw [List.length_append]
        refine ⟨by rw [ub_len, List.length_append, Nat.mul_one], .inr ⟨w.heap.size, _, _, rfl, hbase, heap_alloc_new w.drew _, hge, hcm, ?_, ?_⟩⟩
        · simp only [Array.size_append, List.size_toArray, size_zeroCells, ub_len]
          show _ + _ + _ * 1 = _
          omega
        · simp only [Array.toList_append, List.append_assoc]
          rw [hL, ← List.append_assoc]
          exact List.take_left' (by rw [List.length_append, ub_len, ub_len, Nat.mul_one])
      · exact ((Below.refl base w).drew).alloc hbase _
theorem RB.one (w : World) (x : Int) (t : TypeId) : RB (w.alloc (.cells #[.int .u8 x] t)) (.slice (some ⟨w.heap.size, 0, none⟩) 1 1) [x] :=
  ⟨_, _, rfl, .inr ⟨w.heap.size, 0, rfl, by simp, fun i y hy => by
    match i, hy with
    | 0, hy => simp at hy; subst hy; simp⟩⟩
theorem RB.two (w : World) (x y : Int) (t : TypeId) : RB (w.alloc (.cells #[.int .u8 x, .int .u8 y] t)) (.slice (some ⟨w.heap.size, 0, none⟩) 2 2) [x, y] :=
  ⟨_, _, rfl, .inr ⟨w.heap.size, 0, rfl, by simp, fun i z hz => by
    match i, hz with
    | 0, hz => simp at hz; subst hz; simp
    | 1, hz => simp at hz; subst hz; simp⟩⟩
theorem OwnB.alloc {w : World} {base : Nat} {v : Value} {l : List Int} (h : OwnB w base v l) (o : Obj) : OwnB (w.alloc o) base v l := h.below (below_alloc w o)
theorem below_al {base : Nat} {w w' : World} {o : Obj} (h : Below base (w.alloc o) w') (hb : base ≤ w.heap.size) : Below base w w' := ((Below.refl base w).alloc hb o).trans h

theorem n4_own {w : World} {base : Nat} {v : Value} {l : List Int} {n k : Nat} {x : Int} (h : OwnB w base v (l ++ (n4 n).take k ++ [x])) (hk : k < 4) (hx : x = ((n / 256 ^ k % 256 : Nat) : Int)) : OwnB w base v (l ++ (n4 n).take (k + 1)) := by
  subst hx
  rw [List.append_assoc] at h
  rcases (by omega : k = 0 ∨ k = 1 ∨ k = 2 ∨ k = 3) with rfl | rfl | rfl | rfl
  · simpa [n4] using h
  · simpa [n4] using h
  · simpa [n4] using h
  · simpa [n4] using h
set_option maxRecDepth 100000 in
set_option maxHeartbeats 1000000 in
theorem appNum_any (v : Value) (l : List Int) (n base : Nat) (w : World) (h : AB w base v l) (hb : base ≤ w.heap.size) (hn : n < 4294967296) (hl : l.length ≤ 1000) :
    Calls Try.prog 74 #[v, .int .i64 n] w fun e w' => ∃ v', e = .returned v' ∧ OwnB w' base v' (l ++ n4 n) ∧ Below base w w' := by
  have H : Hid (AB w base v l) := h
  clear h
  go_enter Try.func74, Try.ntmps74
  go_wp2
  go_loopw [0, 1, 5] (fun b m i wr => ∃ k : Nat, k ≤ 4 ∧ i = .int .i64 k ∧ m = .int .i64 (n / 256 ^ k : Nat) ∧ AB wr base b (l ++ (n4 n).take k) ∧ (0 < k → OwnB wr base b (l ++ (n4 n).take k)) ∧ Below base w wr) (fun _ _ i _ => 4 - (intOf i).toNat)
  case atStart => exact ⟨0, Nat.zero_le _, rfl, by simp, by simpa using H.out, (fun h => absurd h (by decide)), Below.refl _ _⟩
  case round =>
    obtain ⟨k, hk, rfl, rfl, ho, ho2, hw⟩ := hrel
    have hws := hw.size
    by_cases h4 : k = 4
    · subst h4
      go_wp2
      go_ret
      exact ⟨_, rfl, ho2 (by decide), hw⟩
    · clear ho2
      rcases (by omega : k = 0 ∨ k = 1 ∨ k = 2 ∨ k = 3) with rfl | rfl | rfl | rfl
      all_goals
        have HO : Hid _ := ho
        clear ho
        go_wp2_with (at_builtin; refine wpList_appA rfl _ _ rfl base _ _ rfl (AB.below HO.out (below_alloc _ _)) _ _ [] rfl (RB.one _ _ _) (by rw [List.length_append, List.length_take, n4_len, List.length_singleton]; omega) (by simp; omega) ?_; intro v' w1 hown hb1; have hw1 := hw.trans (below_al hb1 (by omega)))
        go_roundw
        case rel => exact ⟨_, by omega, by go_num, congrArg (Value.int .i64) (by omega), .inl (n4_own hown (by omega) (by omega)), (fun _ => n4_own hown (by omega) (by omega)), hw1⟩
        case measure => simp [intOf]
end
section
open Go.RowKit

theorem made_u8 (n : Nat) : (madeCells (Value.int .u8 0).cells (n * 1)).toList = ub (List.replicate n 0) := by
  apply List.ext_getElem
  · simp [madeCells, ub]
  · intro i h1 h2
    simp only [madeCells, Array.toList_map, List.getElem_map, Array.getElem_toList, Array.getElem_range, ub, List.getElem_replicate]
    have e2 : (Value.int .u8 0).cells = #[.int .u8 0] := rfl
    rw [e2]
    have : i % (#[Value.int .u8 0]).size = 0 := Nat.mod_one i
    rw [this]; rfl
theorem OwnB.made {w : World} {base n m : Nat} (h : w.ownsRow base 5 1 (.slice (some ⟨m, 0, none⟩) n n) n (madeCells (Value.int .u8 0).cells (n * 1)).toList) : OwnB w base (.slice (some ⟨m, 0, none⟩) n n) (List.replicate n 0) := by
  unfold OwnB
  rw [List.length_replicate, ← made_u8]; exact h
theorem OwnB.built (w : World) (l : List Int) (base : Nat) (hb : base ≤ w.heap.size) (hl : l.length ≤ 1000) : OwnB (w.alloc (.cells (ub l).toArray 5)) base (.slice (some ⟨w.heap.size, 0, none⟩) l.length l.length) l :=
  owns_whole hb (heap_new _ _) (by rw [ub_len, Nat.mul_one]) (by unfold maxLen; omega)
theorem OwnB.bel {w w' : World} {base base' : Nat} {v : Value} {l : List Int} (h : OwnB w base v l) (hb : Below base' w w') (hv : ∀ k, v.ownBlock = some k → k < base') : OwnB w' base v l :=
  h.moved fun k hk => hb.block k (hv k hk)
theorem fill_splice (l : List Int) : splice (ub (List.replicate 64 0)) 0 (ub l) = ub (fillB l) := by
  unfold splice fillB ub
  simp only [List.take_zero, List.nil_append, List.length_map, Nat.zero_add, List.map_append, List.map_replicate, List.drop_replicate]

set_option maxHeartbeats 1000000 in
theorem filled_any (v : Value) (l : List Int) (w : World) (h : RB w v l) (hl : l.length ≤ 64) :
    Calls Try.prog 73 #[v] w fun e w' => ∃ v', e = .returned v' ∧ OwnB w' w.heap.size v' (fillB l) ∧ Below w.heap.size w w' := by
  obtain ⟨i0, hi0, hz0, hz1, hz2⟩ := info_parts Try.infoU
  obtain ⟨a, cap, rfl, _⟩ := id h
  have H : Hid (RB w (.slice a l.length cap) l) := h
  clear h
  go_enter Try.func73, Try.ntmps73
  go_wp2_with (first
    | (at_make; refine wpList_make_full _ rfl (.const (.int .i64 64)) (.const (.int .i64 64)) 22 rfl _ 5 i0 (.int .u8 0) 1 Try.underlying22 hi0 hz0 hz1 .i64 .i64 64 64 64 rfl rfl rfl rfl (by rw [hz2]; decide) (by decide) (Nat.le_refl _) ?_; intro w1 hown hgrow; have hb1 := below_grown hgrow; have ho := owns_all hown; rw [made_u8] at ho; have HW : Hid (Below w.heap.size w w1 ∧ w1.heap[w.heap.size]? = some (.cells (ub (List.replicate 64 0)).toArray 5 (0, 0))) := ⟨hb1, ho⟩; clear hown hgrow hb1 ho)
    | ((refine wpList_copy_spliceK rfl (.tmp 5) (.tmp 6) 22 22 rfl 1 5 Try.underlying22 Try.sizeU (some ⟨w.heap.size, 0, none⟩) a 64 64 l.length cap rfl rfl l.length w.heap.size 0 (ub (List.replicate 64 0)) 5 HW.out.2 (ub l) (Nat.min_eq_left hl) (by rw [ub_len, Nat.mul_one]) (fun hp => ⟨rfl, (H.out.below HW.out.1).src.elim (fun e => absurd hp (by rw [e.2]; decide)) id⟩) (by rw [ub_len, ub_len, List.length_replicate]; omega) (ub_one l) ?_); intro w2 h2 hO2))
  go_ret
  have e2 := h2.out
  rw [fill_splice l] at e2
  have hfl := fillB_len hl
  refine ⟨_, rfl, ?_, hO2.below HW.out.1 HW.out.1.size (fun k hk => by omega)⟩
  have := owns_whole (base := w.heap.size) (n := 64) (size := 1) (Nat.le_refl _) e2 (by rw [ub_len, hfl]) (by unfold maxLen; omega)
  unfold OwnB
  rw [hfl]; exact this

theorem lit4 (w0 : World) (base n : Nat) (x y z u : Int) (t : TypeId) (f : Nat × Nat) (hn : n = w0.heap.size) : AB (w0.alloc (.cells #[.int .u8 x, .int .u8 y, .int .u8 z, .int .u8 u] t f)) base (.slice (some ⟨n, 0, none⟩) 4 4) [x, y, z, u] := by
  subst hn
  refine .inr ⟨w0.heap.size, rfl, by simp, by simp, fun i q hq => ?_⟩
  rw [World.cell?_alloc_mark]
  match i, hq with
  | 0, hq => simp at hq; subst hq; rfl
  | 1, hq => simp at hq; subst hq; rfl
  | 2, hq => simp at hq; subst hq; rfl
  | 3, hq => simp at hq; subst hq; rfl
set_option maxRecDepth 100000 in
set_option maxHeartbeats 1000000 in
theorem hdrBlock_any (g h : Nat) (w : World) (hg : g < 4294967296) :
    Calls Try.prog 64 #[.agg #[.int .i64 g, .int .i64 h]] w fun e w' => ∃ v', e = .returned v' ∧ OwnB w' w.heap.size v' (hdrB g h) ∧ Below w.heap.size w w' := by
  have kc := fun (w0 : World) (hw : w0.heap.size = w.heap.size + 1) => Go.Joins.run_convert_bytes_const_at (P := Try.prog) w0 22 5 #[.int .u8 83, .int .u8 67, .int .u8 82, .int .u8 49] 4 4 (w.heap.size + 1) hw.symm Try.underlying22 Try.underlying5
  go_enter Try.func64, Try.ntmps64
  replace kc := kc (w.alloc (.cells #[.int .i64 g, .int .i64 h] 71)) (by simp)
  go_wp2_with (first
    | (go_at_call 74; refine (appNum_any _ _ g (w.heap.size + 1) _ (lit4 _ _ _ 83 67 82 49 _ _ (by simp)) (by simp) hg (by decide)).mono ?_; rintro e w1 ⟨v1, rfl, ho1, hb1⟩; have hs1 := hb1.size; simp at hs1; have m1 : w1.cell? ⟨w.heap.size, 1, none⟩ = some (.int .i64 h) := by rw [hb1.cell (by simp)]; simp [go_sem])
    | (at_builtin; refine wpList_appB rfl _ _ rfl (w.heap.size + 1) _ _ rfl (ho1.alloc _) _ [_] rfl (RB.one _ _ _) (by simp [n4_len]) (by simp; omega) ?_; intro v2 w2 ho2 hb2 _; have hs2 := hb2.size; simp at hs2)
    | (go_at_call 73; refine (filled_any _ _ _ ho2.rb (by simp [n4_len])).mono ?_; rintro e w3 ⟨v3, rfl, ho3, hb3⟩))
  go_ret
  refine ⟨_, rfl, ?_, ?_⟩
  · have hcv : ((h : Int) % 256) = ((h % 256 : Nat) : Int) := by omega
    unfold hdrB
    rw [← hcv]
    rw [List.append_assoc] at ho3
    exact ho3.le (by omega)
  · have k1 : Below w.heap.size w w1 := below_al (below_al (hb1.mono (by omega)) (by simp)) (by omega)
    have k2 : Below w.heap.size w1 w2 := below_al (hb2.mono (by omega)) (by omega)
    exact (k1.trans k2).trans (hb3.mono (by omega))
end
end Go.Proofs.Ytajgaialnafdbaa
