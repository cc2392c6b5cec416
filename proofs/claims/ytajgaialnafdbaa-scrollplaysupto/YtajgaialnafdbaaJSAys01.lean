/- Disks in memory; the contracts of package block. -/
import Derived.Test.YtajgaialnafdbaaJSAys00
namespace Go.Proofs.Ytajgaialnafdbaa
section
open Go.RowKit

theorem OwnB.only {S : Nat → Prop} {w w' : World} {base : Nat} {v : Value} {l : List Int} (h : OwnB w base v l) (ho : Only S w w') (hS : ∀ k, S k → k < base) : OwnB w' base v l :=
  h.moved fun k hk => ho.block k (h.at k hk).2 (fun hs => by have := hS k hs; have := h.at k hk; omega)
/-- what a disk holds -/
structure Dsk where
  cs : List (List Int)
  on : Bool
  burns : Bool
  left : Int
  writes : Int
/-- a disk in memory: its head and its blocks -/
structure IsD (w : World) (b g : Nat) (s : Dsk) : Prop where
  head : w.heap[b]? = some (.cells #[.slice (some ⟨g, 0, none⟩) s.cs.length s.cs.length, .bool s.on, .bool s.burns, .int .i64 s.left, .int .i64 s.writes] 82 (0, 0))
  body : w.heap[g]? = some (.cells (ub s.cs.flatten).toArray 90 (0, 0))
  each : ∀ l ∈ s.cs, l.length = 64
  apart : b ≠ g
  few : s.cs.length ≤ 1024
theorem IsD.lb {w : World} {b g : Nat} {s : Dsk} (h : IsD w b g s) : b < w.heap.size := (Array.getElem?_eq_some_iff.1 h.head).1
theorem IsD.lg {w : World} {b g : Nat} {s : Dsk} (h : IsD w b g s) : g < w.heap.size := (Array.getElem?_eq_some_iff.1 h.body).1
theorem IsD.only {S : Nat → Prop} {w w' : World} {b g : Nat} {s : Dsk} (h : IsD w b g s) (ho : Only S w w') (hb : ¬ S b) (hg : ¬ S g) : IsD w' b g s :=
  ⟨(ho.block b h.lb hb).trans h.head, (ho.block g h.lg hg).trans h.body, h.each, h.apart, h.few⟩
theorem IsD.below {w w' : World} {b g : Nat} {s : Dsk} (h : IsD w b g s) (hb : Below w.heap.size w w') : IsD w' b g s :=
  ⟨(hb.block b h.lb).trans h.head, (hb.block g h.lg).trans h.body, h.each, h.apart, h.few⟩
theorem IsD.cells {w : World} {b g : Nat} {s : Dsk} (h : IsD w b g s) :
    w.cell? ⟨b, 0, none⟩ = some (.slice (some ⟨g, 0, none⟩) s.cs.length s.cs.length) ∧ w.cell? ⟨b, 1, none⟩ = some (.bool s.on) ∧ w.cell? ⟨b, 2, none⟩ = some (.bool s.burns) ∧ w.cell? ⟨b, 3, none⟩ = some (.int .i64 s.left) ∧ w.cell? ⟨b, 4, none⟩ = some (.int .i64 s.writes) ∧ ∀ i, w.frozen? ⟨b, i, none⟩ = false :=
  ⟨by rw [cell_of h.head]; rfl, by rw [cell_of h.head]; rfl, by rw [cell_of h.head]; rfl, by rw [cell_of h.head]; rfl, by rw [cell_of h.head]; rfl, free_of h.head⟩
/-- the head turned -/
theorem IsD.on {w : World} {b g : Nat} {s : Dsk} (h : IsD w b g s) (x : Bool) : IsD (w.setCell ⟨b, 1, none⟩ (.bool x)) b g { s with on := x } :=
  ⟨(heap_set h.head 1 _).trans rfl, (heap_set_ne (Ne.symm h.apart)).trans h.body, h.each, h.apart, h.few⟩
theorem IsD.burns {w : World} {b g : Nat} {s : Dsk} (h : IsD w b g s) (x : Bool) : IsD (w.setCell ⟨b, 2, none⟩ (.bool x)) b g { s with burns := x } :=
  ⟨(heap_set h.head 2 _).trans rfl, (heap_set_ne (Ne.symm h.apart)).trans h.body, h.each, h.apart, h.few⟩
theorem IsD.left {w : World} {b g : Nat} {s : Dsk} (h : IsD w b g s) (x : Int) : IsD (w.setCell ⟨b, 3, none⟩ (.int .i64 x)) b g { s with left := x } :=
  ⟨(heap_set h.head 3 _).trans rfl, (heap_set_ne (Ne.symm h.apart)).trans h.body, h.each, h.apart, h.few⟩
theorem IsD.writes {w : World} {b g : Nat} {s : Dsk} (h : IsD w b g s) (x : Int) : IsD (w.setCell ⟨b, 4, none⟩ (.int .i64 x)) b g { s with writes := x } :=
  ⟨(heap_set h.head 4 _).trans rfl, (heap_set_ne (Ne.symm h.apart)).trans h.body, h.each, h.apart, h.few⟩
def Dsk.has (s : Dsk) (i : Int) : Bool := decide (0 ≤ i) && decide (i < s.cs.length)
theorem has_any (b g : Nat) (s : Dsk) (i : Int) (w : World) (h : IsD w b g s) :
    Calls Try.prog 51 #[.pointer (some ⟨b, 0, none⟩), .int .i64 i] w fun e w' => e = .returned (.bool (s.has i)) ∧ w' = w := by
  obtain ⟨c0, _⟩ := h.cells
  unfold Dsk.has
  clear h
  by_cases h0 : 0 ≤ i
  · have hd : decide (0 ≤ i) = true := decide_eq_true h0
    go_enter Try.func51, Try.ntmps51
    go_wp2
    go_ret
    exact ⟨by simp [h0], rfl⟩
  · have hd : decide (0 ≤ i) = false := decide_eq_false h0
    go_enter Try.func51, Try.ntmps51
    go_wp2
    go_ret
    exact ⟨by simp, rfl⟩
theorem on_any (b g : Nat) (s : Dsk) (w : World) (h : IsD w b g s) :
    Calls Try.prog 48 #[.pointer (some ⟨b, 0, none⟩)] w fun e w' => e = .returned (.bool s.on) ∧ w' = w := by
  obtain ⟨_, c1, _⟩ := h.cells
  clear h
  go_enter Try.func48, Try.ntmps48
  go_wp2
  go_ret
  exact ⟨rfl, rfl⟩
theorem writes_any (b g : Nat) (s : Dsk) (w : World) (h : IsD w b g s) :
    Calls Try.prog 49 #[.pointer (some ⟨b, 0, none⟩)] w fun e w' => e = .returned (.int .i64 s.writes) ∧ w' = w := by
  obtain ⟨_, _, _, _, c4, _⟩ := h.cells
  clear h
  go_enter Try.func49, Try.ntmps49
  go_wp2
  go_ret
  exact ⟨rfl, rfl⟩
theorem size_any (b g : Nat) (s : Dsk) (w : World) (h : IsD w b g s) :
    Calls Try.prog 67 #[.pointer (some ⟨b, 0, none⟩)] w fun e w' => e = .returned (.int .i64 s.cs.length) ∧ w' = w := by
  obtain ⟨c0, _⟩ := h.cells
  clear h
  go_enter Try.func67, Try.ntmps67
  go_wp2
  go_ret
  exact ⟨rfl, rfl⟩
def Dsk.cut (s : Dsk) : Dsk := { s with on := false, burns := false, left := 0 }
def Dsk.power (s : Dsk) : Dsk := { s with on := true, burns := false, left := 0 }
theorem only3 (w : World) (b : Nat) (u v x : Value) : Only (· = b) w (((w.setCell ⟨b, 1, none⟩ u).setCell ⟨b, 2, none⟩ v).setCell ⟨b, 3, none⟩ x) :=
  ((only1 w b 1 u).trans (only1 _ b 2 v)).trans (only1 _ b 3 x)
theorem cut_any (b g : Nat) (s : Dsk) (w : World) (h : IsD w b g s) :
    Calls Try.prog 68 #[.pointer (some ⟨b, 0, none⟩)] w fun e w' => e = .returned (.tuple #[]) ∧ IsD w' b g s.cut ∧ Only (· = b) w w' := by
  obtain ⟨_, c1, c2, c3, _, hf⟩ := h.cells
  have H : Hid (IsD w b g s) := h
  clear h
  go_enter Try.func68, Try.ntmps68
  go_wp2
  go_end0
  exact ⟨rfl, (((H.out.on false).burns false).left 0), only3 _ _ _ _ _⟩
theorem power_any (b g : Nat) (s : Dsk) (w : World) (h : IsD w b g s) :
    Calls Try.prog 16 #[.pointer (some ⟨b, 0, none⟩)] w fun e w' => e = .returned (.tuple #[]) ∧ IsD w' b g s.power ∧ Only (· = b) w w' := by
  obtain ⟨_, c1, c2, c3, _, hf⟩ := h.cells
  have H : Hid (IsD w b g s) := h
  clear h
  go_enter Try.func16, Try.ntmps16
  go_wp2
  go_end0
  exact ⟨rfl, (((H.out.on true).burns false).left 0), only3 _ _ _ _ _⟩
def Dsk.fuseE (s : Dsk) (n : Int) : Int := if n < 0 then 1 else if s.on then 0 else 21
def Dsk.fuse (s : Dsk) (n : Int) : Dsk := if n < 0 then s else if s.on then { s with burns := true, left := n } else s
theorem fuse_any (b g : Nat) (s : Dsk) (n : Int) (w : World) (h : IsD w b g s) :
    Calls Try.prog 14 #[.pointer (some ⟨b, 0, none⟩), .int .i64 n] w fun e w' => e = .returned (.int .i64 (s.fuseE n)) ∧ IsD w' b g (s.fuse n) ∧ Only (· = b) w w' := by
  obtain ⟨_, c1, c2, c3, _, hf⟩ := h.cells
  unfold Dsk.fuseE Dsk.fuse
  have H : Hid (IsD w b g s) := h
  clear h
  by_cases hn : n < 0
  · rw [if_pos hn, if_pos hn]
    go_enter Try.func14, Try.ntmps14
    go_wp2
    go_ret
    exact ⟨rfl, H.out, Only.refl _ _⟩
  · rw [if_neg hn, if_neg hn]
    by_cases ho : s.on = true
    · rw [if_pos ho, if_pos ho]
      rw [ho] at c1
      clear ho
      go_enter Try.func14, Try.ntmps14
      go_wp2
      go_ret
      exact ⟨rfl, ((H.out.burns true).left n), (only1 _ b 2 _).trans (only1 _ b 3 _)⟩
    · rw [if_neg ho, if_neg ho]
      rw [Bool.eq_false_iff.2 ho] at c1
      clear ho
      go_enter Try.func14, Try.ntmps14
      go_wp2
      go_ret
      exact ⟨rfl, H.out, Only.refl _ _⟩
def Dsk.spend (s : Dsk) : Dsk := if s.burns then (if s.left = 0 then s.cut else { s with left := s.left - 1 }) else s
theorem spend_any (b g : Nat) (s : Dsk) (w : World) (h : IsD w b g s) (hl : s.burns = true → 0 ≤ s.left ∧ s.left ≤ 9223372036854775807) :
    Calls Try.prog 52 #[.pointer (some ⟨b, 0, none⟩)] w fun e w' => e = .returned (.bool s.spend.on) ∧ IsD w' b g s.spend ∧ Only (· = b) w w' := by
  obtain ⟨_, c1, c2, c3, _, hf⟩ := h.cells
  have H : Hid (IsD w b g s) := h
  clear h
  cases hb : s.burns
  · have e : s.spend = s := by unfold Dsk.spend; rw [hb]; rfl
    rw [e]
    rw [hb] at c2
    clear hl e
    go_enter Try.func52, Try.ntmps52
    go_wp2
    go_ret
    exact ⟨rfl, H.out, Only.refl _ _⟩
  · have hl' := hl hb
    clear hl
    rw [hb] at c2
    by_cases h0 : s.left = 0
    · have e : s.spend = s.cut := by unfold Dsk.spend; rw [hb, if_pos rfl, if_pos h0]
      rw [e]
      rw [h0] at c3
      clear e
      go_enter Try.func52, Try.ntmps52
      go_wp2_with (go_at_call 68; refine (cut_any b g s _ H.out).mono ?_; rintro e w1 ⟨rfl, hD, hO⟩; obtain ⟨_, d1, d2, d3, _, hf1⟩ := hD.cells; unfold Dsk.cut at d1 d2 d3; simp only at d1 d2 d3)
      go_ret
      exact ⟨rfl, hD, hO⟩
    · have e : s.spend = { s with left := s.left - 1 } := by unfold Dsk.spend; rw [hb, if_pos rfl, if_neg h0]
      rw [e]
      have hz : (s.left == 0) = false := by simpa using h0
      obtain ⟨L, hL⟩ : ∃ L, s.left = L := ⟨_, rfl⟩
      rw [hL] at c3 hl' hz h0
      have HL : Hid (s.left = L) := hL
      clear e hL
      go_enter Try.func52, Try.ntmps52
      go_wp2
      go_ret
      exact ⟨rfl, HL.out ▸ (H.out.left (s.left - 1)), only1 _ b 3 _⟩
theorem Try.infoU : (Try.prog.info? 5).map (fun i => (i.zero, i.size, i.bytes)) = some (some (.int .u8 0), 1, 1) := by kernel_rfl
theorem Try.sizeU : (Try.prog.info? 5).map (·.size) = some 1 := by kernel_rfl
/-- blocks, one behind the other -/
theorem flat_len (cs : List (List Int)) (h : ∀ l ∈ cs, l.length = 64) : cs.flatten.length = 64 * cs.length := by
  induction cs with
  | nil => rfl
  | cons a cs ih =>
    rw [List.flatten_cons, List.length_append, h a (by simp), ih (fun l hl => h l (by simp [hl])), List.length_cons]; omega
theorem flat_take (cs : List (List Int)) (h : ∀ l ∈ cs, l.length = 64) (i : Nat) : cs.flatten.take (64 * i) = (cs.take i).flatten := by
  induction cs generalizing i with
  | nil => simp
  | cons a cs ih =>
    cases i with
    | zero => simp
    | succ i =>
      have ha := h a (by simp)
      rw [List.flatten_cons, List.take_succ_cons, List.flatten_cons, ← ih (fun l hl => h l (by simp [hl])) i, List.take_append, ha, List.take_of_length_le (by omega), show 64 * (i + 1) - 64 = 64 * i by omega]
theorem flat_drop (cs : List (List Int)) (h : ∀ l ∈ cs, l.length = 64) (i : Nat) : cs.flatten.drop (64 * i) = (cs.drop i).flatten := by
  induction cs generalizing i with
  | nil => simp
  | cons a cs ih =>
    cases i with
    | zero => simp
    | succ i =>
      have ha := h a (by simp)
      rw [List.flatten_cons, List.drop_succ_cons, ← ih (fun l hl => h l (by simp [hl])) i, List.drop_append, ha, List.drop_eq_nil_of_le (by omega), show 64 * (i + 1) - 64 = 64 * i by omega]; rfl
theorem flat_set (cs : List (List Int)) (h : ∀ l ∈ cs, l.length = 64) (i : Nat) (l : List Int) (hi : i < cs.length) : (cs.set i l).flatten = cs.flatten.take (64 * i) ++ (l ++ cs.flatten.drop (64 * i + 64)) := by
  rw [flat_take cs h, show 64 * i + 64 = 64 * (i + 1) by omega, flat_drop cs h, List.set_eq_take_append_cons_drop, if_pos hi, List.flatten_append, List.flatten_cons]
theorem flat_get (cs : List (List Int)) (h : ∀ l ∈ cs, l.length = 64) (i : Nat) (hi : i < cs.length) (j : Nat) (x : Int) (hx : (cs[i]'hi)[j]? = some x) : cs.flatten[64 * i + j]? = some x := by
  have hj : j < (cs[i]'hi).length := (List.getElem?_eq_some_iff.1 hx).1
  rw [← List.getElem?_drop, flat_drop cs h, List.drop_eq_getElem_cons hi, List.flatten_cons, List.getElem?_append_left hj, hx]
/-- a block written -/
theorem IsD.wrote {w : World} {b g : Nat} {s : Dsk} (h : IsD w b g s) (i : Nat) (hi : i < s.cs.length) (l : List Int) (hl : l.length = 64) (row : List Value) (hr : row = (ub s.cs.flatten).take (64 * i) ++ (ub l ++ (ub s.cs.flatten).drop (64 * i + 64))) :
    IsD (w.setRow g row.toArray) b g { s with cs := s.cs.set i l } := by
  have e : (ub (s.cs.set i l).flatten) = row := by
    rw [hr, flat_set s.cs h.each i l hi]; unfold ub; rw [List.map_append, List.map_append, List.map_take, List.map_drop]
  refine ⟨?_, ?_, ?_, h.apart, ?_⟩
  · rw [setRow_other w g b _ h.apart]
    simp only [List.length_set]
    exact h.head
  · show _ = some (Obj.cells (ub (s.cs.set i l).flatten).toArray _ _)
    rw [e]
    exact setRow_heap w g _ _ _ _ h.body
  · intro x hx
    rcases List.mem_or_eq_of_mem_set hx with hx | rfl
    · exact h.each x hx
    · exact hl
  · simp only [List.length_set]; exact h.few
def Dsk.good (s : Dsk) : Prop := (s.burns = true → 0 ≤ s.left ∧ s.left ≤ 9223372036854775807) ∧ 0 ≤ s.writes ∧ s.writes < 9223372036854775807
def Dsk.wrE (s : Dsk) (i : Int) (n : Nat) : Int := if s.has i then (if n = 64 then (if s.spend.on then 0 else 21) else 1) else 20
def Dsk.wr (s : Dsk) (i : Int) (l : List Int) : Dsk := if s.has i then (if l.length = 64 then (if s.spend.on then { s.spend with cs := s.cs.set i.toNat l, writes := s.writes + 1 } else s.spend) else s) else s
theorem spend_cs (s : Dsk) : s.spend.cs = s.cs := by
  unfold Dsk.spend Dsk.cut; repeat' split
  all_goals rfl
theorem spend_writes (s : Dsk) : s.spend.writes = s.writes := by
  unfold Dsk.spend Dsk.cut; repeat' split
  all_goals rfl
/-- a copy into a disk's block -/
theorem wpList_copy_disk {w : World} {ops : Array Oper} {rest : List Oper} {o : Oper} {a : Act} {Q : Exit → Act → World → Prop} (hgd : o.guard = none) (d s : Operand)
    (ho : o.op = .call { callee := .builtin .copy, args := #[d, s], argTypes := #[22, 22] }) (b g : Nat) (S : Dsk) (hD : IsD w b g S) (i : Nat) (hi : i < S.cs.length) (k sCap : Nat)
    (hd : a.eval d = .slice (some ⟨g, i * 64, none⟩) 64 64) (hs : a.eval s = .slice (some ⟨k, 0, none⟩) 64 sCap) (l : List Int) (hl : l.length = 64) (hsrc : ∀ j x, l[j]? = some x → w.cell? ⟨k, j, none⟩ = some (.int .u8 x))
    (h : ∀ w2, IsD w2 b g { S with cs := S.cs.set i l } → Only (· = g) w w2 → wpList Try.prog ops Q rest (a.put o.dst (goInt 64)) w2) : wpList Try.prog ops Q (o :: rest) a w := by
  have hfl := flat_len S.cs hD.each
  have hll := ub_len l
  refine wpList_copy_own hgd d s _ _ ho 5 Try.underlying22 Try.sizeU g (i * 64) 64 64 ⟨k, 0, none⟩ 64 sCap hd hs _ 90 hD.body (ub l) (by rw [hll, hl]; rfl) ?_ ?_ (ub_one l) ?_
  · intro j v hv
    rw [add_plain', Nat.zero_add]
    rw [ub_get] at hv
    cases hx : l[j]? with
    | none => rw [hx] at hv; cases hv
    | some x => rw [hx] at hv; cases hv; exact hsrc j x hx
  · rw [hll, hl, List.size_toArray, ub_len, hfl]; omega
  · rw [hll, hl]
    refine h _ (hD.wrote i hi l hl _ (by rw [Nat.mul_comm 64 i])) (onlyR _ _ _)
/-- a copy out of a disk's block -/
theorem wpList_copy_read {w : World} {ops : Array Oper} {rest : List Oper} {o : Oper} {a : Act} {Q : Exit → Act → World → Prop} (hgd : o.guard = none) (d s : Operand)
    (ho : o.op = .call { callee := .builtin .copy, args := #[d, s], argTypes := #[22, 22] }) (b g : Nat) (S : Dsk) (hD : IsD w b g S) (i : Nat) (hi : i < S.cs.length) (m base : Nat) (old : List Value)
    (hd : a.eval d = .slice (some ⟨m, 0, none⟩) 64 64) (hs : a.eval s = .slice (some ⟨g, i * 64, none⟩) 64 64) (hm : w.ownsRow base 5 1 (.slice (some ⟨m, 0, none⟩) 64 64) 64 old)
    (h : ∀ w2, OwnB w2 base (.slice (some ⟨m, 0, none⟩) 64 64) (S.cs[i]'hi) → Only (· = m) w w2 → wpList Try.prog ops Q rest (a.put o.dst (goInt 64)) w2) : wpList Try.prog ops Q (o :: rest) a w := by
  have hl : (S.cs[i]'hi).length = 64 := hD.each _ (List.getElem_mem hi)
  have hll := ub_len (S.cs[i]'hi)
  rcases hm.2 with ⟨e, _⟩ | ⟨g', cap, cur, e, hg, hh, r1, r2, r3, r4⟩
  · cases e
  · cases e
    refine wpList_copy_own hgd d s _ _ ho 5 Try.underlying22 Try.sizeU m 0 64 64 ⟨g, i * 64, none⟩ 64 64 hd hs cur 5 hh (ub (S.cs[i]'hi)) (by rw [hll, hl]; rfl) ?_ ?_ (ub_one _) ?_
    · intro j v hv
      rw [add_plain']
      rw [ub_get] at hv
      cases hx : (S.cs[i]'hi)[j]? with
      | none => rw [hx] at hv; cases hv
      | some x =>
        rw [hx] at hv; cases hv
        rw [cell_of hD.body, List.getElem?_toArray, ub_get, Nat.mul_comm i 64, flat_get S.cs hD.each i hi j x hx]; rfl
    · rw [hll, hl, r3]; omega
    · rw [hll, hl]
      refine h _ ?_ (onlyR _ _ _)
      unfold OwnB
      rw [hl]
      have hcl : cur.toList.length = 64 := by rw [Array.length_toList, r3]
      refine ⟨by rw [hll, hl], .inr ⟨m, 64, _, rfl, hg, setRow_heap w m _ _ _ _ hh, r1, r2, ?_, ?_⟩⟩
      · simp [hll, hl, r3]
      · simp [hll, hl]
set_option maxHeartbeats 1000000 in
theorem write_yes (b g : Nat) (s : Dsk) (i : Nat) (k cap : Nat) (l : List Int) (w : World) (h : IsD w b g s) (hg : s.good) (hi : i < s.cs.length) (hl : l.length = 64) (hon : s.spend.on = true) (hkb : k ≠ b)
    (hc : ∀ j x, l[j]? = some x → w.cell? ⟨k, j, none⟩ = some (.int .u8 x)) (hk : k < w.heap.size) :
    Calls Try.prog 27 #[.pointer (some ⟨b, 0, none⟩), .int .i64 i, .slice (some ⟨k, 0, none⟩) 64 cap] w fun e w' => e = .returned (.int .i64 0) ∧ IsD w' b g { s.spend with cs := s.cs.set i l, writes := s.writes + 1 } ∧ Only (fun x => x = b ∨ x = g) w w' := by
  have hhas : s.has i = true := by unfold Dsk.has; simp; exact hi
  have hfew := h.few
  obtain ⟨hg1, hg2, hg3⟩ := hg
  have hsp := spend_any b g s w h hg1
  have H : Hid (IsD w b g s) := h
  have hs1 := spend_cs s
  have hs2 := spend_writes s
  obtain ⟨S, hS⟩ : ∃ S, s.spend = S := ⟨_, rfl⟩
  rw [hS] at hsp hs1 hs2 hon ⊢
  clear h hg1 hS
  obtain ⟨W, hW⟩ : ∃ W, s.writes = W := ⟨_, rfl⟩
  obtain ⟨C, hC⟩ : ∃ C, s.cs.length = C := ⟨_, rfl⟩
  rw [hW] at hg2 hg3 hs2 ⊢
  rw [hC] at hi hfew
  have HS : Hid (S.cs = s.cs ∧ S.writes = W ∧ s.cs.length = C ∧ S.on = true) := ⟨hs1, hs2, hC, hon⟩
  clear hs1 hs2 hC hW hon
  go_enter Try.func27, Try.ntmps27
  go_wp2_with (first
    | (go_at_call 51; refine (has_any b g s i _ H.out).mono ?_; rintro e w' ⟨rfl, rfl⟩; rw [hhas])
    | (go_at_call 52; refine hsp.mono ?_; rintro e w1 ⟨rfl, hD, hO⟩; rw [HS.out.2.2.2]; obtain ⟨d0, d1, d2, d3, d4, hf1⟩ := hD.cells; rw [HS.out.1, HS.out.2.2.1] at d0; rw [HS.out.2.1] at d4; have HD : Hid (IsD w1 b g S) := hD; clear hD d1 d2 d3)
    | ((refine wpList_copy_disk rfl (.tmp 23) (.tmp 24) rfl b g S HD.out i (by rw [HS.out.1, HS.out.2.2.1]; exact hi) k cap rfl rfl l hl (fun j x hx => (World.cell?_of_block (hO.block k hk hkb)).trans (hc j x hx)) ?_); intro w2 hD2 hO2; obtain ⟨e0, e1, e2, e3, e4, hf2⟩ := hD2.cells; simp only at e0 e4; rw [HS.out.2.1] at e4; have HD2 : Hid (IsD w2 b g { S with cs := S.cs.set i l }) := hD2; clear hD2 e1 e2 e3 d0 d4))
  go_ret
  have hD3 := HD2.out.writes (W + 1)
  rw [HS.out.1] at hD3
  exact ⟨rfl, hD3, ((hO.mono fun _ h => .inl h).trans (hO2.mono fun _ h => .inr h)).trans ((only1 _ b 4 _).mono fun _ h => .inl h)⟩
set_option maxHeartbeats 1000000 in
theorem read_yes (b g : Nat) (s : Dsk) (i : Nat) (w : World) (h : IsD w b g s) (hi : i < s.cs.length) :
    Calls Try.prog 30 #[.pointer (some ⟨b, 0, none⟩), .int .i64 i] w fun e w' => ∃ v, e = .returned (.tuple #[v, .int .i64 0]) ∧ OwnB w' w.heap.size v (s.cs[i]'hi) ∧ Below w.heap.size w w' := by
  obtain ⟨i0, hi0, hz0, hz1, hz2⟩ := info_parts Try.infoU
  have hhas : s.has i = true := by unfold Dsk.has; simp; exact hi
  have hfew := h.few
  obtain ⟨C, hC⟩ : ∃ C, s.cs.length = C := ⟨_, rfl⟩
  have hi' : i < C := by omega
  rw [hC] at hfew
  have H : Hid (IsD w b g s ∧ s.cs.length = C ∧ i < s.cs.length) := ⟨h, hC, hi⟩
  clear h hC
  go_enter Try.func30, Try.ntmps30
  go_wp2_with (first
    | (go_at_call 51; refine (has_any b g s i _ H.out.1).mono ?_; rintro e w' ⟨rfl, rfl⟩; rw [hhas])
    | (at_make; refine wpList_make_full _ rfl (.const (.int .i64 64)) (.const (.int .i64 64)) 22 rfl _ 5 i0 (.int .u8 0) 1 Try.underlying22 hi0 hz0 hz1 .i64 .i64 64 64 64 rfl rfl rfl rfl (by rw [hz2]; decide) (by decide) (Nat.le_refl _) ?_; intro w1 hown hgrow; have hb1 := below_grown hgrow; have hD1 := H.out.1.below hb1; obtain ⟨d0, _⟩ := hD1.cells; rw [H.out.2.1] at d0; have HD : Hid (IsD w1 b g s) := hD1; clear hD1 hgrow)
    | ((refine wpList_copy_read rfl (.tmp 12) (.tmp 19) rfl b g s HD.out i hi _ _ _ rfl rfl hown ?_); intro w2 hown2 hO2))
  go_ret2
  exact ⟨_, rfl, hown2, hO2.below hb1 hb1.size (fun k hk => by omega)⟩
theorem write_no20 (b g : Nat) (s : Dsk) (i : Int) (a : Option Addr) (n cap : Nat) (w : World) (h : IsD w b g s) (hh : s.has i = false) :
    Calls Try.prog 27 #[.pointer (some ⟨b, 0, none⟩), .int .i64 i, .slice a n cap] w fun e w' => e = .returned (.int .i64 20) ∧ w' = w := by
  have H : Hid (IsD w b g s) := h
  clear h
  go_enter Try.func27, Try.ntmps27
  go_wp2_with (go_at_call 51; refine (has_any b g s i _ H.out).mono ?_; rintro e w' ⟨rfl, rfl⟩; rw [hh])
  go_ret
  exact ⟨rfl, rfl⟩
theorem write_no1 (b g : Nat) (s : Dsk) (i : Int) (a : Option Addr) (n cap : Nat) (w : World) (h : IsD w b g s) (hh : s.has i = true) (hn : n ≠ 64) :
    Calls Try.prog 27 #[.pointer (some ⟨b, 0, none⟩), .int .i64 i, .slice a n cap] w fun e w' => e = .returned (.int .i64 1) ∧ w' = w := by
  have H : Hid (IsD w b g s) := h
  have hn' : ((n : Int) != 64) = true := by rw [bne_iff_ne]; omega
  clear h
  go_enter Try.func27, Try.ntmps27
  go_wp2_with (go_at_call 51; refine (has_any b g s i _ H.out).mono ?_; rintro e w' ⟨rfl, rfl⟩; rw [hh])
  go_ret
  exact ⟨rfl, rfl⟩
theorem write_no21 (b g : Nat) (s : Dsk) (i : Int) (a : Option Addr) (cap : Nat) (w : World) (h : IsD w b g s) (hg : s.good) (hh : s.has i = true) (ho : s.spend.on = false) :
    Calls Try.prog 27 #[.pointer (some ⟨b, 0, none⟩), .int .i64 i, .slice a 64 cap] w fun e w' => e = .returned (.int .i64 21) ∧ IsD w' b g s.spend ∧ Only (· = b) w w' := by
  have H : Hid (IsD w b g s) := h
  have hsp := spend_any b g s w h hg.1
  rw [ho] at hsp
  clear h hg ho
  go_enter Try.func27, Try.ntmps27
  go_wp2_with (first
    | (go_at_call 51; refine (has_any b g s i _ H.out).mono ?_; rintro e w' ⟨rfl, rfl⟩; rw [hh])
    | (go_at_call 52; refine hsp.mono ?_; rintro e w1 ⟨rfl, hD, hO⟩))
  go_ret
  exact ⟨rfl, hD, hO⟩
theorem write_any (b g : Nat) (s : Dsk) (i : Int) (v : Value) (l : List Int) (base : Nat) (w : World) (h : IsD w b g s) (hg : s.good) (hv : OwnB w base v l) (hb : b < base) :
    Calls Try.prog 27 #[.pointer (some ⟨b, 0, none⟩), .int .i64 i, v] w fun e w' => e = .returned (.int .i64 (s.wrE i l.length)) ∧ IsD w' b g (s.wr i l) ∧ Only (fun x => x = b ∨ x = g) w w' := by
  obtain ⟨a, cap, rfl⟩ : ∃ a cap, v = .slice a l.length cap := by
    rcases hv.form with ⟨rfl, rfl⟩ | ⟨g', cap, rfl, _⟩
    · exact ⟨_, _, rfl⟩
    · exact ⟨_, _, rfl⟩
  cases hh : s.has i
  · have e1 : s.wrE i l.length = 20 := by unfold Dsk.wrE; rw [hh]; rfl
    have e2 : s.wr i l = s := by unfold Dsk.wr; rw [hh]; rfl
    rw [e1, e2]
    refine (write_no20 b g s i a l.length cap w h hh).mono ?_
    rintro e w' ⟨rfl, rfl⟩
    exact ⟨rfl, h, Only.refl _ _⟩
  · by_cases hn : l.length = 64
    · cases ho : s.spend.on
      · have e1 : s.wrE i l.length = 21 := by unfold Dsk.wrE; rw [hh, if_pos rfl, if_pos hn, ho]; rfl
        have e2 : s.wr i l = s.spend := by unfold Dsk.wr; rw [hh, if_pos rfl, if_pos hn, ho]; rfl
        rw [e1, e2, hn]
        refine (write_no21 b g s i a cap w h hg hh ho).mono ?_
        rintro e w' ⟨rfl, hD, hO⟩
        exact ⟨rfl, hD, hO.mono fun _ h => .inl h⟩
      · have e1 : s.wrE i l.length = 0 := by unfold Dsk.wrE; rw [hh, if_pos rfl, if_pos hn, ho]; rfl
        have e2 : s.wr i l = { s.spend with cs := s.cs.set i.toNat l, writes := s.writes + 1 } := by unfold Dsk.wr; rw [hh, if_pos rfl, if_pos hn, ho]; rfl
        rw [e1, e2]
        have hi : 0 ≤ i ∧ i < s.cs.length := by unfold Dsk.has at hh; simpa using hh
        obtain ⟨n, rfl⟩ := Int.eq_ofNat_of_zero_le hi.1
        rcases hv.form with ⟨e, e'⟩ | ⟨k, cap', e, hk, hk2, hcap, hc, hf⟩
        · rw [e'] at hn; simp at hn
        · cases e
          rw [hn]
          refine (write_yes b g s n k cap l w h hg (by omega) hn ho (by omega) hc hk2).mono ?_
          rintro e w' ⟨rfl, hD, hO⟩
          exact ⟨rfl, hD, hO⟩
    · have e1 : s.wrE i l.length = 1 := by unfold Dsk.wrE; rw [hh, if_pos rfl, if_neg hn]
      have e2 : s.wr i l = s := by unfold Dsk.wr; rw [hh, if_pos rfl, if_neg hn]
      rw [e1, e2]
      refine (write_no1 b g s i a l.length cap w h hh hn).mono ?_
      rintro e w' ⟨rfl, rfl⟩
      exact ⟨rfl, h, Only.refl _ _⟩
def Dsk.rd (s : Dsk) (i : Int) : List Int := if s.has i then (s.cs[i.toNat]?).getD [] else []
def Dsk.rdE (s : Dsk) (i : Int) : Int := if s.has i then 0 else 20
theorem read_any (b g : Nat) (s : Dsk) (i : Int) (w : World) (h : IsD w b g s) :
    Calls Try.prog 30 #[.pointer (some ⟨b, 0, none⟩), .int .i64 i] w fun e w' => ∃ v, e = .returned (.tuple #[v, .int .i64 (s.rdE i)]) ∧ OwnB w' w.heap.size v (s.rd i) ∧ Below w.heap.size w w' := by
  cases hh : s.has i
  · have e1 : s.rdE i = 20 := by unfold Dsk.rdE; rw [hh]; rfl
    have e2 : s.rd i = [] := by unfold Dsk.rd; rw [hh]; rfl
    rw [e1, e2]
    have H : Hid (IsD w b g s) := h
    clear h e1 e2
    go_enter Try.func30, Try.ntmps30
    go_wp2_with (go_at_call 51; refine (has_any b g s i _ H.out).mono ?_; rintro e w' ⟨rfl, rfl⟩; rw [hh])
    go_ret2
    exact ⟨_, rfl, OwnB.nil _ _, Below.refl _ _⟩
  · have hi : 0 ≤ i ∧ i < s.cs.length := by unfold Dsk.has at hh; simpa using hh
    obtain ⟨n, rfl⟩ := Int.eq_ofNat_of_zero_le hi.1
    have hn : n < s.cs.length := by omega
    have e1 : s.rdE n = 0 := by unfold Dsk.rdE; rw [hh]; rfl
    have e2 : s.rd n = s.cs[n]'hn := by unfold Dsk.rd; rw [hh, if_pos rfl, Int.toNat_natCast, List.getElem?_eq_getElem hn]; rfl
    rw [e1, e2]
    exact read_yes b g s n w h hn
def zeros : List Int := List.replicate 64 0
def Dsk.new (n : Nat) : Dsk := ⟨List.replicate n zeros, true, false, 0, 0⟩
def zeroA : Value := .agg (Array.replicate 64 (.int .u8 0))
theorem Try.infoA : (Try.prog.info? 90).map (fun i => (i.zero, i.size, i.bytes)) = some (some zeroA, 64, 64) := by kernel_rfl
theorem new_no (n : Int) (w : World) (h : n < 1 ∨ 1024 < n) :
    Calls Try.prog 24 #[.int .i64 n] w fun e w' => e = .returned (.tuple #[.pointer none, .int .i64 1]) ∧ w' = w := by
  rcases h with h | h
  · go_enter Try.func24, Try.ntmps24
    go_wp2
    go_ret2
    exact ⟨rfl, rfl⟩
  · have h' : ¬ n < 1 := by omega
    go_enter Try.func24, Try.ntmps24
    go_wp2
    go_ret2
    exact ⟨rfl, rfl⟩
theorem made_zero (n : Nat) : (madeCells zeroA.cells (n * 64)).toList = ub (List.replicate n zeros).flatten := by
  have e1 : (List.replicate n zeros).flatten = List.replicate (n * 64) 0 := by unfold zeros; exact List.flatten_replicate_replicate
  have e2 : zeroA.cells = Array.replicate 64 (.int .u8 0) := rfl
  have e3 : ∀ j, j < 64 → (Array.replicate 64 (Value.int .u8 0))[j]! = .int .u8 0 := fun j hj => by
    rw [getElem!_pos _ _ (by simpa using hj)]; simp
  rw [e1, e2]
  apply List.ext_getElem
  · simp [madeCells, ub]
  · intro i h1 h2
    simp only [madeCells, Array.toList_map, List.getElem_map, Array.getElem_toList, Array.getElem_range, ub, Array.size_replicate, List.getElem_replicate]
    exact e3 _ (Nat.mod_lt _ (by decide))
set_option maxRecDepth 100000 in
set_option maxHeartbeats 1000000 in
theorem new_yes (n : Nat) (w : World) (h1 : 1 ≤ n) (h2 : n ≤ 1024) :
    Calls Try.prog 24 #[.int .i64 n] w fun e w' => ∃ b g, e = .returned (.tuple #[.pointer (some ⟨b, 0, none⟩), .int .i64 0]) ∧ w.heap.size ≤ b ∧ w.heap.size ≤ g ∧ IsD w' b g (Dsk.new n) ∧ Below w.heap.size w w' := by
  obtain ⟨i0, hi0, hz0, hz1, hz2⟩ := info_parts Try.infoA
  go_enter Try.func24, Try.ntmps24
  go_wp2_with (at_make; refine wpList_make_full _ rfl (.tmp 10) (.tmp 10) 78 rfl _ 90 i0 zeroA 64 Try.underlying78 hi0 hz0 hz1 .i64 .i64 n n n rfl rfl rfl rfl (by rw [hz2]; omega) (by unfold maxLen; omega) (Nat.le_refl _) ?_; intro w1 hown hgrow; have hb1 := below_grown hgrow)
  go_ret2
  have hd := owns_all hown
  rw [made_zero] at hd
  have hlt := (Array.getElem?_eq_some_iff.1 hd).1
  refine ⟨w1.heap.size, w.heap.size, rfl, hb1.size, Nat.le_refl _, ⟨?_, ?_, ?_, by omega, ?_⟩, hb1.alloc hb1.size _⟩
  · rw [heap_new]; simp [Dsk.new]
  · rw [Below.heap_alloc _ _ _ hlt]; exact hd
  · intro l hl
    obtain rfl := (List.mem_replicate.1 hl).2
    rfl
  · simp [Dsk.new]; exact h2
end
end Go.Proofs.Ytajgaialnafdbaa
