/- The contracts of package block's Write and Read. -/
import Derived.Test.YtfomnnlilmahhaaBkQ
namespace Go.Proofs.Ytfomnnlilmahhaa
open Go.RowKit

theorem Try.infoU : (Try.prog.info? 5).map (fun i => (i.zero, i.size, i.bytes)) = some (some (.int .u8 0), 1, 1) := by kernel_rfl
theorem Try.sizeU : (Try.prog.info? 5).map (·.size) = some 1 := by kernel_rfl

/-- blocks, one behind the other -/
theorem flat_len (cs : List (List Int)) (h : ∀ l ∈ cs, l.length = 64) : cs.flatten.length = 64 * cs.length := by
  induction cs with
  | nil => rfl
  | cons a cs ih =>
    rw [List.flatten_cons, List.length_append, h a (by simp), ih (fun l hl => h l (by simp [hl])), List.length_cons]; omega
theorem flat_take (cs : List (List Int)) (h : ∀ l ∈ cs, l.length = 64) (i : Nat) : cs.flatten.take (64 * i) = (cs.take i).flatten := by
  induction cs generalizing i with
  | nil => simp
  | cons a cs ih =>
    cases i with
    | zero => simp
    | succ i =>
      have ha := h a (by simp)
      rw [List.flatten_cons, List.take_succ_cons, List.flatten_cons, ← ih (fun l hl => h l (by simp [hl])) i, List.take_append, ha, List.take_of_length_le (by omega), show 64 * (i + 1) - 64 = 64 * i by omega]
theorem flat_drop (cs : List (List Int)) (h : ∀ l ∈ cs, l.length = 64) (i : Nat) : cs.flatten.drop (64 * i) = (cs.drop i).flatten := by
  induction cs generalizing i with
  | nil => simp
  | cons a cs ih =>
    cases i with
    | zero => simp
    | succ i =>
      have ha := h a (by simp)
      rw [List.flatten_cons, List.drop_succ_cons, ← ih (fun l hl => h l (by simp [hl])) i, List.drop_append, ha, List.drop_eq_nil_of_le (by omega), show 64 * (i + 1) - 64 = 64 * i by omega]; rfl
theorem flat_set (cs : List (List Int)) (h : ∀ l ∈ cs, l.length = 64) (i : Nat) (l : List Int) (hi : i < cs.length) : (cs.set i l).flatten = cs.flatten.take (64 * i) ++ (l ++ cs.flatten.drop (64 * i + 64)) := by
  rw [flat_take cs h, show 64 * i + 64 = 64 * (i + 1) by omega, flat_drop cs h, List.set_eq_take_append_cons_drop, if_pos hi, List.flatten_append, List.flatten_cons]
theorem flat_get (cs : List (List Int)) (h : ∀ l ∈ cs, l.length = 64) (i : Nat) (hi : i < cs.length) (j : Nat) (x : Int) (hx : (cs[i]'hi)[j]? = some x) : cs.flatten[64 * i + j]? = some x := by
  have hj : j < (cs[i]'hi).length := (List.getElem?_eq_some_iff.1 hx).1
  rw [← List.getElem?_drop, flat_drop cs h, List.drop_eq_getElem_cons hi, List.flatten_cons, List.getElem?_append_left hj, hx]

/-- a block written -/
theorem IsD.wrote {w : World} {b g : Nat} {s : Dsk} (h : IsD w b g s) (i : Nat) (hi : i < s.cs.length) (l : List Int) (hl : l.length = 64) (row : List Value) (hr : row = (ub s.cs.flatten).take (64 * i) ++ (ub l ++ (ub s.cs.flatten).drop (64 * i + 64))) :
    IsD (w.setRow g row.toArray) b g { s with cs := s.cs.set i l } := by
  have e : (ub (s.cs.set i l).flatten) = row := by
    rw [hr, flat_set s.cs h.each i l hi]; unfold ub; rw [List.map_append, List.map_append, List.map_take, List.map_drop]
  refine ⟨?_, ?_, ?_, h.apart, ?_⟩
  · rw [setRow_other w g b _ h.apart]
    simp only [List.length_set]
    exact h.head
  · show _ = some (Obj.cells (ub (s.cs.set i l).flatten).toArray _ _)
    rw [e]
    exact setRow_heap w g _ _ _ _ h.body
  · intro x hx
    rcases List.mem_or_eq_of_mem_set hx with hx | rfl
    · exact h.each x hx
    · exact hl
  · simp only [List.length_set]; exact h.few

def Dsk.good (s : Dsk) : Prop := (s.burns = true → 0 ≤ s.left ∧ s.left ≤ 9223372036854775807) ∧ 0 ≤ s.writes ∧ s.writes < 9223372036854775807
def Dsk.wrE (s : Dsk) (i : Int) (n : Nat) : Int := if s.has i then (if n = 64 then (if s.spend.on then 0 else 21) else 1) else 20
def Dsk.wr (s : Dsk) (i : Int) (l : List Int) : Dsk := if s.has i then (if l.length = 64 then (if s.spend.on then { s.spend with cs := s.cs.set i.toNat l, writes := s.writes + 1 } else s.spend) else s) else s
theorem spend_cs (s : Dsk) : s.spend.cs = s.cs := by
  unfold Dsk.spend Dsk.cut; repeat' split
  all_goals rfl
theorem spend_writes (s : Dsk) : s.spend.writes = s.writes := by
  unfold Dsk.spend Dsk.cut; repeat' split
  all_goals rfl

theorem onlyR (w : World) (g : Nat) (cs : Array Value) : Only (· = g) w (w.setRow g cs) := (Only.refl (· = g) w).setRow (rfl : g = g) cs
theorem below_grown {w w' : World} (h : w.grownBy w' none) : Below w.heap.size w w' := ⟨h.os, h.tape, h.output, h.size, fun k hk => h.block k hk (by simp)⟩
theorem add_plain' (k j : Nat) (o : Nat) : (⟨k, o, none⟩ : Addr).add j = ⟨k, o + j, none⟩ := by rw [Go.WideShapes.add_plain]
theorem ub_one (l : List Int) : ∀ v ∈ ub l, v.oneCell' = true := ints_oneCell .u8 l

/-- a copy into a disk's block -/
theorem wpList_copy_disk {w : World} {ops : Array Oper} {rest : List Oper} {o : Oper} {a : Act} {Q : Exit → Act → World → Prop} (hgd : o.guard = none) (d s : Operand)
    (ho : o.op = .call { callee := .builtin .copy, args := #[d, s], argTypes := #[37, 37] }) (b g : Nat) (S : Dsk) (hD : IsD w b g S) (i : Nat) (hi : i < S.cs.length) (k sCap : Nat)
    (hd : a.eval d = .slice (some ⟨g, i * 64, none⟩) 64 64) (hs : a.eval s = .slice (some ⟨k, 0, none⟩) 64 sCap) (l : List Int) (hl : l.length = 64) (hsrc : ∀ j x, l[j]? = some x → w.cell? ⟨k, j, none⟩ = some (.int .u8 x))
    (h : ∀ w2, IsD w2 b g { S with cs := S.cs.set i l } → Only (· = g) w w2 → wpList Try.prog ops Q rest (a.put o.dst (goInt 64)) w2) : wpList Try.prog ops Q (o :: rest) a w := by
  have hfl := flat_len S.cs hD.each
  have hll := ub_len l
  refine wpList_copy_own hgd d s _ _ ho 5 Try.underlying37 Try.sizeU g (i * 64) 64 64 ⟨k, 0, none⟩ 64 sCap hd hs _ 69 hD.body (ub l) (by rw [hll, hl]; rfl) ?_ ?_ (ub_one l) ?_
  · intro j v hv
    rw [add_plain', Nat.zero_add]
    rw [ub_get] at hv
    cases hx : l[j]? with
    | none => rw [hx] at hv; cases hv
    | some x => rw [hx] at hv; cases hv; exact hsrc j x hx
  · rw [hll, hl, List.size_toArray, ub_len, hfl]; omega
  · rw [hll, hl]
    refine h _ (hD.wrote i hi l hl _ (by rw [Nat.mul_comm 64 i])) (onlyR _ _ _)
/-- a copy out of a disk's block -/
theorem wpList_copy_read {w : World} {ops : Array Oper} {rest : List Oper} {o : Oper} {a : Act} {Q : Exit → Act → World → Prop} (hgd : o.guard = none) (d s : Operand)
    (ho : o.op = .call { callee := .builtin .copy, args := #[d, s], argTypes := #[37, 37] }) (b g : Nat) (S : Dsk) (hD : IsD w b g S) (i : Nat) (hi : i < S.cs.length) (m base : Nat) (old : List Value)
    (hd : a.eval d = .slice (some ⟨m, 0, none⟩) 64 64) (hs : a.eval s = .slice (some ⟨g, i * 64, none⟩) 64 64) (hm : w.ownsRow base 5 1 (.slice (some ⟨m, 0, none⟩) 64 64) 64 old)
    (h : ∀ w2, OwnB w2 base (.slice (some ⟨m, 0, none⟩) 64 64) (S.cs[i]'hi) → Only (· = m) w w2 → wpList Try.prog ops Q rest (a.put o.dst (goInt 64)) w2) : wpList Try.prog ops Q (o :: rest) a w := by
  have hl : (S.cs[i]'hi).length = 64 := hD.each _ (List.getElem_mem hi)
  have hll := ub_len (S.cs[i]'hi)
  rcases hm.2 with ⟨e, _⟩ | ⟨g', cap, cur, e, hg, hh, r1, r2, r3, r4⟩
  · cases e
  · cases e
    refine wpList_copy_own hgd d s _ _ ho 5 Try.underlying37 Try.sizeU m 0 64 64 ⟨g, i * 64, none⟩ 64 64 hd hs cur 5 hh (ub (S.cs[i]'hi)) (by rw [hll, hl]; rfl) ?_ ?_ (ub_one _) ?_
    · intro j v hv
      rw [add_plain']
      rw [ub_get] at hv
      cases hx : (S.cs[i]'hi)[j]? with
      | none => rw [hx] at hv; cases hv
      | some x =>
        rw [hx] at hv; cases hv
        rw [cell_of hD.body, List.getElem?_toArray, ub_get, Nat.mul_comm i 64, flat_get S.cs hD.each i hi j x hx]; rfl
    · rw [hll, hl, r3]; omega
    · rw [hll, hl]
      refine h _ ?_ (onlyR _ _ _)
      unfold OwnB
      rw [hl]
      have hcl : cur.toList.length = 64 := by rw [Array.length_toList, r3]
      refine ⟨by rw [hll, hl], .inr ⟨m, 64, _, rfl, hg, setRow_heap w m _ _ _ _ hh, r1, r2, ?_, ?_⟩⟩
      · simp [hll, hl, r3]
      · simp [hll, hl]

set_option maxHeartbeats 1000000 in
theorem write_yes (b g : Nat) (s : Dsk) (i : Nat) (k cap : Nat) (l : List Int) (w : World) (h : IsD w b g s) (hg : s.good) (hi : i < s.cs.length) (hl : l.length = 64) (hon : s.spend.on = true) (hkb : k ≠ b)
    (hc : ∀ j x, l[j]? = some x → w.cell? ⟨k, j, none⟩ = some (.int .u8 x)) (hk : k < w.heap.size) :
    Calls Try.prog 13 #[.pointer (some ⟨b, 0, none⟩), .int .i64 i, .slice (some ⟨k, 0, none⟩) 64 cap] w fun e w' => e = .returned (.int .i64 0) ∧ IsD w' b g { s.spend with cs := s.cs.set i l, writes := s.writes + 1 } ∧ Only (fun x => x = b ∨ x = g) w w' := by
  have hhas : s.has i = true := by unfold Dsk.has; simp; exact hi
  have hfew := h.few
  obtain ⟨hg1, hg2, hg3⟩ := hg
  have hsp := spend_any b g s w h hg1
  have H : Hid (IsD w b g s) := h
  have hs1 := spend_cs s
  have hs2 := spend_writes s
  obtain ⟨S, hS⟩ : ∃ S, s.spend = S := ⟨_, rfl⟩
  rw [hS] at hsp hs1 hs2 hon ⊢
  clear h hg1 hS
  obtain ⟨W, hW⟩ : ∃ W, s.writes = W := ⟨_, rfl⟩
  obtain ⟨C, hC⟩ : ∃ C, s.cs.length = C := ⟨_, rfl⟩
  rw [hW] at hg2 hg3 hs2 ⊢
  rw [hC] at hi hfew
  have HS : Hid (S.cs = s.cs ∧ S.writes = W ∧ s.cs.length = C ∧ S.on = true) := ⟨hs1, hs2, hC, hon⟩
  clear hs1 hs2 hC hW hon
  go_enter Try.func13, Try.ntmps13
  go_wp2_with (first
    | (go_at_call 33; refine (has_any b g s i _ H.out).mono ?_; rintro e w' ⟨rfl, rfl⟩; rw [hhas])
    | (go_at_call 34; refine hsp.mono ?_; rintro e w1 ⟨rfl, hD, hO⟩; rw [HS.out.2.2.2]; obtain ⟨d0, d1, d2, d3, d4, hf1⟩ := hD.cells; rw [HS.out.1, HS.out.2.2.1] at d0; rw [HS.out.2.1] at d4; have HD : Hid (IsD w1 b g S) := hD; clear hD d1 d2 d3)
    | ((refine wpList_copy_disk rfl (.tmp 23) (.tmp 24) rfl b g S HD.out i (by rw [HS.out.1, HS.out.2.2.1]; exact hi) k cap rfl rfl l hl (fun j x hx => (World.cell?_of_block (hO.block k hk hkb)).trans (hc j x hx)) ?_); intro w2 hD2 hO2; obtain ⟨e0, e1, e2, e3, e4, hf2⟩ := hD2.cells; simp only at e0 e4; rw [HS.out.2.1] at e4; have HD2 : Hid (IsD w2 b g { S with cs := S.cs.set i l }) := hD2; clear hD2 e1 e2 e3 d0 d4))
  go_ret
  have hD3 := HD2.out.writes (W + 1)
  rw [HS.out.1] at hD3
  exact ⟨rfl, hD3, ((hO.mono fun _ h => .inl h).trans (hO2.mono fun _ h => .inr h)).trans ((only1 _ b 4 _).mono fun _ h => .inl h)⟩

set_option maxHeartbeats 1000000 in
theorem read_yes (b g : Nat) (s : Dsk) (i : Nat) (w : World) (h : IsD w b g s) (hi : i < s.cs.length) :
    Calls Try.prog 16 #[.pointer (some ⟨b, 0, none⟩), .int .i64 i] w fun e w' => ∃ v, e = .returned (.tuple #[v, .int .i64 0]) ∧ OwnB w' w.heap.size v (s.cs[i]'hi) ∧ Below w.heap.size w w' := by
  obtain ⟨i0, hi0, hz0, hz1, hz2⟩ := info_parts Try.infoU
  have hhas : s.has i = true := by unfold Dsk.has; simp; exact hi
  have hfew := h.few
  obtain ⟨C, hC⟩ : ∃ C, s.cs.length = C := ⟨_, rfl⟩
  have hi' : i < C := by omega
  rw [hC] at hfew
  have H : Hid (IsD w b g s ∧ s.cs.length = C ∧ i < s.cs.length) := ⟨h, hC, hi⟩
  clear h hC
  go_enter Try.func16, Try.ntmps16
  go_wp2_with (first
    | (go_at_call 33; refine (has_any b g s i _ H.out.1).mono ?_; rintro e w' ⟨rfl, rfl⟩; rw [hhas])
    | (at_make; refine wpList_make_full _ rfl (.const (.int .i64 64)) (.const (.int .i64 64)) 37 rfl _ 5 i0 (.int .u8 0) 1 Try.underlying37 hi0 hz0 hz1 .i64 .i64 64 64 64 rfl rfl rfl rfl (by rw [hz2]; decide) (by decide) (Nat.le_refl _) ?_; intro w1 hown hgrow; have hb1 := below_grown hgrow; have hD1 := H.out.1.below hb1; obtain ⟨d0, _⟩ := hD1.cells; rw [H.out.2.1] at d0; have HD : Hid (IsD w1 b g s) := hD1; clear hD1 hgrow)
    | ((refine wpList_copy_read rfl (.tmp 12) (.tmp 19) rfl b g s HD.out i hi _ _ _ rfl rfl hown ?_); intro w2 hown2 hO2))
  go_ret2
  exact ⟨_, rfl, hown2, hO2.below hb1 hb1.size (fun k hk => by omega)⟩
end Go.Proofs.Ytfomnnlilmahhaa
