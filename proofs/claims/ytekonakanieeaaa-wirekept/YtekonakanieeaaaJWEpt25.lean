/- append of bytes to bytes of the call's own; of one byte. -/
import Derived.Test.YtekonakanieeaaaJWEpt00
import Derived.Test.YtekonakanieeaaaJWEpt04
namespace Go.Proofs.Ytekonakanieeaaa
section
open Go.RowKit Go.Lib

theorem Try.infoUy : (Try.prog.info? 5).map (fun i => (i.zero, i.size, i.bytes)) = some (some (.int .u8 0), 1, 1) := by kernel_rfl
theorem below_owny {base : Nat} {w w' : World} {v : Value} {l : List Int} (h : OwnB w base v l) (hg : w.grownBy w' v.ownBlock) (hb : base ≤ w.heap.size) : Below base w w' :=
  ⟨hg.os, hg.tape, hg.output, hg.size, fun k hk => hg.block k (by omega) (fun e => by have := (h.at k e.symm).1; omega)⟩

theorem wpList_apy {w : World} {ops : Array Oper} {rest : List Oper} {o : Oper} {a : Act} {Q : Exit → Act → World → Prop} (hgd : o.guard = none) (s x : Operand)
    (ho : o.op = .call { callee := .builtin .append, args := #[s, x], argTypes := #[22, 22] }) (base : Nat) (v : Value) (l : List Int) (hs : a.eval s = v) (hown : OwnB w base v l)
    (vx : Value) (m : List Int) (hx : a.eval x = vx) (hm : RB w vx m) (hlen : l.length + m.length ≤ 140737488351232) (hbase : base ≤ w.heap.size)
    (h : ∀ v' w', OwnB w' base v' (l ++ m) → Below base w w' → (v'.ownBlock = v.ownBlock ∨ v'.ownBlock = some w.heap.size) → wpList Try.prog ops Q rest (a.put o.dst v') w') : wpList Try.prog ops Q (o :: rest) a w := by
  obtain ⟨i0, hi0, hz0, hz1, hz2⟩ := info_parts Try.infoUy
  obtain ⟨ax, cx, rfl, _⟩ := id hm
  rcases hm.src with ⟨rfl, rfl⟩ | ⟨ad, rfl, hsrc⟩
  · refine wpList_plain hgd fun K hK => ?_
    have hrun := run_append_owned_none (P := Try.prog) (w := w) base 22 o.type 5 i0 1 Try.underlying22 hi0 v l.length (ub l) hown
    obtain ⟨a1, c1, e1⟩ := owns_len hown
    have hx' : a.eval x = .slice none 0 cx := hx
    have hr2 : (Builtin.append_ #[22, 22] o.type #[v, .slice none 0 cx]).run Try.prog w = .ok v w := by
      rw [← hrun]; rfl
    unfold Oper.wp
    simp [execOp, ho, resolve, invoke, builtin, hs, hx', hr2, Result.andThen]
    exact hK _ _ (h v w (by rw [List.append_nil]; exact hown) (Below.refl _ _) (.inl rfl))
  · refine wpList_append_own_at _ hgd s x 22 ho base 5 i0 (.int .u8 0) 1 1 Try.underlying22 hi0 hz0 hz1 hz2 rfl (by decide) v l.length (ub l) hs hown ad m.length cx (ub m) hx (by rw [ub_len, Nat.mul_one]) hsrc (ub_one m) (by unfold maxLen; omega) (by omega) hbase ?_
    intro v' w' h1 h2 _ h4
    refine h v' w' ?_ (below_owny hown h2 hbase) h4
    unfold OwnB ub
    rw [List.length_append, List.map_append]
    exact h1
theorem RB.oney (w : World) (x : Int) (t : TypeId) : RB (w.alloc (.cells #[.int .u8 x] t)) (.slice (some ⟨w.heap.size, 0, none⟩) 1 1) [x] :=
  ⟨_, _, rfl, .inr ⟨w.heap.size, 0, rfl, by simp, fun i y hy => by
    match i, hy with
    | 0, hy => simp at hy; subst hy; simp⟩⟩
theorem OwnB.alloc {w : World} {base : Nat} {v : Value} {l : List Int} (h : OwnB w base v l) (o : Obj) : OwnB (w.alloc o) base v l := h.below (below_alloc w o)
/-- the same as one step of a region that draws -/
theorem step_apy {w : World} {ops : Array Oper} {o : Oper} {a : Act} {K : Act → World → Prop} {Q : Exit → Act → World → Prop} {E : Prop} (hgd : o.guard = none) (s x : Operand)
    (ho : o.op = .call { callee := .builtin .append, args := #[s, x], argTypes := #[22, 22] }) (base : Nat) (v : Value) (l : List Int) (hs : a.eval s = v) (hown : OwnB w base v l)
    (vx : Value) (m : List Int) (hx : a.eval x = vx) (hm : RB w vx m) (hlen : l.length + m.length ≤ 140737488351232) (hbase : base ≤ w.heap.size)
    (h : ∀ v' w', OwnB w' base v' (l ++ m) → Below base w w' → K (a.put o.dst v') w') :
    if Region.wanted o (yielded ops a.tmps) = true then Oper.wp Try.prog o a w K Q else E := by
  have hw : Region.wanted o (yielded ops a.tmps) = true := by simp [Region.wanted, hgd]
  rw [if_pos hw]
  obtain ⟨i0, hi0, hz0, hz1, hz2⟩ := info_parts Try.infoUy
  obtain ⟨ax, cx, rfl, _⟩ := id hm
  rcases hm.src with ⟨rfl, rfl⟩ | ⟨ad, rfl, hsrc⟩
  · have hrun := run_append_owned_none (P := Try.prog) (w := w) base 22 o.type 5 i0 1 Try.underlying22 hi0 v l.length (ub l) hown
    have hx' : a.eval x = .slice none 0 cx := hx
    have hr2 : (Builtin.append_ #[22, 22] o.type #[v, .slice none 0 cx]).run Try.prog w = .ok v w := by
      rw [← hrun]; rfl
    unfold Oper.wp
    simp [execOp, ho, resolve, invoke, builtin, hs, hx', hr2, Result.andThen]
    exact h v w (by rw [List.append_nil]; exact hown) (Below.refl _ _)
  · obtain ⟨v', w', hr, h2, h3, _, _⟩ := run_append_own_at (P := Try.prog) w base 22 o.type 5 i0 (.int .u8 0) 1 1 Try.underlying22 hi0 hz0 hz1 hz2 rfl (by decide) v l.length (ub l) hown ad m.length cx (ub m) (by rw [ub_len, Nat.mul_one]) hsrc (ub_one m) (by unfold maxLen; omega) (by omega) hbase
    unfold Oper.wp execOp
    simp only [ho, resolve, invoke, builtin, Sem.run_bind, Sem.run_pure, Result.andThen_ok, List.map_toArray, List.map_cons, List.map_nil, hs, hx, hr]
    refine h v' w' ?_ (below_owny hown h3 hbase)
    unfold OwnB ub
    rw [List.length_append, List.map_append]
    exact h2
end
section
open Go.RowKit Go.Lib

/-- what a call that writes bytes leaves -/
def Mk (l : List Int) (w w' : World) (e : Ending) : Prop := ∃ a c, e = .returned (.slice a l.length c) ∧ Hid (OwnB w' w.heap.size (.slice a l.length c) l) ∧ Below w.heap.size w w'

set_option maxRecDepth 20000 in
set_option maxHeartbeats 2000000 in
theorem number_d (n : Nat) (w : World) (hn : n ≤ 1099511627776) : Calls Try.prog 39 #[.int .i64 n] w fun e w' => Mk (numB n) w w' e := by
  go_enter Try.func39, Try.ntmps39
  go_wp2
  go_loopw [0, 3] (fun v b wr => ∃ (k : Nat) (l : List Int), v = .int .i64 k ∧ k ≤ n ∧ numB n = l ++ numB k ∧ l.length + k ≤ 1099511627776 ∧ OwnB wr w.heap.size b l ∧ Below w.heap.size w wr) (fun v _ _ => (intOf v).toNat)
  case atStart => exact ⟨n, [], rfl, Nat.le_refl _, rfl, by simpa using hn, OwnB.nil _ _, Below.refl _ _⟩
  case round =>
    obtain ⟨k, l, rfl, hk, hl, hL, ho, hb⟩ := hrel
    have HO : Hid (OwnB wr w.heap.size u3 l ∧ Below w.heap.size w wr ∧ numB n = l ++ numB k) := ⟨ho, hb, hl⟩
    have hsz := hb.size
    clear ho hb hl
    by_cases hge : 128 ≤ k
    · have d1 : decide ((128 : Int) ≤ (k : Int)) = true := decide_eq_true (by omega)
      have d2 : (128 : Int) ≤ (k : Int) := by omega
      go_wp2_with (at_builtin; refine wpList_apy rfl _ _ rfl w.heap.size _ l rfl (HO.out.1.alloc _) _ [(k : Int) % 128 + 128] rfl (RB.oney _ _ _) (by simp; omega) (by simp; omega) ?_; intro v2 w2 ho2 hb2 _)
      go_roundw
      case rel =>
        refine ⟨k / 128, l ++ [(k : Int) % 128 + 128], by go_num, by omega, ?_, ?_, ho2, ?_⟩
        · rw [HO.out.2.2, numB_ge (by omega), List.append_assoc]; rfl
        · simp; omega
        · exact (HO.out.2.1.trans ((below_alloc wr _).mono hsz)).trans hb2
      case measure => simp [intOf]; omega
    · have d1 : decide ((128 : Int) ≤ (k : Int)) = false := decide_eq_false (by omega)
      have d3 : (k : Int) % 256 = (k : Int) := by omega
      go_wp2_with (at_builtin; refine wpList_apy rfl _ _ rfl w.heap.size _ l rfl (HO.out.1.alloc _) _ [(k : Int)] rfl (RB.oney _ _ _) (by simp; omega) (by simp; omega) ?_; intro v2 w2 ho2 hb2 _)
      have e2 : l ++ [(k : Int)] = numB n := by rw [HO.out.2.2, numB_lt (by omega)]
      rw [e2] at ho2
      obtain ⟨a2, c2, rfl⟩ := owns_len ho2
      go_ret
      exact ⟨a2, c2, rfl, ho2, (HO.out.2.1.trans ((below_alloc wr _).mono hsz)).trans hb2⟩
theorem textB_200 {s : ByteArray} (h : s.size ≤ 96) : (textB s).length ≤ 200 := by unfold textB; rw [List.length_append, bs_len]; have := numB_len 5 s.size (by omega); omega
theorem OwnB.new1 (w : World) (x : Int) (t : TypeId) (ht : t = 5) : OwnB (w.alloc (.cells #[.int .u8 x] t)) w.heap.size (.slice (some ⟨w.heap.size, 0, none⟩) 1 1) [x] := by
  subst ht
  exact owns_whole (xs := [.int .u8 x]) (Nat.le_refl _) (heap_new _ _) rfl (by decide)
theorem number_i (v : Int) (w : World) (h : numOk v) : Calls Try.prog 39 #[.int .i64 v] w fun e w' => Mk (numI v) w w' e := by
  obtain ⟨n, rfl⟩ := Int.eq_ofNat_of_zero_le h.1
  have h2 := h.2
  unfold numI
  rw [Int.toNat_natCast]
  exact number_d n w (by omega)
set_option maxRecDepth 20000 in
set_option maxHeartbeats 2000000 in
theorem text_d (s : ByteArray) (w : World) (hs : s.size ≤ 96) : Calls Try.prog 77 #[.string s] w fun e w' => Mk (textB s) w w' e := by
  obtain ⟨i0, hi, hz0, hz1, hz2⟩ := info_parts Try.infoUy
  have HN : Hid (∀ W, Calls Try.prog 39 #[.int .i64 s.size] W fun e w' => Mk (numB s.size) W w' e) := fun W => number_d _ W (by omega)
  have hl : (numB s.size).length ≤ 6 := numB_len 5 _ (by omega)
  unfold textB
  obtain ⟨N, hN⟩ : ∃ N, numB s.size = N := ⟨_, rfl⟩
  rw [hN] at HN hl ⊢
  clear hN
  go_enter Try.func77, Try.ntmps77
  go_wp2_with (first
    | (go_at_call 39; refine (HN.out _).mono ?_; rintro e w1 ⟨a1, c1, rfl, ho1, hb1⟩)
    | (at_builtin; refine wpList_append_own_string _ rfl _ _ 22 9 rfl w.heap.size 5 i0 Try.underlying22 Try.underlying9 hi hz0 hz1 hz2 _ N.length (ub N) rfl ho1.out s rfl (by unfold maxLen; omega) (by omega) hb1.size ?_; intro v2 w2 ho2 hg2 _))
  have h3 : OwnB w2 w.heap.size v2 (N ++ bs s) := by
    unfold OwnB
    rw [List.length_append, bs_len]
    have e : ub (N ++ bs s) = ub N ++ ub (bs s) := by unfold ub; rw [List.map_append]
    rw [e, ub_bs]
    exact ho2
  obtain ⟨a2, c2, rfl⟩ := owns_len h3
  go_ret
  exact ⟨a2, c2, rfl, h3, hb1.trans (below_owny ho1.out hg2 hb1.size)⟩
set_option maxRecDepth 20000 in
set_option maxHeartbeats 2000000 in
theorem key_d (k : Ky) (w : World) (hk : keyOk k) : Calls Try.prog 42 #[.agg #[.int .i64 k.d, .string k.nm]] w fun e w' => Mk (keyB k) w w' e := by
  have HN : Hid (∀ W, Calls Try.prog 39 #[.int .i64 k.d] W fun e w' => Mk (numI k.d) W w' e) := fun W => number_i _ W hk.1
  have HT : Hid (∀ W, Calls Try.prog 77 #[.string k.nm] W fun e w' => Mk (textB k.nm) W w' e) := fun W => text_d _ W hk.2
  have hl1 := numI_len hk.1
  have hl2 : (textB k.nm).length ≤ 200 := by unfold textB; rw [List.length_append, bs_len]; have := numB_len 5 k.nm.size (by have := hk.2; omega); have := hk.2; omega
  unfold keyB
  obtain ⟨N, hN⟩ : ∃ N, numI k.d = N := ⟨_, rfl⟩
  obtain ⟨T, hT⟩ : ∃ T, textB k.nm = T := ⟨_, rfl⟩
  rw [hN] at HN hl1 ⊢
  rw [hT] at HT hl2 ⊢
  clear hN hT hk
  obtain ⟨W, hW⟩ : ∃ W, w.alloc (.cells #[.int .i64 k.d, .string k.nm] 40) = W := ⟨_, rfl⟩
  have hbx : W.heap[w.heap.size]? = some (.cells #[.int .i64 k.d, .string k.nm] 40 (0, 0)) := by rw [← hW]; exact heap_new _ _
  have hbb : Below w.heap.size w W := by rw [← hW]; exact below_alloc _ _
  have HB : Hid (W.heap[w.heap.size]? = some (.cells #[.int .i64 k.d, .string k.nm] 40 (0, 0)) ∧ Below w.heap.size w W) := ⟨hbx, hbb⟩
  have y0 : W.cell? ⟨w.heap.size, 0, none⟩ = some (.int .i64 k.d) := by rw [cell_of hbx]; rfl
  have y1 : W.cell? ⟨w.heap.size, 1, none⟩ = some (.string k.nm) := by rw [cell_of hbx]; rfl
  have HS : Hid (∀ w', Below W.heap.size W w' → w'.cell? ⟨w.heap.size, 0, none⟩ = some (.int .i64 k.d) ∧ w'.cell? ⟨w.heap.size, 1, none⟩ = some (.string k.nm)) := fun w' h' => by
    have n1 := hkeep HB.out.1 h'
    exact ⟨by rw [cell_of n1]; rfl, by rw [cell_of n1]; rfl⟩
  clear hbx hbb
  go_enter Try.func42, Try.ntmps42
  go_upto_region 1 with fail
  clear hW
  have k0 := HS.out W.drew (Below.refl _ _).drew
  go_region_held3 (fun w' => w'.cell? ⟨w.heap.size, 0, none⟩ = some (.int .i64 k.d) ∧ w'.cell? ⟨w.heap.size, 1, none⟩ = some (.string k.nm)) (with_reducible first | exact k3 | exact k2 | exact k1 | exact k0) (first
    | (go_at_call 39; refine (HN.out _).mono ?_; rintro e w1 ⟨a1, q1, rfl, ho1, hb1⟩; have hc1 := chainB (Below.refl W.heap.size W).drew hb1; have k1 := HS.out w1 hc1)
    | (go_at_call 77; refine (HT.out _).mono ?_; rintro e w2 ⟨a2, q2, rfl, ho2, hb2⟩; have hc2 := chainB hc1 hb2; have k2 := HS.out w2 hc2)
    | (refine step_apy rfl (.tmp 5) (.tmp 8) rfl W.heap.size _ N (by simp [Act.eval]) (ho1.out.below hb2) _ T (by simp [Act.eval]) ho2.out.rb (by omega) hc2.size ?_; intro v3 w3 ho3 hb3; obtain ⟨a3, q3, rfl⟩ := owns_len ho3; have hc3 := hc2.trans hb3; have k3 := HS.out w3 hc3))
  go_wp2
  go_ret
  exact ⟨a3, q3, by simp, ho3.le HB.out.2.size, chainB HB.out.2 hc3⟩
end
section
open Go.RowKit Go.Lib

set_option maxRecDepth 20000 in
set_option maxHeartbeats 4000000 in
theorem op_d (o : Opn) (w : World) (ho : opOk o) : Calls Try.prog 40 #[.agg #[.int .i64 o.kind, .int .i64 o.dir, .string o.nm, .int .i64 o.dst, .string o.new, .int .i64 o.mode, .string o.tg]] w fun e w' => Mk (opB o) w w' e := by
  have H1 : Hid (∀ W, Calls Try.prog 39 #[.int .i64 o.dir] W fun e w' => Mk (numI o.dir) W w' e) := fun W => number_i _ W ho.2.1
  have l1 := numI_len ho.2.1
  have H2 : Hid (∀ W, Calls Try.prog 77 #[.string o.nm] W fun e w' => Mk (textB o.nm) W w' e) := fun W => text_d _ W ho.2.2.2.2.1
  have l2 := textB_200 ho.2.2.2.2.1
  have H3 : Hid (∀ W, Calls Try.prog 39 #[.int .i64 o.dst] W fun e w' => Mk (numI o.dst) W w' e) := fun W => number_i _ W ho.2.2.1
  have l3 := numI_len ho.2.2.1
  have H4 : Hid (∀ W, Calls Try.prog 77 #[.string o.new] W fun e w' => Mk (textB o.new) W w' e) := fun W => text_d _ W ho.2.2.2.2.2.1
  have l4 := textB_200 ho.2.2.2.2.2.1
  have H5 : Hid (∀ W, Calls Try.prog 39 #[.int .i64 o.mode] W fun e w' => Mk (numI o.mode) W w' e) := fun W => number_i _ W ho.2.2.2.1
  have l5 := numI_len ho.2.2.2.1
  have H6 : Hid (∀ W, Calls Try.prog 77 #[.string o.tg] W fun e w' => Mk (textB o.tg) W w' e) := fun W => text_d _ W ho.2.2.2.2.2.2
  have l6 := textB_200 ho.2.2.2.2.2.2
  have hk : o.kind % 256 = o.kind := by have := ho.1; omega
  unfold opB
  obtain ⟨N1, hN1⟩ : ∃ x, numI o.dir = x := ⟨_, rfl⟩
  rw [hN1] at H1 l1 ⊢
  obtain ⟨N2, hN2⟩ : ∃ x, textB o.nm = x := ⟨_, rfl⟩
  rw [hN2] at H2 l2 ⊢
  obtain ⟨N3, hN3⟩ : ∃ x, numI o.dst = x := ⟨_, rfl⟩
  rw [hN3] at H3 l3 ⊢
  obtain ⟨N4, hN4⟩ : ∃ x, textB o.new = x := ⟨_, rfl⟩
  rw [hN4] at H4 l4 ⊢
  obtain ⟨N5, hN5⟩ : ∃ x, numI o.mode = x := ⟨_, rfl⟩
  rw [hN5] at H5 l5 ⊢
  obtain ⟨N6, hN6⟩ : ∃ x, textB o.tg = x := ⟨_, rfl⟩
  rw [hN6] at H6 l6 ⊢
  clear hN1 hN2 hN3 hN4 hN5 hN6 ho
  obtain ⟨W, hW⟩ : ∃ W, w.alloc (.cells #[.int .i64 o.kind, .int .i64 o.dir, .string o.nm, .int .i64 o.dst, .string o.new, .int .i64 o.mode, .string o.tg] 26) = W := ⟨_, rfl⟩
  have hbx : W.heap[w.heap.size]? = some (.cells #[.int .i64 o.kind, .int .i64 o.dir, .string o.nm, .int .i64 o.dst, .string o.new, .int .i64 o.mode, .string o.tg] 26 (0, 0)) := by rw [← hW]; exact heap_new _ _
  have hbb : Below w.heap.size w W := by rw [← hW]; exact below_alloc _ _
  have HB : Hid (W.heap[w.heap.size]? = some (.cells #[.int .i64 o.kind, .int .i64 o.dir, .string o.nm, .int .i64 o.dst, .string o.new, .int .i64 o.mode, .string o.tg] 26 (0, 0)) ∧ Below w.heap.size w W) := ⟨hbx, hbb⟩
  clear hbx hbb
  have HS : Hid (∀ w', Below W.heap.size W w' → w'.cell? ⟨w.heap.size, 0, none⟩ = some (.int .i64 o.kind) ∧ w'.cell? ⟨w.heap.size, 1, none⟩ = some (.int .i64 o.dir) ∧ w'.cell? ⟨w.heap.size, 2, none⟩ = some (.string o.nm) ∧ w'.cell? ⟨w.heap.size, 3, none⟩ = some (.int .i64 o.dst) ∧ w'.cell? ⟨w.heap.size, 4, none⟩ = some (.string o.new) ∧ w'.cell? ⟨w.heap.size, 5, none⟩ = some (.int .i64 o.mode) ∧ w'.cell? ⟨w.heap.size, 6, none⟩ = some (.string o.tg)) := fun w' h' => by
    have n1 := hkeep HB.out.1 h'
    exact ⟨by rw [cell_of n1]; rfl, by rw [cell_of n1]; rfl, by rw [cell_of n1]; rfl, by rw [cell_of n1]; rfl, by rw [cell_of n1]; rfl, by rw [cell_of n1]; rfl, by rw [cell_of n1]; rfl⟩
  have y0 := (HS.out W (Below.refl _ _)).1
  go_enter Try.func40, Try.ntmps40
  go_upto_region 1 with fail
  clear hW
  go_upto_region 2 with fail
  obtain ⟨V0, hV0⟩ : ∃ x, W.alloc (.cells #[.int .u8 o.kind] 5) = x := ⟨_, rfl⟩
  have p0 : OwnB V0 W.heap.size (.slice (some ⟨W.heap.size, 0, none⟩) 1 1) [o.kind] := by rw [← hV0]; exact OwnB.new1 _ _ _ rfl
  have g0 : Below W.heap.size W V0 := by rw [← hV0]; exact below_alloc _ _
  have P0 : Hid (OwnB V0 W.heap.size (.slice (some ⟨W.heap.size, 0, none⟩) 1 1) [o.kind] ∧ Below W.heap.size W V0) := ⟨p0, g0⟩
  have z1 := (HS.out V0 g0).2.1
  rw [hV0]
  clear hV0 p0 g0 y0
  go_wp2_with (first
    | (at_builtin; refine wpList_apy rfl _ _ rfl W.heap.size _ ((((([o.kind] ++ N1) ++ N2) ++ N3) ++ N4) ++ N5) rfl (P5.out.1.below b6) _ N6 rfl o6.out.rb (by simp; omega) (chainB P5.out.2 b6).size ?_; intro v6 V6 p6 f6 _; have g6 := (chainB P5.out.2 b6).trans f6; have P6 : Hid (OwnB V6 W.heap.size v6 (((((([o.kind] ++ N1) ++ N2) ++ N3) ++ N4) ++ N5) ++ N6) ∧ Below W.heap.size W V6) := ⟨p6, g6⟩; clear p6 f6 g6 b6 o6)
    | (go_at_call 77; refine (H6.out V5).mono ?_; rintro e w6 ⟨a6, q6, rfl, o6, b6⟩; clear z6)
    | (at_builtin; refine wpList_apy rfl _ _ rfl W.heap.size _ (((([o.kind] ++ N1) ++ N2) ++ N3) ++ N4) rfl (P4.out.1.below b5) _ N5 rfl o5.out.rb (by simp; omega) (chainB P4.out.2 b5).size ?_; intro v5 V5 p5 f5 _; have g5 := (chainB P4.out.2 b5).trans f5; have P5 : Hid (OwnB V5 W.heap.size v5 ((((([o.kind] ++ N1) ++ N2) ++ N3) ++ N4) ++ N5) ∧ Below W.heap.size W V5) := ⟨p5, g5⟩; have z6 := (HS.out V5 g5).2.2.2.2.2.2; clear p5 f5 g5 b5 o5)
    | (go_at_call 39; refine (H5.out V4).mono ?_; rintro e w5 ⟨a5, q5, rfl, o5, b5⟩; clear z5)
    | (at_builtin; refine wpList_apy rfl _ _ rfl W.heap.size _ ((([o.kind] ++ N1) ++ N2) ++ N3) rfl (P3.out.1.below b4) _ N4 rfl o4.out.rb (by simp; omega) (chainB P3.out.2 b4).size ?_; intro v4 V4 p4 f4 _; have g4 := (chainB P3.out.2 b4).trans f4; have P4 : Hid (OwnB V4 W.heap.size v4 (((([o.kind] ++ N1) ++ N2) ++ N3) ++ N4) ∧ Below W.heap.size W V4) := ⟨p4, g4⟩; have z5 := (HS.out V4 g4).2.2.2.2.2.1; clear p4 f4 g4 b4 o4)
    | (go_at_call 77; refine (H4.out V3).mono ?_; rintro e w4 ⟨a4, q4, rfl, o4, b4⟩; clear z4)
    | (at_builtin; refine wpList_apy rfl _ _ rfl W.heap.size _ (([o.kind] ++ N1) ++ N2) rfl (P2.out.1.below b3) _ N3 rfl o3.out.rb (by simp; omega) (chainB P2.out.2 b3).size ?_; intro v3 V3 p3 f3 _; have g3 := (chainB P2.out.2 b3).trans f3; have P3 : Hid (OwnB V3 W.heap.size v3 ((([o.kind] ++ N1) ++ N2) ++ N3) ∧ Below W.heap.size W V3) := ⟨p3, g3⟩; have z4 := (HS.out V3 g3).2.2.2.2.1; clear p3 f3 g3 b3 o3)
    | (go_at_call 39; refine (H3.out V2).mono ?_; rintro e w3 ⟨a3, q3, rfl, o3, b3⟩; clear z3)
    | (at_builtin; refine wpList_apy rfl _ _ rfl W.heap.size _ ([o.kind] ++ N1) rfl (P1.out.1.below b2) _ N2 rfl o2.out.rb (by simp; omega) (chainB P1.out.2 b2).size ?_; intro v2 V2 p2 f2 _; have g2 := (chainB P1.out.2 b2).trans f2; have P2 : Hid (OwnB V2 W.heap.size v2 (([o.kind] ++ N1) ++ N2) ∧ Below W.heap.size W V2) := ⟨p2, g2⟩; have z3 := (HS.out V2 g2).2.2.2.1; clear p2 f2 g2 b2 o2)
    | (go_at_call 77; refine (H2.out V1).mono ?_; rintro e w2 ⟨a2, q2, rfl, o2, b2⟩; clear z2)
    | (at_builtin; refine wpList_apy rfl _ _ rfl W.heap.size _ [o.kind] rfl (P0.out.1.below b1) _ N1 rfl o1.out.rb (by simp; omega) (chainB P0.out.2 b1).size ?_; intro v1 V1 p1 f1 _; have g1 := (chainB P0.out.2 b1).trans f1; have P1 : Hid (OwnB V1 W.heap.size v1 ([o.kind] ++ N1) ∧ Below W.heap.size W V1) := ⟨p1, g1⟩; have z2 := (HS.out V1 g1).2.2.1; clear p1 f1 g1 b1 o1)
    | (go_at_call 39; refine (H1.out V0).mono ?_; rintro e w1 ⟨a1, q1, rfl, o1, b1⟩; clear z1))
  have e : (((((([o.kind] ++ N1) ++ N2) ++ N3) ++ N4) ++ N5) ++ N6) = o.kind :: (N1 ++ (N2 ++ (N3 ++ (N4 ++ (N5 ++ N6))))) := by simp
  have h6 := P6.out.1
  rw [e] at h6
  obtain ⟨a9, q9, rfl⟩ := owns_len h6
  go_ret
  exact ⟨a9, q9, rfl, h6.le HB.out.2.size, chainB HB.out.2 P6.out.2⟩
theorem keyB_200 {k : Ky} (h : keyOk k) : (keyB k).length ≤ 300 := by unfold keyB; rw [List.length_append]; have := numI_len h.1; have := textB_200 h.2; omega
set_option maxRecDepth 20000 in
set_option maxHeartbeats 4000000 in
theorem entry_neg (e : En) (w : World) (hk : keyOk ⟨e.d, e.nm⟩) : Calls Try.prog 41 #[.agg #[.int .i64 e.d, .string e.nm, .bool true, .int .i64 e.id, .int .i64 e.kind, .int .i64 e.mode, .string e.tg]] w fun x w' => Mk (keyB ⟨e.d, e.nm⟩ ++ [1]) w w' x := by
  have H1 : Hid (∀ W, Calls Try.prog 42 #[.agg #[.int .i64 e.d, .string e.nm]] W fun e' w' => Mk (keyB ⟨e.d, e.nm⟩) W w' e') := fun W => key_d ⟨e.d, e.nm⟩ W hk
  have l1 := keyB_200 hk
  obtain ⟨N1, hN1⟩ : ∃ x, keyB ⟨e.d, e.nm⟩ = x := ⟨_, rfl⟩
  rw [hN1] at H1 l1 ⊢
  clear hN1 hk
  obtain ⟨W, hW⟩ : ∃ W, w.alloc (.cells #[.int .i64 e.d, .string e.nm, .bool true, .int .i64 e.id, .int .i64 e.kind, .int .i64 e.mode, .string e.tg] 44) = W := ⟨_, rfl⟩
  have hbx : W.heap[w.heap.size]? = some (.cells #[.int .i64 e.d, .string e.nm, .bool true, .int .i64 e.id, .int .i64 e.kind, .int .i64 e.mode, .string e.tg] 44 (0, 0)) := by rw [← hW]; exact heap_new _ _
  have hbb : Below w.heap.size w W := by rw [← hW]; exact below_alloc _ _
  have HB : Hid (W.heap[w.heap.size]? = some (.cells #[.int .i64 e.d, .string e.nm, .bool true, .int .i64 e.id, .int .i64 e.kind, .int .i64 e.mode, .string e.tg] 44 (0, 0)) ∧ Below w.heap.size w W) := ⟨hbx, hbb⟩
  clear hbx hbb
  have HS : Hid (∀ w', Below W.heap.size W w' → w'.cell? ⟨w.heap.size, 0, none⟩ = some (.int .i64 e.d) ∧ w'.cell? ⟨w.heap.size, 1, none⟩ = some (.string e.nm) ∧ w'.cell? ⟨w.heap.size, 2, none⟩ = some (.bool true) ∧ w'.cell? ⟨w.heap.size, 3, none⟩ = some (.int .i64 e.id) ∧ w'.cell? ⟨w.heap.size, 4, none⟩ = some (.int .i64 e.kind) ∧ w'.cell? ⟨w.heap.size, 5, none⟩ = some (.int .i64 e.mode) ∧ w'.cell? ⟨w.heap.size, 6, none⟩ = some (.string e.tg)) := fun w' h' => by
    have n1 := hkeep HB.out.1 h'
    exact ⟨by rw [cell_of n1]; rfl, by rw [cell_of n1]; rfl, by rw [cell_of n1]; rfl, by rw [cell_of n1]; rfl, by rw [cell_of n1]; rfl, by rw [cell_of n1]; rfl, by rw [cell_of n1]; rfl⟩
  obtain ⟨y0, y1, y2, -⟩ := HS.out W (Below.refl _ _)
  go_enter Try.func41, Try.ntmps41
  go_upto_region 1 with fail
  clear hW
  go_wp2_with (first
    | (go_at_call 42; refine (H1.out _).mono ?_; rintro x w1 ⟨a1, q1, rfl, o1, b1⟩; have z2 := (HS.out w1 b1).2.2.1; clear y0 y1 y2)
    | (at_builtin; refine wpList_apy rfl _ _ rfl W.heap.size _ N1 rfl (o1.out.alloc _) _ [1] rfl (RB.oney _ _ _) (by simp; omega) (Nat.le_trans b1.size (below_alloc _ _).size) ?_; intro v2 V2 p2 f2 _))
  obtain ⟨a9, q9, rfl⟩ := owns_len p2
  go_ret
  exact ⟨a9, q9, by simp, p2.le HB.out.2.size, chainB HB.out.2 ((chainB b1 (below_alloc _ _)).trans f2)⟩
set_option maxRecDepth 20000 in
set_option maxHeartbeats 4000000 in
theorem entry_pos (e : En) (w : World) (hk : keyOk ⟨e.d, e.nm⟩) (ho : nodeOk e) : Calls Try.prog 41 #[.agg #[.int .i64 e.d, .string e.nm, .bool false, .int .i64 e.id, .int .i64 e.kind, .int .i64 e.mode, .string e.tg]] w fun x w' => Mk (keyB ⟨e.d, e.nm⟩ ++ 0 :: nodeB e) w w' x := by
  have H1 : Hid (∀ W, Calls Try.prog 42 #[.agg #[.int .i64 e.d, .string e.nm]] W fun e' w' => Mk (keyB ⟨e.d, e.nm⟩) W w' e') := fun W => key_d ⟨e.d, e.nm⟩ W hk
  have l1 := keyB_200 hk
  have H3 : Hid (∀ W, Calls Try.prog 39 #[.int .i64 e.id] W fun e' w' => Mk (numI e.id) W w' e') := fun W => number_i _ W ho.1
  have l3 := numI_len ho.1
  have H5 : Hid (∀ W, Calls Try.prog 39 #[.int .i64 e.mode] W fun e' w' => Mk (numI e.mode) W w' e') := fun W => number_i _ W ho.2.1
  have l5 := numI_len ho.2.1
  have H6 : Hid (∀ W, Calls Try.prog 77 #[.string e.tg] W fun e' w' => Mk (textB e.tg) W w' e') := fun W => text_d _ W ho.2.2.2
  have l6 := textB_200 ho.2.2.2
  have hkd : e.kind % 256 = e.kind := by have := ho.2.2.1; omega
  unfold nodeB
  obtain ⟨N1, hN1⟩ : ∃ x, keyB ⟨e.d, e.nm⟩ = x := ⟨_, rfl⟩
  rw [hN1] at H1 l1 ⊢
  obtain ⟨N3, hN3⟩ : ∃ x, numI e.id = x := ⟨_, rfl⟩
  rw [hN3] at H3 l3 ⊢
  obtain ⟨N5, hN5⟩ : ∃ x, numI e.mode = x := ⟨_, rfl⟩
  rw [hN5] at H5 l5 ⊢
  obtain ⟨N6, hN6⟩ : ∃ x, textB e.tg = x := ⟨_, rfl⟩
  rw [hN6] at H6 l6 ⊢
  clear hN1 hN3 hN5 hN6 hk ho
  obtain ⟨W, hW⟩ : ∃ W, w.alloc (.cells #[.int .i64 e.d, .string e.nm, .bool false, .int .i64 e.id, .int .i64 e.kind, .int .i64 e.mode, .string e.tg] 44) = W := ⟨_, rfl⟩
  have hbx : W.heap[w.heap.size]? = some (.cells #[.int .i64 e.d, .string e.nm, .bool false, .int .i64 e.id, .int .i64 e.kind, .int .i64 e.mode, .string e.tg] 44 (0, 0)) := by rw [← hW]; exact heap_new _ _
  have hbb : Below w.heap.size w W := by rw [← hW]; exact below_alloc _ _
  have HB : Hid (W.heap[w.heap.size]? = some (.cells #[.int .i64 e.d, .string e.nm, .bool false, .int .i64 e.id, .int .i64 e.kind, .int .i64 e.mode, .string e.tg] 44 (0, 0)) ∧ Below w.heap.size w W) := ⟨hbx, hbb⟩
  clear hbx hbb
  have HS : Hid (∀ w', Below W.heap.size W w' → w'.cell? ⟨w.heap.size, 0, none⟩ = some (.int .i64 e.d) ∧ w'.cell? ⟨w.heap.size, 1, none⟩ = some (.string e.nm) ∧ w'.cell? ⟨w.heap.size, 2, none⟩ = some (.bool false) ∧ w'.cell? ⟨w.heap.size, 3, none⟩ = some (.int .i64 e.id) ∧ w'.cell? ⟨w.heap.size, 4, none⟩ = some (.int .i64 e.kind) ∧ w'.cell? ⟨w.heap.size, 5, none⟩ = some (.int .i64 e.mode) ∧ w'.cell? ⟨w.heap.size, 6, none⟩ = some (.string e.tg)) := fun w' h' => by
    have n1 := hkeep HB.out.1 h'
    exact ⟨by rw [cell_of n1]; rfl, by rw [cell_of n1]; rfl, by rw [cell_of n1]; rfl, by rw [cell_of n1]; rfl, by rw [cell_of n1]; rfl, by rw [cell_of n1]; rfl, by rw [cell_of n1]; rfl⟩
  obtain ⟨y0, y1, y2, -⟩ := HS.out W (Below.refl _ _)
  go_enter Try.func41, Try.ntmps41
  go_upto_region 1 with fail
  clear hW
  go_wp2_with (first
    | (at_builtin; refine wpList_apy rfl _ _ rfl W.heap.size _ ((((N1 ++ [0]) ++ N3) ++ [e.kind]) ++ N5) rfl (P5.out.1.below b6) _ N6 rfl o6.out.rb (by simp; omega) (chainB P5.out.2 b6).size ?_; intro v6 V6 p6 f6 _; have g6 := (chainB P5.out.2 b6).trans f6)
    | (go_at_call 77; refine (H6.out V5).mono ?_; rintro x w6 ⟨a6, q6, rfl, o6, b6⟩; clear z6)
    | (at_builtin; refine wpList_apy rfl _ _ rfl W.heap.size _ (((N1 ++ [0]) ++ N3) ++ [e.kind]) rfl (P4.out.1.below b5) _ N5 rfl o5.out.rb (by simp; omega) (chainB P4.out.2 b5).size ?_; intro v5 V5 p5 f5 _; have g5 := (chainB P4.out.2 b5).trans f5; have P5 : Hid (OwnB V5 W.heap.size v5 ((((N1 ++ [0]) ++ N3) ++ [e.kind]) ++ N5) ∧ Below W.heap.size W V5) := ⟨p5, g5⟩; have z6 := (HS.out V5 g5).2.2.2.2.2.2; clear p5 f5 g5 b5 o5)
    | (go_at_call 39; refine (H5.out V4).mono ?_; rintro x w5 ⟨a5, q5, rfl, o5, b5⟩; clear z5)
    | (at_builtin; refine wpList_apy rfl _ _ rfl W.heap.size _ ((N1 ++ [0]) ++ N3) rfl (P3.out.1.alloc _) _ [e.kind] rfl (RB.oney _ _ _) (by simp; omega) (chainB P3.out.2 (below_alloc _ _)).size ?_; intro v4 V4 p4 f4 _; have g4 := (chainB P3.out.2 (below_alloc _ _)).trans f4; have P4 : Hid (OwnB V4 W.heap.size v4 (((N1 ++ [0]) ++ N3) ++ [e.kind]) ∧ Below W.heap.size W V4) := ⟨p4, g4⟩; have z5 := (HS.out V4 g4).2.2.2.2.2.1; clear p4 f4 g4 z4)
    | (at_builtin; refine wpList_apy rfl _ _ rfl W.heap.size _ (N1 ++ [0]) rfl (P2.out.1.below b3) _ N3 rfl o3.out.rb (by simp; omega) (chainB P2.out.2 b3).size ?_; intro v3 V3 p3 f3 _; have g3 := (chainB P2.out.2 b3).trans f3; have P3 : Hid (OwnB V3 W.heap.size v3 ((N1 ++ [0]) ++ N3) ∧ Below W.heap.size W V3) := ⟨p3, g3⟩; have z4 := (HS.out V3 g3).2.2.2.2.1; clear p3 f3 g3 b3 o3)
    | (go_at_call 39; refine (H3.out V2).mono ?_; rintro x w3 ⟨a3, q3, rfl, o3, b3⟩; clear z3)
    | (at_builtin; refine wpList_apy rfl _ _ rfl W.heap.size _ N1 rfl (o1.out.alloc _) _ [0] rfl (RB.oney _ _ _) (by simp; omega) (chainB b1 (below_alloc _ _)).size ?_; intro v2 V2 p2 f2 _; have g2 := (chainB b1 (below_alloc _ _)).trans f2; have P2 : Hid (OwnB V2 W.heap.size v2 (N1 ++ [0]) ∧ Below W.heap.size W V2) := ⟨p2, g2⟩; have z3 := (HS.out V2 g2).2.2.2.1; clear p2 f2 g2 z2)
    | (go_at_call 42; refine (H1.out _).mono ?_; rintro x w1 ⟨a1, q1, rfl, o1, b1⟩; have z2 := (HS.out w1 b1).2.2.1; clear y0 y1 y2))
  have e9 : ((((N1 ++ [0]) ++ N3) ++ [e.kind]) ++ N5) ++ N6 = N1 ++ 0 :: (N3 ++ e.kind :: (N5 ++ N6)) := by simp
  rw [e9] at p6
  obtain ⟨a9, q9, rfl⟩ := owns_len p6
  go_ret
  exact ⟨a9, q9, rfl, p6.le HB.out.2.size, chainB HB.out.2 g6⟩
theorem entry_d (e : En) (w : World) (h : entOk e) : Calls Try.prog 41 #[.agg #[.int .i64 e.d, .string e.nm, .bool e.neg, .int .i64 e.id, .int .i64 e.kind, .int .i64 e.mode, .string e.tg]] w fun x w' => Mk (entB e) w w' x := by
  obtain ⟨d, nm, neg, id, kind, mode, tg⟩ := e
  unfold entOk at h
  unfold entB
  cases neg
  · exact entry_pos ⟨d, nm, false, id, kind, mode, tg⟩ w h.1 h.2
  · exact entry_neg ⟨d, nm, true, id, kind, mode, tg⟩ w h.1
end
end Go.Proofs.Ytekonakanieeaaa
