/- slices.Delete and DeleteFunc at messages. -/
import Derived.Test.YtpmcecenhgppbaaJTEpt05
namespace Go.Proofs.Ytpmcecenhgppbaa
section
open Go.RowKit Go.Shelf
attribute [local go_sem ↓ high] loadMsg storeMsg

/-- a row whose front has stayed -/
theorem owns_kept {w w' : World} {base : Nat} {e : TypeId} {size g n cap : Nat} {xs : List Value} (h : w.ownsRow base e size (.slice (some ⟨g, 0, none⟩) n cap) n xs) (hw : ∀ cur f, w.heap[g]? = some (.cells cur e f) → f = (0, 0) → ∃ cur' : Array Value, w'.heap[g]? = some (.cells cur' e (0, 0)) ∧ cur'.size = cur.size ∧ cur'.toList.take (n * size) = cur.toList.take (n * size)) : w'.ownsRow base e size (.slice (some ⟨g, 0, none⟩) n cap) n xs := by
  refine ⟨h.1, .inr ?_⟩
  rcases h.2 with ⟨e, _⟩ | ⟨g', cap', cur, e, hg, hh, r1, r2, r3, r4⟩
  · cases e
  · cases e
    obtain ⟨cur', k1, k2, k3⟩ := hw cur _ hh rfl
    exact ⟨g, cap, cur', rfl, hg, k1, r1, r2, by rw [k2, r3], by rw [k3, r4]⟩
/-- clear of what lies behind a place of a row -/
theorem run_clear_own {P : Program} (w : World) (t e ty : TypeId) (z : Value) (k : Nat) (ht : P.underlying t = some (.slice e)) (hv : ∀ w, (zeroValue e).run P w = .ok z w) (hz : z.cells.size = k) (h1 : ∀ v ∈ z.cells.toList, v.oneCell' = true) (hk : 0 < k)
    (g n i c cap base : Nat) (xs : List Value) (hw : w.ownsRow base e k (.slice (some ⟨g, 0, none⟩) n cap) n xs) (hi : i ≤ n) :
    ∃ w', (Builtin.clear_ #[t] ty #[.slice (some ⟨g, i * k, none⟩) (n - i) c]).run P w = .ok (.tuple #[]) w' ∧ w'.ownsRow base e k (.slice (some ⟨g, 0, none⟩) i cap) i (xs.take (i * k)) ∧ Only (· = g) w w' := by
  have hfr : w.ownsRow base e k (.slice (some ⟨g, 0, none⟩) i cap) i (xs.take (i * k)) := owns_front hw hi rfl (by rw [List.length_take, hw.1, Nat.min_eq_left (Nat.mul_le_mul_right _ hi)])
  by_cases h0 : n - i = 0
  · refine ⟨w, ?_, hfr, Only.refl _ _⟩
    rw [h0]
    simp [Builtin.clear_, run_underlying ht]
  · obtain ⟨m, hm⟩ : ∃ m, n - i = m + 1 := ⟨n - i - 1, by omega⟩
    obtain ⟨zs, hzs⟩ : ∃ zs, (Builtin.zeroCells z.cells (n - i)).toList = zs := ⟨_, rfl⟩
    have hlen : zs.length = (n - i) * k := by rw [← hzs]; simp [Builtin.zeroCells, hz]
    have hone : ∀ v ∈ zs, v.oneCell' = true := by
      intro v hv
      rw [← hzs] at hv
      unfold Builtin.zeroCells at hv
      simp only [Array.toList_map, List.mem_map] at hv
      obtain ⟨j, _, rfl⟩ := hv
      have hj : j % z.cells.size < z.cells.size := Nat.mod_lt _ (by omega)
      rw [getElem!_pos z.cells _ hj]
      exact h1 _ (by simp)
    rcases hw.2 with ⟨e', _⟩ | ⟨g', cap', cur, e', hg, hh, r1, r2, r3, r4⟩
    · cases e'
    · cases e'
      have hmul : i * k + (n - i) * k = n * k := by rw [← Nat.add_mul]; congr 1; omega
      have hcap : n * k ≤ cap * k := Nat.mul_le_mul_right _ r1
      have hfit : i * k + zs.length ≤ cur.size := by rw [hlen, r3]; omega
      have hst := run_storeCells_at P g (i * k) e zs 0 cur w hh (by simpa using hfit) hone
      refine ⟨w.setRow g (cur.toList.take (i * k) ++ zs ++ cur.toList.drop (i * k + zs.length)).toArray, ?_, ?_, onlyR _ _ _⟩
      · rw [hm] at hzs ⊢
        have hst' : Sem.run P (storeCells ⟨g, i * k, none⟩ zs) w = .ok () (w.setRow g (cur.toList.take (i * k) ++ (zs ++ cur.toList.drop (i * k + zs.length))).toArray) := by simpa using hst
        simp [Builtin.clear_, run_underlying ht, hv, hzs]
        rw [hst']; rfl
      · refine owns_kept hfr fun cur0 f hc hf => ?_
        rw [hh] at hc
        cases hc
        refine ⟨_, setRow_heap w g _ _ e _ hh, ?_, ?_⟩
        · simp only [List.size_toArray, List.length_append, List.length_take, List.length_drop, Array.length_toList]
          omega
        · rw [List.append_assoc, List.take_append_of_le_length (by rw [List.length_take, Array.length_toList]; omega), List.take_take, Nat.min_self]

theorem row_only {S : Nat → Prop} {w w' : World} {base : Nat} {e : TypeId} {size g n cap : Nat} {xs : List Value} (h : w.ownsRow base e size (.slice (some ⟨g, 0, none⟩) n cap) n xs) (hO : Only S w w') (hS : ¬ S g) : w'.ownsRow base e size (.slice (some ⟨g, 0, none⟩) n cap) n xs :=
  owns_moved h fun k hk => by
    have e : g = k := Option.some.inj hk
    subst e
    exact hO.block _ (owns_cells h).2.2.2.2.2 hS
/-- what has been kept of a list so far -/
structure Kept {α : Type} (p : α → Bool) (ks D : List α) (n i j : Nat) : Prop where
  len : D.length = n
  le : i ≤ j
  jn : j ≤ n
  low : D.take i = (ks.take j).filter fun x => !p x
  high : ∀ m, j ≤ m → D[m]? = ks[m]?
theorem Kept.skip {α : Type} {p : α → Bool} {ks D : List α} {n i j : Nat} {x : α} (h : Kept p ks D n i j) (hj : j < n) (hx : ks[j]? = some x) (hp : p x = true) : Kept p ks D n i (j + 1) :=
  ⟨h.len, by have := h.le; omega, hj, by rw [h.low, List.take_add_one, hx, List.filter_append]; simp [hp], fun m hm => h.high m (by omega)⟩
theorem Kept.keep {α : Type} {p : α → Bool} {ks D : List α} {n i j : Nat} {x : α} (h : Kept p ks D n i j) (hj : j < n) (hx : ks[j]? = some x) (hp : p x = false) : Kept p ks (D.set i x) n (i + 1) (j + 1) := by
  have hi : i < D.length := by have := h.len; have := h.le; omega
  refine ⟨by rw [List.length_set]; exact h.len, by have := h.le; omega, hj, ?_, fun m hm => ?_⟩
  · rw [List.take_add_one, List.take_set_of_le (Nat.le_refl _), h.low, List.getElem?_set_self hi, List.take_add_one, hx, List.filter_append]
    simp [hp]
  · have := h.le
    rw [List.getElem?_set_ne (by omega)]; exact h.high m (by omega)
theorem Kept.done {α : Type} {p : α → Bool} {ks D : List α} {n i : Nat} (h : Kept p ks D n i n) (hn : ks.length = n) : D.take i = ks.filter fun x => !p x := by
  rw [h.low, List.take_of_length_le (by omega)]
theorem Kept.start {α : Type} {p : α → Bool} {ks : List α} {n i : Nat} {x : α} (hn : ks.length = n) (hx : ks[i]? = some x) (hp : p x = true) (hno : ∀ (m : Nat) (y : α), m < i → ks[m]? = some y → p y = false) : Kept p ks ks n i (i + 1) := by
  have hi := (List.getElem?_eq_some_iff.1 hx).1
  refine ⟨hn, by omega, by omega, ?_, fun _ _ => rfl⟩
  rw [List.take_add_one, hx, List.filter_append]
  simp [hp]
  symm
  rw [List.filter_eq_self]
  intro y hy
  obtain ⟨m, hm⟩ := List.getElem?_of_mem hy
  have hlt : m < i := by have := (List.getElem?_eq_some_iff.1 hm).1; simp at this; omega
  rw [List.getElem?_take_of_lt hlt] at hm
  rw [hno m y hlt hm]; rfl
theorem idx_cases {α : Type} (p : α → Bool) (ks : List α) : (idxP p ks = -1 ∧ ∀ x ∈ ks, p x = false) ∨
    ∃ i x, ks[i]? = some x ∧ p x = true ∧ (∀ (m : Nat) (y : α), m < i → ks[m]? = some y → p y = false) ∧ idxP p ks = (i : Int) := by
  unfold idxP
  cases h : ks.findIdx? p with
  | none =>
    rw [List.findIdx?_eq_none_iff] at h
    exact .inl ⟨rfl, h⟩
  | some i =>
    rw [List.findIdx?_eq_some_iff_getElem] at h
    obtain ⟨hi, hq, hno⟩ := h
    refine .inr ⟨i, ks[i], List.getElem?_eq_getElem hi, hq, fun m y hm hy => ?_, rfl⟩
    have := hno m hm
    rw [← (List.getElem?_eq_some_iff.1 hy).2]; simpa using this
theorem only_below {S : Nat → Prop} {w W w' : World} (h : Only S w W) (hb : Below W.heap.size W w') : Only S w w' := h.trans (Only.of hb)
/-- a message laid over another one of a row -/
theorem putM {w : World} {base g n cap i : Nat} {D : List Hm} {x : Hm} (h : w.ownsRow base 45 16 (.slice (some ⟨g, 0, none⟩) n cap) n (mc D)) (hn : D.length = n) (hi : i < n) : ∃ W, (msgSt (.pointer (some ⟨g, i * 16, none⟩)) (.agg x.arr)).run Try.prog w = .ok () W ∧ W.ownsRow base 45 16 (.slice (some ⟨g, 0, none⟩) n cap) n (mc (D.set i x)) ∧ Only (· = g) w W := by
  rcases h.2 with ⟨e, _⟩ | ⟨g', cap', cur, e, hg, hh, r1, r2, r3, r4⟩
  · cases e
  · cases e
    have hf : i * 16 + 16 ≤ cur.size := by rw [r3]; omega
    refine ⟨_, msgSt_at hh rfl hf x.one' rfl, ⟨by rw [mc_len, List.length_set, hn], .inr ⟨g, cap, _, rfl, hg, setRow_heap w g _ _ 45 _ hh, r1, r2, ?_, ?_⟩⟩, onlyR _ _ _⟩
    · simp only [List.size_toArray, List.length_append, List.length_take, List.length_drop, Array.length_toList, Hm.size]
      omega
    · rw [← mc_set D i x (by omega), ← r4]
      have hl16 : x.arr.toList.length = 16 := rfl
      have htl : (cur.toList.take (i * 16)).length = i * 16 := by simp; omega
      simp only [Hm.vals]
      rw [List.take_append, List.take_append, List.take_take, htl, List.length_append, htl, hl16, Nat.min_eq_right (by omega), List.take_of_length_le (i := n * 16 - i * 16) (by rw [hl16]; omega), List.take_take, Nat.min_eq_left (by omega), List.drop_take]
theorem delete_nil (f : Value) (w : World) : Calls Try.prog 21 #[.slice none 0 0, f] w fun e w' => e = .returned (.slice none 0 0) ∧ w' = w := by
  go_enter Try.func21, Try.ntmps21
  go_wp2_with (go_at_call 43; refine (index_nil _ _ _ _).mono ?_; rintro e w' ⟨rfl, rfl⟩)
  go_ret
  exact ⟨rfl, rfl⟩
set_option maxHeartbeats 4000000 in
set_option maxRecDepth 1000000 in
theorem delete_own (f : Nat) (lb : Array Value) (p : Hm → Bool) (g n cap base : Nat) (ks : List Hm) (w : World) (h : w.ownsRow base 45 16 (.slice (some ⟨g, 0, none⟩) n cap) n (mc ks)) (hn : ks.length = n) (hs : n ≤ 1000000)
    (eg : ∀ args w, (callFunc f args).run Try.prog w = .ok (.enter f args) w)
    (hp : ∀ (W : World) (x : Hm), Only (· = g) w W → Calls Try.prog f (#[.agg x.arr] ++ lb) W fun e w' => e = .returned (.bool (p x)) ∧ Below W.heap.size W w') :
    Calls Try.prog 21 #[.slice (some ⟨g, 0, none⟩) n cap, .func (.func f) #[] lb] w fun e w' => e = .returned (.slice (some ⟨g, 0, none⟩) (ks.filter fun x => !p x).length cap) ∧ RowM w' base (.slice (some ⟨g, 0, none⟩) (ks.filter fun x => !p x).length cap) (ks.filter fun x => !p x) ∧ Only (· = g) w w' := by
  obtain ⟨hc, hf, hcap, hmx, hb0, hg⟩ := owns_cells h
  have hIF := index_m f lb p (.slice (some ⟨g, 0, none⟩) n cap) base ks w (by show World.ownsRow _ _ _ _ _ _ _; rw [hn]; exact h) (by omega) eg (fun W x hb => hp W x (Only.of hb))
  rcases idx_cases p ks with ⟨e1, hno⟩ | ⟨i0, x0, hx0, hp0, hno, e1⟩
  · rw [e1] at hIF
    have hfil : (ks.filter fun x => !p x) = ks := by
      rw [List.filter_eq_self]
      intro x hx; rw [hno x hx]; rfl
    rw [hfil]
    subst hn
    have HH : Hid _ := h
    clear h hc hf hp hfil hno e1
    go_enter Try.func21, Try.ntmps21
    go_wp2_with (go_at_call 43; refine hIF.mono ?_; rintro e w' ⟨rfl, hb1⟩)
    go_ret
    exact ⟨rfl, owns_below HH.out hb1, Only.of hb1⟩
  · rw [e1] at hIF
    have hi0 : i0 < n := by rw [← hn]; exact (List.getElem?_eq_some_iff.1 hx0).1
    have HS : Hid (Kept p ks ks n i0 (i0 + 1)) := Kept.start hn hx0 hp0 hno
    have HH : Hid (w.ownsRow base 45 16 (.slice (some ⟨g, 0, none⟩) n cap) n (mc ks)) := h
    have HP : Hid (∀ (W : World) (x : Hm), Only (· = g) w W → Calls Try.prog f (#[.agg x.arr] ++ lb) W fun e w' => e = .returned (.bool (p x)) ∧ Below W.heap.size W w') := hp
    have HN : Hid (ks.length = n) := hn
    have hne : ((i0 : Int) == -1) = false := beq_eq_false_iff_ne.2 (by omega)
    clear h hc hf hp hno e1 hx0 hp0 hn
    go_enter Try.func21, Try.ntmps21
    go_wp2_with (go_at_call 43; refine hIF.mono ?_; rintro e w0 ⟨rfl, hb1⟩)
    go_loopw [5, 6, 7] (fun s5 s6 _ wr => ∃ (i j : Nat) (D : List Hm), s5 = .int .i64 i ∧ s6 = .int .i64 j ∧ j ≤ n ∧ i < j ∧ Hid (Kept p ks D n i j) ∧ Hid (wr.ownsRow base 45 16 (.slice (some ⟨g, 0, none⟩) n cap) n (mc D)) ∧ Hid (Only (· = g) w wr)) (fun _ s6 _ _ => n - (intOf s6).toNat)
    case atStart => exact ⟨i0, i0 + 1, ks, rfl, by simp, by omega, by omega, HS, owns_below HH.out hb1, Only.of hb1⟩
    case round =>
      obtain ⟨i, j, D, rfl, rfl, hjn, hij, HK, HW, HO⟩ := hrel
      by_cases hlt : j < n
      · obtain ⟨x, hx⟩ : ∃ x, ks[j]? = some x := ⟨_, List.getElem?_eq_getElem (by rw [HN.out]; exact hlt)⟩
        have hD : D[j]? = some x := by rw [HK.out.high j (Nat.le_refl _)]; exact hx
        obtain ⟨g', hg', -, -, hgl, hcl⟩ := owns_msg (by show World.ownsRow _ _ _ _ _ _ _; rw [HK.out.len]; exact HW.out : RowM wr base (.slice (some ⟨g, 0, none⟩) n cap) D) hD
        cases hg'
        have ml := msgLd_at hcl x.size
        obtain ⟨X, hX⟩ : ∃ X, x.arr = X := ⟨_, rfl⟩
        have HX : Hid (ks[j]? = some x ∧ x.arr = X ∧ X.size = 16 ∧ X.all (·.oneCell') = true) := ⟨hx, hX, by rw [← hX]; rfl, by rw [← hX]; exact x.one⟩
        rw [hX] at ml
        obtain ⟨W1, hW1⟩ : ∃ W1, wr.alloc (.cells #[.int .i64 0, .int .i64 0, .int .i64 0, .int .i64 0, .complex .f64 0 0, .int .i64 0, .int .i64 0, .int .i64 0, .int .i64 0, .string ⟨#[]⟩, .int .i64 0, .string ⟨#[]⟩, .int .i64 0, .string ⟨#[]⟩, .slice none 0 0, .slice none 0 0] 45) = W1 := ⟨_, rfl⟩
        obtain ⟨W2, hW2⟩ : ∃ W2, W1.setRow wr.heap.size X = W2 := ⟨_, rfl⟩
        have bx := boxB hW1
        have ms := msgSt_of bx.1 rfl HX.out.2.2.1 HX.out.2.2.2 hW2
        have bx2 : Hid (W2.heap[wr.heap.size]? = some (.cells X 45 (0, 0)) ∧ Below wr.heap.size wr W2) := by
          refine ⟨by rw [← hW2]; exact setRow_heap _ _ _ _ _ _ bx.1, ?_⟩
          rw [← hW2]
          exact (onlyR W1 wr.heap.size X).below bx.2 bx.2.size (fun k hk => by rw [hk]; exact Nat.le_refl _)
        have ml2 := msgLd_of bx2.out.1 HX.out.2.2.1
        have hcall := HP.out W2 x (only_below HO.out bx2.out.2)
        rw [hX] at hcall
        clear hX hx hD hcl bx
        have hltz : (j : Int) < (n : Int) := by omega
        have hiz : (i : Int) < (n : Int) := by omega
        cases hq : p x with
        | true =>
          rw [hq] at hcall
          go_wp2_with (go_at_fn f; refine hcall.mono ?_; rintro e w2 ⟨rfl, hb2⟩)
          exact ⟨⟨i, j + 1, D, rfl, by simp, by omega, by omega, HK.out.skip hlt HX.out.1 hq, owns_below HW.out (chainB bx2.out.2 hb2), only_below HO.out (chainB bx2.out.2 hb2)⟩, by simp [intOf]; omega⟩
        | false =>
          rw [hq] at hcall
          go_wp2_with (go_at_fn f; refine hcall.mono ?_; rintro e w2 ⟨rfl, hb2⟩; have hb3 := chainB bx2.out.2 hb2; have ml3 := msgLd_of (hkeep bx2.out.1 hb2) HX.out.2.2.1; obtain ⟨W4, hs4, hr4, ho4⟩ := putM (x := x) (i := i) (owns_below HW.out hb3) HK.out.len (by omega); rw [HX.out.2.1] at hs4; have H4 : Hid (W4.ownsRow base 45 16 (.slice (some ⟨g, 0, none⟩) n cap) n (mc (D.set i x)) ∧ Only (· = g) w2 W4) := ⟨hr4, ho4⟩; clear hr4 ho4)
          exact ⟨⟨i + 1, j + 1, D.set i x, by simp, by simp, by omega, by omega, HK.out.keep hlt HX.out.1 hq, H4.out.1, (only_below HO.out hb3).trans H4.out.2⟩, by simp [intOf]; omega⟩
      · obtain rfl : j = n := by omega
        have hltz : ¬ (j : Int) < (j : Int) := by omega
        obtain ⟨w3, hcl, hr3, ho3⟩ := run_clear_own (P := Try.prog) wr 60 45 0 (.agg #[.int .i64 0, .int .i64 0, .int .i64 0, .int .i64 0, .complex .f64 0 0, .int .i64 0, .int .i64 0, .int .i64 0, .int .i64 0, .string ⟨#[]⟩, .int .i64 0, .string ⟨#[]⟩, .int .i64 0, .string ⟨#[]⟩, .slice none 0 0, .slice none 0 0]) 16 Try.underlying60 Try.zeroValue45 rfl (by simp [Value.cells, Value.oneCell']) (by omega) g j i (cap - i) cap base (mc D) HW.out (Nat.le_of_lt hij)
        have hci : i < cap := by omega
        rw [mc_take, HK.out.done HN.out] at hr3
        have hlen : (ks.filter fun x => !p x).length = i := by
          rw [← HK.out.done HN.out, List.length_take, HK.out.len]; omega
        have HR : Hid (RowM w3 base (.slice (some ⟨g, 0, none⟩) i cap) (ks.filter fun x => !p x)) := by
          show World.ownsRow _ _ _ _ _ _ _
          rw [hlen]; exact hr3
        have HL : Hid ((ks.filter fun x => !p x).length = i) := hlen
        clear hr3 hlen
        clear hmx
        go_wp2
        go_ret
        rw [HL.out]
        exact ⟨rfl, HR.out, HO.out.trans ho3⟩
end
section
open Go.RowKit Go.Shelf
attribute [local go_sem ↓ high] loadMsg storeMsg

/-- append where there is room, as one step of a region that draws -/
theorem step_append_fits {P : Program} {w : World} {ops : Array Oper} {o : Oper} {a : Act} {K : Act → World → Prop} {Q : Exit → Act → World → Prop} {E : Prop} (hgd : o.guard = none) (s x : Operand) (t : TypeId)
    (ho : o.op = .call { callee := .builtin .append, args := #[s, x], argTypes := #[t, t] })
    (v xv r : Value) (hs : a.eval s = v) (hx : a.eval x = xv) (W : World) (hr : ∀ ty, (Builtin.append_ #[t, t] ty #[v, xv]).run P w = .ok r W)
    (h : K (a.put o.dst r) W) :
    if Region.wanted o (yielded ops a.tmps) = true then Oper.wp P o a w K Q else E := by
  have hw : Region.wanted o (yielded ops a.tmps) = true := by simp [Region.wanted, hgd]
  rw [if_pos hw]
  unfold Oper.wp execOp
  simp only [ho, resolve, invoke, builtin, Sem.run_bind, Sem.run_pure, Result.andThen_ok, List.map_toArray, List.map_cons, List.map_nil, hs, hx, hr]
  exact h
theorem append_self {w : World} {base g n cap i : Nat} {l : List Hm} (h : w.ownsRow base 45 16 (.slice (some ⟨g, 0, none⟩) n cap) n (mc l)) (hn : l.length = n) (hi : i < n) (ad : Addr) (c : Nat) (had : i + 1 < n → ad = ⟨g, (i + 1) * 16, none⟩) :
    ∃ W, (∀ ty, (Builtin.append_ #[60, 60] ty #[.slice (some ⟨g, 0, none⟩) i cap, .slice (some ad) (n - (i + 1)) c]).run Try.prog w = .ok (.slice (some ⟨g, 0, none⟩) (n - 1) cap) W) ∧ W.ownsRow base 45 16 (.slice (some ⟨g, 0, none⟩) (n - 1) cap) (n - 1) (mc (l.eraseIdx i)) ∧ Only (· = g) w W := by
  obtain ⟨i1, hi1, hw0, hw1, hw2⟩ := info_parts Try.infoMg
  obtain ⟨hc, hf, hcap, hmx, hb0, hg⟩ := owns_cells h
  have hfr : w.ownsRow base 45 16 (.slice (some ⟨g, 0, none⟩) i cap) i (mc (l.take i)) := owns_front h (Nat.le_of_lt hi) (mc_take l i) (by rw [mc_len, List.length_take]; omega)
  have key : ∀ ty, ∃ w', (Builtin.append_ #[60, 60] ty #[.slice (some ⟨g, 0, none⟩) i cap, .slice (some ad) (n - (i + 1)) c]).run Try.prog w = .ok (.slice (some ⟨g, 0, none⟩) (i + (n - (i + 1))) cap) w' ∧ w'.ownsRow base 45 16 (.slice (some ⟨g, 0, none⟩) (i + (n - (i + 1))) cap) (i + (n - (i + 1))) (mc (l.take i) ++ mc (l.drop (i + 1))) ∧ w.grownBy w' (some g) := fun ty =>
    run_append_fits (P := Try.prog) w base 60 ty 45 i1 16 Try.underlying60 hi1 hw1 g i cap (mc (l.take i)) hfr ad (n - (i + 1)) c (mc (l.drop (i + 1))) (by rw [mc_len, List.length_drop, hn]) (fun j u hu => by
      have hlt := (List.getElem?_eq_some_iff.1 hu).1
      rw [mc_len, List.length_drop, hn] at hlt
      rw [had (by omega), add_plain']
      apply hc
      rw [← mc_drop, List.getElem?_drop] at hu
      exact hu) (mc_one _) (by omega)
  have he : i + (n - (i + 1)) = n - 1 := by omega
  rw [he] at key
  obtain ⟨W, hr, ho, hgr⟩ := key 0
  refine ⟨W, fun ty => ?_, ?_, ?_⟩
  · obtain ⟨W', hr', _⟩ := key ty
    have : (Builtin.append_ #[60, 60] ty #[.slice (some ⟨g, 0, none⟩) i cap, .slice (some ad) (n - (i + 1)) c]).run Try.prog w = (Builtin.append_ #[60, 60] 0 #[.slice (some ⟨g, 0, none⟩) i cap, .slice (some ad) (n - (i + 1)) c]).run Try.prog w := rfl
    rw [this]; exact hr
  · rw [List.eraseIdx_eq_take_drop_succ, mc_app]; exact ho
  · exact (only_grown hgr).mono fun k hk => (Option.some.inj hk).symm
set_option maxHeartbeats 4000000 in
set_option maxRecDepth 1000000 in
theorem delete_one (g n cap base i : Nat) (l : List Hm) (w : World) (h : w.ownsRow base 45 16 (.slice (some ⟨g, 0, none⟩) n cap) n (mc l)) (hn : l.length = n) (hs : n ≤ 1000000) (hi : i < n) :
    Calls Try.prog 30 #[.slice (some ⟨g, 0, none⟩) n cap, .int .i64 i, .int .i64 (i + 1)] w fun e w' => e = .returned (.slice (some ⟨g, 0, none⟩) (n - 1) cap) ∧ RowM w' base (.slice (some ⟨g, 0, none⟩) (n - 1) cap) (l.eraseIdx i) ∧ Only (· = g) w w' := by
  obtain ⟨hc, hf, hcap, hmx, hb0, hg⟩ := owns_cells h
  have hlen : (l.eraseIdx i).length = n - 1 := by rw [List.length_eraseIdx_of_lt (by omega), hn]
  have hne : ((i : Int) == (i : Int) + 1) = false := beq_eq_false_iff_ne.2 (by omega)
  obtain ⟨ad, had, hadv⟩ : ∃ ad : Addr, (i + 1 < n → ad = ⟨g, (i + 1) * 16, none⟩) ∧ ad = (if cap = i + 1 then ⟨g, 0, none⟩ else ⟨g, (i + 1) * 16, none⟩) := ⟨_, fun hh => if_neg (by omega), rfl⟩
  have hz1 : (0 : Int) ≤ (i : Int) + 1 := by omega
  have hz2 : (i : Int) + 1 ≤ (n : Int) := by omega
  have hz3 : (i : Int) ≤ (i : Int) + 1 := by omega
  have hz4 : ((i : Int) + 1).toNat = i + 1 := by omega
  have hz5 : (n : Int) ≤ (cap : Int) := by omega
  obtain ⟨W, hap, hro, hon⟩ := append_self (w := w.drew) h hn hi ad (cap - (i + 1)) had
  obtain ⟨ys, hys, hyt⟩ := owns_longer hro (Nat.sub_le n 1) hcap
  obtain ⟨w3, hcl, hr3, ho3⟩ := run_clear_own (P := Try.prog) W 60 45 0 (.agg #[.int .i64 0, .int .i64 0, .int .i64 0, .int .i64 0, .complex .f64 0 0, .int .i64 0, .int .i64 0, .int .i64 0, .int .i64 0, .string ⟨#[]⟩, .int .i64 0, .string ⟨#[]⟩, .int .i64 0, .string ⟨#[]⟩, .slice none 0 0, .slice none 0 0]) 16 Try.underlying60 Try.zeroValue45 rfl (by simp [Value.cells, Value.oneCell']) (by omega) g n (n - 1) (cap - (n - 1)) cap base ys hys (Nat.sub_le n 1)
  have HR : Hid (RowM w3 base (.slice (some ⟨g, 0, none⟩) (n - 1) cap) (l.eraseIdx i) ∧ Only (· = g) w w3) := by
    refine ⟨?_, (Only.drew (Only.refl _ w)).trans (hon.trans ho3)⟩
    show World.ownsRow _ _ _ _ _ _ _
    rw [hlen, ← hyt]; exact hr3
  obtain ⟨N, hN⟩ : ∃ N, n - 1 = N := ⟨_, rfl⟩
  rw [hN] at hcl HR hap ⊢
  have hNc : N < cap := by omega
  have hNn : N ≤ n := by omega
  have hz6 : (i : Int) ≤ (cap : Int) := by omega
  have hz7 : i ≤ cap := by omega
  have hz8 : (N : Int) ≤ (n : Int) := by omega
  have hz9 : i + 1 ≤ n := by omega
  have HN : Hid (n - 1 = N) := hN
  clear h hc hf hro hon hys hyt hr3 ho3 had hlen hmx hN
  by_cases hce : cap = i + 1
  · have hni : n = i + 1 := by omega
    have hNi : N = i := by have := HN.out; omega
    subst hNi
    subst hni
    rw [if_pos hce] at hadv
    subst hadv
    subst hce
    rw [show N + 1 - (N + 1) = 0 by omega] at hap
    rw [show N + 1 - N = 1 by omega] at hcl
    go_enter Try.func30, Try.ntmps30
    go_upto_region 5 with fail
    go_region_held3 (fun _ => True) (trivial)
      (first | (refine step_append_fits rfl (.tmp 22) (.tmp 25) 60 rfl _ _ _ (by simp [Act.eval]) (by simp [Act.eval]) W hap ?_))
    go_wp2
    go_ret
    exact ⟨rfl, HR.out⟩
  · rw [if_neg hce] at hadv
    subst hadv
    go_enter Try.func30, Try.ntmps30
    go_upto_region 5 with fail
    go_region_held3 (fun _ => True) (trivial)
      (first | (refine step_append_fits rfl (.tmp 22) (.tmp 25) 60 rfl _ _ _ (by simp [Act.eval]) (by simp [Act.eval]) W hap ?_))
    go_wp2
    go_ret
    exact ⟨rfl, HR.out⟩
end
end Go.Proofs.Ytpmcecenhgppbaa
