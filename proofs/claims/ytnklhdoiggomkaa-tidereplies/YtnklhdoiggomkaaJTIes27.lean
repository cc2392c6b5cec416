/- Lists of keys compared. -/
import Derived.Test.YtnklhdoiggomkaaJTIes05
import Derived.Test.YtnklhdoiggomkaaJTIes25
import Derived.Test.YtnklhdoiggomkaaJTIes26
namespace Go.Proofs.Ytnklhdoiggomkaa
section
open Go.RowKit
attribute [local go_sem high] eqK neqK eqE neqE eqN neqN guardK guardE guardN

/-- are two lists the same -/
def sameKs : List Ky → List Ky → Bool
  | [], [] => true
  | a :: l, b :: m => (decide (a.d = b.d) && decide (a.nm = b.nm)) && sameKs l m
  | _, _ => false
theorem sameKs_iff : ∀ (l m : List Ky), sameKs l m = true ↔ l = m
  | [], [] => by simp [sameKs]
  | [], b :: m => by simp [sameKs]
  | a :: l, [] => by simp [sameKs]
  | a :: l, b :: m => by
    rw [sameKs, Bool.and_eq_true, sameKs_iff l m]
    obtain ⟨a1, a2⟩ := a
    obtain ⟨b1, b2⟩ := b
    simp
theorem sameKs_no {l m : List Ky} (h : ¬ l = m) : sameKs l m = false := by
  cases k : sameKs l m with
  | false => rfl
  | true => exact absurd ((sameKs_iff l m).1 k) h
set_option maxHeartbeats 4000000 in
theorem sameK_any (v v' : Value) (l l' : List Ky) (base base' : Nat) (w : World) (h : RowK w base v l) (h' : RowK w base' v' l') (hl : l.length ≤ 1000000000) (hl' : l'.length ≤ 1000000000) :
    Calls Try.prog 29 #[v, v'] w fun e w' => e = .returned (.bool (sameKs l l')) ∧ Below w.heap.size w w' := by
  obtain ⟨a, cap, rfl⟩ := owns_len h
  obtain ⟨a', cap', rfl⟩ := owns_len h'
  by_cases hn : l.length = l'.length
  · obtain ⟨n, hn1⟩ : ∃ n, l.length = n := ⟨_, rfl⟩
    have hn2 : l'.length = n := by omega
    rw [hn1] at hl
    have HC : Hid (RowK w base (.slice a n cap) l ∧ RowK w base' (.slice a' n cap') l' ∧ l.length = n ∧ l'.length = n) := ⟨by rw [← hn1]; exact h, by rw [← hn2]; exact h', hn1, hn2⟩
    rw [hn1, hn2]
    clear h h' hn hn1 hn2 hl'
    go_enter Try.func29, Try.ntmps29
    go_wp2
    go_loopw [5] (fun i wr => ∃ k : Nat, k ≤ n ∧ i = .int .i64 k ∧ l.take k = l'.take k ∧ Below w.heap.size w wr) (fun i _ => n - (intOf i).toNat)
    case atStart => exact ⟨0, Nat.zero_le _, rfl, rfl, Below.refl _ _⟩
    case round =>
      obtain ⟨k, hk, rfl, ht, hb⟩ := hrel
      by_cases hlt : k < n
      · obtain ⟨e, he⟩ : ∃ x, l[k]? = some x := ⟨_, List.getElem?_eq_getElem (by rw [HC.out.2.2.1]; exact hlt)⟩
        obtain ⟨f, hf⟩ : ∃ x, l'[k]? = some x := ⟨_, List.getElem?_eq_getElem (by rw [HC.out.2.2.2]; exact hlt)⟩
        obtain ⟨g, rfl, -, -, x0, x1, -⟩ := (HC.out.1.below hb).key he
        obtain ⟨g', rfl, -, -, y0, y1, -⟩ := (HC.out.2.1.below hb).key hf
        have hki : (k : Int) < (n : Int) := by omega
        by_cases hxx : e = f
        · have HT : Hid (l.take (k + 1) = l'.take (k + 1)) := take_snocK ht he (hxx ▸ hf)
          subst hxx
          clear he hf ht
          go_upto_region 6 with fail
          go_quiet (fail)
          go_wp2
          exact ⟨⟨k + 1, by omega, by simp, HT.out, below_drewN hb _⟩, by simp [intOf]; omega⟩
        · have HE : Hid (sameKs l l' = false) := sameKs_no (by rintro rfl; rw [he] at hf; exact hxx (Option.some.inj hf))
          have hne : decide (e.d = f.d ∧ e.nm = f.nm) = false := decide_eq_false (fun h => hxx (by cases e; cases f; simp only at h; rw [h.1, h.2]))
          clear he hf ht hxx
          go_upto_region 6 with fail
          go_quiet (fail)
          go_wp2
          go_ret
          exact ⟨by rw [HE.out]; rfl, below_drewN hb _⟩
      · have hkl : k = n := by omega
        subst hkl
        have HE : Hid (sameKs l l' = true) := (sameKs_iff l l').2 (take_eqK ht HC.out.2.2.1.symm HC.out.2.2.2.symm)
        clear ht
        go_wp2
        go_ret
        exact ⟨by rw [HE.out]; rfl, hb⟩
  · have HE : Hid (sameKs l l' = false) := sameKs_no (by rintro rfl; exact hn rfl)
    have hne : ((l.length : Int) != (l'.length : Int)) = true := by simp; omega
    clear h h'
    go_enter Try.func29, Try.ntmps29
    go_wp2
    go_ret
    exact ⟨by rw [HE.out]; rfl, Below.refl _ _⟩
end
section
open Go.RowKit Go.Shelf

theorem Try.stoodO : Try.prog.stoodInHeld 32 = false := by kernel_rfl
theorem Try.guardO : Try.prog.eqGuardType Try.prog.depth 32 = false := by kernel_rfl
theorem Try.undO : Try.prog.underlying 32 = some (.struct (Try.prog.fieldsOf 32)) := by kernel_rfl
theorem guardO (w : World) (op : BinOp) (p q : Operand) (xs ys : Array Value) : (eqGuard op 32 p q (.agg xs) (.agg ys)).run Try.prog w = .ok () w := run_eqGuard_agg w op _ p q xs ys Try.guardO
/-- are two ops the same (shut) -/
def eqOp (e f : Opn) : Bool := decide (e.kind = f.kind) && (decide (e.dir = f.dir) && (decide (e.nm = f.nm) && (decide (e.dst = f.dst) && (decide (e.new = f.new) && (decide (e.mode = f.mode) && decide (e.tg = f.tg))))))
theorem eqOp_iff (e f : Opn) : eqOp e f = true ↔ e = f := by
  obtain ⟨a, b, c, d, g, h, i⟩ := e
  obtain ⟨a', b', c', d', g', h', i'⟩ := f
  unfold eqOp
  simp
theorem eqInO (n : Nat) (w : World) (e f : Opn) : (Op.equalIn (n + 1 + 1) 32 (.agg #[.int .i64 e.kind, .int .i64 e.dir, .string e.nm, .int .i64 e.dst, .string e.new, .int .i64 e.mode, .string e.tg]) (.agg #[.int .i64 f.kind, .int .i64 f.dir, .string f.nm, .int .i64 f.dst, .string f.new, .int .i64 f.mode, .string f.tg])).run Try.prog w = .ok (eqOp e f) w := by
  rw [run_equalIn_agg _ _ _ _ _ Try.undO Try.stoodO]
  simp [Program.fieldsOf, Try.underlying32, Op.eqFields, go_sem]
  simp only [bytes_eq]
  unfold eqOp
  obtain ⟨a, b, c, d, g, h, i⟩ := e
  obtain ⟨a', b', c', d', g', h', i'⟩ := f
  by_cases h1 : a = a' <;> by_cases h2 : b = b' <;> by_cases h3 : c = c' <;> by_cases h4 : d = d' <;> by_cases h5 : g = g' <;> by_cases h6 : h = h' <;> by_cases h7 : i = i' <;> simp [h1, h2, h3, h4, h5, h6, h7]
theorem eqO (w : World) (a b d m a' b' d' m' : Int) (x y z x' y' z' : ByteArray) : (binOp .eql 32 (.agg #[.int .i64 a, .int .i64 b, .string x, .int .i64 d, .string y, .int .i64 m, .string z]) (.agg #[.int .i64 a', .int .i64 b', .string x', .int .i64 d', .string y', .int .i64 m', .string z'])).run Try.prog w = .ok (.bool (eqOp ⟨a, b, x, d, y, m, z⟩ ⟨a', b', x', d', y', m', z'⟩)) w := by
  rw [run_eql_struct]
  have := eqInO 9998 w ⟨a, b, x, d, y, m, z⟩ ⟨a', b', x', d', y', m', z'⟩
  rw [this]; rfl
theorem neqO (w : World) (a b d m a' b' d' m' : Int) (x y z x' y' z' : ByteArray) : (binOp .neq 32 (.agg #[.int .i64 a, .int .i64 b, .string x, .int .i64 d, .string y, .int .i64 m, .string z]) (.agg #[.int .i64 a', .int .i64 b', .string x', .int .i64 d', .string y', .int .i64 m', .string z'])).run Try.prog w = .ok (.bool (!eqOp ⟨a, b, x, d, y, m, z⟩ ⟨a', b', x', d', y', m', z'⟩)) w := by
  rw [run_neq_struct]
  have := eqInO 9998 w ⟨a, b, x, d, y, m, z⟩ ⟨a', b', x', d', y', m', z'⟩
  rw [this]; rfl
attribute [local go_sem high] eqO neqO guardO eqC

theorem Mk.feq {a b : Nat} {e n : Int} (h : Mk a b e n) : (Op.floatEq .f64 a a && Op.floatEq .f64 b b) = true := by
  rw [floatEq_whole h.ha h.ha, floatEq_whole h.hb h.hb]; simp
set_option maxRecDepth 20000 in
set_option maxHeartbeats 16000000 in
theorem same_msg {w : World} {x y : Hm} {e n : Int} (hm : x.m = y.m) (hmk : Mk x.m.re x.m.im e n) (hx : Lists w 0 x) (hy : Lists w 0 y) (hle : x.m.es.length ≤ 1000000000) (hlk : x.m.ks.length ≤ 1000000000) :
    Calls Try.prog 50 #[.agg x.arr, .agg y.arr] w fun e w' => e = .returned (.bool true) ∧ Below w.heap.size w w' := by
  obtain ⟨⟨kind, client, life, seq, re, im, vers, err, op, es, ks⟩, ae, ce, ak, ck⟩ := x
  obtain ⟨m2, ae2, ce2, ak2, ck2⟩ := y
  obtain rfl : (⟨kind, client, life, seq, re, im, vers, err, op, es, ks⟩ : Pm) = m2 := hm
  have he : Row7 w 0 (.slice ae es.length ce) es := hx.es
  have he2 : Row7 w 0 (.slice ae2 es.length ce2) es := hy.es
  have hk : RowK w 0 (.slice ak ks.length ck) ks := hx.ks
  have hk2 : RowK w 0 (.slice ak2 ks.length ck2) ks := hy.ks
  replace hle : es.length ≤ 1000000000 := hle
  replace hlk : ks.length ≤ 1000000000 := hlk
  have hfe : (Op.floatEq .f64 re re && Op.floatEq .f64 im im) = true := Mk.feq hmk
  clear hx hy hmk
  unfold Hm.arr Hm.ve Hm.vk Pm.arr
  simp only []
  obtain ⟨W, hW⟩ : ∃ W, w.alloc (.cells #[.int .i64 kind, .int .i64 client, .int .i64 life, .int .i64 seq, .complex .f64 re im, .int .i64 vers, .int .i64 err, .int .i64 op.kind, .int .i64 op.dir, .string op.nm, .int .i64 op.dst, .string op.new, .int .i64 op.mode, .string op.tg, .slice ae es.length ce, .slice ak ks.length ck] 45) = W := ⟨_, rfl⟩
  obtain ⟨W2, hW2⟩ : ∃ W2, W.alloc (.cells #[.int .i64 kind, .int .i64 client, .int .i64 life, .int .i64 seq, .complex .f64 re im, .int .i64 vers, .int .i64 err, .int .i64 op.kind, .int .i64 op.dir, .string op.nm, .int .i64 op.dst, .string op.new, .int .i64 op.mode, .string op.tg, .slice ae2 es.length ce2, .slice ak2 ks.length ck2] 45) = W2 := ⟨_, rfl⟩
  have hb := boxB hW
  have hb2 := boxB hW2
  have HB : Hid (W2.heap[w.heap.size]? = some (.cells #[.int .i64 kind, .int .i64 client, .int .i64 life, .int .i64 seq, .complex .f64 re im, .int .i64 vers, .int .i64 err, .int .i64 op.kind, .int .i64 op.dir, .string op.nm, .int .i64 op.dst, .string op.new, .int .i64 op.mode, .string op.tg, .slice ae es.length ce, .slice ak ks.length ck] 45 (0, 0)) ∧ W2.heap[W.heap.size]? = some (.cells #[.int .i64 kind, .int .i64 client, .int .i64 life, .int .i64 seq, .complex .f64 re im, .int .i64 vers, .int .i64 err, .int .i64 op.kind, .int .i64 op.dir, .string op.nm, .int .i64 op.dst, .string op.new, .int .i64 op.mode, .string op.tg, .slice ae2 es.length ce2, .slice ak2 ks.length ck2] 45 (0, 0)) ∧ Below w.heap.size w W2) := ⟨hkeep hb.1 hb2.2, hb2.1, chainB hb.2 hb2.2⟩
  have x0 := cell_of HB.out.1 0
  have y0 := cell_of HB.out.2.1 0
  have x1 := cell_of HB.out.1 1
  have y1 := cell_of HB.out.2.1 1
  have x2 := cell_of HB.out.1 2
  have y2 := cell_of HB.out.2.1 2
  have x3 := cell_of HB.out.1 3
  have y3 := cell_of HB.out.2.1 3
  have x4 := cell_of HB.out.1 4
  have y4 := cell_of HB.out.2.1 4
  have x5 := cell_of HB.out.1 5
  have y5 := cell_of HB.out.2.1 5
  have x6 := cell_of HB.out.1 6
  have y6 := cell_of HB.out.2.1 6
  have x7 := cell_of HB.out.1 7
  have y7 := cell_of HB.out.2.1 7
  have x8 := cell_of HB.out.1 8
  have y8 := cell_of HB.out.2.1 8
  have x9 := cell_of HB.out.1 9
  have y9 := cell_of HB.out.2.1 9
  have x10 := cell_of HB.out.1 10
  have y10 := cell_of HB.out.2.1 10
  have x11 := cell_of HB.out.1 11
  have y11 := cell_of HB.out.2.1 11
  have x12 := cell_of HB.out.1 12
  have y12 := cell_of HB.out.2.1 12
  have x13 := cell_of HB.out.1 13
  have y13 := cell_of HB.out.2.1 13
  have x14 := cell_of HB.out.1 14
  have y14 := cell_of HB.out.2.1 14
  have x15 := cell_of HB.out.1 15
  have y15 := cell_of HB.out.2.1 15
  simp at x0 y0 x1 y1 x2 y2 x3 y3 x4 y4 x5 y5 x6 y6 x7 y7 x8 y8 x9 y9 x10 y10 x11 y11 x12 y12 x13 y13 x14 y14 x15 y15
  have HSe : Hid (∀ W3, Below W2.heap.size W2 W3 → Calls Try.prog 31 #[.slice ae es.length ce, .slice ae2 es.length ce2] W3 fun e w' => e = .returned (.bool true) ∧ Below W3.heap.size W3 w') := fun W3 h3 => by
    have := sameE_any _ _ es es 0 0 W3 (he.below (chainB HB.out.2.2 h3)) (he2.below (chainB HB.out.2.2 h3)) hle hle
    rw [(sameEs_iff es es).2 rfl] at this
    exact this
  have HSk : Hid (∀ W3, Below W2.heap.size W2 W3 → Calls Try.prog 29 #[.slice ak ks.length ck, .slice ak2 ks.length ck2] W3 fun e w' => e = .returned (.bool true) ∧ Below W3.heap.size W3 w') := fun W3 h3 => by
    have := sameK_any _ _ ks ks 0 0 W3 (hk.below (chainB HB.out.2.2 h3)) (hk2.below (chainB HB.out.2.2 h3)) hlk hlk
    rw [(sameKs_iff ks ks).2 rfl] at this
    exact this
  have heO : eqOp ⟨op.kind, op.dir, op.nm, op.dst, op.new, op.mode, op.tg⟩ ⟨op.kind, op.dir, op.nm, op.dst, op.new, op.mode, op.tg⟩ = true := (eqOp_iff _ _).2 rfl
  clear he he2 hk hk2 hb hb2
  go_enter Try.func50, Try.ntmps50
  go_upto_region 1 with fail
  clear hW hW2
  go_wp2_with (first
    | (go_at_call 31; refine (HSe.out _ (Below.refl _ _)).mono ?_; rintro e w1 ⟨rfl, hb1⟩; have p15 := cell_of (hkeep HB.out.1 hb1) 15; have q15 := cell_of (hkeep HB.out.2.1 hb1) 15; simp at p15 q15)
    | (go_at_call 29; refine (HSk.out _ hb1).mono ?_; rintro e w2 ⟨rfl, hb2⟩))
  go_ret
  exact ⟨rfl, chainB HB.out.2.2 (chainB hb1 hb2)⟩
end
section
open Go.RowKit Go.Shelf

theorem kc_append (a b : List Ky) : kc (a ++ b) = kc a ++ kc b := by unfold kc; rw [List.flatMap_append]
/-- keys behind keys -/
theorem keys_append {w : World} {B B2 : Nat} {v v2 : Value} {l l2 : List Ky} (h : RowK w B v l) (h2 : RowK w B2 v2 l2) (hB : B ≤ w.heap.size) (hl : l.length + l2.length ≤ 1000000) :
    ∃ v3 W, (∀ ty, (Builtin.append_ #[34, 34] ty #[v, v2]).run Try.prog w = .ok v3 W) ∧ RowK W B v3 (l ++ l2) ∧ Only (fun k => v.ownBlock = some k) w W := by
  obtain ⟨i1, hi1, hw0, hw1, hw2⟩ := info_parts Try.infoKy
  have hr2 := h2
  rcases h2.2 with ⟨rfl, e2⟩ | ⟨g, cap, cur, rfl, _⟩
  · obtain rfl := List.length_eq_zero_iff.1 e2
    refine ⟨v, w, fun ty => run_append_owned_none (P := Try.prog) (w := w) B 34 ty 65 i1 2 Try.underlying34 hi1 v l.length (kc l) h, by rw [List.append_nil]; exact h, Only.refl _ _⟩
  · obtain ⟨hc, _⟩ := owns_cells hr2
    have key : ∀ ty, ∃ v' w', (Builtin.append_ #[34, 34] ty #[v, .slice (some ⟨g, 0, none⟩) l2.length cap]).run Try.prog w = .ok v' w' ∧ w'.ownsRow B 65 2 v' (l.length + l2.length) (kc l ++ kc l2) ∧ w.grownBy w' v.ownBlock := fun ty => by
      obtain ⟨v', w', a1, a2, a3, _, _⟩ := run_append_own_at (P := Try.prog) w B 34 ty 65 i1 _ 2 24 Try.underlying34 hi1 hw0 hw1 hw2 rfl (by decide) v l.length (kc l) h ⟨g, 0, none⟩ l2.length cap (kc l2) (kc_len l2) (fun j u hu => by rw [add_plain', Nat.zero_add]; exact hc j u hu) (kc_one l2) (by unfold maxLen; omega) (by omega) hB
      exact ⟨v', w', a1, a2, a3⟩
    obtain ⟨v', W, a1, a2, a3⟩ := key 0
    refine ⟨v', W, fun ty => ?_, ?_, only_grown a3⟩
    · have : (Builtin.append_ #[34, 34] ty #[v, .slice (some ⟨g, 0, none⟩) l2.length cap]).run Try.prog w = (Builtin.append_ #[34, 34] 0 #[v, .slice (some ⟨g, 0, none⟩) l2.length cap]).run Try.prog w := rfl
      rw [this]; exact a1
    · show World.ownsRow _ _ _ _ _ _ _
      rw [List.length_append, kc_append]; exact a2
theorem row_below {B : Nat} {v : Value} {w W w0 : World} {l : List Ky} (h : RowK w B v l) (hb : Below B w0 w) (hB : B ≤ w.heap.size) (ho : Only (fun k => v.ownBlock = some k) w W) : Below B w0 W := ho.below hb hB fun k hk => (World.ownsRow.lt h k hk).1
/-- the law's own list: which have come -/
def cmA (C : Nat → Bool) : Array Value := ((List.range 10).map fun j => Value.bool (C j)).toArray
theorem cmA_get (C : Nat → Bool) (j : Nat) (h : j < 10) : (cmA C)[j]? = some (.bool (C j)) := by
  unfold cmA
  rw [List.getElem?_toArray, List.getElem?_map, List.getElem?_range h]; rfl
theorem cmA_set (C : Nat → Bool) (k : Nat) : (cmA C).setIfInBounds k (.bool true) = cmA fun j => C j || decide (j = k) := by
  apply Array.ext'
  rw [Array.toList_setIfInBounds]
  apply List.ext_getElem?
  intro j
  unfold cmA
  rw [List.getElem?_set]
  simp only [List.length_map, List.length_range]
  by_cases hj : j < 10
  · rw [List.getElem?_map, List.getElem?_map, List.getElem?_range hj]
    by_cases e : k = j
    · subst e; simp [hj]
    · have e' : ¬ j = k := fun h => e h.symm
      simp [e, e']
  · rw [List.getElem?_eq_none (by simp; omega), List.getElem?_eq_none (by simp; omega)]
    by_cases e : k = j
    · subst e; simp [hj]
    · simp [e]
theorem cmA_zero : (Array.replicate 10 (.bool false) : Array Value) = cmA fun _ => false := by rfl
structure Oc (w W : World) (t : Nat) (a : Option Addr) (N c : Nat) (S : Ts) (F : Nat → Prop) (ms : List Hm) (g : Nat) (C : Nat → Bool) : Prop where
  om : Om w W t a N c S F ms
  fg : F g
  low : w.heap.size ≤ g
  hp : W.heap[g]? = some (.cells (cmA C) 4 (0, 0))
theorem Oc.below {w W V : World} {t : Nat} {a : Option Addr} {N c : Nat} {S : Ts} {F : Nat → Prop} {ms : List Hm} {g : Nat} {C : Nat → Bool} (h : Oc w W t a N c S F ms g C) (hb : Below W.heap.size W V) : Oc w V t a N c S F ms g C := ⟨h.om.below hb, h.fg, h.low, hkeep h.hp hb⟩
theorem Oc.on {w W V : World} {t : Nat} {a : Option Addr} {N c : Nat} {S S' : Ts} {F : Nat → Prop} {ms : List Hm} {g : Nat} {C : Nat → Bool} (h : Oc w W t a N c S F ms g C) (ho : Om w V t a N c S' F ms) (hk : Kt F W V) : Oc w V t a N c S' F ms g C := ⟨ho, h.fg, h.low, (hk.mine g h.fg (Array.getElem?_eq_some_iff.1 h.hp).1).trans h.hp⟩
theorem Oc.set {w W V : World} {t : Nat} {a : Option Addr} {N c : Nat} {S : Ts} {F : Nat → Prop} {ms : List Hm} {g : Nat} {C : Nat → Bool} (h : Oc w W t a N c S F ms g C) (k : Nat) (hV : W.setCell ⟨g, k, none⟩ (.bool true) = V) : Oc w V t a N c S F ms g (fun j => C j || decide (j = k)) ∧ Only (· = g) W V := by
  subst hV
  have ho := only1 W g k (.bool true)
  have ht : Tag W g 4 := ⟨_, _, h.hp⟩
  refine ⟨⟨⟨h.om.lt.mine ho (fun q hq => by rw [hq]; exact ⟨h.fg, h.low⟩), owns_moved h.om.row fun q e => ho.block q (Tag.own h.om.row e).lt fun hq => (ht.ne (Tag.own h.om.row e) (by decide)) hq.symm, h.om.own, fun z hz => (h.om.each z hz).only ho fun q hq => ⟨by rw [hq]; exact ht.two (by decide), by rw [hq]; exact ht.two (by decide)⟩, h.om.say⟩, h.fg, h.low, ?_⟩, ho⟩
  have := heap_set h.hp k (.bool true)
  rw [cmA_set] at this; exact this
/-- what the law holds between two messages -/
def oS (i n : Nat) (L : List Nat) : Ts := if i = 0 then Ts.new 1 1 8 else bS 8 n L
def oA (i n n' : Nat) : List Ac := if i = 0 then allA :: actsN n n' else actsN n n'
structure Ok8 (N i n : Nat) (L : List Nat) (C : Nat → Bool) : Prop where
  rest : bRest n L
  top : ∀ j ∈ L, j ≤ N
  le : n ≤ N
  came : ∀ j, C j = true ↔ Came n L j
  zero : i = 0 → n = 0 ∧ L = []
theorem Ok8.start (N : Nat) : Ok8 N 0 0 [] (fun _ => false) := ⟨⟨(fun j hj => by cases hj), (fun j hj => by cases hj), List.Pairwise.nil⟩, (fun j hj => by cases hj), Nat.zero_le _, (fun j => by
  constructor
  · intro h; cases h
  · rintro (h | h)
    · omega
    · cases h), fun _ => ⟨rfl, rfl⟩⟩
theorem Ok8.step {N i n : Nat} {L : List Nat} {C : Nat → Bool} (h : Ok8 N i n L C) (hN : N ≤ 8) (k : Nat) (hk : k < N) :
    ∃ n' L', (oS i n L).take (brkN (k + 1)) = (bS 8 n' L', oA i n n') ∧ Ok8 N (i + 1) n' L' (fun j => C j || decide (j = k + 1)) ∧ n ≤ n' ∧ (∀ j, n < j → j ≤ n' → (C j || decide (j = k + 1)) = true) ∧ (C (n' + 1) || decide (n' + 1 = k + 1)) = false := by
  have hs := step_b 8 n L (k + 1) (by omega) (by omega) h.rest
  have hle := step_le 8 n L (k + 1)
  have hcs := came_step h.rest (fun j hj => Nat.le_trans (h.top j hj) hN) (show 1 ≤ k + 1 by omega) (show k + 1 ≤ 8 by omega)
  obtain ⟨p, hp⟩ : ∃ p, stepN 8 n L (k + 1) = p := ⟨_, rfl⟩
  rw [hp] at hs hle hcs
  have hC : ∀ j, (C j || decide (j = k + 1)) = true ↔ Came p.1 p.2 j := fun j => by
    rw [← hcs j, Bool.or_eq_true, h.came j, decide_eq_true_iff]
  have hin : ∀ j, Came p.1 p.2 j → j ≤ N := fun j hj => by
    rcases (hcs j).2 hj with hj | hj
    · rcases hj with hj | hj
      · have := h.le; omega
      · exact h.top j hj
    · omega
  refine ⟨p.1, p.2, ?_, ⟨hs.2, fun j hj => hin j (.inr hj), ?_, hC, fun e => by omega⟩, hle, fun j h1 h2 => (hC j).2 (.inl ⟨by omega, h2⟩), ?_⟩
  · unfold oS oA
    by_cases hi : i = 0
    · obtain ⟨rfl, rfl⟩ := h.zero hi
      rw [if_pos hi, if_pos hi, order_first k (by omega), hp]
    · rw [if_neg hi, if_neg hi, order_next h.rest k (by omega), hp]
  · rcases Nat.eq_zero_or_pos p.1 with e | e
    · omega
    · exact hin p.1 (.inl ⟨e, Nat.le_refl _⟩)
  · cases hq : (C (p.1 + 1) || decide (p.1 + 1 = k + 1)) with
    | false => rfl
    | true => exact absurd ((hC _).1 hq) (came_not hs.2)
theorem oA_keys (i n n' : Nat) : (oA i n n').flatMap Ac.ks = keysN n n' := by
  unfold oA
  split
  · rw [List.flatMap_cons, acts_keys]; rfl
  · exact acts_keys n n'
theorem oA_get (i n n' j : Nat) (c : Ac) (h : (oA i n n')[j]? = some c) : c.all = decide (i = 0 ∧ j = 0) ∧ c.again = false ∧ c.reply = false := by
  unfold oA at h
  by_cases hi : i = 0
  · rw [if_pos hi] at h
    cases j with
    | zero => simp at h; subst h; simp [allA, hi]
    | succ j =>
      simp at h
      obtain ⟨a, b, d⟩ := acts_plain n n' c (List.mem_of_getElem? h)
      exact ⟨by rw [a]; simp, b, d⟩
  · rw [if_neg hi] at h
    obtain ⟨a, b, d⟩ := acts_plain n n' c (List.mem_of_getElem? h)
    exact ⟨by rw [a]; simp [hi], b, d⟩
end
end Go.Proofs.Ytnklhdoiggomkaa
