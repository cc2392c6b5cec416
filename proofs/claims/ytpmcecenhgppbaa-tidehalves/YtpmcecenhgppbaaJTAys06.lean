/- slices.Clone at keys and entries; IndexFunc, ContainsFunc, Delete, DeleteFunc at messages. -/
import Derived.Test.YtpmcecenhgppbaaJTAys05
import Derived.Shelf.Abstract
namespace Go.Proofs.Ytpmcecenhgppbaa
section
open Go.RowKit Go.Shelf
attribute [local go_sem ↓ high] loadMsg storeMsg

theorem clone_k (v : Value) (ks : List Ky) (B : Nat) (w : World) (h : RowK w B v ks) (hl : ks.length * 24 ≤ LB) :
    Calls Try.prog 58 #[v] w fun e w' => ∃ a c, e = .returned (.slice a ks.length c) ∧ RowK w' w.heap.size (.slice a ks.length c) ks ∧ Below w.heap.size w w' := by
  obtain ⟨i1, hi1, hw0, hw1, hw2⟩ := info_parts Try.infoKy
  unfold LB at hl
  have h' := h
  rcases h.2 with ⟨rfl, h2⟩ | ⟨g, cap, cur, rfl, _⟩
  · obtain rfl := List.length_eq_zero_iff.1 h2
    have hcon := AnyE.slices_Clone_nil Try.cloneK 0 0 w
    change Calls Try.prog 58 _ _ _ at hcon
    refine hcon.mono ?_
    rintro e w' ⟨rfl, rfl⟩
    exact ⟨_, _, rfl, World.ownsRow_nil _ _ _ _, Below.refl _ _⟩
  · obtain ⟨hc, _⟩ := owns_cells h'
    have hcon := AnyE.slices_Clone Try.cloneK i1 _ 2 24 hi1 hw0 hw1 hw2 rfl (by decide) Try.sizeOf53 g 0 ks.length cap (kc ks) w (kc_len ks) (by unfold maxLen; omega) (by omega) (fun j u hu => by rw [Nat.zero_add]; exact hc j u hu) (kc_one ks)
    change Calls Try.prog 58 _ _ _ at hcon
    refine hcon.mono ?_
    rintro e w' ⟨v', rfl, h1, _, h2⟩
    obtain ⟨a, c, rfl⟩ := owns_len h1
    exact ⟨a, c, rfl, h1, h2⟩
theorem clone_e (v : Value) (es : List En) (B : Nat) (w : World) (h : Row7 w B v es) (hl : es.length * 72 ≤ LB) :
    Calls Try.prog 57 #[v] w fun e w' => ∃ a c, e = .returned (.slice a es.length c) ∧ Row7 w' w.heap.size (.slice a es.length c) es ∧ Below w.heap.size w w' := by
  obtain ⟨i1, hi1, hw0, hw1, hw2⟩ := info_parts Try.infoE
  unfold LB at hl
  have h' := h
  rcases h.2 with ⟨rfl, h2⟩ | ⟨g, cap, cur, rfl, _⟩
  · obtain rfl := List.length_eq_zero_iff.1 h2
    have hcon := AnyE.slices_Clone_nil Try.cloneE 0 0 w
    change Calls Try.prog 57 _ _ _ at hcon
    refine hcon.mono ?_
    rintro e w' ⟨rfl, rfl⟩
    exact ⟨_, _, rfl, World.ownsRow_nil _ _ _ _, Below.refl _ _⟩
  · obtain ⟨hc, _⟩ := owns_cells h'
    have hcon := AnyE.slices_Clone Try.cloneE i1 _ 7 72 hi1 hw0 hw1 hw2 rfl (by decide) Try.sizeOf57 g 0 es.length cap (ec es) w (ec_len es) (by unfold maxLen; omega) (by omega) (fun j u hu => by rw [Nat.zero_add]; exact hc j u hu) (ec_one es)
    change Calls Try.prog 57 _ _ _ at hcon
    refine hcon.mono ?_
    rintro e w' ⟨v', rfl, h1, _, h2⟩
    obtain ⟨a, c, rfl⟩ := owns_len h1
    exact ⟨a, c, rfl, h1, h2⟩

theorem get_bang {α : Type} [Inhabited α] {ks : List α} {i : Nat} {x : α} (h : ks[i]? = some x) : ks[i]! = x := by rw [List.getElem!_eq_getElem?_getD, h]; rfl
/-- the place of the first -/
def idxP {α : Type} (p : α → Bool) (l : List α) : Int := match l.findIdx? p with | some i => (i : Int) | none => -1
theorem idx_is {α : Type} [Inhabited α] (p : α → Bool) (ks : List α) (n : Nat) (hn : ks.length = n) : Lib.idxBy (fun _ y => p y) (ks.take n) default = idxP p ks := by
  subst hn
  unfold idxP
  cases h : ks.findIdx? p with
  | none =>
    rw [List.findIdx?_eq_none_iff] at h
    refine Lib.idxBy_miss _ ks _ _ fun j hj => ?_
    have hj' := List.getElem?_eq_getElem hj
    show p ks[j]! = false
    rw [get_bang hj']; exact h _ (by simp)
  | some i =>
    rw [List.findIdx?_eq_some_iff_getElem] at h
    obtain ⟨hi, hq, hno⟩ := h
    have hg := List.getElem?_eq_getElem hi
    refine Lib.idxBy_hit _ ks _ i default hi (Nat.le_refl _) (by show p ks[i]! = true; rw [get_bang hg]; exact hq) fun j hj => ?_
    have hj' := List.getElem?_eq_getElem (show j < ks.length by omega)
    show p ks[j]! = false
    rw [get_bang hj']; simpa using hno j hj
theorem index_nil (f : Value) (a : Option Addr) (c : Nat) (w : World) : Calls Try.prog 43 #[.slice a 0 c, f] w fun e w' => e = .returned (.int .i64 (-1)) ∧ w' = w := by
  go_enter Try.func43, Try.ntmps43
  go_wp2
  go_loopw [5, 8] (fun _ i wr => i = .int .i64 0 ∧ wr = w) (fun _ _ _ => 0)
  case atStart => exact ⟨rfl, rfl⟩
  case round =>
    obtain ⟨rfl, rfl⟩ := hrel
    go_wp2
    go_ret
    exact ⟨rfl, rfl⟩
/-- IndexFunc at a row of messages -/
theorem index_m (f : Nat) (lb : Array Value) (p : Hm → Bool) (v : Value) (B : Nat) (l : List Hm) (w : World) (h : RowM w B v l) (hs : l.length ≤ 1000000)
    (eg : ∀ args w, (callFunc f args).run Try.prog w = .ok (.enter f args) w)
    (hp : ∀ (W : World) (x : Hm), Below w.heap.size w W → Calls Try.prog f (#[.agg x.arr] ++ lb) W fun e w' => e = .returned (.bool (p x)) ∧ Below W.heap.size W w') :
    Calls Try.prog 43 #[v, .func (.func f) #[] lb] w fun e w' => e = .returned (.int .i64 (idxP p l)) ∧ Below w.heap.size w w' := by
  have iK : Inhabited Hm := ⟨⟨⟨0, 0, 0, 0, 0, 0, 0, 0, ⟨0, 0, ⟨#[]⟩, 0, ⟨#[]⟩, 0, ⟨#[]⟩⟩, [], []⟩, none, 0, none, 0⟩⟩
  have h' := h
  rcases h.2 with ⟨rfl, h2⟩ | ⟨g, cap, cur, rfl, _⟩
  · obtain rfl := List.length_eq_zero_iff.1 h2
    refine (index_nil _ none 0 w).mono ?_
    rintro e w' ⟨rfl, rfl⟩
    exact ⟨rfl, Below.refl _ _⟩
  · obtain ⟨hc, hf, hcap, hmx, hb0, hg⟩ := owns_cells h'
    have hIF := AnyQ.slices_IndexFunc Try.indexM 16 Try.isAgg45 Try.sizeOf45 Hm.vals (fun _ => rfl) p f lb eg g 0 l.length cap l w
      (fun W x hb => by
        have := hp W x hb
        rw [show (Value.agg x.arr) = .agg x.vals.toArray by rw [Hm.vals, Array.toArray_toList]] at this
        exact this.mono fun e w' hh => ⟨hh.1, chainB hb hh.2⟩) (Nat.le_refl _) (by omega) hg (fun j hj i v hi => by
        rw [Nat.zero_add]
        have hx := List.getElem?_eq_getElem hj
        rw [get_bang hx] at hi
        have hi16 : i < 16 := (List.getElem?_eq_some_iff.1 hi).1
        apply hc
        rw [mc_get l j i _ hx hi16]; exact hi)
    change Calls Try.prog 43 _ _ _ at hIF
    rw [idx_is p l l.length rfl] at hIF
    exact hIF
theorem contains_m (f : Nat) (lb : Array Value) (p : Hm → Bool) (a : Option Addr) (n c : Nat) (B : Nat) (l : List Hm) (w : World) (h : RowM w B (.slice a n c) l) (hs : l.length ≤ 1000000)
    (eg : ∀ args w, (callFunc f args).run Try.prog w = .ok (.enter f args) w)
    (hp : ∀ (W : World) (x : Hm), Below w.heap.size w W → Calls Try.prog f (#[.agg x.arr] ++ lb) W fun e w' => e = .returned (.bool (p x)) ∧ Below W.heap.size W w') :
    Calls Try.prog 65 #[.slice a n c, .func (.func f) #[] lb] w fun e w' => e = .returned (.bool (l.any p)) ∧ Below w.heap.size w w' := by
  have HI : Hid (Calls Try.prog 43 #[.slice a n c, .func (.func f) #[] lb] w fun e w' => e = .returned (.int .i64 (idxP p l)) ∧ Below w.heap.size w w') := index_m f lb p (.slice a n c) B l w h hs eg hp
  have HA0 : decide (0 ≤ idxP p l) = l.any p := by
    unfold idxP
    cases h : l.findIdx? p with
    | none =>
      rw [List.findIdx?_eq_none_iff] at h
      symm
      simp only [show ¬ (0 : Int) ≤ -1 by omega, decide_false]
      rw [List.any_eq_false]
      intro x hx
      rw [h x hx]; simp
    | some i =>
      rw [List.findIdx?_eq_some_iff_getElem] at h
      obtain ⟨hi, hq, _⟩ := h
      simp only [show (0 : Int) ≤ (i : Int) by omega, decide_true]
      symm
      rw [List.any_eq_true]
      exact ⟨l[i], by simp, hq⟩
  have HA : Hid (decide (0 ≤ idxP p l) = l.any p) := HA0
  clear HA0
  obtain ⟨r, hr⟩ : ∃ r, idxP p l = r := ⟨_, rfl⟩
  obtain ⟨b, hbb⟩ : ∃ b, l.any p = b := ⟨_, rfl⟩
  rw [hr] at HI HA
  rw [hbb] at HA ⊢
  clear h hs eg hp hr hbb
  go_enter Try.func65, Try.ntmps65
  go_wp2_with (go_at_call 43; refine HI.out.mono ?_; rintro e w' ⟨rfl, hb⟩)
  go_ret
  exact ⟨by rw [← HA.out]; rfl, hb⟩
end
section
open Go.RowKit Go.Shelf
attribute [local go_sem ↓ high] loadMsg storeMsg

/-- a row whose front has stayed -/
theorem owns_kept {w w' : World} {base : Nat} {e : TypeId} {size g n cap : Nat} {xs : List Value} (h : w.ownsRow base e size (.slice (some ⟨g, 0, none⟩) n cap) n xs) (hw : ∀ cur f, w.heap[g]? = some (.cells cur e f) → f = (0, 0) → ∃ cur' : Array Value, w'.heap[g]? = some (.cells cur' e (0, 0)) ∧ cur'.size = cur.size ∧ cur'.toList.take (n * size) = cur.toList.take (n * size)) : w'.ownsRow base e size (.slice (some ⟨g, 0, none⟩) n cap) n xs := by
  refine ⟨h.1, .inr ?_⟩
  rcases h.2 with ⟨e, _⟩ | ⟨g', cap', cur, e, hg, hh, r1, r2, r3, r4⟩
  · cases e
  · cases e
    obtain ⟨cur', k1, k2, k3⟩ := hw cur _ hh rfl
    exact ⟨g, cap, cur', rfl, hg, k1, r1, r2, by rw [k2, r3], by rw [k3, r4]⟩
/-- clear of what lies behind a place of a row -/
theorem run_clear_own {P : Program} (w : World) (t e ty : TypeId) (z : Value) (k : Nat) (ht : P.underlying t = some (.slice e)) (hv : ∀ w, (zeroValue e).run P w = .ok z w) (hz : z.cells.size = k) (h1 : ∀ v ∈ z.cells.toList, v.oneCell' = true) (hk : 0 < k)
    (g n i c cap base : Nat) (xs : List Value) (hw : w.ownsRow base e k (.slice (some ⟨g, 0, none⟩) n cap) n xs) (hi : i ≤ n) :
    ∃ w', (Builtin.clear_ #[t] ty #[.slice (some ⟨g, i * k, none⟩) (n - i) c]).run P w = .ok (.tuple #[]) w' ∧ w'.ownsRow base e k (.slice (some ⟨g, 0, none⟩) i cap) i (xs.take (i * k)) ∧ Only (· = g) w w' := by
  have hfr : w.ownsRow base e k (.slice (some ⟨g, 0, none⟩) i cap) i (xs.take (i * k)) := owns_front hw hi rfl (by rw [List.length_take, hw.1, Nat.min_eq_left (Nat.mul_le_mul_right _ hi)])
  by_cases h0 : n - i = 0
  · refine ⟨w, ?_, hfr, Only.refl _ _⟩
    rw [h0]
    simp [Builtin.clear_, run_underlying ht]
  · obtain ⟨m, hm⟩ : ∃ m, n - i = m + 1 := ⟨n - i - 1, by omega⟩
    obtain ⟨zs, hzs⟩ : ∃ zs, (Builtin.zeroCells z.cells (n - i)).toList = zs := ⟨_, rfl⟩
    have hlen : zs.length = (n - i) * k := by rw [← hzs]; simp [Builtin.zeroCells, hz]
    have hone : ∀ v ∈ zs, v.oneCell' = true := by
      intro v hv
      rw [← hzs] at hv
      unfold Builtin.zeroCells at hv
      simp only [Array.toList_map, List.mem_map] at hv
      obtain ⟨j, _, rfl⟩ := hv
      have hj : j % z.cells.size < z.cells.size := Nat.mod_lt _ (by omega)
      rw [getElem!_pos z.cells _ hj]
      exact h1 _ (by simp)
    rcases hw.2 with ⟨e', _⟩ | ⟨g', cap', cur, e', hg, hh, r1, r2, r3, r4⟩
    · cases e'
    · cases e'
      have hmul : i * k + (n - i) * k = n * k := by rw [← Nat.add_mul]; congr 1; omega
      have hcap : n * k ≤ cap * k := Nat.mul_le_mul_right _ r1
      have hfit : i * k + zs.length ≤ cur.size := by rw [hlen, r3]; omega
      have hst := run_storeCells_at P g (i * k) e zs 0 cur w hh (by simpa using hfit) hone
      refine ⟨w.setRow g (cur.toList.take (i * k) ++ zs ++ cur.toList.drop (i * k + zs.length)).toArray, ?_, ?_, onlyR _ _ _⟩
      · rw [hm] at hzs ⊢
        have hst' : Sem.run P (storeCells ⟨g, i * k, none⟩ zs) w = .ok () (w.setRow g (cur.toList.take (i * k) ++ (zs ++ cur.toList.drop (i * k + zs.length))).toArray) := by simpa using hst
        simp [Builtin.clear_, run_underlying ht, hv, hzs]
        rw [hst']; rfl
      · refine owns_kept hfr fun cur0 f hc hf => ?_
        rw [hh] at hc
        cases hc
        refine ⟨_, setRow_heap w g _ _ e _ hh, ?_, ?_⟩
        · simp only [List.size_toArray, List.length_append, List.length_take, List.length_drop, Array.length_toList]
          omega
        · rw [List.append_assoc, List.take_append_of_le_length (by rw [List.length_take, Array.length_toList]; omega), List.take_take, Nat.min_self]

theorem row_only {S : Nat → Prop} {w w' : World} {base : Nat} {e : TypeId} {size g n cap : Nat} {xs : List Value} (h : w.ownsRow base e size (.slice (some ⟨g, 0, none⟩) n cap) n xs) (hO : Only S w w') (hS : ¬ S g) : w'.ownsRow base e size (.slice (some ⟨g, 0, none⟩) n cap) n xs :=
  owns_moved h fun k hk => by
    have e : g = k := Option.some.inj hk
    subst e
    exact hO.block _ (owns_cells h).2.2.2.2.2 hS
/-- what has been kept of a list so far -/
structure Kept {α : Type} (p : α → Bool) (ks D : List α) (n i j : Nat) : Prop where
  len : D.length = n
  le : i ≤ j
  jn : j ≤ n
  low : D.take i = (ks.take j).filter fun x => !p x
  high : ∀ m, j ≤ m → D[m]? = ks[m]?
theorem Kept.skip {α : Type} {p : α → Bool} {ks D : List α} {n i j : Nat} {x : α} (h : Kept p ks D n i j) (hj : j < n) (hx : ks[j]? = some x) (hp : p x = true) : Kept p ks D n i (j + 1) :=
  ⟨h.len, by have := h.le; omega, hj, by rw [h.low, List.take_add_one, hx, List.filter_append]; simp [hp], fun m hm => h.high m (by omega)⟩
theorem Kept.keep {α : Type} {p : α → Bool} {ks D : List α} {n i j : Nat} {x : α} (h : Kept p ks D n i j) (hj : j < n) (hx : ks[j]? = some x) (hp : p x = false) : Kept p ks (D.set i x) n (i + 1) (j + 1) := by
  have hi : i < D.length := by have := h.len; have := h.le; omega
  refine ⟨by rw [List.length_set]; exact h.len, by have := h.le; omega, hj, ?_, fun m hm => ?_⟩
  · rw [List.take_add_one, List.take_set_of_le (Nat.le_refl _), h.low, List.getElem?_set_self hi, List.take_add_one, hx, List.filter_append]
    simp [hp]
  · have := h.le
    rw [List.getElem?_set_ne (by omega)]; exact h.high m (by omega)
theorem Kept.done {α : Type} {p : α → Bool} {ks D : List α} {n i : Nat} (h : Kept p ks D n i n) (hn : ks.length = n) : D.take i = ks.filter fun x => !p x := by
  rw [h.low, List.take_of_length_le (by omega)]
theorem Kept.start {α : Type} {p : α → Bool} {ks : List α} {n i : Nat} {x : α} (hn : ks.length = n) (hx : ks[i]? = some x) (hp : p x = true) (hno : ∀ (m : Nat) (y : α), m < i → ks[m]? = some y → p y = false) : Kept p ks ks n i (i + 1) := by
  have hi := (List.getElem?_eq_some_iff.1 hx).1
  refine ⟨hn, by omega, by omega, ?_, fun _ _ => rfl⟩
  rw [List.take_add_one, hx, List.filter_append]
  simp [hp]
  symm
  rw [List.filter_eq_self]
  intro y hy
  obtain ⟨m, hm⟩ := List.getElem?_of_mem hy
  have hlt : m < i := by have := (List.getElem?_eq_some_iff.1 hm).1; simp at this; omega
  rw [List.getElem?_take_of_lt hlt] at hm
  rw [hno m y hlt hm]; rfl
theorem idx_cases {α : Type} (p : α → Bool) (ks : List α) : (idxP p ks = -1 ∧ ∀ x ∈ ks, p x = false) ∨
    ∃ i x, ks[i]? = some x ∧ p x = true ∧ (∀ (m : Nat) (y : α), m < i → ks[m]? = some y → p y = false) ∧ idxP p ks = (i : Int) := by
  unfold idxP
  cases h : ks.findIdx? p with
  | none =>
    rw [List.findIdx?_eq_none_iff] at h
    exact .inl ⟨rfl, h⟩
  | some i =>
    rw [List.findIdx?_eq_some_iff_getElem] at h
    obtain ⟨hi, hq, hno⟩ := h
    refine .inr ⟨i, ks[i], List.getElem?_eq_getElem hi, hq, fun m y hm hy => ?_, rfl⟩
    have := hno m hm
    rw [← (List.getElem?_eq_some_iff.1 hy).2]; simpa using this
theorem only_below {S : Nat → Prop} {w W w' : World} (h : Only S w W) (hb : Below W.heap.size W w') : Only S w w' := h.trans (Only.of hb)
/-- a message laid over another one of a row -/
theorem putM {w : World} {base g n cap i : Nat} {D : List Hm} {x : Hm} (h : w.ownsRow base 45 16 (.slice (some ⟨g, 0, none⟩) n cap) n (mc D)) (hn : D.length = n) (hi : i < n) : ∃ W, (msgSt (.pointer (some ⟨g, i * 16, none⟩)) (.agg x.arr)).run Try.prog w = .ok () W ∧ W.ownsRow base 45 16 (.slice (some ⟨g, 0, none⟩) n cap) n (mc (D.set i x)) ∧ Only (· = g) w W := by
  rcases h.2 with ⟨e, _⟩ | ⟨g', cap', cur, e, hg, hh, r1, r2, r3, r4⟩
  · cases e
  · cases e
    have hf : i * 16 + 16 ≤ cur.size := by rw [r3]; omega
    refine ⟨_, msgSt_at hh rfl hf x.one' rfl, ⟨by rw [mc_len, List.length_set, hn], .inr ⟨g, cap, _, rfl, hg, setRow_heap w g _ _ 45 _ hh, r1, r2, ?_, ?_⟩⟩, onlyR _ _ _⟩
    · simp only [List.size_toArray, List.length_append, List.length_take, List.length_drop, Array.length_toList, Hm.size]
      omega
    · rw [← mc_set D i x (by omega), ← r4]
      have hl16 : x.arr.toList.length = 16 := rfl
      have htl : (cur.toList.take (i * 16)).length = i * 16 := by simp; omega
      simp only [Hm.vals]
      rw [List.take_append, List.take_append, List.take_take, htl, List.length_append, htl, hl16, Nat.min_eq_right (by omega), List.take_of_length_le (i := n * 16 - i * 16) (by rw [hl16]; omega), List.take_take, Nat.min_eq_left (by omega), List.drop_take]
theorem delete_nil (f : Value) (w : World) : Calls Try.prog 21 #[.slice none 0 0, f] w fun e w' => e = .returned (.slice none 0 0) ∧ w' = w := by
  go_enter Try.func21, Try.ntmps21
  go_wp2_with (go_at_call 43; refine (index_nil _ _ _ _).mono ?_; rintro e w' ⟨rfl, rfl⟩)
  go_ret
  exact ⟨rfl, rfl⟩
set_option maxHeartbeats 4000000 in
set_option maxRecDepth 1000000 in
theorem delete_own (f : Nat) (lb : Array Value) (p : Hm → Bool) (g n cap base : Nat) (ks : List Hm) (w : World) (h : w.ownsRow base 45 16 (.slice (some ⟨g, 0, none⟩) n cap) n (mc ks)) (hn : ks.length = n) (hs : n ≤ 1000000)
    (eg : ∀ args w, (callFunc f args).run Try.prog w = .ok (.enter f args) w)
    (hp : ∀ (W : World) (x : Hm), Only (· = g) w W → Calls Try.prog f (#[.agg x.arr] ++ lb) W fun e w' => e = .returned (.bool (p x)) ∧ Below W.heap.size W w') :
    Calls Try.prog 21 #[.slice (some ⟨g, 0, none⟩) n cap, .func (.func f) #[] lb] w fun e w' => e = .returned (.slice (some ⟨g, 0, none⟩) (ks.filter fun x => !p x).length cap) ∧ RowM w' base (.slice (some ⟨g, 0, none⟩) (ks.filter fun x => !p x).length cap) (ks.filter fun x => !p x) ∧ Only (· = g) w w' := by
  obtain ⟨hc, hf, hcap, hmx, hb0, hg⟩ := owns_cells h
  have hIF := index_m f lb p (.slice (some ⟨g, 0, none⟩) n cap) base ks w (by show World.ownsRow _ _ _ _ _ _ _; rw [hn]; exact h) (by omega) eg (fun W x hb => hp W x (Only.of hb))
  rcases idx_cases p ks with ⟨e1, hno⟩ | ⟨i0, x0, hx0, hp0, hno, e1⟩
  · rw [e1] at hIF
    have hfil : (ks.filter fun x => !p x) = ks := by
      rw [List.filter_eq_self]
      intro x hx; rw [hno x hx]; rfl
    rw [hfil]
    subst hn
    have HH : Hid _ := h
    clear h hc hf hp hfil hno e1
    go_enter Try.func21, Try.ntmps21
    go_wp2_with (go_at_call 43; refine hIF.mono ?_; rintro e w' ⟨rfl, hb1⟩)
    go_ret
    exact ⟨rfl, owns_below HH.out hb1, Only.of hb1⟩
  · rw [e1] at hIF
    have hi0 : i0 < n := by rw [← hn]; exact (List.getElem?_eq_some_iff.1 hx0).1
    have HS : Hid (Kept p ks ks n i0 (i0 + 1)) := Kept.start hn hx0 hp0 hno
    have HH : Hid (w.ownsRow base 45 16 (.slice (some ⟨g, 0, none⟩) n cap) n (mc ks)) := h
    have HP : Hid (∀ (W : World) (x : Hm), Only (· = g) w W → Calls Try.prog f (#[.agg x.arr] ++ lb) W fun e w' => e = .returned (.bool (p x)) ∧ Below W.heap.size W w') := hp
    have HN : Hid (ks.length = n) := hn
    have hne : ((i0 : Int) == -1) = false := beq_eq_false_iff_ne.2 (by omega)
    clear h hc hf hp hno e1 hx0 hp0 hn
    go_enter Try.func21, Try.ntmps21
    go_wp2_with (go_at_call 43; refine hIF.mono ?_; rintro e w0 ⟨rfl, hb1⟩)
    go_loopw [5, 6, 7] (fun s5 s6 _ wr => ∃ (i j : Nat) (D : List Hm), s5 = .int .i64 i ∧ s6 = .int .i64 j ∧ j ≤ n ∧ i < j ∧ Hid (Kept p ks D n i j) ∧ Hid (wr.ownsRow base 45 16 (.slice (some ⟨g, 0, none⟩) n cap) n (mc D)) ∧ Hid (Only (· = g) w wr)) (fun _ s6 _ _ => n - (intOf s6).toNat)
    case atStart => exact ⟨i0, i0 + 1, ks, rfl, by simp, by omega, by omega, HS, owns_below HH.out hb1, Only.of hb1⟩
    case round =>
      obtain ⟨i, j, D, rfl, rfl, hjn, hij, HK, HW, HO⟩ := hrel
      by_cases hlt : j < n
      · obtain ⟨x, hx⟩ : ∃ x, ks[j]? = some x := ⟨_, List.getElem?_eq_getElem (by rw [HN.out]; exact hlt)⟩
        have hD : D[j]? = some x := by rw [HK.out.high j (Nat.le_refl _)]; exact hx
        obtain ⟨g', hg', -, -, hgl, hcl⟩ := owns_msg (by show World.ownsRow _ _ _ _ _ _ _; rw [HK.out.len]; exact HW.out : RowM wr base (.slice (some ⟨g, 0, none⟩) n cap) D) hD
        cases hg'
        have ml := msgLd_at hcl x.size
        obtain ⟨X, hX⟩ : ∃ X, x.arr = X := ⟨_, rfl⟩
        have HX : Hid (ks[j]? = some x ∧ x.arr = X ∧ X.size = 16 ∧ X.all (·.oneCell') = true) := ⟨hx, hX, by rw [← hX]; rfl, by rw [← hX]; exact x.one⟩
        rw [hX] at ml
        obtain ⟨W1, hW1⟩ : ∃ W1, wr.alloc (.cells #[.int .i64 0, .int .i64 0, .int .i64 0, .int .i64 0, .complex .f64 0 0, .int .i64 0, .int .i64 0, .int .i64 0, .int .i64 0, .string ⟨#[]⟩, .int .i64 0, .string ⟨#[]⟩, .int .i64 0, .string ⟨#[]⟩, .slice none 0 0, .slice none 0 0] 45) = W1 := ⟨_, rfl⟩
        obtain ⟨W2, hW2⟩ : ∃ W2, W1.setRow wr.heap.size X = W2 := ⟨_, rfl⟩
        have bx := boxB hW1
        have ms := msgSt_of bx.1 rfl HX.out.2.2.1 HX.out.2.2.2 hW2
        have bx2 : Hid (W2.heap[wr.heap.size]? = some (.cells X 45 (0, 0)) ∧ Below wr.heap.size wr W2) := by
          refine ⟨by rw [← hW2]; exact setRow_heap _ _ _ _ _ _ bx.1, ?_⟩
          rw [← hW2]
          exact (onlyR W1 wr.heap.size X).below bx.2 bx.2.size (fun k hk => by rw [hk]; exact Nat.le_refl _)
        have ml2 := msgLd_of bx2.out.1 HX.out.2.2.1
        have hcall := HP.out W2 x (only_below HO.out bx2.out.2)
        rw [hX] at hcall
        clear hX hx hD hcl bx
        have hltz : (j : Int) < (n : Int) := by omega
        have hiz : (i : Int) < (n : Int) := by omega
        cases hq : p x with
        | true =>
          rw [hq] at hcall
          go_wp2_with (go_at_fn f; refine hcall.mono ?_; rintro e w2 ⟨rfl, hb2⟩)
          exact ⟨⟨i, j + 1, D, rfl, by simp, by omega, by omega, HK.out.skip hlt HX.out.1 hq, owns_below HW.out (chainB bx2.out.2 hb2), only_below HO.out (chainB bx2.out.2 hb2)⟩, by simp [intOf]; omega⟩
        | false =>
          rw [hq] at hcall
          go_wp2_with (go_at_fn f; refine hcall.mono ?_; rintro e w2 ⟨rfl, hb2⟩; have hb3 := chainB bx2.out.2 hb2; have ml3 := msgLd_of (hkeep bx2.out.1 hb2) HX.out.2.2.1; obtain ⟨W4, hs4, hr4, ho4⟩ := putM (x := x) (i := i) (owns_below HW.out hb3) HK.out.len (by omega); rw [HX.out.2.1] at hs4; have H4 : Hid (W4.ownsRow base 45 16 (.slice (some ⟨g, 0, none⟩) n cap) n (mc (D.set i x)) ∧ Only (· = g) w2 W4) := ⟨hr4, ho4⟩; clear hr4 ho4)
          exact ⟨⟨i + 1, j + 1, D.set i x, by simp, by simp, by omega, by omega, HK.out.keep hlt HX.out.1 hq, H4.out.1, (only_below HO.out hb3).trans H4.out.2⟩, by simp [intOf]; omega⟩
      · obtain rfl : j = n := by omega
        have hltz : ¬ (j : Int) < (j : Int) := by omega
        obtain ⟨w3, hcl, hr3, ho3⟩ := run_clear_own (P := Try.prog) wr 60 45 0 (.agg #[.int .i64 0, .int .i64 0, .int .i64 0, .int .i64 0, .complex .f64 0 0, .int .i64 0, .int .i64 0, .int .i64 0, .int .i64 0, .string ⟨#[]⟩, .int .i64 0, .string ⟨#[]⟩, .int .i64 0, .string ⟨#[]⟩, .slice none 0 0, .slice none 0 0]) 16 Try.underlying60 Try.zeroValue45 rfl (by simp [Value.cells, Value.oneCell']) (by omega) g j i (cap - i) cap base (mc D) HW.out (Nat.le_of_lt hij)
        have hci : i < cap := by omega
        rw [mc_take, HK.out.done HN.out] at hr3
        have hlen : (ks.filter fun x => !p x).length = i := by
          rw [← HK.out.done HN.out, List.length_take, HK.out.len]; omega
        have HR : Hid (RowM w3 base (.slice (some ⟨g, 0, none⟩) i cap) (ks.filter fun x => !p x)) := by
          show World.ownsRow _ _ _ _ _ _ _
          rw [hlen]; exact hr3
        have HL : Hid ((ks.filter fun x => !p x).length = i) := hlen
        clear hr3 hlen
        clear hmx
        go_wp2
        go_ret
        rw [HL.out]
        exact ⟨rfl, HR.out, HO.out.trans ho3⟩
end
end Go.Proofs.Ytpmcecenhgppbaa
