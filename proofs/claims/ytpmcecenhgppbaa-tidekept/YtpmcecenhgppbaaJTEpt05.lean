/- A map from keys to marks, in memory: look-up and store. -/
import Derived.Test.YtpmcecenhgppbaaJTEpt04
import Derived.MapKept
import Derived.Shelf.SlicesE.Clone
import Derived.Shelf.SlicesQ.IndexFunc
import Derived.Test.YtpmcecenhgppbaaProg
import Derived.Shelf.Abstract
namespace Go.Proofs.Ytpmcecenhgppbaa
section
open Go.RowKit

abbrev Ml := List (Ky × Nat × Nat)
def mkv (x : Ky × Nat × Nat) : Value × Value := (x.1.agg, .complex .f64 x.2.1 x.2.2)
/-- the map's block -/
def MapAt (w : World) (g : Nat) (ml : Ml) : Prop := ∃ es clock, w.heap[g]? = some (.map es clock) ∧ es.toList.map (fun e => (e.key, e.val)) = ml.map mkv
def mlook (ml : Ml) (k : Ky) : Nat × Nat := ((ml.find? fun x => eqKy k x.1).map (·.2)).getD (0, 0)
def mput (ml : Ml) (k : Ky) (a b : Nat) : Ml := match ml with
  | [] => [(k, a, b)]
  | x :: l => if eqKy k x.1 then (k, a, b) :: l else x :: mput l k a b
theorem ml_cases (ml : Ml) (k : Ky) : (∀ x ∈ ml, eqKy k x.1 = false) ∨ ∃ A x B, ml = A ++ x :: B ∧ (∀ y ∈ A, eqKy k y.1 = false) ∧ eqKy k x.1 = true := by
  induction ml with
  | nil => exact .inl fun x hx => by cases hx
  | cons a l ih =>
    cases h : eqKy k a.1 with
    | true => exact .inr ⟨[], a, l, rfl, (fun y hy => by cases hy), h⟩
    | false =>
      rcases ih with h1 | ⟨A, x, B, rfl, h2, h3⟩
      · refine .inl fun x hx => ?_
        rcases List.mem_cons.1 hx with rfl | hx
        · exact h
        · exact h1 x hx
      · refine .inr ⟨a :: A, x, B, rfl, fun y hy => ?_, h3⟩
        rcases List.mem_cons.1 hy with rfl | hy
        · exact h
        · exact h2 y hy
theorem mlook_none {ml : Ml} {k : Ky} (h : ∀ x ∈ ml, eqKy k x.1 = false) : mlook ml k = (0, 0) := by
  unfold mlook
  rw [List.find?_eq_none.2 (fun x hx => by rw [h x hx]; simp)]; rfl
theorem mlook_some {A B : Ml} {x : Ky × Nat × Nat} {k : Ky} (h : ∀ y ∈ A, eqKy k y.1 = false) (hx : eqKy k x.1 = true) : mlook (A ++ x :: B) k = x.2 := by
  unfold mlook
  rw [List.find?_append, List.find?_eq_none.2 (fun y hy => by rw [h y hy]; simp), Option.none_or, List.find?_cons]; simp only [hx]; rfl
theorem mput_none {ml : Ml} {k : Ky} {a b : Nat} (h : ∀ x ∈ ml, eqKy k x.1 = false) : mput ml k a b = ml ++ [(k, a, b)] := by
  induction ml with
  | nil => rfl
  | cons x l ih =>
    unfold mput
    rw [h x (List.mem_cons_self ..)]
    simp only [Bool.false_eq_true, if_false, List.cons_append]
    rw [ih fun y hy => h y (List.mem_cons_of_mem _ hy)]
theorem mput_some {A B : Ml} {x : Ky × Nat × Nat} {k : Ky} {a b : Nat} (h : ∀ y ∈ A, eqKy k y.1 = false) (hx : eqKy k x.1 = true) : mput (A ++ x :: B) k a b = A ++ (k, a, b) :: B := by
  induction A with
  | nil => unfold mput; simp [hx]
  | cons y l ih =>
    rw [List.cons_append]
    unfold mput
    rw [h y (List.mem_cons_self ..)]
    simp only [Bool.false_eq_true, if_false, List.cons_append]
    rw [ih fun y hy => h y (List.mem_cons_of_mem _ hy)]
theorem mlook_put (ml : Ml) (k : Ky) (a b : Nat) (x : Ky) : mlook (mput ml k a b) x = if eqKy k x then (a, b) else mlook ml x := by
  induction ml with
  | nil =>
    unfold mput mlook
    rw [eqKy_comm k x]
    cases h : eqKy x k <;> simp [h]
  | cons y l ih =>
    unfold mput
    cases hy : eqKy k y.1 with
    | true =>
      rw [if_pos rfl]
      have : k = y.1 := (eqKy_iff _ _).1 hy
      unfold mlook
      rw [List.find?_cons, List.find?_cons]
      simp only []
      rw [← this, eqKy_comm x k]
      cases h : eqKy k x <;> simp
    | false =>
      simp only [Bool.false_eq_true, if_false]
      unfold mlook at ih ⊢
      rw [List.find?_cons, List.find?_cons]
      cases h : eqKy x y.1 with
      | true =>
        have e : x = y.1 := (eqKy_iff _ _).1 h
        rw [e, hy]; simp
      | false => exact ih
theorem checkK (w : World) (em : Bool) (k : Ky) : (Instr.checkKey em 10000 53 k.agg).run Try.prog w = .ok () w := by
  unfold Instr.checkKey Ky.agg
  simp [run_underlying Try.underlying53, go_sem]
  unfold Instr.checkKey
  simp [go_sem]
theorem equalK (w : World) (a b : Ky) : (Op.equal 53 a.agg b.agg).run Try.prog w = .ok (eqKy a b) w := by
  unfold Op.equal
  exact eqInK 9998 w a.d b.d a.nm b.nm
theorem findA_none (k : Ky) (w : World) : ∀ (es : List MapEntry) (ml : Ml) (i : Nat), es.map (fun e => (e.key, e.val)) = ml.map mkv → (∀ x ∈ ml, eqKy k x.1 = false) → (Instr.findAsking 53 k.agg es i).run Try.prog w = .ok none w
  | [], _, _, _, _ => rfl
  | e :: es, [], _, h, _ => by simp at h
  | e :: es, x :: ml, i, h, hn => by
    simp only [List.map_cons, List.cons.injEq] at h
    obtain ⟨h1, h2⟩ := h
    have hk : e.key = x.1.agg := congrArg Prod.fst h1
    have := equalK w k x.1
    rw [hn x (List.mem_cons_self ..)] at this
    unfold Instr.findAsking
    rw [hk]
    simp [this, findA_none k w es ml (i + 1) h2 fun y hy => hn y (List.mem_cons_of_mem _ hy)]
theorem findA_some (k : Ky) (w : World) (x : Ky × Nat × Nat) (B : Ml) (hx : eqKy k x.1 = true) : ∀ (es : List MapEntry) (A : Ml) (i : Nat), es.map (fun e => (e.key, e.val)) = (A ++ x :: B).map mkv → (∀ x ∈ A, eqKy k x.1 = false) → (Instr.findAsking 53 k.agg es i).run Try.prog w = .ok (some (i + A.length, .complex .f64 x.2.1 x.2.2)) w
  | [], A, _, h, _ => by simp at h
  | e :: es, [], i, h, _ => by
    simp only [List.nil_append, List.map_cons, List.cons.injEq] at h
    obtain ⟨h1, h2⟩ := h
    have hk : e.key = x.1.agg := congrArg Prod.fst h1
    have hv : e.val = .complex .f64 x.2.1 x.2.2 := congrArg Prod.snd h1
    have := equalK w k x.1
    rw [hx] at this
    unfold Instr.findAsking
    rw [hk, hv]
    simp [this]
  | e :: es, y :: A, i, h, hn => by
    simp only [List.cons_append, List.map_cons, List.cons.injEq] at h
    obtain ⟨h1, h2⟩ := h
    have hk : e.key = y.1.agg := congrArg Prod.fst h1
    have := equalK w k y.1
    rw [hn y (List.mem_cons_self ..)] at this
    unfold Instr.findAsking
    rw [hk]
    simp [this, findA_some k w x B hx es A (i + 1) h2 fun y hy => hn y (List.mem_cons_of_mem _ hy)]
    omega
theorem findNowK (k : Value) (fs : Array Field) (e : MapEntry) (es : List MapEntry) (i : Nat) : Instr.findNow (.struct fs) k (e :: es) i = none := by
  unfold Instr.findNow Instr.sameNow
  simp
theorem findK (k : Ky) (w : World) (es : List MapEntry) (r : Option (Nat × Value)) (h : (Instr.findAsking 53 k.agg es).run Try.prog w = .ok r w) : (Instr.findKey 53 k.agg es).run Try.prog w = .ok r w := by
  unfold Instr.findKey
  cases es with
  | nil =>
    simp [Instr.findAsking] at h
    subst h
    simp [run_underlying Try.undK, Instr.findNow]
  | cons e es => simp [run_underlying Try.undK, findNowK, h]
/-- a look-up -/
theorem lookM (k : Ky) (w : World) (mv : Option Nat) (ml : Ml) (h : match mv with | none => ml = [] | some g => MapAt w g ml) : (Instr.lookup 64 (.map mv) k.agg false).run Try.prog w = .ok (.complex .f64 (mlook ml k).1 (mlook ml k).2) w := by
  cases mv with
  | none =>
    simp only [] at h
    subst h
    have hf := findK k w [] none rfl
    unfold Instr.lookup
    simp [run_underlying Try.underlying64, checkK, hf, mlook]
  | some g =>
    obtain ⟨es, clock, hh, he⟩ := h
    have ho : (getObj g).run Try.prog w = .ok (.map es clock) w := MapKept.run_getObj_map hh
    unfold Instr.lookup
    rcases ml_cases ml k with hn | ⟨A, x, B, rfl, hA, hx⟩
    · have hf := findK k w es.toList none (findA_none k w es.toList ml 0 he hn)
      simp [run_underlying Try.underlying64, checkK, hf, mlook_none hn, ho]
    · have hf := findK k w es.toList _ (findA_some k w x B hx es.toList A 0 he hA)
      simp [run_underlying Try.underlying64, checkK, hf, mlook_some hA hx, ho]
theorem sameBitsK (k : Ky) (n : Nat) : Instr.sameBits (n + 1) k.agg k.agg = true := by
  unfold Instr.sameBits Ky.agg
  simp [Instr.sameBits]
  exact (MapKept.bytes_beq _ _).2 rfl
theorem only_block (w : World) (g : Nat) (o : Obj) : Only (· = g) w { w with heap := w.heap.setIfInBounds g o } :=
  ⟨rfl, rfl, rfl, by simp, fun k _ hk => Array.getElem?_setIfInBounds_ne (fun e => hk e.symm)⟩
/-- a store -/
theorem storeM (k : Ky) (a b : Nat) (w : World) (g : Nat) (ml : Ml) (h : MapAt w g ml) : ∃ w', (Instr.mapUpdate 64 (.map (some g)) k.agg (.complex .f64 a b)).run Try.prog w = .ok () w' ∧ MapAt w' g (mput ml k a b) ∧ Only (· = g) w w' := by
  obtain ⟨es, clock, hh, he⟩ := h
  have ho : (getObj g).run Try.prog w = .ok (.map es clock) w := MapKept.run_getObj_map hh
  have hg := (Array.getElem?_eq_some_iff.1 hh).1
  unfold Instr.mapUpdate
  rcases ml_cases ml k with hn | ⟨A, x, B, rfl, hA, hx⟩
  · have hf := findK k w es.toList none (findA_none k w es.toList ml 0 he hn)
    refine ⟨{ w with heap := w.heap.setIfInBounds g (.map (es.push { key := k.agg, val := .complex .f64 a b, born := clock }) (clock + 1)) }, ?_, ?_, only_block w g _⟩
    · simp [run_underlying Try.underlying64, checkK, hf, ho, MapKept.run_setObj_map _ hh]
    · refine ⟨_, _, by simp [hg]; exact ⟨rfl, rfl⟩, ?_⟩
      rw [mput_none hn]
      simp [he, mkv]
  · have hf := findK k w es.toList _ (findA_some k w x B hx es.toList A 0 he hA)
    have hlt : A.length < es.size := by
      have := congrArg List.length he
      simp at this
      omega
    have hkey : (es[A.length]?.map (·.key)).getD k.agg = k.agg := by
      have h1 := congrArg (fun l => l[A.length]?) he
      simp only [List.getElem?_map, List.getElem?_append_right (Nat.le_refl A.length), Nat.sub_self, List.getElem?_cons_zero, Option.map_some, Array.getElem?_toList] at h1
      rw [Array.getElem?_eq_getElem hlt, Option.map_some] at h1
      rw [Array.getElem?_eq_getElem hlt, Option.map_some, Option.getD_some]
      have h2 := congrArg Prod.fst (Option.some.inj h1)
      rw [show es[A.length].key = x.1.agg from h2, ← (eqKy_iff _ _).1 hx]
    refine ⟨{ w with heap := w.heap.setIfInBounds g (.map (es.modify A.length fun e => { e with key := k.agg, val := .complex .f64 a b }) clock) }, ?_, ?_, only_block w g _⟩
    · simp [run_underlying Try.underlying64, checkK, hf, ho, MapKept.run_setObj_map _ hh, hkey, Instr.keyThatStays, sameBitsK k 9999]
    · refine ⟨_, _, by simp [hg]; exact ⟨rfl, rfl⟩, ?_⟩
      rw [mput_some hA hx]
      apply List.ext_getElem?
      intro j
      have h1 := congrArg (fun l => l[j]?) he
      simp only [List.getElem?_map, Array.getElem?_toList, Array.getElem?_modify] at h1 ⊢
      by_cases e : A.length = j
      · subst e
        rw [if_pos rfl, Array.getElem?_eq_getElem hlt, List.getElem?_append_right (Nat.le_refl A.length), Nat.sub_self]
        rfl
      · rw [if_neg e]
        rw [h1]
        rcases Nat.lt_or_ge j A.length with h | h
        · rw [List.getElem?_append_left h, List.getElem?_append_left h]
        · rw [List.getElem?_append_right h, List.getElem?_append_right h, List.getElem?_cons, List.getElem?_cons, if_neg (by omega), if_neg (by omega)]
end
section
open Go.Shelf
def Try.cloneK_ren : Go.Shelf.Ren := ⟨fun | 41 => 58 | n => n, fun | 22 => 34 | 23 => 53 | 4 => 4 | n => n, fun | n => n⟩
theorem Try.cloneK : Go.Proofs.SlLaysE0.n41 Try.prog Try.cloneK_ren := {
  mixed := by kernel_rfl
  f41 := ⟨Try.f58.name, by decide, Try.func58.trans (congrArg some (by kernel_rfl))⟩
  t4 := Try.underlying4
  a4 := Try.isAgg4
  z4 := Try.sizeOf4
  v4 := Try.zeroValue4
  t22 := Try.underlying34
  a22 := Try.isAgg34
  z22 := Try.sizeOf34
  v22 := Try.zeroValue34 }
def Try.cloneE_ren : Go.Shelf.Ren := ⟨fun | 41 => 57 | n => n, fun | 22 => 33 | 23 => 57 | 4 => 4 | n => n, fun | n => n⟩
theorem Try.cloneE : Go.Proofs.SlLaysE0.n41 Try.prog Try.cloneE_ren := {
  mixed := by kernel_rfl
  f41 := ⟨Try.f57.name, by decide, Try.func57.trans (congrArg some (by kernel_rfl))⟩
  t4 := Try.underlying4
  a4 := Try.isAgg4
  z4 := Try.sizeOf4
  v4 := Try.zeroValue4
  t22 := Try.underlying33
  a22 := Try.isAgg33
  z22 := Try.sizeOf33
  v22 := Try.zeroValue33 }
def Try.indexM_ren : Go.Shelf.Ren := ⟨fun | 6 => 43 | n => n, fun | 22 => 60 | 23 => 45 | 25 => 75 | 3 => 3 | 0 => 0 | 4 => 4 | n => n, fun | n => n⟩
theorem Try.indexM : Go.Proofs.SlLaysH0.n6 Try.prog Try.indexM_ren := {
  mixed := by kernel_rfl
  f6 := ⟨Try.f43.name, by decide, Try.func43.trans (congrArg some (by kernel_rfl))⟩
  t0 := Try.underlying0
  a0 := Try.isAgg0
  z0 := Try.sizeOf0
  v0 := Try.zeroValue0
  t3 := Try.underlying3
  a3 := Try.isAgg3
  z3 := Try.sizeOf3
  v3 := Try.zeroValue3
  t4 := Try.underlying4
  a4 := Try.isAgg4
  z4 := Try.sizeOf4
  v4 := Try.zeroValue4
  t22 := Try.underlying60
  a22 := Try.isAgg60
  z22 := Try.sizeOf60
  v22 := Try.zeroValue60
  t25 := Try.underlying75
  a25 := Try.isAgg75
  z25 := Try.sizeOf75
  v25 := Try.zeroValue75 }
end
section
open Go.RowKit Go.Shelf
attribute [local go_sem ↓ high] loadMsg storeMsg

theorem clone_k (v : Value) (ks : List Ky) (B : Nat) (w : World) (h : RowK w B v ks) (hl : ks.length * 24 ≤ LB) :
    Calls Try.prog 58 #[v] w fun e w' => ∃ a c, e = .returned (.slice a ks.length c) ∧ RowK w' w.heap.size (.slice a ks.length c) ks ∧ Below w.heap.size w w' := by
  obtain ⟨i1, hi1, hw0, hw1, hw2⟩ := info_parts Try.infoKy
  unfold LB at hl
  have h' := h
  rcases h.2 with ⟨rfl, h2⟩ | ⟨g, cap, cur, rfl, _⟩
  · obtain rfl := List.length_eq_zero_iff.1 h2
    have hcon := AnyE.slices_Clone_nil Try.cloneK 0 0 w
    change Calls Try.prog 58 _ _ _ at hcon
    refine hcon.mono ?_
    rintro e w' ⟨rfl, rfl⟩
    exact ⟨_, _, rfl, World.ownsRow_nil _ _ _ _, Below.refl _ _⟩
  · obtain ⟨hc, _⟩ := owns_cells h'
    have hcon := AnyE.slices_Clone Try.cloneK i1 _ 2 24 hi1 hw0 hw1 hw2 rfl (by decide) Try.sizeOf53 g 0 ks.length cap (kc ks) w (kc_len ks) (by unfold maxLen; omega) (by omega) (fun j u hu => by rw [Nat.zero_add]; exact hc j u hu) (kc_one ks)
    change Calls Try.prog 58 _ _ _ at hcon
    refine hcon.mono ?_
    rintro e w' ⟨v', rfl, h1, _, h2⟩
    obtain ⟨a, c, rfl⟩ := owns_len h1
    exact ⟨a, c, rfl, h1, h2⟩
theorem clone_e (v : Value) (es : List En) (B : Nat) (w : World) (h : Row7 w B v es) (hl : es.length * 72 ≤ LB) :
    Calls Try.prog 57 #[v] w fun e w' => ∃ a c, e = .returned (.slice a es.length c) ∧ Row7 w' w.heap.size (.slice a es.length c) es ∧ Below w.heap.size w w' := by
  obtain ⟨i1, hi1, hw0, hw1, hw2⟩ := info_parts Try.infoE
  unfold LB at hl
  have h' := h
  rcases h.2 with ⟨rfl, h2⟩ | ⟨g, cap, cur, rfl, _⟩
  · obtain rfl := List.length_eq_zero_iff.1 h2
    have hcon := AnyE.slices_Clone_nil Try.cloneE 0 0 w
    change Calls Try.prog 57 _ _ _ at hcon
    refine hcon.mono ?_
    rintro e w' ⟨rfl, rfl⟩
    exact ⟨_, _, rfl, World.ownsRow_nil _ _ _ _, Below.refl _ _⟩
  · obtain ⟨hc, _⟩ := owns_cells h'
    have hcon := AnyE.slices_Clone Try.cloneE i1 _ 7 72 hi1 hw0 hw1 hw2 rfl (by decide) Try.sizeOf57 g 0 es.length cap (ec es) w (ec_len es) (by unfold maxLen; omega) (by omega) (fun j u hu => by rw [Nat.zero_add]; exact hc j u hu) (ec_one es)
    change Calls Try.prog 57 _ _ _ at hcon
    refine hcon.mono ?_
    rintro e w' ⟨v', rfl, h1, _, h2⟩
    obtain ⟨a, c, rfl⟩ := owns_len h1
    exact ⟨a, c, rfl, h1, h2⟩

theorem get_bang {α : Type} [Inhabited α] {ks : List α} {i : Nat} {x : α} (h : ks[i]? = some x) : ks[i]! = x := by rw [List.getElem!_eq_getElem?_getD, h]; rfl
/-- the place of the first -/
def idxP {α : Type} (p : α → Bool) (l : List α) : Int := match l.findIdx? p with | some i => (i : Int) | none => -1
theorem idx_is {α : Type} [Inhabited α] (p : α → Bool) (ks : List α) (n : Nat) (hn : ks.length = n) : Lib.idxBy (fun _ y => p y) (ks.take n) default = idxP p ks := by
  subst hn
  unfold idxP
  cases h : ks.findIdx? p with
  | none =>
    rw [List.findIdx?_eq_none_iff] at h
    refine Lib.idxBy_miss _ ks _ _ fun j hj => ?_
    have hj' := List.getElem?_eq_getElem hj
    show p ks[j]! = false
    rw [get_bang hj']; exact h _ (by simp)
  | some i =>
    rw [List.findIdx?_eq_some_iff_getElem] at h
    obtain ⟨hi, hq, hno⟩ := h
    have hg := List.getElem?_eq_getElem hi
    refine Lib.idxBy_hit _ ks _ i default hi (Nat.le_refl _) (by show p ks[i]! = true; rw [get_bang hg]; exact hq) fun j hj => ?_
    have hj' := List.getElem?_eq_getElem (show j < ks.length by omega)
    show p ks[j]! = false
    rw [get_bang hj']; simpa using hno j hj
theorem index_nil (f : Value) (a : Option Addr) (c : Nat) (w : World) : Calls Try.prog 43 #[.slice a 0 c, f] w fun e w' => e = .returned (.int .i64 (-1)) ∧ w' = w := by
  go_enter Try.func43, Try.ntmps43
  go_wp2
  go_loopw [5, 8] (fun _ i wr => i = .int .i64 0 ∧ wr = w) (fun _ _ _ => 0)
  case atStart => exact ⟨rfl, rfl⟩
  case round =>
    obtain ⟨rfl, rfl⟩ := hrel
    go_wp2
    go_ret
    exact ⟨rfl, rfl⟩
/-- IndexFunc at a row of messages -/
theorem index_m (f : Nat) (lb : Array Value) (p : Hm → Bool) (v : Value) (B : Nat) (l : List Hm) (w : World) (h : RowM w B v l) (hs : l.length ≤ 1000000)
    (eg : ∀ args w, (callFunc f args).run Try.prog w = .ok (.enter f args) w)
    (hp : ∀ (W : World) (x : Hm), Below w.heap.size w W → Calls Try.prog f (#[.agg x.arr] ++ lb) W fun e w' => e = .returned (.bool (p x)) ∧ Below W.heap.size W w') :
    Calls Try.prog 43 #[v, .func (.func f) #[] lb] w fun e w' => e = .returned (.int .i64 (idxP p l)) ∧ Below w.heap.size w w' := by
  have iK : Inhabited Hm := ⟨⟨⟨0, 0, 0, 0, 0, 0, 0, 0, ⟨0, 0, ⟨#[]⟩, 0, ⟨#[]⟩, 0, ⟨#[]⟩⟩, [], []⟩, none, 0, none, 0⟩⟩
  have h' := h
  rcases h.2 with ⟨rfl, h2⟩ | ⟨g, cap, cur, rfl, _⟩
  · obtain rfl := List.length_eq_zero_iff.1 h2
    refine (index_nil _ none 0 w).mono ?_
    rintro e w' ⟨rfl, rfl⟩
    exact ⟨rfl, Below.refl _ _⟩
  · obtain ⟨hc, hf, hcap, hmx, hb0, hg⟩ := owns_cells h'
    have hIF := AnyQ.slices_IndexFunc Try.indexM 16 Try.isAgg45 Try.sizeOf45 Hm.vals (fun _ => rfl) p f lb eg g 0 l.length cap l w
      (fun W x hb => by
        have := hp W x hb
        rw [show (Value.agg x.arr) = .agg x.vals.toArray by rw [Hm.vals, Array.toArray_toList]] at this
        exact this.mono fun e w' hh => ⟨hh.1, chainB hb hh.2⟩) (Nat.le_refl _) (by omega) hg (fun j hj i v hi => by
        rw [Nat.zero_add]
        have hx := List.getElem?_eq_getElem hj
        rw [get_bang hx] at hi
        have hi16 : i < 16 := (List.getElem?_eq_some_iff.1 hi).1
        apply hc
        rw [mc_get l j i _ hx hi16]; exact hi)
    change Calls Try.prog 43 _ _ _ at hIF
    rw [idx_is p l l.length rfl] at hIF
    exact hIF
theorem contains_m (f : Nat) (lb : Array Value) (p : Hm → Bool) (a : Option Addr) (n c : Nat) (B : Nat) (l : List Hm) (w : World) (h : RowM w B (.slice a n c) l) (hs : l.length ≤ 1000000)
    (eg : ∀ args w, (callFunc f args).run Try.prog w = .ok (.enter f args) w)
    (hp : ∀ (W : World) (x : Hm), Below w.heap.size w W → Calls Try.prog f (#[.agg x.arr] ++ lb) W fun e w' => e = .returned (.bool (p x)) ∧ Below W.heap.size W w') :
    Calls Try.prog 65 #[.slice a n c, .func (.func f) #[] lb] w fun e w' => e = .returned (.bool (l.any p)) ∧ Below w.heap.size w w' := by
  have HI : Hid (Calls Try.prog 43 #[.slice a n c, .func (.func f) #[] lb] w fun e w' => e = .returned (.int .i64 (idxP p l)) ∧ Below w.heap.size w w') := index_m f lb p (.slice a n c) B l w h hs eg hp
  have HA0 : decide (0 ≤ idxP p l) = l.any p := by
    unfold idxP
    cases h : l.findIdx? p with
    | none =>
      rw [List.findIdx?_eq_none_iff] at h
      symm
      simp only [show ¬ (0 : Int) ≤ -1 by omega, decide_false]
      rw [List.any_eq_false]
      intro x hx
      rw [h x hx]; simp
    | some i =>
      rw [List.findIdx?_eq_some_iff_getElem] at h
      obtain ⟨hi, hq, _⟩ := h
      simp only [show (0 : Int) ≤ (i : Int) by omega, decide_true]
      symm
      rw [List.any_eq_true]
      exact ⟨l[i], by simp, hq⟩
  have HA : Hid (decide (0 ≤ idxP p l) = l.any p) := HA0
  clear HA0
  obtain ⟨r, hr⟩ : ∃ r, idxP p l = r := ⟨_, rfl⟩
  obtain ⟨b, hbb⟩ : ∃ b, l.any p = b := ⟨_, rfl⟩
  rw [hr] at HI HA
  rw [hbb] at HA ⊢
  clear h hs eg hp hr hbb
  go_enter Try.func65, Try.ntmps65
  go_wp2_with (go_at_call 43; refine HI.out.mono ?_; rintro e w' ⟨rfl, hb⟩)
  go_ret
  exact ⟨by rw [← HA.out]; rfl, hb⟩
end
end Go.Proofs.Ytpmcecenhgppbaa
