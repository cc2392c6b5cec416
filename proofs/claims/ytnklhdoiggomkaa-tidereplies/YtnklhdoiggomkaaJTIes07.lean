/- slices.Clone at lists of keys and entries, IndexFunc at lists of messages: what the library proves of them, laid at this program by number. -/
import Derived.Shelf.SlicesE.Clone
import Derived.Shelf.SlicesQ.IndexFunc
import Derived.Test.YtnklhdoiggomkaaProg
import Derived.Test.YtnklhdoiggomkaaJTIes06
import Derived.Shelf.Abstract
namespace Go.Proofs.Ytnklhdoiggomkaa
section
open Go.Shelf
def Try.cloneK_ren : Go.Shelf.Ren := ⟨fun | 41 => 65 | n => n, fun | 22 => 34 | 23 => 65 | 4 => 4 | n => n, fun | n => n⟩
theorem Try.cloneK : Go.Proofs.SlLaysE0.n41 Try.prog Try.cloneK_ren := {
  mixed := by kernel_rfl
  f41 := ⟨Try.f65.name, by decide, Try.func65.trans (congrArg some (by kernel_rfl))⟩
  t4 := Try.underlying4
  a4 := Try.isAgg4
  z4 := Try.sizeOf4
  v4 := Try.zeroValue4
  t22 := Try.underlying34
  a22 := Try.isAgg34
  z22 := Try.sizeOf34
  v22 := Try.zeroValue34 }
def Try.cloneE_ren : Go.Shelf.Ren := ⟨fun | 41 => 64 | n => n, fun | 22 => 33 | 23 => 74 | 4 => 4 | n => n, fun | n => n⟩
theorem Try.cloneE : Go.Proofs.SlLaysE0.n41 Try.prog Try.cloneE_ren := {
  mixed := by kernel_rfl
  f41 := ⟨Try.f64.name, by decide, Try.func64.trans (congrArg some (by kernel_rfl))⟩
  t4 := Try.underlying4
  a4 := Try.isAgg4
  z4 := Try.sizeOf4
  v4 := Try.zeroValue4
  t22 := Try.underlying33
  a22 := Try.isAgg33
  z22 := Try.sizeOf33
  v22 := Try.zeroValue33 }
def Try.indexM_ren : Go.Shelf.Ren := ⟨fun | 6 => 51 | n => n, fun | 22 => 53 | 23 => 45 | 25 => 88 | 3 => 3 | 0 => 0 | 4 => 4 | n => n, fun | n => n⟩
theorem Try.indexM : Go.Proofs.SlLaysH0.n6 Try.prog Try.indexM_ren := {
  mixed := by kernel_rfl
  f6 := ⟨Try.f51.name, by decide, Try.func51.trans (congrArg some (by kernel_rfl))⟩
  t0 := Try.underlying0
  a0 := Try.isAgg0
  z0 := Try.sizeOf0
  v0 := Try.zeroValue0
  t3 := Try.underlying3
  a3 := Try.isAgg3
  z3 := Try.sizeOf3
  v3 := Try.zeroValue3
  t4 := Try.underlying4
  a4 := Try.isAgg4
  z4 := Try.sizeOf4
  v4 := Try.zeroValue4
  t22 := Try.underlying53
  a22 := Try.isAgg53
  z22 := Try.sizeOf53
  v22 := Try.zeroValue53
  t25 := Try.underlying88
  a25 := Try.isAgg88
  z25 := Try.sizeOf88
  v25 := Try.zeroValue88 }
end
section
open Go.RowKit Go.Shelf
attribute [local go_sem ↓ high] loadMsg storeMsg

theorem clone_k (v : Value) (ks : List Ky) (B : Nat) (w : World) (h : RowK w B v ks) (hl : ks.length * 24 ≤ LB) :
    Calls Try.prog 65 #[v] w fun e w' => ∃ a c, e = .returned (.slice a ks.length c) ∧ RowK w' w.heap.size (.slice a ks.length c) ks ∧ Below w.heap.size w w' := by
  obtain ⟨i1, hi1, hw0, hw1, hw2⟩ := info_parts Try.infoKy
  unfold LB at hl
  have h' := h
  rcases h.2 with ⟨rfl, h2⟩ | ⟨g, cap, cur, rfl, _⟩
  · obtain rfl := List.length_eq_zero_iff.1 h2
    have hcon := AnyE.slices_Clone_nil Try.cloneK 0 0 w
    change Calls Try.prog 65 _ _ _ at hcon
    refine hcon.mono ?_
    rintro e w' ⟨rfl, rfl⟩
    exact ⟨_, _, rfl, World.ownsRow_nil _ _ _ _, Below.refl _ _⟩
  · obtain ⟨hc, _⟩ := owns_cells h'
    have hcon := AnyE.slices_Clone Try.cloneK i1 _ 2 24 hi1 hw0 hw1 hw2 rfl (by decide) Try.sizeOf65 g 0 ks.length cap (kc ks) w (kc_len ks) (by unfold maxLen; omega) (by omega) (fun j u hu => by rw [Nat.zero_add]; exact hc j u hu) (kc_one ks)
    change Calls Try.prog 65 _ _ _ at hcon
    refine hcon.mono ?_
    rintro e w' ⟨v', rfl, h1, _, h2⟩
    obtain ⟨a, c, rfl⟩ := owns_len h1
    exact ⟨a, c, rfl, h1, h2⟩
theorem clone_e (v : Value) (es : List En) (B : Nat) (w : World) (h : Row7 w B v es) (hl : es.length * 72 ≤ LB) :
    Calls Try.prog 64 #[v] w fun e w' => ∃ a c, e = .returned (.slice a es.length c) ∧ Row7 w' w.heap.size (.slice a es.length c) es ∧ Below w.heap.size w w' := by
  obtain ⟨i1, hi1, hw0, hw1, hw2⟩ := info_parts Try.infoE
  unfold LB at hl
  have h' := h
  rcases h.2 with ⟨rfl, h2⟩ | ⟨g, cap, cur, rfl, _⟩
  · obtain rfl := List.length_eq_zero_iff.1 h2
    have hcon := AnyE.slices_Clone_nil Try.cloneE 0 0 w
    change Calls Try.prog 64 _ _ _ at hcon
    refine hcon.mono ?_
    rintro e w' ⟨rfl, rfl⟩
    exact ⟨_, _, rfl, World.ownsRow_nil _ _ _ _, Below.refl _ _⟩
  · obtain ⟨hc, _⟩ := owns_cells h'
    have hcon := AnyE.slices_Clone Try.cloneE i1 _ 7 72 hi1 hw0 hw1 hw2 rfl (by decide) Try.sizeOf74 g 0 es.length cap (ec es) w (ec_len es) (by unfold maxLen; omega) (by omega) (fun j u hu => by rw [Nat.zero_add]; exact hc j u hu) (ec_one es)
    change Calls Try.prog 64 _ _ _ at hcon
    refine hcon.mono ?_
    rintro e w' ⟨v', rfl, h1, _, h2⟩
    obtain ⟨a, c, rfl⟩ := owns_len h1
    exact ⟨a, c, rfl, h1, h2⟩

theorem get_bang {α : Type} [Inhabited α] {ks : List α} {i : Nat} {x : α} (h : ks[i]? = some x) : ks[i]! = x := by rw [List.getElem!_eq_getElem?_getD, h]; rfl
/-- the place of the first -/
def idxP {α : Type} (p : α → Bool) (l : List α) : Int := match l.findIdx? p with | some i => (i : Int) | none => -1
theorem idx_is {α : Type} [Inhabited α] (p : α → Bool) (ks : List α) (n : Nat) (hn : ks.length = n) : Lib.idxBy (fun _ y => p y) (ks.take n) default = idxP p ks := by
  subst hn
  unfold idxP
  cases h : ks.findIdx? p with
  | none =>
    rw [List.findIdx?_eq_none_iff] at h
    refine Lib.idxBy_miss _ ks _ _ fun j hj => ?_
    have hj' := List.getElem?_eq_getElem hj
    show p ks[j]! = false
    rw [get_bang hj']; exact h _ (by simp)
  | some i =>
    rw [List.findIdx?_eq_some_iff_getElem] at h
    obtain ⟨hi, hq, hno⟩ := h
    have hg := List.getElem?_eq_getElem hi
    refine Lib.idxBy_hit _ ks _ i default hi (Nat.le_refl _) (by show p ks[i]! = true; rw [get_bang hg]; exact hq) fun j hj => ?_
    have hj' := List.getElem?_eq_getElem (show j < ks.length by omega)
    show p ks[j]! = false
    rw [get_bang hj']; simpa using hno j hj
theorem index_nil (f : Value) (a : Option Addr) (c : Nat) (w : World) : Calls Try.prog 51 #[.slice a 0 c, f] w fun e w' => e = .returned (.int .i64 (-1)) ∧ w' = w := by
  go_enter Try.func51, Try.ntmps51
  go_wp2
  go_loopw [5, 8] (fun _ i wr => i = .int .i64 0 ∧ wr = w) (fun _ _ _ => 0)
  case atStart => exact ⟨rfl, rfl⟩
  case round =>
    obtain ⟨rfl, rfl⟩ := hrel
    go_wp2
    go_ret
    exact ⟨rfl, rfl⟩
/-- IndexFunc at a row of messages -/
theorem index_m (f : Nat) (lb : Array Value) (p : Hm → Bool) (v : Value) (B : Nat) (l : List Hm) (w : World) (h : RowM w B v l) (hs : l.length ≤ 1000000)
    (eg : ∀ args w, (callFunc f args).run Try.prog w = .ok (.enter f args) w)
    (hp : ∀ (W : World) (x : Hm), Below w.heap.size w W → Calls Try.prog f (#[.agg x.arr] ++ lb) W fun e w' => e = .returned (.bool (p x)) ∧ Below W.heap.size W w') :
    Calls Try.prog 51 #[v, .func (.func f) #[] lb] w fun e w' => e = .returned (.int .i64 (idxP p l)) ∧ Below w.heap.size w w' := by
  have iK : Inhabited Hm := ⟨⟨⟨0, 0, 0, 0, 0, 0, 0, 0, ⟨0, 0, ⟨#[]⟩, 0, ⟨#[]⟩, 0, ⟨#[]⟩⟩, [], []⟩, none, 0, none, 0⟩⟩
  have h' := h
  rcases h.2 with ⟨rfl, h2⟩ | ⟨g, cap, cur, rfl, _⟩
  · obtain rfl := List.length_eq_zero_iff.1 h2
    refine (index_nil _ none 0 w).mono ?_
    rintro e w' ⟨rfl, rfl⟩
    exact ⟨rfl, Below.refl _ _⟩
  · obtain ⟨hc, hf, hcap, hmx, hb0, hg⟩ := owns_cells h'
    have hIF := AnyQ.slices_IndexFunc Try.indexM 16 Try.isAgg45 Try.sizeOf45 Hm.vals (fun _ => rfl) p f lb eg g 0 l.length cap l w
      (fun W x hb => by
        have := hp W x hb
        rw [show (Value.agg x.arr) = .agg x.vals.toArray by rw [Hm.vals, Array.toArray_toList]] at this
        exact this.mono fun e w' hh => ⟨hh.1, chainB hb hh.2⟩) (Nat.le_refl _) (by omega) hg (fun j hj i v hi => by
        rw [Nat.zero_add]
        have hx := List.getElem?_eq_getElem hj
        rw [get_bang hx] at hi
        have hi16 : i < 16 := (List.getElem?_eq_some_iff.1 hi).1
        apply hc
        rw [mc_get l j i _ hx hi16]; exact hi)
    change Calls Try.prog 51 _ _ _ at hIF
    rw [idx_is p l l.length rfl] at hIF
    exact hIF
theorem contains_m (f : Nat) (lb : Array Value) (p : Hm → Bool) (a : Option Addr) (n c : Nat) (B : Nat) (l : List Hm) (w : World) (h : RowM w B (.slice a n c) l) (hs : l.length ≤ 1000000)
    (eg : ∀ args w, (callFunc f args).run Try.prog w = .ok (.enter f args) w)
    (hp : ∀ (W : World) (x : Hm), Below w.heap.size w W → Calls Try.prog f (#[.agg x.arr] ++ lb) W fun e w' => e = .returned (.bool (p x)) ∧ Below W.heap.size W w') :
    Calls Try.prog 72 #[.slice a n c, .func (.func f) #[] lb] w fun e w' => e = .returned (.bool (l.any p)) ∧ Below w.heap.size w w' := by
  have HI : Hid (Calls Try.prog 51 #[.slice a n c, .func (.func f) #[] lb] w fun e w' => e = .returned (.int .i64 (idxP p l)) ∧ Below w.heap.size w w') := index_m f lb p (.slice a n c) B l w h hs eg hp
  have HA0 : decide (0 ≤ idxP p l) = l.any p := by
    unfold idxP
    cases h : l.findIdx? p with
    | none =>
      rw [List.findIdx?_eq_none_iff] at h
      symm
      simp only [show ¬ (0 : Int) ≤ -1 by omega, decide_false]
      rw [List.any_eq_false]
      intro x hx
      rw [h x hx]; simp
    | some i =>
      rw [List.findIdx?_eq_some_iff_getElem] at h
      obtain ⟨hi, hq, _⟩ := h
      simp only [show (0 : Int) ≤ (i : Int) by omega, decide_true]
      symm
      rw [List.any_eq_true]
      exact ⟨l[i], by simp, hq⟩
  have HA : Hid (decide (0 ≤ idxP p l) = l.any p) := HA0
  clear HA0
  obtain ⟨r, hr⟩ : ∃ r, idxP p l = r := ⟨_, rfl⟩
  obtain ⟨b, hbb⟩ : ∃ b, l.any p = b := ⟨_, rfl⟩
  rw [hr] at HI HA
  rw [hbb] at HA ⊢
  clear h hs eg hp hr hbb
  go_enter Try.func72, Try.ntmps72
  go_wp2_with (go_at_call 51; refine HI.out.mono ?_; rintro e w' ⟨rfl, hb⟩)
  go_ret
  exact ⟨by rw [← HA.out]; rfl, hb⟩
end
end Go.Proofs.Ytnklhdoiggomkaa
