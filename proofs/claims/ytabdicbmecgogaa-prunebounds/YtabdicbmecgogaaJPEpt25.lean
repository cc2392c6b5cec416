/- prune, plainly: victims one after the other; what the program's lists say of them. -/
import Derived.Test.YtabdicbmecgogaaJPEpt24
import Derived.Shelf.Slices.SearchI
import Derived.Shelf.Spec.SlicesInsertGrow
import Derived.Test.YtabdicbmecgogaaProg
namespace Go.Proofs.Ytabdicbmecgogaa
section
open Go.RowKit

def mayB (b : Bool) (L : List En) (e : En) : Bool := if b then e.neg else leafB L e.key
theorem vicS_is (s : Cs) (b : Bool) : vicS s b = s.L.find? (mayB b s.L) := rfl
/-- so many victims, or as many as there are -/
def evN (b : Bool) : Nat → Cs → List Ky × Cs
  | 0, s => ([], s)
  | n + 1, s => match vicS s b with
    | none => ([], s)
    | some e => (e.key :: (evN b n (s.evict e.key)).1, (evN b n (s.evict e.key)).2)
theorem evN_more {b : Bool} : ∀ {n : Nat} {s s' : Cs} {g : List Ky} {e : En}, evN b n s = (g, s') → g.length = n → vicS s' b = some e → evN b (n + 1) s = (g ++ [e.key], s'.evict e.key)
  | 0, s, s', g, e, h, _, hv => by
    cases h
    rw [evN, hv]
    rfl
  | n + 1, s, s', g, e, h, hl, hv => by
    rw [evN] at h ⊢
    cases hs : vicS s b with
    | none => rw [hs] at h; cases h; simp at hl
    | some x =>
      rw [hs] at h
      simp only at h ⊢
      injection h with h1 h2
      subst h1
      have := evN_more (n := n) (s := s.evict x.key) (s' := s') (e := e) (Prod.ext rfl h2) (by simpa using hl) hv
      rw [this]
      rfl
theorem evN_stop {b : Bool} : ∀ {n m : Nat} {s s' : Cs} {g : List Ky}, evN b n s = (g, s') → g.length = n → vicS s' b = none → n ≤ m → evN b m s = (g, s')
  | 0, 0, s, s', g, h, _, _, _ => h
  | 0, m + 1, s, s', g, h, _, hv, _ => by
    cases h
    rw [evN, hv]
  | n + 1, 0, s, s', g, _, _, _, hm => by omega
  | n + 1, m + 1, s, s', g, h, hl, hv, hm => by
    rw [evN] at h ⊢
    cases hs : vicS s b with
    | none => rw [hs] at h; cases h; simp at hl
    | some x =>
      rw [hs] at h
      simp only at h ⊢
      injection h with h1 h2
      subst h1
      have := evN_stop (n := n) (m := m) (s := s.evict x.key) (s' := s') (Prod.ext rfl h2) (by simpa using hl) hv (by omega)
      rw [this]
theorem evict_L (s : Cs) (k : Ky) : (s.evict k).L = outL s.L k := by
  unfold Cs.evict
  cases h : getL s.L k with
  | none => exact (outL_none h).symm
  | some e => rfl
theorem key_inj {L : List En} (hk : KeysOk L) {a b : En} (ha : a ∈ L) (hb : b ∈ L) (h : a.key = b.key) : a = b := by
  have h1 := hk.get (k := a.key) (e := a)
  have h2 := hk.get (k := a.key) (e := b)
  have e1 : getL L a.key = some a := h1.2 ⟨ha, rfl, rfl⟩
  have hd : b.d = a.d := by
    have := congrArg Ky.d h
    exact this.symm
  have hn : b.nm = a.nm := by
    have := congrArg Ky.nm h
    exact this.symm
  have e2 : getL L a.key = some b := h2.2 ⟨hb, hd, hn⟩
  rw [e1] at e2
  injection e2
theorem leaf_iff {L : List En} (hk : KeysOk L) {e : En} : e ∈ L → (leafB L e.key = true ↔ ∀ x ∈ L, x.d ≠ idOf e) := by
  intro he
  unfold leafB
  rw [hk.get.2 ⟨he, rfl, rfl⟩]
  simp
theorem mem_outL {L : List En} {k : Ky} {x : En} : x ∈ outL L k ↔ x ∈ L ∧ ¬ (x.d = k.d ∧ x.nm = k.nm) := by
  unfold outL
  rw [List.mem_filter]
  refine and_congr_right fun _ => ?_
  cases h : hasK k x with
  | true => simp [hasK_iff.1 h]
  | false => simpa using hasK_no.1 h
/-- the places of those that may go now: rising, just those -/
structure Nx (b : Bool) (L0 L : List En) (next : List Nat) : Prop where
  rise : next.Pairwise (· < ·)
  mem : ∀ p, p ∈ next ↔ ∃ e, L0[p]? = some e ∧ e ∈ L ∧ mayB b L e = true
/-- the first of them is the victim -/
theorem Nx.vic {b : Bool} {L0 L : List En} {next : List Nat} {g : En → Bool} (h : Nx b L0 L next) (hL : L = L0.filter g) :
    (next = [] → L.find? (mayB b L) = none) ∧ ∀ p t, next = p :: t → ∃ e, L0[p]? = some e ∧ e ∈ L ∧ mayB b L e = true ∧ L.find? (mayB b L) = some e := by
  constructor
  · intro hn
    rw [List.find?_eq_none]
    intro x hx
    have hx0 : x ∈ L0 := by rw [hL] at hx; exact (List.mem_filter.1 hx).1
    obtain ⟨p, hp⟩ := List.getElem?_of_mem hx0
    intro hm
    have := (h.mem p).2 ⟨x, hp, hx, hm⟩
    rw [hn] at this
    cases this
  · intro p t hn
    obtain ⟨e, he, hm, hq⟩ := (h.mem p).1 (by rw [hn]; simp)
    refine ⟨e, he, hm, hq, ?_⟩
    have hfirst : ∀ j x, j < p → L0[j]? = some x → ¬ (x ∈ L ∧ mayB b L x = true) := fun j x hj hx hc => by
      have hjn := (h.mem j).2 ⟨x, hx, hc⟩
      rw [hn] at hjn
      rcases List.mem_cons.1 hjn with rfl | hjt
      · omega
      · have := h.rise
        rw [hn, List.pairwise_cons] at this
        have := this.1 j hjt
        omega
    have hf : L.find? (mayB b L) = L0.find? fun x => g x && mayB b L x := by
      conv => lhs; rw [hL]
      rw [List.find?_filter]
      congr 1
      funext x
      rw [← hL]
      cases g x <;> cases mayB b L x <;> rfl
    rw [hf, List.find?_eq_some_iff_getElem]
    have hpl := (List.getElem?_eq_some_iff.1 he).1
    have hpe := (List.getElem?_eq_some_iff.1 he).2
    have hge : g e = true := by rw [hL] at hm; exact (List.mem_filter.1 hm).2
    refine ⟨by rw [hge, hq]; rfl, p, hpl, hpe, fun j hj => ?_⟩
    have hjl : j < L0.length := by omega
    have := hfirst j L0[j] hj (List.getElem?_eq_getElem hjl)
    cases hgj : g L0[j] with
    | false => rfl
    | true =>
      cases hmj : mayB b L L0[j] with
      | false => rfl
      | true =>
        exfalso
        apply this
        refine ⟨?_, hmj⟩
        rw [hL, List.mem_filter]
        exact ⟨List.getElem_mem hjl, hgj⟩
/-- the places of those that might not at the start, whose node is a directory -/
def heldP (b : Bool) (L0 : List En) (d : Int) (p : Nat) : Prop := ∃ e, L0[p]? = some e ∧ mayB b L0 e = false ∧ idOf e = d
/-- while the places of a directory are gone through -/
structure Nj (b : Bool) (L0 L' : List En) (tail : List Nat) (done : List Nat) (next : List Nat) : Prop where
  rise : next.Pairwise (· < ·)
  mem : ∀ p, p ∈ next ↔ p ∈ tail ∨ p ∈ done ∧ ∃ e, L0[p]? = some e ∧ mayB b L' e = true
theorem mayB_mem {L : List En} {b : Bool} {e : En} (h : mayB b L e = true) (hb : b = false) : getL L e.key ≠ none := by
  subst hb
  unfold mayB leafB at h
  intro hg
  simp only [Bool.false_eq_true, if_false] at h
  rw [hg] at h
  cases h
/-- an eviction frees none but those of its directory -/
theorem Nx.next {b : Bool} {L0 L : List En} {p : Nat} {t next' held : List Nat} {e0 : En} (hk : KeysOk L0) (hs : ∀ x ∈ L, x ∈ L0) (h : Nx b L0 L (p :: t)) (hp : L0[p]? = some e0) (hheld : ∀ q, q ∈ held ↔ heldP b L0 e0.d q)
    (hj : Nj b L0 (outL L e0.key) t held next') : Nx b L0 (outL L e0.key) next' := by
  refine ⟨hj.rise, fun q => ?_⟩
  obtain ⟨e0', he0', hm0, hq0⟩ := (h.mem p).1 (by simp)
  rw [hp] at he0'
  injection he0' with he0'
  subst he0'
  have pt : ∀ q ∈ t, p < q := (List.pairwise_cons.1 h.rise).1
  have nodup : ∀ {i j : Nat} {x y : En}, L0[i]? = some x → L0[j]? = some y → x.key = y.key → i = j := by
    intro i j x y hx hy hxy
    have h1 := (List.getElem?_eq_some_iff.1 hx)
    have h2 := (List.getElem?_eq_some_iff.1 hy)
    obtain ⟨h1a, h1b⟩ := h1
    obtain ⟨h2a, h2b⟩ := h2
    have hd : x.d = y.d := congrArg Ky.d hxy
    have hn : x.nm = y.nm := congrArg Ky.nm hxy
    have hk' := hk
    unfold KeysOk at hk'
    rw [List.pairwise_iff_getElem] at hk'
    rcases Nat.lt_trichotomy i j with hlt | he | hlt
    · have := hk' i j h1a h2a hlt
      rw [h1b, h2b] at this
      exact absurd ⟨hd, hn⟩ this
    · exact he
    · have := hk' j i h2a h1a hlt
      rw [h1b, h2b] at this
      exact absurd ⟨hd.symm, hn.symm⟩ this
  have out : ∀ x, x ∈ outL L e0.key ↔ x ∈ L ∧ x.key ≠ e0.key := fun x => by
    rw [mem_outL]
    refine and_congr_right fun _ => ⟨fun hc hq => hc ⟨congrArg Ky.d hq, congrArg Ky.nm hq⟩, fun hc hq => hc ?_⟩
    unfold En.key
    obtain ⟨q1, q2⟩ := hq
    have q1' : x.d = e0.d := q1
    have q2' : x.nm = e0.nm := q2
    rw [q1', q2']
  -- what a list of a right cache says of its entries
  have sub : ∀ {M : List En} {x : En}, (∀ y ∈ M, y ∈ L0) → x ∈ L0 → (getL M x.key = some x ↔ x ∈ M) := by
    intro M x hM hx
    constructor
    · intro hg
      unfold getL at hg
      exact List.mem_of_find?_eq_some hg
    · intro hm
      unfold getL
      cases hf : M.find? (hasK x.key) with
      | none =>
        rw [List.find?_eq_none] at hf
        exact absurd (hasK_iff.2 ⟨rfl, rfl⟩) (hf x hm)
      | some y =>
        have h1 := List.mem_of_find?_eq_some hf
        have h2 := hasK_iff.1 (List.find?_some hf)
        congr 1
        refine key_inj hk (hM y h1) hx ?_
        unfold En.key
        obtain ⟨q1, q2⟩ := h2
        have q1' : y.d = x.d := q1
        have q2' : y.nm = x.nm := q2
        rw [q1', q2']
  have none_of : ∀ {M : List En} {x : En}, (∀ y ∈ M, y ∈ L0) → x ∈ L0 → x ∉ M → getL M x.key = none := by
    intro M x hM hx hn
    cases hg : getL M x.key with
    | none => rfl
    | some y =>
      unfold getL at hg
      have h1 := List.mem_of_find?_eq_some hg
      have h2 := hasK_iff.1 (List.find?_some hg)
      have : y = x := by
        refine key_inj hk (hM y h1) hx ?_
        unfold En.key
        obtain ⟨q1, q2⟩ := h2
        have q1' : y.d = x.d := q1
        have q2' : y.nm = x.nm := q2
        rw [q1', q2']
      rw [this] at h1
      exact absurd h1 hn
  have leaf : ∀ {M : List En} {x : En}, (∀ y ∈ M, y ∈ L0) → x ∈ L0 → (leafB M x.key = true ↔ x ∈ M ∧ ∀ y ∈ M, y.d ≠ idOf x) := by
    intro M x hM hx
    unfold leafB
    by_cases hm : x ∈ M
    · rw [(sub hM hx).2 hm]
      simp [hm]
    · rw [none_of hM hx hm]
      simp [hm]
  have hs' : ∀ y ∈ outL L e0.key, y ∈ L0 := fun y hy => hs y ((out y).1 hy).1
  rw [hj.mem]
  constructor
  · rintro (hqt | ⟨hqh, e, he, hmay⟩)
    · obtain ⟨e, he, hm, hmay⟩ := (h.mem q).1 (List.mem_cons_of_mem _ hqt)
      have hne : e.key ≠ e0.key := fun hc => by
        have := nodup he hp hc
        have := pt q hqt
        omega
      refine ⟨e, he, (out e).2 ⟨hm, hne⟩, ?_⟩
      cases b with
      | true => exact hmay
      | false =>
        have h1 : leafB L e.key = true := hmay
        rw [leaf hs (hs e hm)] at h1
        show leafB (outL L e0.key) e.key = true
        rw [leaf hs' (hs e hm)]
        exact ⟨(out e).2 ⟨hm, hne⟩, fun y hy => h1.2 y ((out y).1 hy).1⟩
    · refine ⟨e, he, ?_, hmay⟩
      obtain ⟨e', he', hno, _⟩ := (hheld q).1 hqh
      rw [he] at he'
      injection he' with he'
      subst he'
      cases b with
      | true =>
        have h1 : e.neg = true := hmay
        have h2 : e.neg = false := hno
        rw [h1] at h2
        cases h2
      | false =>
        have h1 : leafB (outL L e0.key) e.key = true := hmay
        exact ((leaf hs' (List.mem_of_getElem? he)).1 h1).1
  · rintro ⟨e, he, hm, hmay⟩
    obtain ⟨hmL, hne⟩ := (out e).1 hm
    by_cases hold : mayB b L e = true
    · left
      have := (h.mem q).2 ⟨e, he, hmL, hold⟩
      rcases List.mem_cons.1 this with rfl | hq
      · rw [hp] at he
        injection he with he
        subst he
        exact absurd rfl hne
      · exact hq
    · right
      cases b with
      | true => exact absurd hmay hold
      | false =>
        refine ⟨(hheld q).2 ⟨e, he, ?_, ?_⟩, e, he, hmay⟩
        · have h1 : ¬ leafB L e.key = true := hold
          show leafB L0 e.key = false
          cases hq : leafB L0 e.key with
          | false => rfl
          | true =>
            have := (leaf (M := L0) (fun y hy => hy) (List.mem_of_getElem? he)).1 hq
            exfalso
            apply h1
            rw [leaf hs (hs e hmL)]
            exact ⟨hmL, fun y hy => this.2 y (hs y hy)⟩
        · have h1 : leafB (outL L e0.key) e.key = true := hmay
          rw [leaf hs' (hs e hmL)] at h1
          have h2 : ¬ leafB L e.key = true := hold
          rw [leaf hs (hs e hmL)] at h2
          apply Classical.byContradiction
          intro hid
          apply h2
          refine ⟨hmL, fun y hy hc => ?_⟩
          by_cases hy0 : y.key = e0.key
          · have : y.d = e0.d := congrArg Ky.d hy0
            rw [this] at hc
            exact hid hc.symm
          · exact h1.2 y ((out y).2 ⟨hy, hy0⟩) hc
end
section
open Go.Shelf
def Try.searchI_ren : Go.Shelf.Ren := ⟨fun | 25 => 65 | 31 => 80 | 32 => 81 | 37 => 63 | n => n, fun | 22 => 50 | 3 => 3 | 4 => 4 | 40 => 96 | 0 => 0 | n => n, fun | n => n⟩
theorem Try.searchI : Go.Proofs.Lays2.n25 Try.prog Try.searchI_ren := {
  mixed := by kernel_rfl
  f25 := Try.func65.trans (congrArg some (by kernel_rfl))
  f31 := Try.func80.trans (congrArg some (by kernel_rfl))
  f32 := Try.func81.trans (congrArg some (by kernel_rfl))
  f37 := Try.func63.trans (congrArg some (by kernel_rfl))
  t0 := Try.underlying0
  a0 := Try.isAgg0
  z0 := Try.sizeOf0
  v0 := Try.zeroValue0
  t3 := Try.underlying3
  a3 := Try.isAgg3
  z3 := Try.sizeOf3
  v3 := Try.zeroValue3
  t4 := Try.underlying4
  a4 := Try.isAgg4
  z4 := Try.sizeOf4
  v4 := Try.zeroValue4
  t22 := Try.underlying50
  a22 := Try.isAgg50
  z22 := Try.sizeOf50
  v22 := Try.zeroValue50
  t40 := Try.underlying96
  a40 := Try.isAgg96
  z40 := Try.sizeOf96
  v40 := Try.zeroValue96 }
def Try.insertI_ren : Go.Shelf.Ren := ⟨fun | 21 => 66 | 27 => 82 | 28 => 83 | 35 => 97 | 39 => 102 | n => n, fun | 22 => 50 | 3 => 3 | 4 => 4 | 0 => 0 | n => n, fun | n => n⟩
theorem Try.insertI : Go.Proofs.Lays2.n21 Try.prog Try.insertI_ren := {
  mixed := by kernel_rfl
  f21 := Try.func66.trans (congrArg some (by kernel_rfl))
  f27 := Try.func82.trans (congrArg some (by kernel_rfl))
  f28 := Try.func83.trans (congrArg some (by kernel_rfl))
  f35 := Try.func97.trans (congrArg some (by kernel_rfl))
  f39 := Try.func102.trans (congrArg some (by kernel_rfl))
  t0 := Try.underlying0
  a0 := Try.isAgg0
  z0 := Try.sizeOf0
  v0 := Try.zeroValue0
  t3 := Try.underlying3
  a3 := Try.isAgg3
  z3 := Try.sizeOf3
  v3 := Try.zeroValue3
  t4 := Try.underlying4
  a4 := Try.isAgg4
  z4 := Try.sizeOf4
  v4 := Try.zeroValue4
  t22 := Try.underlying50
  a22 := Try.isAgg50
  z22 := Try.sizeOf50
  v22 := Try.zeroValue50
  i3 := by kernel_rfl }
end
end Go.Proofs.Ytabdicbmecgogaa
