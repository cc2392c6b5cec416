/- The cache, plainly: what the chapter says of it; and how a map of maps with numbers of uses says the same. -/
import Derived.Test.YtppbbddlbfgpfaaJWUps02
import Derived.Test.YtppbbddlbfgpfaaJWUps03
import Derived.Laws.RangeAny
import Derived.Laws.Strings
import Derived.Laws.Strings2
import Derived.Laws.Concat
namespace Go.Proofs.Ytppbbddlbfgpfaa
section
open Go.RowKit

def nob : ByteArray := ⟨#[]⟩
def hasK (k : Ky) (e : En) : Bool := decide (e.d = k.d) && decide (e.nm = k.nm)
def hitK (k : Ky) (e : En) : Bool := decide (e.d = k.d) && (decide (k.nm = nob) || decide (e.nm = k.nm))
def En.key (e : En) : Ky := ⟨e.d, e.nm⟩
theorem hasK_iff {k : Ky} {e : En} : hasK k e = true ↔ e.d = k.d ∧ e.nm = k.nm := by unfold hasK; simp
theorem hasK_no {k : Ky} {e : En} : hasK k e = false ↔ ¬ (e.d = k.d ∧ e.nm = k.nm) := by
  rw [← hasK_iff]; simp
def getL (L : List En) (k : Ky) : Option En := L.find? (hasK k)
def outL (L : List En) (k : Ky) : List En := L.filter fun e => !hasK k e
def cutEs (L : List En) (k : Ky) : List En := L.filter fun e => !hitK k e
/-- a cache as the chapter has it -/
structure Cs where
  L : List En
  W : List Int
def partW (W : List Int) (d : Int) : List Int := W.filter fun x => decide (x ≠ d)
def Cs.put (s : Cs) (e : En) : Cs := ⟨outL s.L e.key ++ [e], s.W⟩
def Cs.use (s : Cs) (k : Ky) : Cs := match getL s.L k with | some e => ⟨outL s.L k ++ [e], s.W⟩ | none => s
def Cs.cut1 (s : Cs) (k : Ky) : Cs := ⟨cutEs s.L k, partW s.W k.d⟩
def Cs.cut (s : Cs) (ks : List Ky) : Cs := ks.foldl Cs.cut1 s
def Cs.evict (s : Cs) (k : Ky) : Cs := match getL s.L k with | none => s | some e => ⟨outL s.L k, if e.neg then s.W else partW s.W k.d⟩
def Cs.setW (s : Cs) (d : Int) : Cs := ⟨s.L, if d ∈ s.W then s.W else s.W ++ [d]⟩
def negN (L : List En) : Nat := (L.filter (·.neg)).length
def idOf (e : En) : Int := if e.neg then 0 else e.id
def leafB (L : List En) (k : Ky) : Bool := match getL L k with | none => false | some e => L.all fun x => decide (x.d ≠ idOf e)

theorem mem_partW {W : List Int} {d x : Int} : x ∈ partW W d ↔ x ∈ W ∧ x ≠ d := by unfold partW; simp
theorem mem_setW {s : Cs} {d x : Int} : x ∈ (s.setW d).W ↔ x ∈ s.W ∨ x = d := by
  unfold Cs.setW
  simp only
  split
  · rename_i h
    exact ⟨.inl, fun h' => by rcases h' with h' | rfl <;> assumption⟩
  · simp

/-- the program's: for each directory its block and what stands in it, by name, with the number of its last use -/
abbrev Pm := List (Int × Nat × List (ByteArray × En × Nat))
def cont (om : Pm) : List (En × Nat) := om.flatMap fun x => x.2.2.map (·.2)
theorem cont_app (a b : Pm) : cont (a ++ b) = cont a ++ cont b := by unfold cont; rw [List.flatMap_append]
theorem cont_cons (x : Int × Nat × List (ByteArray × En × Nat)) (b : Pm) : cont (x :: b) = x.2.2.map (·.2) ++ cont b := by unfold cont; rw [List.flatMap_cons]
structure PmOk (om : Pm) : Prop where
  dirs : (om.map (·.1)).Nodup
  names : ∀ x ∈ om, (x.2.2.map (·.1)).Nodup
  keys : ∀ x ∈ om, ∀ p ∈ x.2.2, p.2.1.d = x.1 ∧ p.2.1.nm = p.1
theorem mem_cont {om : Pm} {x : En × Nat} : x ∈ cont om ↔ ∃ y ∈ om, ∃ p ∈ y.2.2, p.2 = x := by
  unfold cont
  simp only [List.mem_flatMap, List.mem_map]
def om2 (om : Pm) : List (Int × Nat) := om.map fun x => (x.1, x.2.1)
theorem om2_keys (om : Pm) : (om2 om).map (·.1) = om.map (·.1) := by unfold om2; rw [List.map_map]; rfl
theorem om_cases (om : Pm) (h : PmOk om) (d : Int) : (mget (om2 om) d = none ∧ ∀ x ∈ om, d ≠ x.1) ∨ ∃ A g l B, om = A ++ (d, g, l) :: B ∧ mget (om2 om) d = some g ∧ (∀ y ∈ A, d ≠ y.1) ∧ ∀ y ∈ B, d ≠ y.1 := by
  rcases ml_cases om d with hn | ⟨A, v, B, rfl, hA⟩
  · exact .inl ⟨mget_none fun x hx => by obtain ⟨y, hy, rfl⟩ := List.mem_map.1 hx; exact hn y hy, hn⟩
  · refine .inr ⟨A, v.1, v.2, B, rfl, ?_, hA, ?_⟩
    · unfold om2
      rw [List.map_append, List.map_cons]
      exact mget_some fun x hx => by obtain ⟨y, hy, rfl⟩ := List.mem_map.1 hx; exact hA y hy
    · have := h.dirs
      rw [List.map_append, List.nodup_append, List.map_cons, List.nodup_cons] at this
      exact fun y hy e => this.2.1.1 (List.mem_map.2 ⟨y, hy, e.symm⟩)
theorem PmOk.other {om : Pm} (h : PmOk om) {A : Pm} (hs : ∀ x ∈ A, x ∈ om) {d : Int} (hA : ∀ y ∈ A, d ≠ y.1) {x : En × Nat} (hx : x ∈ cont A) : x.1.d ≠ d := by
  obtain ⟨y, hy, p, hp, rfl⟩ := mem_cont.1 hx
  rw [(h.keys y (hs y hy) p hp).1]
  exact fun e => hA y hy e.symm
/-- what stands in a directory -/
def inn (om : Pm) (d : Int) : List (ByteArray × En × Nat) := match om.find? fun x => decide (x.1 = d) with | some x => x.2.2 | none => []
theorem inn_none {om : Pm} {d : Int} (h : ∀ x ∈ om, d ≠ x.1) : inn om d = [] := by
  unfold inn
  rw [List.find?_eq_none.2 (fun x hx => by simpa using fun e => h x hx e.symm)]
theorem inn_some {A B : Pm} {g : Nat} {l : List (ByteArray × En × Nat)} {d : Int} (h : ∀ x ∈ A, d ≠ x.1) : inn (A ++ (d, g, l) :: B) d = l := by
  unfold inn
  rw [List.find?_append, List.find?_eq_none.2 (fun x hx => by simpa using fun e => h x hx e.symm), Option.none_or, List.find?_cons]
  simp
theorem PmOk.innNames {om : Pm} (h : PmOk om) (d : Int) : ((inn om d).map (·.1)).Nodup := by
  rcases om_cases om h d with ⟨_, hn⟩ | ⟨A, g, l, B, rfl, _, hA, _⟩
  · rw [inn_none hn]; simp
  · rw [inn_some hA]; exact h.names (d, g, l) (by simp)
/-- an entry is there just if it stands in its directory's part -/
theorem PmOk.innMem {om : Pm} (h : PmOk om) {d : Int} {nm : ByteArray} {x : En × Nat} : (nm, x) ∈ inn om d ↔ x ∈ cont om ∧ x.1.d = d ∧ x.1.nm = nm := by
  rcases om_cases om h d with ⟨_, hn⟩ | ⟨A, g, l, B, rfl, _, hA, hB⟩
  · rw [inn_none hn]
    refine ⟨fun e => (by cases e), fun ⟨h1, h2, _⟩ => absurd h2 (h.other (fun _ h => h) hn h1)⟩
  · rw [inn_some hA, cont_app, cont_cons]
    constructor
    · intro hm
      have := h.keys (d, g, l) (by simp) (nm, x) hm
      exact ⟨List.mem_append.2 (.inr (List.mem_append.2 (.inl (List.mem_map.2 ⟨_, hm, rfl⟩)))), this⟩
    · rintro ⟨h1, h2, h3⟩
      rcases List.mem_append.1 h1 with h1 | h1
      · exact absurd h2 (h.other (fun _ h => by simp [h]) hA h1)
      · rcases List.mem_append.1 h1 with h1 | h1
        · obtain ⟨p, hp, rfl⟩ := List.mem_map.1 h1
          have := h.keys (d, g, l) (by simp) p hp
          rw [← h3, this.2]; exact hp
        · exact absurd h2 (h.other (fun _ h => by simp [h]) hB h1)
theorem PmOk.apart {om : Pm} (h : PmOk om) : (cont om).Pairwise fun a b => ¬ (a.1.d = b.1.d ∧ a.1.nm = b.1.nm) := by
  obtain ⟨h1, h2, h3⟩ := h
  induction om with
  | nil => simp [cont]
  | cons x om ih =>
    rw [List.map_cons, List.nodup_cons] at h1
    rw [cont_cons, List.pairwise_append]
    refine ⟨?_, ih h1.2 (fun y hy => h2 y (List.mem_cons_of_mem _ hy)) (fun y hy => h3 y (List.mem_cons_of_mem _ hy)), ?_⟩
    · have k := h2 x (List.mem_cons_self ..)
      have k3 := h3 x (List.mem_cons_self ..)
      rw [List.pairwise_map]
      unfold List.Nodup at k
      rw [List.pairwise_map] at k
      exact k.imp_of_mem fun ha hb hne e => hne (by rw [← (k3 _ ha).2, ← (k3 _ hb).2]; exact e.2)
    · intro a ha b hb e
      obtain ⟨p, hp, rfl⟩ := List.mem_map.1 ha
      obtain ⟨y, hy, q, hq, rfl⟩ := mem_cont.1 hb
      have e1 := (h3 x (List.mem_cons_self ..) p hp).1
      have e2 := (h3 y (List.mem_cons_of_mem _ hy) q hq).1
      exact h1.1 (List.mem_map.2 ⟨y, hy, by rw [← e2, ← e.1, e1]⟩)

/-- entries with numbers of uses, in whatever order, and the list by use -/
def RepL (C : List (En × Nat)) (n : Nat) (L : List En) : Prop := ∃ U : List (En × Nat), U.Pairwise (fun a b => a.2 < b.2) ∧ (∀ u ∈ U, u.2 ≤ n) ∧ U.Perm C ∧ U.map (·.1) = L
theorem RepL.mem {C : List (En × Nat)} {n : Nat} {L : List En} (h : RepL C n L) {e : En} : e ∈ L ↔ ∃ u, (e, u) ∈ C := by
  obtain ⟨U, _, _, h3, rfl⟩ := h
  simp only [List.mem_map]
  constructor
  · rintro ⟨x, hx, rfl⟩; exact ⟨x.2, h3.mem_iff.1 hx⟩
  · rintro ⟨u, hu⟩; exact ⟨(e, u), h3.mem_iff.2 hu, rfl⟩
theorem RepL.len {C : List (En × Nat)} {n : Nat} {L : List En} (h : RepL C n L) : C.length = L.length := by
  obtain ⟨U, _, _, h3, rfl⟩ := h
  rw [List.length_map, h3.length_eq]
theorem RepL.filter {C C' : List (En × Nat)} {n : Nat} {L : List En} (h : RepL C n L) (p : En → Bool) (hc : C'.Perm (C.filter fun x => p x.1)) : RepL C' n (L.filter p) := by
  obtain ⟨U, h1, h2, h3, rfl⟩ := h
  refine ⟨U.filter fun x => p x.1, h1.filter _, fun u hu => h2 u (List.mem_filter.1 hu).1, (h3.filter _).trans hc.symm, ?_⟩
  rw [List.filter_map]; rfl
theorem RepL.push {C C' : List (En × Nat)} {n : Nat} {L : List En} (h : RepL C n L) (e : En) (hc : C'.Perm (C ++ [(e, n + 1)])) : RepL C' (n + 1) (L ++ [e]) := by
  obtain ⟨U, h1, h2, h3, rfl⟩ := h
  refine ⟨U ++ [(e, n + 1)], ?_, ?_, (h3.append_right _).trans hc.symm, by simp⟩
  · rw [List.pairwise_append]
    refine ⟨h1, by simp, fun a ha b hb => ?_⟩
    simp at hb
    subst hb
    have := h2 a ha
    show a.2 < n + 1
    omega
  · intro u hu
    rcases List.mem_append.1 hu with hu | hu
    · have := h2 u hu; omega
    · simp at hu; subst hu; exact Nat.le_refl _
theorem RepL.perm {C C' : List (En × Nat)} {n : Nat} {L : List En} (h : RepL C n L) (hc : C'.Perm C) : RepL C' n L := by
  obtain ⟨U, h1, h2, h3, h4⟩ := h
  exact ⟨U, h1, h2, h3.trans hc.symm, h4⟩
/-- no key stands twice -/
def KeysOk (L : List En) : Prop := L.Pairwise fun a b => ¬ (a.d = b.d ∧ a.nm = b.nm)
theorem RepL.keys {C : List (En × Nat)} {n : Nat} {L : List En} (h : RepL C n L) (hC : C.Pairwise fun a b => ¬ (a.1.d = b.1.d ∧ a.1.nm = b.1.nm)) : KeysOk L := by
  obtain ⟨U, h1, h2, h3, rfl⟩ := h
  unfold KeysOk
  rw [List.pairwise_map]
  exact (h3.pairwise_iff (fun {a b} (h : ¬ (a.1.d = b.1.d ∧ a.1.nm = b.1.nm)) => fun e => h ⟨e.1.symm, e.2.symm⟩)).2 hC
theorem KeysOk.get {L : List En} (h : KeysOk L) {k : Ky} {e : En} : getL L k = some e ↔ e ∈ L ∧ e.d = k.d ∧ e.nm = k.nm := by
  unfold getL
  induction L with
  | nil => simp
  | cons a L ih =>
    unfold KeysOk at h
    rw [List.pairwise_cons] at h
    rw [List.find?_cons]
    cases ha : hasK k a with
    | true =>
      have hk := hasK_iff.1 ha
      simp only [Option.some.injEq, List.mem_cons]
      constructor
      · rintro rfl; exact ⟨.inl rfl, hk⟩
      · rintro ⟨rfl | hm, h1, h2⟩
        · rfl
        · exact absurd ⟨hk.1.trans h1.symm, hk.2.trans h2.symm⟩ (h.1 e hm)
    | false =>
      have hk := hasK_no.1 ha
      simp only [List.mem_cons]
      rw [ih h.2]
      constructor
      · rintro ⟨hm, h1⟩; exact ⟨.inr hm, h1⟩
      · rintro ⟨rfl | hm, h1⟩
        · exact absurd h1 hk
        · exact ⟨hm, h1⟩
theorem getL_none {L : List En} {k : Ky} : getL L k = none ↔ ∀ e ∈ L, ¬ (e.d = k.d ∧ e.nm = k.nm) := by
  unfold getL
  rw [List.find?_eq_none]
  exact ⟨fun h e he => by have := h e he; rw [hasK_iff] at this; exact this, fun h e he => by rw [hasK_iff]; exact h e he⟩
theorem outL_none {L : List En} {k : Ky} (h : getL L k = none) : outL L k = L := List.filter_eq_self.2 fun e he => by rw [hasK_no.2 (getL_none.1 h e he)]; rfl
end
section
/-- the byte at a place; behind the end a slash -/
def bt (s : ByteArray) (i : Nat) : Nat := if h : i < s.size then (s[i]'h).toNat else 47
theorem bt_at (s : ByteArray) (i : Nat) (h : i < s.size) : bt s i = (s[i]'h).toNat := by unfold bt; rw [dif_pos h]
theorem bt_end (s : ByteArray) (i : Nat) (h : s.size ≤ i) : bt s i = 47 := by unfold bt; rw [dif_neg (by omega)]
theorem bt_lt (s : ByteArray) (i : Nat) : bt s i < 256 := by
  unfold bt; split
  · exact UInt8.toNat_lt _
  · omega

/-- a byte is among the first ones -/
def hasF (s : ByteArray) (c : Nat) : Nat → Bool
  | 0 => false
  | i + 1 => hasF s c i || decide (bt s i = c)
def hasB (s : ByteArray) (c : Nat) : Bool := hasF s c s.size
theorem hasF_iff (s : ByteArray) (c n : Nat) : hasF s c n = true ↔ ∃ i, i < n ∧ bt s i = c := by
  induction n with
  | zero => simp [hasF]
  | succ n ih =>
    simp only [hasF, Bool.or_eq_true, ih, decide_eq_true_eq]
    constructor
    · rintro (⟨i, h, e⟩ | e)
      · exact ⟨i, by omega, e⟩
      · exact ⟨n, by omega, e⟩
    · rintro ⟨i, h, e⟩
      by_cases hi : i = n
      · subst hi; exact .inr e
      · exact .inl ⟨i, by omega, e⟩
theorem hasB_of {s : ByteArray} {c i : Nat} (h : i < s.size) (e : bt s i = c) : hasB s c = true := (hasF_iff _ _ _).2 ⟨i, h, e⟩
theorem hasF_no {s : ByteArray} {c n m : Nat} (h : hasF s c n = false) (hm : ∀ i, n ≤ i → i < m → bt s i ≠ c) : hasF s c m = false := by
  rw [← Bool.not_eq_true, hasF_iff] at h ⊢
  rintro ⟨i, hi, e⟩
  by_cases hn : i < n
  · exact h ⟨i, hn, e⟩
  · exact hm i (by omega) hi e

/-- where the piece begins that goes on at a place -/
def frm (s : ByteArray) : Nat → Nat
  | 0 => 0
  | i + 1 => if bt s i = 47 then i + 1 else frm s i
theorem frm_le (s : ByteArray) (i : Nat) : frm s i ≤ i := by
  induction i with
  | zero => exact Nat.le_refl _
  | succ i ih => simp only [frm]; split <;> omega
/-- the pieces that have ended ahead of a place -/
def pcs (s : ByteArray) : Nat → List ByteArray
  | 0 => []
  | i + 1 => if bt s i = 47 ∧ frm s i < i then pcs s i ++ [s.extract (frm s i) i] else pcs s i
theorem pcs_len (s : ByteArray) (i : Nat) : (pcs s i).length ≤ i := by
  induction i with
  | zero => exact Nat.le_refl _
  | succ i ih => simp only [pcs]; split
                 · rw [List.length_append]; simp only [List.length_cons, List.length_nil]; omega
                 · omega
theorem frm_skip {s : ByteArray} {n m : Nat} (hnm : n ≤ m) (hm : ∀ i, n ≤ i → i < m → bt s i ≠ 47) : frm s m = frm s n ∧ pcs s m = pcs s n := by
  induction m with
  | zero => have : n = 0 := by omega
            subst this; exact ⟨rfl, rfl⟩
  | succ m ih =>
    by_cases h : n = m + 1
    · subst h; exact ⟨rfl, rfl⟩
    · have hb := hm m (by omega) (by omega)
      have := ih (by omega) (fun i h1 h2 => hm i h1 (by omega))
      simp only [frm, pcs, hb, if_false, false_and]
      exact this
def pieces (s : ByteArray) : List ByteArray := pcs s (s.size + 1)

def dotsB (s : ByteArray) : Bool := (s.toList == [46]) || (s.toList == [46, 46])
def rootB (s : ByteArray) : Bool := decide (0 < s.size) && decide (bt s 0 = 47)
/-- the last of a list -/
def lastT (l : List ByteArray) : ByteArray := l.getLast?.getD ⟨#[]⟩
def longB (l : List ByteArray) : Bool := l.any fun x => decide (12 < x.size)

def chkE (s : ByteArray) : Int := if 12 < s.size then 11 else if s.size = 0 ∨ dotsB s = true ∨ hasB s 0 = true ∨ hasB s 47 = true then 10 else 0
def cutE (s : ByteArray) (b : Bool) : Int := if 96 < s.size then 13 else if b = false ∨ hasB s 0 = true then 12 else if longB (pieces s) = true then 11 else 0
def cutL (s : ByteArray) (b : Bool) : List ByteArray := if cutE s b = 0 then pieces s else []
def dirB (s : ByteArray) : Bool := decide (bt s (s.size - 1) = 47) || dotsB (lastT (pieces s))
def cutD (s : ByteArray) (b : Bool) : Bool := if cutE s b = 0 then dirB s else false
def parE (s : ByteArray) : Int := if cutE s (rootB s) = 0 then (if (lastT (pieces s)).size = 0 ∨ dotsB (lastT (pieces s)) = true then 10 else 0) else cutE s (rootB s)
def parL (s : ByteArray) : List ByteArray := if parE s = 0 then (pieces s).dropLast else []
def parT (s : ByteArray) : ByteArray := if parE s = 0 then lastT (pieces s) else ⟨#[]⟩

/-- a list of texts in memory -/
def RowS (w : World) (a : Option Addr) (l : List ByteArray) : Prop :=
  l = [] ∨ ∃ b off, a = some ⟨b, off, none⟩ ∧ b < w.heap.size ∧ ∀ (i : Nat) (x : ByteArray), l[i]? = some x → w.cell? ⟨b, off + i, none⟩ = some (.string x)
end
section
theorem bt_get (s : ByteArray) (i : Nat) (h : i < s.size) : (s.get! i).toNat = bt s i := by
  rw [bt_at s i h]
  have := get_at s i h
  rw [Nat.add_zero] at this
  rw [this]

def contP (t : ByteArray) (pos k : Nat) : Prop := pos + k < t.size ∧ (t.get! (pos + k)).toNat / 64 = 2
theorem contP_of {t : ByteArray} {pos k : Nat} (h : (decide (pos + k < t.size) && (t.get! (pos + k)).toNat / 64 == 2) = true) : contP t pos k := by
  rw [Bool.and_eq_true, decide_eq_true_eq, beq_iff_eq] at h; exact h
theorem contP_bt {t : ByteArray} {pos k : Nat} (h : contP t pos k) : pos + k < t.size ∧ 128 ≤ bt t (pos + k) := by
  refine ⟨h.1, ?_⟩
  rw [← bt_get t _ h.1]
  have := h.2; omega
theorem dec_cases (t : ByteArray) (pos : Nat) : (Utf8.decode t pos).2 = 1 ∨ ((Utf8.decode t pos).2 = 2 ∧ contP t pos 1) ∨ ((Utf8.decode t pos).2 = 3 ∧ contP t pos 1 ∧ contP t pos 2) ∨ ((Utf8.decode t pos).2 = 4 ∧ contP t pos 1 ∧ contP t pos 2 ∧ contP t pos 3) := by
  unfold Utf8.decode
  dsimp only
  split
  · exact .inl rfl
  · split
    · rename_i h
      rw [Bool.and_eq_true] at h
      split
      · exact .inr (.inl ⟨rfl, contP_of h.2⟩)
      · exact .inl rfl
    · split
      · rename_i h
        rw [Bool.and_eq_true, Bool.and_eq_true] at h
        split
        · exact .inr (.inr (.inl ⟨rfl, contP_of h.1.2, contP_of h.2⟩))
        · exact .inl rfl
      · split
        · rename_i h
          rw [Bool.and_eq_true, Bool.and_eq_true, Bool.and_eq_true] at h
          split
          · exact .inr (.inr (.inr ⟨rfl, contP_of h.1.1.2, contP_of h.1.2, contP_of h.2⟩))
          · exact .inl rfl
        · exact .inl rfl

theorem dec_step (t : ByteArray) (pos : Nat) (h : pos < t.size) :
    1 ≤ (Utf8.decode t pos).2 ∧ pos + (Utf8.decode t pos).2 ≤ t.size ∧ (∀ i, pos < i → i < pos + (Utf8.decode t pos).2 → 128 ≤ bt t i) ∧
      ((bt t pos < 128 ∧ (Utf8.decode t pos).1 = bt t pos ∧ (Utf8.decode t pos).2 = 1) ∨ (128 ≤ bt t pos ∧ 128 ≤ (Utf8.decode t pos).1)) := by
  have h4 : (bt t pos < 128 ∧ (Utf8.decode t pos).1 = bt t pos ∧ (Utf8.decode t pos).2 = 1) ∨ (128 ≤ bt t pos ∧ 128 ≤ (Utf8.decode t pos).1) := by
    by_cases ha : bt t pos < 128
    · have e := decode_ascii t pos h (by rw [← bt_at t pos h]; exact ha)
      rw [e]
      exact .inl ⟨ha, (bt_at t pos h).symm, rfl⟩
    · exact .inr ⟨by omega, (decode_high t pos h (by rw [← bt_at t pos h]; omega)).1⟩
  refine ⟨?_, ?_, ?_, h4⟩
  · rcases dec_cases t pos with e | ⟨e, _⟩ | ⟨e, _⟩ | ⟨e, _⟩ <;> rw [e] <;> omega
  · rcases dec_cases t pos with e | ⟨e, h1⟩ | ⟨e, _, h1⟩ | ⟨e, _, _, h1⟩ <;> rw [e]
    · omega
    · have := (contP_bt h1).1; omega
    · have := (contP_bt h1).1; omega
    · have := (contP_bt h1).1; omega
  · intro i h1 h2
    rcases dec_cases t pos with e | ⟨e, c1⟩ | ⟨e, c1, c2⟩ | ⟨e, c1, c2, c3⟩ <;> rw [e] at h2
    · omega
    · obtain rfl : i = pos + 1 := by omega
      exact (contP_bt c1).2
    · have : i = pos + 1 ∨ i = pos + 2 := by omega
      rcases this with rfl | rfl
      · exact (contP_bt c1).2
      · exact (contP_bt c2).2
    · have : i = pos + 1 ∨ i = pos + 2 ∨ i = pos + 3 := by omega
      rcases this with rfl | rfl | rfl
      · exact (contP_bt c1).2
      · exact (contP_bt c2).2
      · exact (contP_bt c3).2

/-- a slash behind turns no byte -/
theorem bt_slash (s : ByteArray) (i : Nat) (h : i < s.size + 1) : bt (s ++ ⟨#[47]⟩) i = bt s i := by
  have hz : (s ++ (⟨#[47]⟩ : ByteArray)).size = s.size + 1 := by rw [ByteArray.size_append]; rfl
  by_cases hi : i < s.size
  · rw [bt_at s i hi, bt_at _ i (by omega), ByteArray.getElem_append_left hi]
  · obtain rfl : i = s.size := by omega
    rw [bt_end s _ (Nat.le_refl _), bt_at _ _ (by omega), ByteArray.getElem_append_right (Nat.le_refl _)]
    simp
    rfl
theorem size_slash (s : ByteArray) : (s ++ (⟨#[47]⟩ : ByteArray)).size = s.size + 1 := by rw [ByteArray.size_append]; rfl

theorem toList_size (s : ByteArray) : s.toList.length = s.size := by rw [ByteArray.toList_eq]; cases s; rfl
theorem toList_nil (s : ByteArray) : (s.toList == []) = decide (s.size = 0) := by
  have h := toList_size s
  cases hl : s.toList with
  | nil => rw [hl] at h; simp at h; simp [← h]
  | cons a l => rw [hl] at h; simp at h; simp [← h]

theorem pcs_succ_cut {s : ByteArray} {i : Nat} (h : bt s i = 47) (hf : frm s i < i) : pcs s (i + 1) = pcs s i ++ [s.extract (frm s i) i] := by simp only [pcs]; rw [if_pos ⟨h, hf⟩]
theorem pcs_succ_not {s : ByteArray} {i : Nat} (h : ¬ (bt s i = 47 ∧ frm s i < i)) : pcs s (i + 1) = pcs s i := by simp only [pcs]; rw [if_neg h]
theorem frm_succ_cut {s : ByteArray} {i : Nat} (h : bt s i = 47) : frm s (i + 1) = i + 1 := by simp only [frm]; rw [if_pos h]
theorem frm_succ_not {s : ByteArray} {i : Nat} (h : bt s i ≠ 47) : frm s (i + 1) = frm s i := by simp only [frm]; rw [if_neg h]
end
end Go.Proofs.Ytppbbddlbfgpfaa
