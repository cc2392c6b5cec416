/- The cache, plainly: what the chapter says of it; and how a map of maps with numbers of uses says the same. -/
import Derived.Test.YtmndnjgbbpkidaaGreatJWLks02
import Derived.Test.YtmndnjgbbpkidaaGreatJWLks03
import Derived.Deep.Light
namespace Go.Proofs.YtmndnjgbbpkidaaGreat
section
open Go.RowKit

def nob : ByteArray := ⟨#[]⟩
def hasK (k : Ky) (e : En) : Bool := decide (e.d = k.d) && decide (e.nm = k.nm)
def hitK (k : Ky) (e : En) : Bool := decide (e.d = k.d) && (decide (k.nm = nob) || decide (e.nm = k.nm))
def En.key (e : En) : Ky := ⟨e.d, e.nm⟩
theorem hasK_iff {k : Ky} {e : En} : hasK k e = true ↔ e.d = k.d ∧ e.nm = k.nm := by unfold hasK; simp
theorem hasK_no {k : Ky} {e : En} : hasK k e = false ↔ ¬ (e.d = k.d ∧ e.nm = k.nm) := by
  rw [← hasK_iff]; simp
def getL (L : List En) (k : Ky) : Option En := L.find? (hasK k)
def outL (L : List En) (k : Ky) : List En := L.filter fun e => !hasK k e
def cutEs (L : List En) (k : Ky) : List En := L.filter fun e => !hitK k e
/-- a cache as the chapter has it -/
structure Cs where
  L : List En
  W : List Int
def partW (W : List Int) (d : Int) : List Int := W.filter fun x => decide (x ≠ d)
def Cs.put (s : Cs) (e : En) : Cs := ⟨outL s.L e.key ++ [e], s.W⟩
def Cs.use (s : Cs) (k : Ky) : Cs := match getL s.L k with | some e => ⟨outL s.L k ++ [e], s.W⟩ | none => s
def Cs.cut1 (s : Cs) (k : Ky) : Cs := ⟨cutEs s.L k, partW s.W k.d⟩
def Cs.cut (s : Cs) (ks : List Ky) : Cs := ks.foldl Cs.cut1 s
def Cs.evict (s : Cs) (k : Ky) : Cs := match getL s.L k with | none => s | some e => ⟨outL s.L k, if e.neg then s.W else partW s.W k.d⟩
def Cs.setW (s : Cs) (d : Int) : Cs := ⟨s.L, if d ∈ s.W then s.W else s.W ++ [d]⟩
def negN (L : List En) : Nat := (L.filter (·.neg)).length
def idOf (e : En) : Int := if e.neg then 0 else e.id
def leafB (L : List En) (k : Ky) : Bool := match getL L k with | none => false | some e => L.all fun x => decide (x.d ≠ idOf e)

theorem mem_partW {W : List Int} {d x : Int} : x ∈ partW W d ↔ x ∈ W ∧ x ≠ d := by unfold partW; simp
theorem mem_setW {s : Cs} {d x : Int} : x ∈ (s.setW d).W ↔ x ∈ s.W ∨ x = d := by
  unfold Cs.setW
  simp only
  split
  · rename_i h
    exact ⟨.inl, fun h' => by rcases h' with h' | rfl <;> assumption⟩
  · simp

/-- the program's: for each directory its block and what stands in it, by name, with the number of its last use -/
abbrev Pm := List (Int × Nat × List (ByteArray × En × Nat))
def cont (om : Pm) : List (En × Nat) := om.flatMap fun x => x.2.2.map (·.2)
theorem cont_app (a b : Pm) : cont (a ++ b) = cont a ++ cont b := by unfold cont; rw [List.flatMap_append]
theorem cont_cons (x : Int × Nat × List (ByteArray × En × Nat)) (b : Pm) : cont (x :: b) = x.2.2.map (·.2) ++ cont b := by unfold cont; rw [List.flatMap_cons]
structure PmOk (om : Pm) : Prop where
  dirs : (om.map (·.1)).Nodup
  names : ∀ x ∈ om, (x.2.2.map (·.1)).Nodup
  keys : ∀ x ∈ om, ∀ p ∈ x.2.2, p.2.1.d = x.1 ∧ p.2.1.nm = p.1
theorem mem_cont {om : Pm} {x : En × Nat} : x ∈ cont om ↔ ∃ y ∈ om, ∃ p ∈ y.2.2, p.2 = x := by
  unfold cont
  simp only [List.mem_flatMap, List.mem_map]
def om2 (om : Pm) : List (Int × Nat) := om.map fun x => (x.1, x.2.1)
theorem om2_keys (om : Pm) : (om2 om).map (·.1) = om.map (·.1) := by unfold om2; rw [List.map_map]; rfl
theorem om_cases (om : Pm) (h : PmOk om) (d : Int) : (mget (om2 om) d = none ∧ ∀ x ∈ om, d ≠ x.1) ∨ ∃ A g l B, om = A ++ (d, g, l) :: B ∧ mget (om2 om) d = some g ∧ (∀ y ∈ A, d ≠ y.1) ∧ ∀ y ∈ B, d ≠ y.1 := by
  rcases ml_cases om d with hn | ⟨A, v, B, rfl, hA⟩
  · exact .inl ⟨mget_none fun x hx => by obtain ⟨y, hy, rfl⟩ := List.mem_map.1 hx; exact hn y hy, hn⟩
  · refine .inr ⟨A, v.1, v.2, B, rfl, ?_, hA, ?_⟩
    · unfold om2
      rw [List.map_append, List.map_cons]
      exact mget_some fun x hx => by obtain ⟨y, hy, rfl⟩ := List.mem_map.1 hx; exact hA y hy
    · have := h.dirs
      rw [List.map_append, List.nodup_append, List.map_cons, List.nodup_cons] at this
      exact fun y hy e => this.2.1.1 (List.mem_map.2 ⟨y, hy, e.symm⟩)
theorem PmOk.other {om : Pm} (h : PmOk om) {A : Pm} (hs : ∀ x ∈ A, x ∈ om) {d : Int} (hA : ∀ y ∈ A, d ≠ y.1) {x : En × Nat} (hx : x ∈ cont A) : x.1.d ≠ d := by
  obtain ⟨y, hy, p, hp, rfl⟩ := mem_cont.1 hx
  rw [(h.keys y (hs y hy) p hp).1]
  exact fun e => hA y hy e.symm
/-- what stands in a directory -/
def inn (om : Pm) (d : Int) : List (ByteArray × En × Nat) := match om.find? fun x => decide (x.1 = d) with | some x => x.2.2 | none => []
theorem inn_none {om : Pm} {d : Int} (h : ∀ x ∈ om, d ≠ x.1) : inn om d = [] := by
  unfold inn
  rw [List.find?_eq_none.2 (fun x hx => by simpa using fun e => h x hx e.symm)]
theorem inn_some {A B : Pm} {g : Nat} {l : List (ByteArray × En × Nat)} {d : Int} (h : ∀ x ∈ A, d ≠ x.1) : inn (A ++ (d, g, l) :: B) d = l := by
  unfold inn
  rw [List.find?_append, List.find?_eq_none.2 (fun x hx => by simpa using fun e => h x hx e.symm), Option.none_or, List.find?_cons]
  simp
theorem PmOk.innNames {om : Pm} (h : PmOk om) (d : Int) : ((inn om d).map (·.1)).Nodup := by
  rcases om_cases om h d with ⟨_, hn⟩ | ⟨A, g, l, B, rfl, _, hA, _⟩
  · rw [inn_none hn]; simp
  · rw [inn_some hA]; exact h.names (d, g, l) (by simp)
/-- an entry is there just if it stands in its directory's part -/
theorem PmOk.innMem {om : Pm} (h : PmOk om) {d : Int} {nm : ByteArray} {x : En × Nat} : (nm, x) ∈ inn om d ↔ x ∈ cont om ∧ x.1.d = d ∧ x.1.nm = nm := by
  rcases om_cases om h d with ⟨_, hn⟩ | ⟨A, g, l, B, rfl, _, hA, hB⟩
  · rw [inn_none hn]
    refine ⟨fun e => (by cases e), fun ⟨h1, h2, _⟩ => absurd h2 (h.other (fun _ h => h) hn h1)⟩
  · rw [inn_some hA, cont_app, cont_cons]
    constructor
    · intro hm
      have := h.keys (d, g, l) (by simp) (nm, x) hm
      exact ⟨List.mem_append.2 (.inr (List.mem_append.2 (.inl (List.mem_map.2 ⟨_, hm, rfl⟩)))), this⟩
    · rintro ⟨h1, h2, h3⟩
      rcases List.mem_append.1 h1 with h1 | h1
      · exact absurd h2 (h.other (fun _ h => by simp [h]) hA h1)
      · rcases List.mem_append.1 h1 with h1 | h1
        · obtain ⟨p, hp, rfl⟩ := List.mem_map.1 h1
          have := h.keys (d, g, l) (by simp) p hp
          rw [← h3, this.2]; exact hp
        · exact absurd h2 (h.other (fun _ h => by simp [h]) hB h1)
theorem PmOk.apart {om : Pm} (h : PmOk om) : (cont om).Pairwise fun a b => ¬ (a.1.d = b.1.d ∧ a.1.nm = b.1.nm) := by
  obtain ⟨h1, h2, h3⟩ := h
  induction om with
  | nil => simp [cont]
  | cons x om ih =>
    rw [List.map_cons, List.nodup_cons] at h1
    rw [cont_cons, List.pairwise_append]
    refine ⟨?_, ih h1.2 (fun y hy => h2 y (List.mem_cons_of_mem _ hy)) (fun y hy => h3 y (List.mem_cons_of_mem _ hy)), ?_⟩
    · have k := h2 x (List.mem_cons_self ..)
      have k3 := h3 x (List.mem_cons_self ..)
      rw [List.pairwise_map]
      unfold List.Nodup at k
      rw [List.pairwise_map] at k
      exact k.imp_of_mem fun ha hb hne e => hne (by rw [← (k3 _ ha).2, ← (k3 _ hb).2]; exact e.2)
    · intro a ha b hb e
      obtain ⟨p, hp, rfl⟩ := List.mem_map.1 ha
      obtain ⟨y, hy, q, hq, rfl⟩ := mem_cont.1 hb
      have e1 := (h3 x (List.mem_cons_self ..) p hp).1
      have e2 := (h3 y (List.mem_cons_of_mem _ hy) q hq).1
      exact h1.1 (List.mem_map.2 ⟨y, hy, by rw [← e2, ← e.1, e1]⟩)

/-- entries with numbers of uses, in whatever order, and the list by use -/
def RepL (C : List (En × Nat)) (n : Nat) (L : List En) : Prop := ∃ U : List (En × Nat), U.Pairwise (fun a b => a.2 < b.2) ∧ (∀ u ∈ U, u.2 ≤ n) ∧ U.Perm C ∧ U.map (·.1) = L
theorem RepL.mem {C : List (En × Nat)} {n : Nat} {L : List En} (h : RepL C n L) {e : En} : e ∈ L ↔ ∃ u, (e, u) ∈ C := by
  obtain ⟨U, _, _, h3, rfl⟩ := h
  simp only [List.mem_map]
  constructor
  · rintro ⟨x, hx, rfl⟩; exact ⟨x.2, h3.mem_iff.1 hx⟩
  · rintro ⟨u, hu⟩; exact ⟨(e, u), h3.mem_iff.2 hu, rfl⟩
theorem RepL.len {C : List (En × Nat)} {n : Nat} {L : List En} (h : RepL C n L) : C.length = L.length := by
  obtain ⟨U, _, _, h3, rfl⟩ := h
  rw [List.length_map, h3.length_eq]
theorem RepL.filter {C C' : List (En × Nat)} {n : Nat} {L : List En} (h : RepL C n L) (p : En → Bool) (hc : C'.Perm (C.filter fun x => p x.1)) : RepL C' n (L.filter p) := by
  obtain ⟨U, h1, h2, h3, rfl⟩ := h
  refine ⟨U.filter fun x => p x.1, h1.filter _, fun u hu => h2 u (List.mem_filter.1 hu).1, (h3.filter _).trans hc.symm, ?_⟩
  rw [List.filter_map]; rfl
theorem RepL.push {C C' : List (En × Nat)} {n : Nat} {L : List En} (h : RepL C n L) (e : En) (hc : C'.Perm (C ++ [(e, n + 1)])) : RepL C' (n + 1) (L ++ [e]) := by
  obtain ⟨U, h1, h2, h3, rfl⟩ := h
  refine ⟨U ++ [(e, n + 1)], ?_, ?_, (h3.append_right _).trans hc.symm, by simp⟩
  · rw [List.pairwise_append]
    refine ⟨h1, by simp, fun a ha b hb => ?_⟩
    simp at hb
    subst hb
    have := h2 a ha
    show a.2 < n + 1
    omega
  · intro u hu
    rcases List.mem_append.1 hu with hu | hu
    · have := h2 u hu; omega
    · simp at hu; subst hu; exact Nat.le_refl _
theorem RepL.perm {C C' : List (En × Nat)} {n : Nat} {L : List En} (h : RepL C n L) (hc : C'.Perm C) : RepL C' n L := by
  obtain ⟨U, h1, h2, h3, h4⟩ := h
  exact ⟨U, h1, h2, h3.trans hc.symm, h4⟩
/-- no key stands twice -/
def KeysOk (L : List En) : Prop := L.Pairwise fun a b => ¬ (a.d = b.d ∧ a.nm = b.nm)
theorem RepL.keys {C : List (En × Nat)} {n : Nat} {L : List En} (h : RepL C n L) (hC : C.Pairwise fun a b => ¬ (a.1.d = b.1.d ∧ a.1.nm = b.1.nm)) : KeysOk L := by
  obtain ⟨U, h1, h2, h3, rfl⟩ := h
  unfold KeysOk
  rw [List.pairwise_map]
  exact (h3.pairwise_iff (fun {a b} (h : ¬ (a.1.d = b.1.d ∧ a.1.nm = b.1.nm)) => fun e => h ⟨e.1.symm, e.2.symm⟩)).2 hC
theorem KeysOk.get {L : List En} (h : KeysOk L) {k : Ky} {e : En} : getL L k = some e ↔ e ∈ L ∧ e.d = k.d ∧ e.nm = k.nm := by
  unfold getL
  induction L with
  | nil => simp
  | cons a L ih =>
    unfold KeysOk at h
    rw [List.pairwise_cons] at h
    rw [List.find?_cons]
    cases ha : hasK k a with
    | true =>
      have hk := hasK_iff.1 ha
      simp only [Option.some.injEq, List.mem_cons]
      constructor
      · rintro rfl; exact ⟨.inl rfl, hk⟩
      · rintro ⟨rfl | hm, h1, h2⟩
        · rfl
        · exact absurd ⟨hk.1.trans h1.symm, hk.2.trans h2.symm⟩ (h.1 e hm)
    | false =>
      have hk := hasK_no.1 ha
      simp only [List.mem_cons]
      rw [ih h.2]
      constructor
      · rintro ⟨hm, h1⟩; exact ⟨.inr hm, h1⟩
      · rintro ⟨rfl | hm, h1⟩
        · exact absurd h1 hk
        · exact ⟨hm, h1⟩
theorem getL_none {L : List En} {k : Ky} : getL L k = none ↔ ∀ e ∈ L, ¬ (e.d = k.d ∧ e.nm = k.nm) := by
  unfold getL
  rw [List.find?_eq_none]
  exact ⟨fun h e he => by have := h e he; rw [hasK_iff] at this; exact this, fun h e he => by rw [hasK_iff]; exact h e he⟩
theorem outL_none {L : List En} {k : Ky} (h : getL L k = none) : outL L k = L := List.filter_eq_self.2 fun e he => by rw [hasK_no.2 (getL_none.1 h e he)]; rfl
end
section
open Go.RowKit

def mvM (g : Nat) : Value := .map (some g)
def mvU (_ : Unit) : Value := .agg #[]
def mvC (x : En × Nat) : Value := .agg #[.int .i64 x.1.d, .string x.1.nm, .bool x.1.neg, .int .i64 x.1.id, .int .i64 x.1.kind, .int .i64 x.1.mode, .string x.1.tg, .int .i64 x.2]
theorem kI : Kind 3 (Value.int .i64) where
  desc := ⟨_, Tryz.underlying3, fun a b => by simp [Instr.sameNow]; rfl⟩
  check w em a := by
    unfold Instr.checkKey
    simp [run_underlying Tryz.underlying3]
  stays a := by unfold Instr.sameBits; simp
theorem kS : Kind 9 Value.string where
  desc := ⟨_, Tryz.underlying9, fun a b => by
    simp only [Instr.sameNow]
    congr 1
    rw [Bool.eq_iff_iff, decide_eq_true_iff]
    exact MapKept.bytes_beq a b⟩
  check w em a := by
    unfold Instr.checkKey
    simp [run_underlying Tryz.underlying9]
  stays a := by
    unfold Instr.sameBits
    exact (MapKept.bytes_beq a a).2 rfl
theorem zero_of {t : TypeId} {z : Value} {n m : Nat} (h : (Tryz.prog.info? t).map (fun i => (i.zero, i.size, i.bytes)) = some (some z, n, m)) (w : World) : (zeroValue t).run Tryz.prog w = .ok z w := by
  rw [Option.map_eq_some_iff] at h
  obtain ⟨i, hi, h⟩ := h
  have hz : i.zero = some z := congrArg (·.1) h
  simp [zeroValue, typeInfo, hi, hz]
theorem Tryz.infoMC : (Tryz.prog.info? 97).map (fun i => (i.zero, i.size, i.bytes)) = some (some (.map none), 1, 8) := by kernel_rfl
theorem Tryz.infoCa : (Tryz.prog.info? 99).map (fun i => (i.zero, i.size, i.bytes)) = some (some (.agg #[.int .i64 0, .string ⟨#[]⟩, .bool false, .int .i64 0, .int .i64 0, .int .i64 0, .string ⟨#[]⟩, .int .i64 0]), 8, 80) := by kernel_rfl
theorem Tryz.infoUn : (Tryz.prog.info? 102).map (fun i => (i.zero, i.size, i.bytes)) = some (some (.agg #[]), 0, 0) := by kernel_rfl
theorem zeroM (w : World) : (zeroValue 97).run Tryz.prog w = .ok (.map none) w := zero_of Tryz.infoMC w
theorem zeroC (w : World) : (zeroValue 99).run Tryz.prog w = .ok (mvC (zeroEn, 0)) w := zero_of Tryz.infoCa w
theorem zeroU (w : World) : (zeroValue 102).run Tryz.prog w = .ok (mvU ()) w := zero_of Tryz.infoUn w
theorem undO : Tryz.prog.underlying 93 = some (.map 3 97) := Tryz.underlying93
theorem undI : Tryz.prog.underlying 97 = some (.map 9 99) := Tryz.underlying97
theorem undW : Tryz.prog.underlying 94 = some (.map 3 102) := Tryz.underlying94

/-- a cache: its blocks and what they hold -/
structure Pc where
  g0 : Nat
  g1 : Nat
  om : Pm
  wl : List (Int × Unit)
  uses : Nat
def Pc.blk (c : Pc) (p k : Nat) : Prop := k = p ∨ k = c.g0 ∨ k = c.g1 ∨ ∃ x ∈ c.om, x.2.1 = k
structure IsC (w : World) (p : Nat) (c : Pc) : Prop where
  head : w.heap[p]? = some (.cells #[.map (some c.g0), .map (some c.g1), .int .i64 c.uses] 96 (0, 0))
  outer : MapAt (Value.int .i64) mvM w c.g0 (om2 c.om)
  whole : MapAt (Value.int .i64) mvU w c.g1 c.wl
  inner : ∀ x ∈ c.om, MapAt Value.string mvC w x.2.1 x.2.2
  ne : c.g0 ≠ c.g1
  n0 : ∀ x ∈ c.om, x.2.1 ≠ c.g0 ∧ x.2.1 ≠ c.g1
  nb : (c.om.map (·.2.1)).Nodup
  ok : PmOk c.om
  wn : (c.wl.map (·.1)).Nodup
theorem IsC.lt {w : World} {p : Nat} {c : Pc} (h : IsC w p c) {k : Nat} (hk : c.blk p k) : k < w.heap.size := by
  rcases hk with rfl | rfl | rfl | ⟨x, hx, rfl⟩
  · exact (Array.getElem?_eq_some_iff.1 h.head).1
  · exact h.outer.lt
  · exact h.whole.lt
  · exact (h.inner x hx).lt
theorem IsC.moved {w w' : World} {p : Nat} {c : Pc} (h : IsC w p c) (hk : ∀ k, c.blk p k → w'.heap[k]? = w.heap[k]?) : IsC w' p c :=
  ⟨(hk p (.inl rfl)).trans h.head, h.outer.moved (hk _ (.inr (.inl rfl))), h.whole.moved (hk _ (.inr (.inr (.inl rfl)))), fun x hx => (h.inner x hx).moved (hk _ (.inr (.inr (.inr ⟨x, hx, rfl⟩)))), h.ne, h.n0, h.nb, h.ok, h.wn⟩
theorem IsC.below {w w' : World} {p : Nat} {c : Pc} (h : IsC w p c) (hb : Below w.heap.size w w') : IsC w' p c := h.moved fun k hk => hb.block k (h.lt hk)
theorem IsC.drewN {w : World} {p : Nat} {c : Pc} (h : IsC w p c) (n : Nat) : IsC (w.drewN n) p c := h.below (below_drewN (Below.refl _ _) n)
theorem IsC.cells {w : World} {p : Nat} {c : Pc} (h : IsC w p c) : w.cell? ⟨p, 0, none⟩ = some (.map (some c.g0)) ∧ w.cell? ⟨p, 1, none⟩ = some (.map (some c.g1)) ∧ w.cell? ⟨p, 2, none⟩ = some (.int .i64 c.uses) ∧ ∀ i, w.frozen? ⟨p, i, none⟩ = false :=
  ⟨by rw [cell_of h.head]; rfl, by rw [cell_of h.head]; rfl, by rw [cell_of h.head]; rfl, free_of h.head⟩
/-- the map of a directory's names, or nil -/
def Pc.dir (c : Pc) (d : Int) : Option Nat := mget (om2 c.om) d
theorem IsC.innV {w : World} {p : Nat} {c : Pc} (h : IsC w p c) (d : Int) : MapV Value.string mvC w (c.dir d) (inn c.om d) := by
  unfold Pc.dir
  rcases om_cases c.om h.ok d with ⟨e, hn⟩ | ⟨A, g, l, B, e, e2, hA, _⟩
  · rw [e, inn_none hn]; rfl
  · rw [e2, e, inn_some hA]
    exact h.inner (d, g, l) (by rw [e]; simp)
theorem IsC.look {w : World} {p : Nat} {c : Pc} (h : IsC w p c) (d : Int) : (Instr.lookup 93 (.map (some c.g0)) (.int .i64 d) false).run Tryz.prog w = .ok (.map (c.dir d)) w := by
  have := lookM (mk := Value.int .i64) (mv := mvM) kI undO w (zeroM w) d (some c.g0) (om2 c.om) h.outer
  rw [this]
  unfold mgetV Pc.dir
  cases mget (om2 c.om) d <;> rfl
theorem IsC.look2 {w : World} {p : Nat} {c : Pc} (h : IsC w p c) (d : Int) (nm : ByteArray) : (Instr.lookup 97 (.map (c.dir d)) (.string nm) true).run Tryz.prog w = .ok (.tuple #[mvC ((mget (inn c.om d) nm).getD (zeroEn, 0)), .bool (mget (inn c.om d) nm).isSome]) w := by
  have := lookOk (mk := Value.string) (mv := mvC) kS undI w (zeroC w) nm (c.dir d) (inn c.om d) (h.innV d)
  rw [this]
  unfold mgetV
  cases mget (inn c.om d) nm <;> rfl
theorem IsC.lenI {w : World} {p : Nat} {c : Pc} (h : IsC w p c) (d : Int) (ty : TypeId) : (Builtin.len_ #[97] ty #[.map (c.dir d)]).run Tryz.prog w = .ok (.int .i64 (inn c.om d).length) w := lenM undI ty w _ _ (h.innV d)
theorem IsC.lookW {w : World} {p : Nat} {c : Pc} (h : IsC w p c) (d : Int) : (Instr.lookup 94 (.map (some c.g1)) (.int .i64 d) true).run Tryz.prog w = .ok (.tuple #[.agg #[], .bool (mget c.wl d).isSome]) w := by
  have := lookOk (mk := Value.int .i64) (mv := mvU) kI undW w (zeroU w) d (some c.g1) c.wl h.whole
  rw [this]
  unfold mgetV
  cases mget c.wl d <;> rfl

/-- what it says -/
structure Says (c : Pc) (s : Cs) : Prop where
  rep : RepL (cont c.om) c.uses s.L
  wh : ∀ d, d ∈ s.W ↔ d ∈ c.wl.map (·.1)
theorem Says.keys {c : Pc} {s : Cs} (h : Says c s) (ok : PmOk c.om) : KeysOk s.L := h.rep.keys ok.apart
theorem Says.get {c : Pc} {s : Cs} (h : Says c s) (ok : PmOk c.om) (k : Ky) : (mget (inn c.om k.d) k.nm).map (·.1) = getL s.L k := by
  have hn := ok.innNames k.d
  cases hg : mget (inn c.om k.d) k.nm with
  | none =>
    symm
    rw [Option.map_none, getL_none]
    intro e he hk
    obtain ⟨u, hu⟩ := h.rep.mem.1 he
    exact (mget_not.1 hg) _ (ok.innMem.2 ⟨hu, hk⟩) rfl
  | some x =>
    have := ok.innMem.1 ((mget_iff hn).1 hg)
    symm
    rw [Option.map_some, (h.keys ok).get]
    exact ⟨h.rep.mem.2 ⟨x.2, this.1⟩, this.2⟩
theorem Says.whole {c : Pc} {s : Cs} (h : Says c s) (d : Int) : (mget c.wl d).isSome = decide (d ∈ s.W) := by
  rw [Bool.eq_iff_iff, decide_eq_true_iff, h.wh]
  cases hg : mget c.wl d with
  | none =>
    simp only [Option.isSome_none, Bool.false_eq_true, false_iff, List.mem_map, not_exists, not_and]
    exact fun x hx e => mget_not.1 hg x hx e.symm
  | some u =>
    simp only [Option.isSome_some, true_iff]
    rcases ml_cases c.wl d with h1 | ⟨A, v, B, e, _⟩
    · rw [mget_none h1] at hg; cases hg
    · rw [e]; simp
theorem Says.leaf {c : Pc} {s : Cs} (h : Says c s) (ok : PmOk c.om) (d : Int) : decide ((inn c.om d).length = 0) = s.L.all fun x => decide (x.d ≠ d) := by
  rw [Bool.eq_iff_iff, decide_eq_true_iff, List.all_eq_true]
  constructor
  · intro h0 x hx
    obtain ⟨u, hu⟩ := h.rep.mem.1 hx
    refine decide_eq_true fun e => ?_
    have := ok.innMem.2 ⟨hu, e, rfl⟩
    rw [List.eq_nil_of_length_eq_zero h0] at this
    cases this
  · intro ha
    cases hi : inn c.om d with
    | nil => rfl
    | cons p l =>
      have := ok.innMem.1 (show (p.1, p.2) ∈ inn c.om d by rw [hi]; simp)
      exact absurd this.2.1 (of_decide_eq_true (ha p.2.1 (h.rep.mem.2 ⟨p.2.2, this.1⟩)))
/-- what one call leaves -/
structure Aft (w w' : World) (p : Nat) (c c' : Pc) : Prop where
  is : IsC w' p c'
  only : Only (c.blk p) w w'
  nblk : ∀ k, c'.blk p k → c.blk p k ∨ w.heap.size ≤ k
theorem Aft.refl {w w' : World} {p : Nat} {c : Pc} (h : IsC w p c) (hb : Below w.heap.size w w') : Aft w w' p c c := ⟨h.below hb, Only.of hb, fun _ hk => .inl hk⟩
theorem Aft.trans {w w' w'' : World} {p : Nat} {c c' c'' : Pc} (a : Aft w w' p c c') (b : Aft w' w'' p c' c'') : Aft w w'' p c c'' := by
  refine ⟨b.is, ⟨b.only.os.trans a.only.os, b.only.tape.trans a.only.tape, b.only.output.trans a.only.output, Nat.le_trans a.only.size b.only.size, fun k hk hn => ?_⟩, fun k hk => ?_⟩
  · refine (b.only.block k (Nat.lt_of_lt_of_le hk a.only.size) fun e => ?_).trans (a.only.block k hk hn)
    rcases a.nblk k e with e | e
    · exact hn e
    · omega
  · rcases b.nblk k hk with h | h
    · exact a.nblk k h
    · exact .inr (Nat.le_trans a.only.size h)
theorem Aft.pre {w w' w'' : World} {p : Nat} {c c' : Pc} (h : IsC w p c) (hb : Below w.heap.size w w') (b : Aft w' w'' p c c') : Aft w w'' p c c' := (Aft.refl h hb).trans b
theorem Aft.post {w w' w'' : World} {p : Nat} {c c' : Pc} (a : Aft w w' p c c') (hb : Below w'.heap.size w' w'') : Aft w w'' p c c' := a.trans (Aft.refl a.is hb)
end
end Go.Proofs.YtmndnjgbbpkidaaGreat
