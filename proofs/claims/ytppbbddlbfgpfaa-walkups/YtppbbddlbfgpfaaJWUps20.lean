/- The cache in memory: a map of maps, a set of directories, a count. -/
import Derived.Test.YtppbbddlbfgpfaaJWUps04
import Derived.Deep.Light
namespace Go.Proofs.Ytppbbddlbfgpfaa
section
open Go.RowKit

def mvM (g : Nat) : Value := .map (some g)
def mvU (_ : Unit) : Value := .agg #[]
def mvC (x : En × Nat) : Value := .agg #[.int .i64 x.1.d, .string x.1.nm, .bool x.1.neg, .int .i64 x.1.id, .int .i64 x.1.kind, .int .i64 x.1.mode, .string x.1.tg, .int .i64 x.2]
theorem kI : Kind 3 (Value.int .i64) where
  desc := ⟨_, Try.underlying3, fun a b => by simp [Instr.sameNow]; rfl⟩
  check w em a := by
    unfold Instr.checkKey
    simp [run_underlying Try.underlying3]
  stays a := by unfold Instr.sameBits; simp
theorem kS : Kind 9 Value.string where
  desc := ⟨_, Try.underlying9, fun a b => by
    simp only [Instr.sameNow]
    congr 1
    rw [Bool.eq_iff_iff, decide_eq_true_iff]
    exact MapKept.bytes_beq a b⟩
  check w em a := by
    unfold Instr.checkKey
    simp [run_underlying Try.underlying9]
  stays a := by
    unfold Instr.sameBits
    exact (MapKept.bytes_beq a a).2 rfl
theorem zero_of {t : TypeId} {z : Value} {n m : Nat} (h : (Try.prog.info? t).map (fun i => (i.zero, i.size, i.bytes)) = some (some z, n, m)) (w : World) : (zeroValue t).run Try.prog w = .ok z w := by
  rw [Option.map_eq_some_iff] at h
  obtain ⟨i, hi, h⟩ := h
  have hz : i.zero = some z := congrArg (·.1) h
  simp [zeroValue, typeInfo, hi, hz]
theorem Try.infoMC : (Try.prog.info? 75).map (fun i => (i.zero, i.size, i.bytes)) = some (some (.map none), 1, 8) := by kernel_rfl
theorem Try.infoCa : (Try.prog.info? 77).map (fun i => (i.zero, i.size, i.bytes)) = some (some (.agg #[.int .i64 0, .string ⟨#[]⟩, .bool false, .int .i64 0, .int .i64 0, .int .i64 0, .string ⟨#[]⟩, .int .i64 0]), 8, 80) := by kernel_rfl
theorem Try.infoUn : (Try.prog.info? 99).map (fun i => (i.zero, i.size, i.bytes)) = some (some (.agg #[]), 0, 0) := by kernel_rfl
theorem zeroM (w : World) : (zeroValue 75).run Try.prog w = .ok (.map none) w := zero_of Try.infoMC w
theorem zeroC (w : World) : (zeroValue 77).run Try.prog w = .ok (mvC (zeroEn, 0)) w := zero_of Try.infoCa w
theorem zeroU (w : World) : (zeroValue 99).run Try.prog w = .ok (mvU ()) w := zero_of Try.infoUn w
theorem undO : Try.prog.underlying 71 = some (.map 3 75) := Try.underlying71
theorem undI : Try.prog.underlying 75 = some (.map 9 77) := Try.underlying75
theorem undW : Try.prog.underlying 72 = some (.map 3 99) := Try.underlying72

/-- a cache: its blocks and what they hold -/
structure Pc where
  g0 : Nat
  g1 : Nat
  om : Pm
  wl : List (Int × Unit)
  uses : Nat
def Pc.blk (c : Pc) (p k : Nat) : Prop := k = p ∨ k = c.g0 ∨ k = c.g1 ∨ ∃ x ∈ c.om, x.2.1 = k
structure IsC (w : World) (p : Nat) (c : Pc) : Prop where
  head : w.heap[p]? = some (.cells #[.map (some c.g0), .map (some c.g1), .int .i64 c.uses] 74 (0, 0))
  outer : MapAt (Value.int .i64) mvM w c.g0 (om2 c.om)
  whole : MapAt (Value.int .i64) mvU w c.g1 c.wl
  inner : ∀ x ∈ c.om, MapAt Value.string mvC w x.2.1 x.2.2
  ne : c.g0 ≠ c.g1
  n0 : ∀ x ∈ c.om, x.2.1 ≠ c.g0 ∧ x.2.1 ≠ c.g1
  nb : (c.om.map (·.2.1)).Nodup
  ok : PmOk c.om
  wn : (c.wl.map (·.1)).Nodup
theorem IsC.lt {w : World} {p : Nat} {c : Pc} (h : IsC w p c) {k : Nat} (hk : c.blk p k) : k < w.heap.size := by
  rcases hk with rfl | rfl | rfl | ⟨x, hx, rfl⟩
  · exact (Array.getElem?_eq_some_iff.1 h.head).1
  · exact h.outer.lt
  · exact h.whole.lt
  · exact (h.inner x hx).lt
theorem IsC.moved {w w' : World} {p : Nat} {c : Pc} (h : IsC w p c) (hk : ∀ k, c.blk p k → w'.heap[k]? = w.heap[k]?) : IsC w' p c :=
  ⟨(hk p (.inl rfl)).trans h.head, h.outer.moved (hk _ (.inr (.inl rfl))), h.whole.moved (hk _ (.inr (.inr (.inl rfl)))), fun x hx => (h.inner x hx).moved (hk _ (.inr (.inr (.inr ⟨x, hx, rfl⟩)))), h.ne, h.n0, h.nb, h.ok, h.wn⟩
theorem IsC.below {w w' : World} {p : Nat} {c : Pc} (h : IsC w p c) (hb : Below w.heap.size w w') : IsC w' p c := h.moved fun k hk => hb.block k (h.lt hk)
theorem IsC.drewN {w : World} {p : Nat} {c : Pc} (h : IsC w p c) (n : Nat) : IsC (w.drewN n) p c := h.below (below_drewN (Below.refl _ _) n)
theorem IsC.cells {w : World} {p : Nat} {c : Pc} (h : IsC w p c) : w.cell? ⟨p, 0, none⟩ = some (.map (some c.g0)) ∧ w.cell? ⟨p, 1, none⟩ = some (.map (some c.g1)) ∧ w.cell? ⟨p, 2, none⟩ = some (.int .i64 c.uses) ∧ ∀ i, w.frozen? ⟨p, i, none⟩ = false :=
  ⟨by rw [cell_of h.head]; rfl, by rw [cell_of h.head]; rfl, by rw [cell_of h.head]; rfl, free_of h.head⟩
/-- the map of a directory's names, or nil -/
def Pc.dir (c : Pc) (d : Int) : Option Nat := mget (om2 c.om) d
theorem IsC.innV {w : World} {p : Nat} {c : Pc} (h : IsC w p c) (d : Int) : MapV Value.string mvC w (c.dir d) (inn c.om d) := by
  unfold Pc.dir
  rcases om_cases c.om h.ok d with ⟨e, hn⟩ | ⟨A, g, l, B, e, e2, hA, _⟩
  · rw [e, inn_none hn]; rfl
  · rw [e2, e, inn_some hA]
    exact h.inner (d, g, l) (by rw [e]; simp)
theorem IsC.look {w : World} {p : Nat} {c : Pc} (h : IsC w p c) (d : Int) : (Instr.lookup 71 (.map (some c.g0)) (.int .i64 d) false).run Try.prog w = .ok (.map (c.dir d)) w := by
  have := lookM (mk := Value.int .i64) (mv := mvM) kI undO w (zeroM w) d (some c.g0) (om2 c.om) h.outer
  rw [this]
  unfold mgetV Pc.dir
  cases mget (om2 c.om) d <;> rfl
theorem IsC.look2 {w : World} {p : Nat} {c : Pc} (h : IsC w p c) (d : Int) (nm : ByteArray) : (Instr.lookup 75 (.map (c.dir d)) (.string nm) true).run Try.prog w = .ok (.tuple #[mvC ((mget (inn c.om d) nm).getD (zeroEn, 0)), .bool (mget (inn c.om d) nm).isSome]) w := by
  have := lookOk (mk := Value.string) (mv := mvC) kS undI w (zeroC w) nm (c.dir d) (inn c.om d) (h.innV d)
  rw [this]
  unfold mgetV
  cases mget (inn c.om d) nm <;> rfl
theorem IsC.lenI {w : World} {p : Nat} {c : Pc} (h : IsC w p c) (d : Int) (ty : TypeId) : (Builtin.len_ #[75] ty #[.map (c.dir d)]).run Try.prog w = .ok (.int .i64 (inn c.om d).length) w := lenM undI ty w _ _ (h.innV d)
theorem IsC.lookW {w : World} {p : Nat} {c : Pc} (h : IsC w p c) (d : Int) : (Instr.lookup 72 (.map (some c.g1)) (.int .i64 d) true).run Try.prog w = .ok (.tuple #[.agg #[], .bool (mget c.wl d).isSome]) w := by
  have := lookOk (mk := Value.int .i64) (mv := mvU) kI undW w (zeroU w) d (some c.g1) c.wl h.whole
  rw [this]
  unfold mgetV
  cases mget c.wl d <;> rfl

/-- what it says -/
structure Says (c : Pc) (s : Cs) : Prop where
  rep : RepL (cont c.om) c.uses s.L
  wh : ∀ d, d ∈ s.W ↔ d ∈ c.wl.map (·.1)
theorem Says.keys {c : Pc} {s : Cs} (h : Says c s) (ok : PmOk c.om) : KeysOk s.L := h.rep.keys ok.apart
theorem Says.get {c : Pc} {s : Cs} (h : Says c s) (ok : PmOk c.om) (k : Ky) : (mget (inn c.om k.d) k.nm).map (·.1) = getL s.L k := by
  have hn := ok.innNames k.d
  cases hg : mget (inn c.om k.d) k.nm with
  | none =>
    symm
    rw [Option.map_none, getL_none]
    intro e he hk
    obtain ⟨u, hu⟩ := h.rep.mem.1 he
    exact (mget_not.1 hg) _ (ok.innMem.2 ⟨hu, hk⟩) rfl
  | some x =>
    have := ok.innMem.1 ((mget_iff hn).1 hg)
    symm
    rw [Option.map_some, (h.keys ok).get]
    exact ⟨h.rep.mem.2 ⟨x.2, this.1⟩, this.2⟩
theorem Says.whole {c : Pc} {s : Cs} (h : Says c s) (d : Int) : (mget c.wl d).isSome = decide (d ∈ s.W) := by
  rw [Bool.eq_iff_iff, decide_eq_true_iff, h.wh]
  cases hg : mget c.wl d with
  | none =>
    simp only [Option.isSome_none, Bool.false_eq_true, false_iff, List.mem_map, not_exists, not_and]
    exact fun x hx e => mget_not.1 hg x hx e.symm
  | some u =>
    simp only [Option.isSome_some, true_iff]
    rcases ml_cases c.wl d with h1 | ⟨A, v, B, e, _⟩
    · rw [mget_none h1] at hg; cases hg
    · rw [e]; simp
theorem Says.leaf {c : Pc} {s : Cs} (h : Says c s) (ok : PmOk c.om) (d : Int) : decide ((inn c.om d).length = 0) = s.L.all fun x => decide (x.d ≠ d) := by
  rw [Bool.eq_iff_iff, decide_eq_true_iff, List.all_eq_true]
  constructor
  · intro h0 x hx
    obtain ⟨u, hu⟩ := h.rep.mem.1 hx
    refine decide_eq_true fun e => ?_
    have := ok.innMem.2 ⟨hu, e, rfl⟩
    rw [List.eq_nil_of_length_eq_zero h0] at this
    cases this
  · intro ha
    cases hi : inn c.om d with
    | nil => rfl
    | cons p l =>
      have := ok.innMem.1 (show (p.1, p.2) ∈ inn c.om d by rw [hi]; simp)
      exact absurd this.2.1 (of_decide_eq_true (ha p.2.1 (h.rep.mem.2 ⟨p.2.2, this.1⟩)))
/-- what one call leaves -/
structure Aft (w w' : World) (p : Nat) (c c' : Pc) : Prop where
  is : IsC w' p c'
  only : Only (c.blk p) w w'
  nblk : ∀ k, c'.blk p k → c.blk p k ∨ w.heap.size ≤ k
theorem Aft.refl {w w' : World} {p : Nat} {c : Pc} (h : IsC w p c) (hb : Below w.heap.size w w') : Aft w w' p c c := ⟨h.below hb, Only.of hb, fun _ hk => .inl hk⟩
theorem Aft.trans {w w' w'' : World} {p : Nat} {c c' c'' : Pc} (a : Aft w w' p c c') (b : Aft w' w'' p c' c'') : Aft w w'' p c c'' := by
  refine ⟨b.is, ⟨b.only.os.trans a.only.os, b.only.tape.trans a.only.tape, b.only.output.trans a.only.output, Nat.le_trans a.only.size b.only.size, fun k hk hn => ?_⟩, fun k hk => ?_⟩
  · refine (b.only.block k (Nat.lt_of_lt_of_le hk a.only.size) fun e => ?_).trans (a.only.block k hk hn)
    rcases a.nblk k e with e | e
    · exact hn e
    · omega
  · rcases b.nblk k hk with h | h
    · exact a.nblk k h
    · exact .inr (Nat.le_trans a.only.size h)
theorem Aft.pre {w w' w'' : World} {p : Nat} {c c' : Pc} (h : IsC w p c) (hb : Below w.heap.size w w') (b : Aft w' w'' p c c') : Aft w w'' p c c' := (Aft.refl h hb).trans b
theorem Aft.post {w w' w'' : World} {p : Nat} {c c' : Pc} (a : Aft w w' p c c') (hb : Below w'.heap.size w' w'') : Aft w w'' p c c' := a.trans (Aft.refl a.is hb)
end
end Go.Proofs.Ytppbbddlbfgpfaa
