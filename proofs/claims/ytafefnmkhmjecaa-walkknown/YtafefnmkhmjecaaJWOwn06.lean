/- The contracts of package name's Split, Target and Parent. -/
import Derived.Test.YtafefnmkhmjecaaJWOwn05
import Derived.Test.YtafefnmkhmjecaaJWOwn04
import Derived.Deep.Light
namespace Go.Proofs.Ytafefnmkhmjecaa
section
open Go.RowKit

theorem root_pos {s : ByteArray} (h : rootB s = true) : 0 < s.size := by
  unfold rootB at h; rw [Bool.and_eq_true] at h; exact of_decide_eq_true h.1

theorem split_any (s : ByteArray) (w : World) :
    Calls Try.prog 9 #[.string s] w fun e w' => ∃ v, e = .returned (.tuple #[v, .bool (cutD s (rootB s)), .int .i64 (cutE s (rootB s))]) ∧ Own w' w.heap.size v (cutL s (rootB s)) ∧ Below w.heap.size w w' := by
  go_enter Try.func9, Try.ntmps9
  go_wp2_with (first
    | (go_at_call 23; refine (rooted_any _ _).mono ?_; rintro e w' ⟨rfl, rfl⟩)
    | (go_at_call 22; refine (cut_any _ _ _ root_pos).mono ?_; rintro e w1 ⟨v, rfl, hown, hb⟩))
  go_ret3
  exact ⟨_, rfl, hown, hb⟩

def fullB (s : ByteArray) : Bool := !s.toList.isEmpty
def tgtW (s : ByteArray) : Bool := decide (cutE s (fullB s) = 0) && rootB s
theorem full_iff (s : ByteArray) : fullB s = decide (0 < s.size) := by
  have h := toList_size s
  unfold fullB
  cases hl : s.toList with
  | nil => rw [hl] at h; simp at h; simp [← h]
  | cons a l => rw [hl] at h; simp at h; simp [← h]
theorem full_pos {s : ByteArray} (h : fullB s = true) : 0 < s.size := by rw [full_iff] at h; exact of_decide_eq_true h

theorem results_tmp4 {fn : Func} {t u v x : Tmp} (h : fn.results = #[.tmp t, .tmp u, .tmp v, .tmp x]) (tmps : Array Value) (P : Program) (w : World) :
    (results fn tmps).run P w = .ok (.tuple #[tmps.getD t undef, tmps.getD u undef, tmps.getD v undef, tmps.getD x undef]) w := by
  simp [results, h]

theorem target_any (s : ByteArray) (w : World) :
    Calls Try.prog 88 #[.string s] w fun e w' => ∃ v, e = .returned (.tuple #[v, .bool (tgtW s), .bool (cutD s (fullB s)), .int .i64 (cutE s (fullB s))]) ∧ Own w' w.heap.size v (cutL s (fullB s)) ∧ Below w.heap.size w w' := by
  have hf : (!s.toList.isEmpty) = fullB s := rfl
  have HT : Hid (tgtW s = (decide (cutE s (fullB s) = 0) && rootB s)) := (rfl : tgtW s = _)
  obtain ⟨E, hE⟩ : ∃ E, cutE s (fullB s) = E := ⟨_, rfl⟩
  have HI : Hid (cutE s (fullB s) = E) := hE
  clear hE
  go_enter Try.func88, Try.ntmps88
  by_cases h0 : E = 0
  · go_wp2_with (first
      | (go_at_call 23; refine (rooted_any _ _).mono ?_; rintro e w' ⟨rfl, rfl⟩)
      | (go_at_call 22; refine (cut_any _ (fullB s) _ full_pos).mono ?_; rintro e w1 ⟨v, rfl, hown, hb⟩; rw [HI.out, h0]))
    (try simp only [Exit.inBlock, Exit.then]); refine bodyPost_ret (results_tmp4 rfl _ _ _) rfl ?_
    rw [HT.out, HI.out, h0]
    exact ⟨_, rfl, hown, hb⟩
  · go_wp2_with (first
      | (go_at_call 22; refine (cut_any _ (fullB s) _ full_pos).mono ?_; rintro e w1 ⟨v, rfl, hown, hb⟩; rw [HI.out]))
    (try simp only [Exit.inBlock, Exit.then]); refine bodyPost_ret (results_tmp4 rfl _ _ _) rfl ?_
    rw [HT.out, HI.out, decide_eq_false h0]
    exact ⟨_, rfl, hown, hb⟩

theorem pcs_pos (s : ByteArray) (i : Nat) (hi : i ≤ s.size + 1) : ∀ x ∈ pcs s i, 0 < x.size := by
  induction i with
  | zero => intro x hx; cases hx
  | succ i ih =>
    intro x hx
    simp only [pcs] at hx
    split at hx
    · rename_i h
      rcases List.mem_append.1 hx with hx | hx
      · exact ih (by omega) x hx
      · obtain rfl := List.mem_singleton.1 hx
        rw [ByteArray.size_extract]; omega
    · exact ih (by omega) x hx
theorem last_zero (s : ByteArray) : (lastT (pieces s)).size = 0 ↔ pieces s = [] := by
  constructor
  · intro h
    cases hp : pieces s with
    | nil => rfl
    | cons a l =>
      have hg := lastT_get (l := pieces s) (by rw [hp]; simp)
      have := pcs_pos s (s.size + 1) (Nat.le_refl _) _ (List.mem_of_getElem? hg)
      omega
  · intro h; rw [h]; rfl

theorem Own.pop {w : World} {base : Nat} {a : Option Addr} {l : List ByteArray} {cap : Nat} (h : Own w base (.slice a l.length cap) l) (hl : l ≠ []) : Own w base (.slice a (l.length - 1) cap) l.dropLast := by
  obtain ⟨m, x, rfl⟩ : ∃ m x, l = m ++ [x] := ⟨l.dropLast, l.getLast hl, (List.dropLast_concat_getLast hl).symm⟩
  unfold Own at h ⊢
  rw [List.dropLast_concat]
  rw [List.length_append, List.map_append] at h
  rw [List.length_append]
  rcases h.2 with ⟨_, h2⟩ | ⟨g, cap', cur, hv, r⟩
  · simp at h2
  · cases hv
    exact ownsRow_pop (last := [Value.string x]) (by simp) h
theorem Own.lim {w : World} {base : Nat} {a : Option Addr} {l : List ByteArray} {n cap : Nat} (h : Own w base (.slice a n cap) l) : l.length ≤ cap := by
  rcases h.2 with ⟨_, h2⟩ | ⟨g, cap', cur, hv, _, _, hn, _⟩
  · omega
  · cases hv; exact hn
end
section
open Go.RowKit

structure Nd where
  id : Int
  kind : Int
  mode : Int
  tg : ByteArray
deriving DecidableEq
def En.nd (e : En) : Nd := ⟨e.id, e.kind, e.mode, e.tg⟩
def Nd.vals (n : Nd) : List Value := [.int .i64 n.id, .int .i64 n.kind, .int .i64 n.mode, .string n.tg]
def Nd.agg (n : Nd) : Value := .agg #[.int .i64 n.id, .int .i64 n.kind, .int .i64 n.mode, .string n.tg]
def zeroNd : Nd := ⟨0, 0, 0, nob⟩
def rootN : Nd := ⟨1, 1, 0, nob⟩
def zeroKy : Ky := ⟨0, nob⟩
/-- what a walk comes to -/
structure Ou where
  need : Bool
  key : Ky
  err : Int
  node : Nd
  used : List Ky
/-- where a walk is: the last of the way is where it stands -/
structure Ws where
  way : List Nd
  used : List Ky
  dir : Bool
def Ws.here (s : Ws) : Nd := s.way.getLast?.getD rootN
def Ws.inD (s : Ws) : Bool := decide (s.here.kind = 1)
def Ws.up (s : Ws) : Ws := ⟨if 1 < s.way.length then s.way.dropLast else s.way, s.used, s.dir⟩
def Ws.fail (s : Ws) (e : Int) : Ou := ⟨false, zeroKy, e, zeroNd, s.used⟩
def Ws.use (s : Ws) (k : Ky) : Ws := ⟨s.way, s.used ++ [k], s.dir⟩
def Ws.go (s : Ws) (n : Nd) : Ws := ⟨s.way ++ [n], s.used, s.dir⟩
def Ws.met (s : Ws) (tg : ByteArray) (last : Bool) : Ws := ⟨if tgtW tg then [rootN] else s.way, s.used, if last then s.dir || cutD tg (fullB tg) else s.dir⟩
def dot1 : ByteArray := ⟨#[46]⟩
def dot2 : ByteArray := ⟨#[46, 46]⟩
/-- is a node a link that is met? -/
def meetsB (fol : Bool) (s : Ws) (n : Nd) (rest : List ByteArray) : Bool := decide (n.kind = 3) && (decide (0 < rest.length) || s.dir || fol)
/-- the end of all components -/
def Ws.fin (s : Ws) : Ou := if s.dir && !s.inD then s.fail 42 else ⟨false, zeroKy, 0, s.here, s.used⟩
/-- components, one after the other; m: what follows where a link is met -/
def goI (kn : Ky → Option En) (fol : Bool) (m : ByteArray → List ByteArray → Ws → Ou) : List ByteArray → Ws → Ou
  | [], s => s.fin
  | x :: rest, s =>
    if s.inD = false then s.fail 42
    else if x = dot1 then goI kn fol m rest s
    else if x = dot2 then goI kn fol m rest s.up
    else match kn ⟨s.here.id, x⟩ with
      | none => ⟨true, ⟨s.here.id, x⟩, 0, zeroNd, s.used⟩
      | some e =>
        if e.neg then (s.use ⟨s.here.id, x⟩).fail 40
        else if meetsB fol s e.nd rest then m e.tg rest (s.use ⟨s.here.id, x⟩)
        else goI kn fol m rest ((s.use ⟨s.here.id, x⟩).go e.nd)
/-- a link is met with l links left -/
def metW (g : List ByteArray → Ws → Ou) (tg : ByteArray) (rest : List ByteArray) (s : Ws) : Ou :=
  if cutE tg (fullB tg) = 0 then g (cutL tg (fullB tg) ++ rest) (s.met tg (decide (rest.length = 0))) else s.fail (cutE tg (fullB tg))
/-- the walk with so many links left -/
def goW (kn : Ky → Option En) (fol : Bool) : Nat → List ByteArray → Ws → Ou
  | 0 => goI kn fol fun _ _ s => s.fail 49
  | l + 1 => goI kn fol (metW (goW kn fol l))
def metL (kn : Ky → Option En) (fol : Bool) : Nat → ByteArray → List ByteArray → Ws → Ou
  | 0 => fun _ _ s => s.fail 49
  | l + 1 => metW (goW kn fol l)
theorem goW_eq (kn : Ky → Option En) (fol : Bool) (l : Nat) : goW kn fol l = goI kn fol (metL kn fol l) := by cases l <;> rfl
def startW (dir : Bool) : Ws := ⟨[rootN], [], dir⟩
def linksN (l : Int) : Nat := (min (max l 0) 8).toNat
/-- Steps -/
def stepsO (kn : Ky → Option En) (steps : List ByteArray) (dir fol : Bool) (links : Int) : Ou := goW kn fol (linksN links) steps (startW dir)
/-- Walk -/
def walkO (kn : Ky → Option En) (path : ByteArray) (fol : Bool) (links : Int) : Ou :=
  if cutE path (rootB path) = 0 then stepsO kn (cutL path (rootB path)) (cutD path (rootB path)) fol links else ⟨false, zeroKy, cutE path (rootB path), zeroNd, []⟩
/-- of each key the first -/
def sameKy (a b : Ky) : Bool := decide (a.d = b.d ∧ a.nm = b.nm)
theorem sameKy_iff (a b : Ky) : sameKy a b = true ↔ a = b := by
  obtain ⟨a1, a2⟩ := a
  obtain ⟨b1, b2⟩ := b
  unfold sameKy
  simp
theorem sameKy_self (a : Ky) : sameKy a a = true := (sameKy_iff a a).2 rfl
abbrev Fl := List (Ky × En)
def fget (fl : Fl) (k : Ky) : Option En := (fl.find? fun x => sameKy k x.1).map (·.2)
def firstE (fl : Fl) (e : En) : Fl := if (fget fl e.key).isSome then fl else fl ++ [(e.key, e)]
def firstsL (es : List En) : Fl := es.foldl firstE []
def negK (k : Ky) : En := ⟨k.d, k.nm, true, 0, 0, 0, nob⟩
/-- what is known of a key -/
def knC (s : Cs) (k : Ky) : Option En := match getL s.L k with | some e => some e | none => if k.d ∈ s.W then some (negK k) else none
def knF (fl : Fl) (s : Cs) (k : Ky) : Option En := match fget fl k with | some e => some e | none => knC s k
end
section
open Go.RowKit

def mvM (g : Nat) : Value := .map (some g)
def mvU (_ : Unit) : Value := .agg #[]
def mvC (x : En × Nat) : Value := .agg #[.int .i64 x.1.d, .string x.1.nm, .bool x.1.neg, .int .i64 x.1.id, .int .i64 x.1.kind, .int .i64 x.1.mode, .string x.1.tg, .int .i64 x.2]
theorem kI : Kind 3 (Value.int .i64) where
  desc := ⟨_, Try.underlying3, fun a b => by simp [Instr.sameNow]; rfl⟩
  check w em a := by
    unfold Instr.checkKey
    simp [run_underlying Try.underlying3]
  stays a := by unfold Instr.sameBits; simp
theorem kS : Kind 9 Value.string where
  desc := ⟨_, Try.underlying9, fun a b => by
    simp only [Instr.sameNow]
    congr 1
    rw [Bool.eq_iff_iff, decide_eq_true_iff]
    exact MapKept.bytes_beq a b⟩
  check w em a := by
    unfold Instr.checkKey
    simp [run_underlying Try.underlying9]
  stays a := by
    unfold Instr.sameBits
    exact (MapKept.bytes_beq a a).2 rfl
theorem zero_of {t : TypeId} {z : Value} {n m : Nat} (h : (Try.prog.info? t).map (fun i => (i.zero, i.size, i.bytes)) = some (some z, n, m)) (w : World) : (zeroValue t).run Try.prog w = .ok z w := by
  rw [Option.map_eq_some_iff] at h
  obtain ⟨i, hi, h⟩ := h
  have hz : i.zero = some z := congrArg (·.1) h
  simp [zeroValue, typeInfo, hi, hz]
theorem Try.infoMC : (Try.prog.info? 72).map (fun i => (i.zero, i.size, i.bytes)) = some (some (.map none), 1, 8) := by kernel_rfl
theorem Try.infoCa : (Try.prog.info? 74).map (fun i => (i.zero, i.size, i.bytes)) = some (some (.agg #[.int .i64 0, .string ⟨#[]⟩, .bool false, .int .i64 0, .int .i64 0, .int .i64 0, .string ⟨#[]⟩, .int .i64 0]), 8, 80) := by kernel_rfl
theorem Try.infoUn : (Try.prog.info? 94).map (fun i => (i.zero, i.size, i.bytes)) = some (some (.agg #[]), 0, 0) := by kernel_rfl
theorem zeroM (w : World) : (zeroValue 72).run Try.prog w = .ok (.map none) w := zero_of Try.infoMC w
theorem zeroC (w : World) : (zeroValue 74).run Try.prog w = .ok (mvC (zeroEn, 0)) w := zero_of Try.infoCa w
theorem zeroU (w : World) : (zeroValue 94).run Try.prog w = .ok (mvU ()) w := zero_of Try.infoUn w
theorem undO : Try.prog.underlying 68 = some (.map 3 72) := Try.underlying68
theorem undI : Try.prog.underlying 72 = some (.map 9 74) := Try.underlying72
theorem undW : Try.prog.underlying 69 = some (.map 3 94) := Try.underlying69

/-- a cache: its blocks and what they hold -/
structure Pc where
  g0 : Nat
  g1 : Nat
  om : Pm
  wl : List (Int × Unit)
  uses : Nat
def Pc.blk (c : Pc) (p k : Nat) : Prop := k = p ∨ k = c.g0 ∨ k = c.g1 ∨ ∃ x ∈ c.om, x.2.1 = k
structure IsC (w : World) (p : Nat) (c : Pc) : Prop where
  head : w.heap[p]? = some (.cells #[.map (some c.g0), .map (some c.g1), .int .i64 c.uses] 71 (0, 0))
  outer : MapAt (Value.int .i64) mvM w c.g0 (om2 c.om)
  whole : MapAt (Value.int .i64) mvU w c.g1 c.wl
  inner : ∀ x ∈ c.om, MapAt Value.string mvC w x.2.1 x.2.2
  ne : c.g0 ≠ c.g1
  n0 : ∀ x ∈ c.om, x.2.1 ≠ c.g0 ∧ x.2.1 ≠ c.g1
  nb : (c.om.map (·.2.1)).Nodup
  ok : PmOk c.om
  wn : (c.wl.map (·.1)).Nodup
theorem IsC.lt {w : World} {p : Nat} {c : Pc} (h : IsC w p c) {k : Nat} (hk : c.blk p k) : k < w.heap.size := by
  rcases hk with rfl | rfl | rfl | ⟨x, hx, rfl⟩
  · exact (Array.getElem?_eq_some_iff.1 h.head).1
  · exact h.outer.lt
  · exact h.whole.lt
  · exact (h.inner x hx).lt
theorem IsC.moved {w w' : World} {p : Nat} {c : Pc} (h : IsC w p c) (hk : ∀ k, c.blk p k → w'.heap[k]? = w.heap[k]?) : IsC w' p c :=
  ⟨(hk p (.inl rfl)).trans h.head, h.outer.moved (hk _ (.inr (.inl rfl))), h.whole.moved (hk _ (.inr (.inr (.inl rfl)))), fun x hx => (h.inner x hx).moved (hk _ (.inr (.inr (.inr ⟨x, hx, rfl⟩)))), h.ne, h.n0, h.nb, h.ok, h.wn⟩
theorem IsC.below {w w' : World} {p : Nat} {c : Pc} (h : IsC w p c) (hb : Below w.heap.size w w') : IsC w' p c := h.moved fun k hk => hb.block k (h.lt hk)
theorem IsC.drewN {w : World} {p : Nat} {c : Pc} (h : IsC w p c) (n : Nat) : IsC (w.drewN n) p c := h.below (below_drewN (Below.refl _ _) n)
theorem IsC.cells {w : World} {p : Nat} {c : Pc} (h : IsC w p c) : w.cell? ⟨p, 0, none⟩ = some (.map (some c.g0)) ∧ w.cell? ⟨p, 1, none⟩ = some (.map (some c.g1)) ∧ w.cell? ⟨p, 2, none⟩ = some (.int .i64 c.uses) ∧ ∀ i, w.frozen? ⟨p, i, none⟩ = false :=
  ⟨by rw [cell_of h.head]; rfl, by rw [cell_of h.head]; rfl, by rw [cell_of h.head]; rfl, free_of h.head⟩
/-- the map of a directory's names, or nil -/
def Pc.dir (c : Pc) (d : Int) : Option Nat := mget (om2 c.om) d
theorem IsC.innV {w : World} {p : Nat} {c : Pc} (h : IsC w p c) (d : Int) : MapV Value.string mvC w (c.dir d) (inn c.om d) := by
  unfold Pc.dir
  rcases om_cases c.om h.ok d with ⟨e, hn⟩ | ⟨A, g, l, B, e, e2, hA, _⟩
  · rw [e, inn_none hn]; rfl
  · rw [e2, e, inn_some hA]
    exact h.inner (d, g, l) (by rw [e]; simp)
theorem IsC.look {w : World} {p : Nat} {c : Pc} (h : IsC w p c) (d : Int) : (Instr.lookup 68 (.map (some c.g0)) (.int .i64 d) false).run Try.prog w = .ok (.map (c.dir d)) w := by
  have := lookM (mk := Value.int .i64) (mv := mvM) kI undO w (zeroM w) d (some c.g0) (om2 c.om) h.outer
  rw [this]
  unfold mgetV Pc.dir
  cases mget (om2 c.om) d <;> rfl
theorem IsC.look2 {w : World} {p : Nat} {c : Pc} (h : IsC w p c) (d : Int) (nm : ByteArray) : (Instr.lookup 72 (.map (c.dir d)) (.string nm) true).run Try.prog w = .ok (.tuple #[mvC ((mget (inn c.om d) nm).getD (zeroEn, 0)), .bool (mget (inn c.om d) nm).isSome]) w := by
  have := lookOk (mk := Value.string) (mv := mvC) kS undI w (zeroC w) nm (c.dir d) (inn c.om d) (h.innV d)
  rw [this]
  unfold mgetV
  cases mget (inn c.om d) nm <;> rfl
theorem IsC.lenI {w : World} {p : Nat} {c : Pc} (h : IsC w p c) (d : Int) (ty : TypeId) : (Builtin.len_ #[72] ty #[.map (c.dir d)]).run Try.prog w = .ok (.int .i64 (inn c.om d).length) w := lenM undI ty w _ _ (h.innV d)
theorem IsC.lookW {w : World} {p : Nat} {c : Pc} (h : IsC w p c) (d : Int) : (Instr.lookup 69 (.map (some c.g1)) (.int .i64 d) true).run Try.prog w = .ok (.tuple #[.agg #[], .bool (mget c.wl d).isSome]) w := by
  have := lookOk (mk := Value.int .i64) (mv := mvU) kI undW w (zeroU w) d (some c.g1) c.wl h.whole
  rw [this]
  unfold mgetV
  cases mget c.wl d <;> rfl

/-- what it says -/
structure Says (c : Pc) (s : Cs) : Prop where
  rep : RepL (cont c.om) c.uses s.L
  wh : ∀ d, d ∈ s.W ↔ d ∈ c.wl.map (·.1)
theorem Says.keys {c : Pc} {s : Cs} (h : Says c s) (ok : PmOk c.om) : KeysOk s.L := h.rep.keys ok.apart
theorem Says.get {c : Pc} {s : Cs} (h : Says c s) (ok : PmOk c.om) (k : Ky) : (mget (inn c.om k.d) k.nm).map (·.1) = getL s.L k := by
  have hn := ok.innNames k.d
  cases hg : mget (inn c.om k.d) k.nm with
  | none =>
    symm
    rw [Option.map_none, getL_none]
    intro e he hk
    obtain ⟨u, hu⟩ := h.rep.mem.1 he
    exact (mget_not.1 hg) _ (ok.innMem.2 ⟨hu, hk⟩) rfl
  | some x =>
    have := ok.innMem.1 ((mget_iff hn).1 hg)
    symm
    rw [Option.map_some, (h.keys ok).get]
    exact ⟨h.rep.mem.2 ⟨x.2, this.1⟩, this.2⟩
theorem Says.whole {c : Pc} {s : Cs} (h : Says c s) (d : Int) : (mget c.wl d).isSome = decide (d ∈ s.W) := by
  rw [Bool.eq_iff_iff, decide_eq_true_iff, h.wh]
  cases hg : mget c.wl d with
  | none =>
    simp only [Option.isSome_none, Bool.false_eq_true, false_iff, List.mem_map, not_exists, not_and]
    exact fun x hx e => mget_not.1 hg x hx e.symm
  | some u =>
    simp only [Option.isSome_some, true_iff]
    rcases ml_cases c.wl d with h1 | ⟨A, v, B, e, _⟩
    · rw [mget_none h1] at hg; cases hg
    · rw [e]; simp
theorem Says.leaf {c : Pc} {s : Cs} (h : Says c s) (ok : PmOk c.om) (d : Int) : decide ((inn c.om d).length = 0) = s.L.all fun x => decide (x.d ≠ d) := by
  rw [Bool.eq_iff_iff, decide_eq_true_iff, List.all_eq_true]
  constructor
  · intro h0 x hx
    obtain ⟨u, hu⟩ := h.rep.mem.1 hx
    refine decide_eq_true fun e => ?_
    have := ok.innMem.2 ⟨hu, e, rfl⟩
    rw [List.eq_nil_of_length_eq_zero h0] at this
    cases this
  · intro ha
    cases hi : inn c.om d with
    | nil => rfl
    | cons p l =>
      have := ok.innMem.1 (show (p.1, p.2) ∈ inn c.om d by rw [hi]; simp)
      exact absurd this.2.1 (of_decide_eq_true (ha p.2.1 (h.rep.mem.2 ⟨p.2.2, this.1⟩)))
/-- what one call leaves -/
structure Aft (w w' : World) (p : Nat) (c c' : Pc) : Prop where
  is : IsC w' p c'
  only : Only (c.blk p) w w'
  nblk : ∀ k, c'.blk p k → c.blk p k ∨ w.heap.size ≤ k
theorem Aft.refl {w w' : World} {p : Nat} {c : Pc} (h : IsC w p c) (hb : Below w.heap.size w w') : Aft w w' p c c := ⟨h.below hb, Only.of hb, fun _ hk => .inl hk⟩
theorem Aft.trans {w w' w'' : World} {p : Nat} {c c' c'' : Pc} (a : Aft w w' p c c') (b : Aft w' w'' p c' c'') : Aft w w'' p c c'' := by
  refine ⟨b.is, ⟨b.only.os.trans a.only.os, b.only.tape.trans a.only.tape, b.only.output.trans a.only.output, Nat.le_trans a.only.size b.only.size, fun k hk hn => ?_⟩, fun k hk => ?_⟩
  · refine (b.only.block k (Nat.lt_of_lt_of_le hk a.only.size) fun e => ?_).trans (a.only.block k hk hn)
    rcases a.nblk k e with e | e
    · exact hn e
    · omega
  · rcases b.nblk k hk with h | h
    · exact a.nblk k h
    · exact .inr (Nat.le_trans a.only.size h)
theorem Aft.pre {w w' w'' : World} {p : Nat} {c c' : Pc} (h : IsC w p c) (hb : Below w.heap.size w w') (b : Aft w' w'' p c c') : Aft w w'' p c c' := (Aft.refl h hb).trans b
theorem Aft.post {w w' w'' : World} {p : Nat} {c c' : Pc} (a : Aft w w' p c c') (hb : Below w'.heap.size w' w'') : Aft w w'' p c c' := a.trans (Aft.refl a.is hb)
end
end Go.Proofs.Ytafefnmkhmjecaa
