/- prune's sorting out: places plainly, the list and the map of lists in memory. -/
import Derived.Test.YtabdicbmecgogaaJPEpt26
namespace Go.Proofs.Ytabdicbmecgogaa
section
open Go.RowKit

def plcs (q : En → Bool) (L : List En) (k : Nat) : List Nat := (List.range k).filter fun i => match L[i]? with | some e => q e | none => false
theorem plcs_step {q : En → Bool} {L : List En} {k : Nat} {e : En} (h : L[k]? = some e) : plcs q L (k + 1) = plcs q L k ++ if q e then [k] else [] := by
  unfold plcs
  rw [List.range_succ, List.filter_append]
  congr 1
  cases hq : q e <;> simp [h, hq]
theorem plcs_mem {q : En → Bool} {L : List En} {k p : Nat} : p ∈ plcs q L k ↔ p < k ∧ ∃ e, L[p]? = some e ∧ q e = true := by
  unfold plcs
  rw [List.mem_filter, List.mem_range]
  refine and_congr_right fun _ => ?_
  cases h : L[p]? with
  | none => simp
  | some e => simp
theorem plcs_rise (q : En → Bool) (L : List En) (k : Nat) : (plcs q L k).Pairwise (· < ·) := List.Pairwise.filter _ List.pairwise_lt_range
theorem plcs_len (q : En → Bool) (L : List En) (k : Nat) : (plcs q L k).length ≤ k := by
  unfold plcs
  have := List.length_filter_le (fun i => match L[i]? with | some e => q e | none => false) (List.range k)
  rw [List.length_range] at this
  exact this
def heldQ (p : En → Bool) (d : Int) (e : En) : Bool := !p e && decide (idOf e = d)
def heldL (p : En → Bool) (L : List En) (k : Nat) (d : Int) : List Nat := plcs (heldQ p d) L k
theorem held_yes {p : En → Bool} {L : List En} {k : Nat} {e : En} (h : L[k]? = some e) (hp : p e = true) : heldL p L (k + 1) = heldL p L k := by
  funext d
  unfold heldL
  rw [plcs_step h]
  have : heldQ p d e = false := by unfold heldQ; rw [hp]; rfl
  rw [this]
  simp
theorem held_no {p : En → Bool} {L : List En} {k : Nat} {e : En} (h : L[k]? = some e) (hp : p e = false) : heldL p L (k + 1) = fun x => if x = idOf e then heldL p L k (idOf e) ++ [k] else heldL p L k x := by
  funext d
  unfold heldL
  rw [plcs_step h]
  have : heldQ p d e = decide (idOf e = d) := by unfold heldQ; rw [hp]; rfl
  rw [this]
  by_cases hd : d = idOf e
  · subst hd
    simp
  · rw [if_neg hd, decide_eq_false fun e' => hd e'.symm]
    simp
/-- a slice of ints, as the map has it -/
structure Slv where
  a : Option Addr
  n : Nat
  c : Nat
def mvS (x : Slv) : Value := .slice x.a x.n x.c
def ints (l : List Nat) : List Int := l.map fun i : Nat => (i : Int)
theorem ints_app (a b : List Nat) : ints (a ++ b) = ints a ++ ints b := by unfold ints; simp
theorem ints_len (a : List Nat) : (ints a).length = a.length := by unfold ints; simp
theorem undH : Try.prog.underlying 84 = some (.map 3 50) := Try.underlying84
theorem zeroH (w : World) : (zeroValue 50).run Try.prog w = .ok (.slice none 0 0) w := zero_of (n := 1) (m := 24) (by kernel_rfl) w
/-- the places by node, in memory -/
structure HdAt (w : World) (B gh : Nat) (hm : List (Int × Slv)) (hl : Int → List Nat) : Prop where
  map : MapAt (Value.int .i64) mvS w gh hm
  nd : (hm.map (·.1)).Nodup
  row : ∀ x ∈ hm, RowI w B (mvS x.2) (ints (hl x.1))
  no : ∀ d, mget hm d = none → hl d = []
  apart : ∀ x ∈ hm, ∀ y ∈ hm, x.1 ≠ y.1 → ∀ k, (mvS x.2).ownBlock = some k → (mvS y.2).ownBlock ≠ some k
theorem HdAt.moved {w w' : World} {B gh : Nat} {hm : List (Int × Slv)} {hl : Int → List Nat} (h : HdAt w B gh hm hl) (hg : w'.heap[gh]? = w.heap[gh]?) (hk : ∀ x ∈ hm, ∀ k, (mvS x.2).ownBlock = some k → w'.heap[k]? = w.heap[k]?) : HdAt w' B gh hm hl :=
  ⟨h.map.moved hg, h.nd, fun x hx => owns_moved (h.row x hx) (hk x hx), h.no, h.apart⟩
/-- what is held of a directory -/
def hget (hm : List (Int × Slv)) (d : Int) : Value := mgetV mvS (.slice none 0 0) hm d
theorem HdAt.get {w : World} {B gh : Nat} {hm : List (Int × Slv)} {hl : Int → List Nat} (h : HdAt w B gh hm hl) (d : Int) : RowI w B (hget hm d) (ints (hl d)) ∧ (∀ k, (hget hm d).ownBlock = some k → ∃ x ∈ hm, x.1 = d ∧ (mvS x.2).ownBlock = some k) ∧ (Instr.lookup 84 (.map (some gh)) (.int .i64 d) false).run Try.prog w = .ok (hget hm d) w := by
  refine ⟨?_, ?_, lookM (mk := Value.int .i64) (mv := mvS) kI undH w (zeroH w) d (some gh) hm h.map⟩
  · unfold hget mgetV
    cases hg : mget hm d with
    | none =>
      rw [h.no d hg]
      show RowI w B (.slice none 0 0) []
      exact World.ownsRow_nil _ _ _ _
    | some x => exact h.row (d, x) ((mget_iff h.nd).1 hg)
  · intro k hk
    unfold hget mgetV at hk
    cases hg : mget hm d with
    | none => rw [hg] at hk; cases hk
    | some x => rw [hg] at hk; exact ⟨(d, x), (mget_iff h.nd).1 hg, rfl, hk⟩
/-- the state of sorting out -/
structure So (w0 w : World) (gh : Nat) (vn : Value) (hm : List (Int × Slv)) (nl : List Nat) (hl : Int → List Nat) : Prop where
  nx : RowI w w0.heap.size vn (ints nl)
  hd : HdAt w w0.heap.size gh hm hl
  off : ∀ x ∈ hm, ∀ k, (mvS x.2).ownBlock = some k → vn.ownBlock ≠ some k
  below : Below w0.heap.size w0 w
  g0 : w0.heap.size ≤ gh
theorem RowI.tag {w : World} {B : Nat} {v : Value} {l : List Int} (h : RowI w B v l) {k : Nat} (hk : v.ownBlock = some k) : B ≤ k ∧ k < w.heap.size ∧ Tag w k 3 := ⟨(World.ownsRow.lt h k hk).1, (World.ownsRow.lt h k hk).2, Tag.own h hk⟩
theorem So.on {w0 w w' : World} {gh : Nat} {vn : Value} {hm : List (Int × Slv)} {nl : List Nat} {hl : Int → List Nat} (h : So w0 w gh vn hm nl hl) (hb : Below w.heap.size w w') : So w0 w' gh vn hm nl hl :=
  ⟨owns_below h.nx hb, h.hd.moved (hb.block _ h.hd.map.lt) (fun x hx _ hk => hb.block _ (RowI.tag (h.hd.row x hx) hk).2.1), h.off, chainB h.below hb, h.g0⟩
theorem one_int {w : World} {b k : Nat} (h : w.heap[b]? = some (.cells #[.int .i64 (k : Int)] 3 (0, 0))) : ∀ j u, (ci [(k : Int)])[j]? = some u → w.cell? ((⟨b, 0, none⟩ : Addr).add j) = some u := by
  intro j u hu
  rw [add_plain']
  cases j with
  | zero => simp [ci] at hu; subst hu; rw [cell_of h]; rfl
  | succ j => simp [ci] at hu
/-- a place more that may go -/
theorem So.push {w0 w X : World} {gh : Nat} {vn : Value} {hm : List (Int × Slv)} {nl : List Nat} {hl : Int → List Nat} (h : So w0 w gh vn hm nl hl) (hb : Below w.heap.size w X) (k b : Nat) (hx : X.heap[b]? = some (.cells #[.int .i64 (k : Int)] 3 (0, 0))) (hn : nl.length ≤ 1400000000000) :
    ∃ a6 N6 c6 Z, (∀ ty, (Builtin.append_ #[50, 50] ty #[vn, .slice (some ⟨b, 0, none⟩) 1 1]).run Try.prog X = .ok (.slice a6 N6 c6) Z) ∧ So w0 Z gh (.slice a6 N6 c6) hm (nl ++ [k]) hl := by
  have hX := h.on hb
  obtain ⟨v6, Z, r6, row6, o6, p6⟩ := appI (w := X) (B := w0.heap.size) (v := vn) (l := ints nl) (l2 := [(k : Int)]) (ad := ⟨b, 0, none⟩) (c := 1) hX.nx (one_int hx) hX.below.size (by rw [ints_len]; simp only [List.length_cons, List.length_nil]; omega)
  obtain ⟨a6, c6, hv6⟩ := owns_len row6
  subst hv6
  refine ⟨a6, _, c6, Z, r6, by rw [ints_app]; exact row6, hX.hd.moved (o6.block _ hX.hd.map.lt fun e => hX.hd.map.neTag (RowI.tag hX.nx e).2.2 rfl) (fun x hx' q hq => o6.block _ (RowI.tag (hX.hd.row x hx') hq).2.1 (hX.off x hx' q hq)), fun x hx' q hq e => ?_, o6.below hX.below hX.below.size (fun q hq => (RowI.tag hX.nx hq).1), h.g0⟩
  rcases p6 with p6 | p6
  · rw [p6] at e; exact hX.off x hx' q hq e
  · rw [p6] at e
    injection e with e
    have := (RowI.tag (hX.hd.row x hx') hq).2.1
    omega
/-- a place more that is held -/
theorem So.hold {w0 w X : World} {gh : Nat} {vn : Value} {hm : List (Int × Slv)} {nl : List Nat} {hl : Int → List Nat} (h : So w0 w gh vn hm nl hl) (hb : Below w.heap.size w X) (d : Int) (k b : Nat) (hx : X.heap[b]? = some (.cells #[.int .i64 (k : Int)] 3 (0, 0))) (hn : (hl d).length ≤ 1400000000000) :
    ∃ a6 N6 c6 Z, (∀ ty, (Builtin.append_ #[50, 50] ty #[hget hm d, .slice (some ⟨b, 0, none⟩) 1 1]).run Try.prog X = .ok (.slice a6 N6 c6) Z) ∧
      ∃ Z2 hm', (Instr.mapUpdate 84 (.map (some gh)) (.int .i64 d) (.slice a6 N6 c6)).run Try.prog Z = .ok () Z2 ∧ So w0 Z2 gh vn hm' nl (fun x => if x = d then hl d ++ [k] else hl x) ∧ Only (fun q => q = gh ∨ (hget hm d).ownBlock = some q) X Z ∧ Only (· = gh) Z Z2 := by
  have hX := h.on hb
  obtain ⟨g1, g2, -⟩ := hX.hd.get d
  obtain ⟨v6, Z, r6, row6, o6, p6⟩ := appI (w := X) (B := w0.heap.size) (v := hget hm d) (l := ints (hl d)) (l2 := [(k : Int)]) (ad := ⟨b, 0, none⟩) (c := 1) g1 (one_int hx) hX.below.size (by rw [ints_len]; simp only [List.length_cons, List.length_nil]; omega)
  obtain ⟨a6, c6, hv6⟩ := owns_len row6
  subst hv6
  have hgz : Z.heap[gh]? = X.heap[gh]? := o6.block _ hX.hd.map.lt fun e => hX.hd.map.neTag (RowI.tag g1 e).2.2 rfl
  obtain ⟨Z2, hr, hm2, hO, -⟩ := storeM (mk := Value.int .i64) (mv := mvS) kI undH Z gh hm (hX.hd.map.moved hgz) d ⟨a6, (ints (hl d) ++ [(k : Int)]).length, c6⟩
  have hrow : RowI Z w0.heap.size (.slice a6 (ints (hl d) ++ [(k : Int)]).length c6) (ints (hl d ++ [k])) := by rw [ints_app]; exact row6
  have hzb : Below w0.heap.size w0 Z := o6.below hX.below hX.below.size (fun q hq => (RowI.tag g1 hq).1)
  have hnb : ∀ x ∈ hm, x.1 ≠ d → ∀ q, (mvS x.2).ownBlock = some q → (hget hm d).ownBlock ≠ some q := fun x hx' hne q hq e => by
    obtain ⟨y, hy, hyd, hyq⟩ := g2 q e
    exact hX.hd.apart x hx' y hy (by rw [hyd]; exact hne) q hq hyq
  have hgq : ∀ {W : World} {l : List Int} {v : Value}, RowI W w0.heap.size v l → MapAt (Value.int .i64) mvS W gh hm → ∀ q, v.ownBlock = some q → q ≠ gh := fun hR hM q hq e => hM.neTag (RowI.tag hR hq).2.2 e.symm
  have hmZ := hX.hd.map.moved hgz
  refine ⟨a6, _, c6, Z, r6, Z2, mput hm d ⟨a6, (ints (hl d) ++ [(k : Int)]).length, c6⟩, hr, ⟨?_, ⟨hm2, mput_keys hX.hd.nd d _, ?_, ?_, ?_⟩, ?_, hO.below hzb hzb.size (fun q hq => by rw [hq]; exact h.g0), h.g0⟩, o6.mono fun q hq => .inr hq, hO⟩
  · -- the list of those that may go
    have h1 : RowI Z w0.heap.size vn (ints nl) := owns_moved hX.nx fun q hq => o6.block _ (RowI.tag hX.nx hq).2.1 fun e => by
      obtain ⟨y, hy, _, hyq⟩ := g2 q e
      exact hX.off y hy q hyq hq
    exact owns_moved h1 fun q hq => hO.block _ (RowI.tag h1 hq).2.1 (hgq h1 hmZ q hq)
  · intro x hx'
    have hp := (mput_perm hX.hd.nd d (⟨a6, (ints (hl d) ++ [(k : Int)]).length, c6⟩ : Slv)).mem_iff.1 hx'
    rcases List.mem_append.1 hp with hp | hp
    · obtain ⟨hp1, hp2⟩ := List.mem_filter.1 hp
      have hne : x.1 ≠ d := fun e => by simp [e] at hp2
      rw [if_neg hne]
      have h1 : RowI Z w0.heap.size (mvS x.2) (ints (hl x.1)) := owns_moved (hX.hd.row x hp1) fun q hq => o6.block _ (RowI.tag (hX.hd.row x hp1) hq).2.1 (hnb x hp1 hne q hq)
      exact owns_moved h1 fun q hq => hO.block _ (RowI.tag h1 hq).2.1 (hgq h1 hmZ q hq)
    · rw [List.mem_singleton.1 hp]
      show RowI Z2 w0.heap.size (mvS _) (ints (if d = d then hl d ++ [k] else hl d))
      rw [if_pos rfl]
      exact owns_moved hrow fun q hq => hO.block _ (RowI.tag hrow hq).2.1 (hgq hrow hmZ q hq)
  · intro x hx'
    by_cases hne : x = d
    · subst hne
      exfalso
      rw [mget_not] at hx'
      have hp := (mput_perm hX.hd.nd x (⟨a6, (ints (hl x) ++ [(k : Int)]).length, c6⟩ : Slv)).mem_iff.2 (List.mem_append_right _ (List.mem_singleton.2 rfl))
      exact hx' _ hp rfl
    · rw [if_neg hne]
      refine hX.hd.no x (mget_not.2 fun y hy => ?_)
      rw [mget_not] at hx'
      by_cases hyd : y.1 = d
      · rw [hyd]; exact hne
      · exact hx' y ((mput_perm hX.hd.nd d _).mem_iff.2 (List.mem_append_left _ (List.mem_filter.2 ⟨hy, by simp; exact fun e => hyd e.symm⟩)))
  · intro x hx' y hy' hxy q hq
    have hpx := (mput_perm hX.hd.nd d (⟨a6, (ints (hl d) ++ [(k : Int)]).length, c6⟩ : Slv)).mem_iff.1 hx'
    have hpy := (mput_perm hX.hd.nd d (⟨a6, (ints (hl d) ++ [(k : Int)]).length, c6⟩ : Slv)).mem_iff.1 hy'
    have new : ∀ z ∈ hm, z.1 ≠ d → ∀ q, (mvS z.2).ownBlock = some q → (Value.slice a6 (ints (hl d) ++ [(k : Int)]).length c6).ownBlock ≠ some q := fun z hz hzd q hq e => by
      rcases p6 with p6 | p6
      · rw [p6] at e; exact hnb z hz hzd q hq e
      · rw [p6] at e
        injection e with e
        have := (RowI.tag (hX.hd.row z hz) hq).2.1
        omega
    rcases List.mem_append.1 hpx with hpx | hpx <;> rcases List.mem_append.1 hpy with hpy | hpy
    · exact hX.hd.apart x (List.mem_filter.1 hpx).1 y (List.mem_filter.1 hpy).1 hxy q hq
    · rw [List.mem_singleton.1 hpy] at hxy ⊢
      exact new x (List.mem_filter.1 hpx).1 hxy q hq
    · rw [List.mem_singleton.1 hpx] at hxy hq
      intro e
      exact new y (List.mem_filter.1 hpy).1 (fun e' => hxy e'.symm) q e hq
    · rw [List.mem_singleton.1 hpx, List.mem_singleton.1 hpy] at hxy
      exact absurd rfl hxy
  · intro x hx' q hq
    have hpx := (mput_perm hX.hd.nd d (⟨a6, (ints (hl d) ++ [(k : Int)]).length, c6⟩ : Slv)).mem_iff.1 hx'
    rcases List.mem_append.1 hpx with hpx | hpx
    · exact hX.off x (List.mem_filter.1 hpx).1 q hq
    · rw [List.mem_singleton.1 hpx] at hq
      rcases p6 with p6 | p6
      · have hq' : (Value.slice a6 (ints (hl d) ++ [(k : Int)]).length c6).ownBlock = some q := hq
        rw [p6] at hq'
        obtain ⟨y, hy, _, hyq⟩ := g2 q hq'
        exact hX.off y hy q hyq
      · intro e
        have e1 : q = X.heap.size := by
          have hq' : (Value.slice a6 (ints (hl d) ++ [(k : Int)]).length c6).ownBlock = some q := hq
          rw [p6] at hq'
          exact (Option.some.inj hq').symm
        have := (RowI.tag hX.nx e).2.1
        omega
end
end Go.Proofs.Ytabdicbmecgogaa
