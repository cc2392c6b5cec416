/- WalkUps, plainly; lists of names one behind the other. -/
import Derived.Test.YtppbbddlbfgpfaaJWOme34
import Derived.Test.YtppbbddlbfgpfaaJWOme36
import Derived.Test.YtppbbddlbfgpfaaJWOme33
import Derived.Test.YtppbbddlbfgpfaaJWOme37
import Derived.Test.YtppbbddlbfgpfaaJWOme15
import Derived.Test.YtppbbddlbfgpfaaJWOme24
import Derived.Test.YtppbbddlbfgpfaaJWOme05
import Derived.ProofKit
import Derived.OpenShut
import Derived.Deep.Strs
import Derived.Lib.SmallJoins
import Derived.Test.YtppbbddlbfgpfaaRows
namespace Go.Proofs.Ytppbbddlbfgpfaa
section
open Go.RowKit

theorem kn_mem {es : List En} {next : Int} (h : WF Mn es next) {e : En} (he : e ∈ es) : knC (fillS es) ⟨e.d, e.nm⟩ = some e := by
  obtain ⟨i1, -⟩ := fillS_is es (wf_names h) h.rises.apart
  unfold knC
  rw [i1]
  have hk : KeysOk es := h.rises.apart
  have : getL es ⟨e.d, e.nm⟩ = some e := hk.get.2 ⟨he, rfl, rfl⟩
  rw [this]
theorem ups_root (kn : Ky → Option En) (links : Int) : stepsO kn [dot2, dot1, dot2] true true links = ⟨false, zeroKy, 0, rootN, []⟩ := by
  have h21 : ¬ dot2 = dot1 := by decide
  unfold stepsO
  rw [goW_eq, goI, if_neg (by decide), if_neg h21, if_pos rfl, goI, if_neg (by decide), if_pos rfl, goI, if_neg (by decide), if_neg h21, if_pos rfl, goI]
  rfl
/-- a directory's name, and .. behind it -/
theorem ups_plain {es : List En} {next : Int} (h : WF Mn es next) (L : List ByteArray) (links : Int) {O : Ou} (hO : stepsO (knC (fillS es)) L true true links = O) (he : O.err = 0) {e : En} (hm : e ∈ es) (hd : e.d = O.node.id) (hk : e.kind = 1) :
    stepsO (knC (fillS es)) (L ++ [e.nm, dot2]) true true links = ⟨false, zeroKy, 0, O.node, O.used ++ [⟨e.d, e.nm⟩]⟩ ∧ stepsO (knC (fillS es)) (L ++ [e.nm]) true true links = ⟨false, zeroKy, 0, e.nd, O.used ++ [⟨e.d, e.nm⟩]⟩ := by
  unfold stepsO at hO ⊢
  have hn : (goW (knC (fillS es)) true (linksN links) L (startW true)).need = false := goW_full h true _ _ _ (WayT.start _ _)
  obtain ⟨l', s', -, q2, -, q4, q5, q6⟩ := goW_ext (knC (fillS es)) true (fun _ => True) (fun _ _ => trivial) (fun _ _ _ => trivial) (fun _ _ _ _ _ _ => trivial) (fun _ _ _ _ => trivial) (linksN links) L (startW true) rfl trivial hn (by rw [hO]; exact he)
  have hway : s'.way ≠ [] := q2.way (by decide)
  have hfin : s'.fin = ⟨false, zeroKy, 0, s'.here, s'.used⟩ := by
    unfold Ws.fin
    rw [q4]
    simp
  rw [hO, hfin] at q5
  have hnode : O.node = s'.here := by rw [q5]
  have hused : O.used = s'.used := by rw [q5]
  have hkn : knC (fillS es) ⟨s'.here.id, e.nm⟩ = some e := by rw [← hnode, ← hd]; exact kn_mem h hm
  have h1 : ¬ s'.inD = false := by rw [q4]; decide
  have c1 : e.nm ≠ dot1 := chk_dot1 (h.chk e hm)
  have c2 : e.nm ≠ dot2 := chk_dot2 (h.chk e hm)
  have hneg : ¬ e.neg = true := by rw [h.neg e hm]; decide
  have hmt : ∀ r, ¬ meetsB true s' e.nd r = true := fun r => by
    unfold meetsB
    have : e.nd.kind = 1 := hk
    rw [this]
    simp
  have hid : s'.here.id = e.d := by rw [← hnode, ← hd]
  have hkey : (⟨s'.here.id, e.nm⟩ : Ky) = ⟨e.d, e.nm⟩ := by rw [hid]
  obtain ⟨t, ht⟩ : ∃ t, (s'.use ⟨s'.here.id, e.nm⟩).go e.nd = t := ⟨_, rfl⟩
  have tdir : t.dir = true := by rw [← ht]; exact q2.dir
  have tway : t.way = s'.way ++ [e.nd] := by rw [← ht]; rfl
  have tuse : t.used = s'.used ++ [⟨e.d, e.nm⟩] := by rw [← ht, hkey]; rfl
  have there : t.here = e.nd := by unfold Ws.here; rw [tway]; simp
  have tin : t.inD = true := by unfold Ws.inD; rw [there]; exact decide_eq_true hk
  have tup : t.up = ⟨s'.way, t.used, true⟩ := by
    unfold Ws.up
    rw [tway, tdir]
    have hl : 1 < (s'.way ++ [e.nd]).length := by
      rw [List.length_append, List.length_cons, List.length_nil]
      have := List.length_pos_iff.2 hway
      omega
    rw [if_pos hl, List.dropLast_concat]
  have h21 : ¬ dot2 = dot1 := by decide
  constructor
  · rw [q6, goW_eq, goI, if_neg h1, if_neg c1, if_neg c2, hkn]
    simp only
    rw [if_neg hneg, if_neg (hmt _), ht, goI, if_neg (by rw [tin]; decide), if_neg h21, if_pos rfl, goI, tup]
    have hh : (⟨s'.way, t.used, true⟩ : Ws).here = s'.here := rfl
    have hi : (⟨s'.way, t.used, true⟩ : Ws).inD = true := q4
    unfold Ws.fin
    rw [hi, hh, hnode, hused, tuse]
    rfl
  · rw [q6, goW_eq, goI, if_neg h1, if_neg c1, if_neg c2, hkn]
    simp only
    rw [if_neg hneg, if_neg (hmt _), ht, goI]
    unfold Ws.fin
    rw [tin, there, tuse, hused]
    simp
/-- Steps over a row of names that lies anywhere -/
theorem ld_stepsR {w0 wr : World} {p : Nat} {s : Cs} {n : Nat} {F : Nat → Prop} (h : Ld w0 wr p s n F) {nS cS g o : Nat} {steps : List ByteArray} (hrow : RowS wr (some ⟨g, o, none⟩) steps) (hl : steps.length = nS) (hc : nS ≤ cS) (hg : g < wr.heap.size) (hn : nS ≤ 999999990000) (dir fol : Bool) (links : Int) :
    Calls Try.prog 15 #[.pointer (some ⟨p, 0, none⟩), .slice none 0 0, .slice (some ⟨g, o, none⟩) nS cS, .bool dir, .bool fol, .int .i64 links] wr fun r w' => OutR wr (stepsO (knC s) steps dir fol links) r w' := by
  obtain ⟨c, h1, h2, h3, h4⟩ := h.ex
  rw [← knF_nil]
  exact steps_p p c s _ [] _ nS cS steps dir fol links wr h1 h2 (RdE.nil wr) hrow hl hc hn (fun b o' eb => by cases eb; exact hg)
/-- a row of names that was just made -/
theorem rowS_new (W : World) (X : List ByteArray) : RowS (W.alloc (.cells (X.map Value.string).toArray 9)) (some ⟨W.heap.size, 0, none⟩) X := by
  have hh := heap_new W (.cells (X.map Value.string).toArray 9)
  refine .inr ⟨_, 0, rfl, by simp, fun i x hi => ?_⟩
  rw [cell_of hh, Nat.zero_add]
  simp [hi]
/-- a list of names behind a copy -/
theorem ups_app {W : World} {B c cc k : Nat} {L X : List ByteArray} {a2 : Option Addr} {c2 : Nat} (h2 : Own W B (.slice a2 k c2) L) (hk : L.length = k) (hx : RowS W (some ⟨c, 0, none⟩) X) (hB : B ≤ W.heap.size) (hl : L.length + X.length ≤ 1000) :
    ∃ a3 c3 W3, (∀ ty, (Builtin.append_ #[36, 36] ty #[.slice a2 k c2, .slice (some ⟨c, 0, none⟩) X.length cc]).run Try.prog W = .ok (.slice a3 (k + X.length) c3) W3) ∧ Own W3 B (.slice a3 (k + X.length) c3) (L ++ X) ∧ Only (fun q => B ≤ q) W W3 := by
  obtain ⟨a3, N3, c3, W3, r3, o3, k3⟩ := appS_any (c := cc) h2 hx hB (by omega)
  have hN : N3 = k + X.length := by
    obtain ⟨_, _, e⟩ := owns_len o3
    injection e with _ e2 _
    rw [e2, List.length_append, hk]
  subst hN
  exact ⟨a3, c3, W3, r3, o3, k3.mono fun q hq => (World.ownsRow.lt h2 q hq).1⟩
theorem names_mem {es : List En} {d : Int} {M : List En} (h : NamesR es d M) {e : En} (he : e ∈ M) : e ∈ es ∧ e.d = d := by
  have h1 := h.1.mem_iff.1 he
  unfold nameL at h1
  have h2 := List.mem_filter.1 h1
  exact ⟨h2.1, by have := h2.2; simp at this; exact this.1⟩
end
section
open Go.RowKit

/-- the links of a list -/
def linkL (L : List En) : List En := L.filter fun e => decide (e.kind = 3)
theorem linkL_take {L : List En} {i : Nat} {e : En} (h : L[i]? = some e) : linkL (L.take (i + 1)) = linkL (L.take i) ++ if e.kind = 3 then [e] else [] := by
  unfold linkL
  rw [List.take_add_one, h, List.filter_append]
  congr 1
  by_cases hk : e.kind = 3 <;> simp [hk]
theorem linkL_mem {L : List En} {e : En} (h : e ∈ linkL L) : e ∈ L ∧ e.kind = 3 := by
  unfold linkL at h
  have := List.mem_filter.1 h
  exact ⟨this.1, by simpa using this.2⟩
theorem linkL_len (L : List En) : (linkL L).length ≤ L.length := List.length_filter_le _ _
theorem own_one (W : World) (nm : ByteArray) : Own (W.alloc (.cells #[.string nm] 9)) W.heap.size (.slice (some ⟨W.heap.size, 0, none⟩) 1 1) [nm] :=
  ⟨rfl, .inr ⟨W.heap.size, 1, #[.string nm], rfl, Nat.le_refl _, heap_new _ _, Nat.le_refl _, by unfold maxLen; omega, rfl, rfl⟩⟩
theorem ups_appB {W : World} {B cc k : Nat} {L X : List ByteArray} {a : Option Addr} {a2 : Option Addr} {c2 : Nat} (h2 : Own W B (.slice a2 k c2) L) (hk : L.length = k) (hx : RowS W a X) (hB : B ≤ W.heap.size) (hl : L.length + X.length ≤ 2000000) :
    ∃ a3 c3 W3, (∀ ty, (Builtin.append_ #[36, 36] ty #[.slice a2 k c2, .slice a X.length cc]).run Try.prog W = .ok (.slice a3 (k + X.length) c3) W3) ∧ Own W3 B (.slice a3 (k + X.length) c3) (L ++ X) ∧ Only (fun q => B ≤ q) W W3 := by
  obtain ⟨a3, N3, c3, W3, r3, o3, k3⟩ := appS_any (c := cc) h2 hx hB (by omega)
  have hN : N3 = k + X.length := by
    obtain ⟨_, _, e⟩ := owns_len o3
    injection e with _ e2 _
    rw [e2, List.length_append, hk]
  subst hN
  exact ⟨a3, c3, W3, r3, o3, k3.mono fun q hq => (World.ownsRow.lt h2 q hq).1⟩
theorem only_below {n : Nat} {w W : World} {B : Nat} {w0 : World} (hb : Below n w0 w) (hn : n ≤ w.heap.size) (hO : Only (fun q => B ≤ q) w W) (hB : n ≤ B) : Below n w0 W :=
  ⟨hO.os.trans hb.os, hO.tape.trans hb.tape, hO.output.trans hb.output, Nat.le_trans hb.size hO.size, fun k hk => (hO.block k (by omega) (by omega)).trans (hb.block k hk)⟩
theorem keep_moreS {X : World} {B : Nat} {v : Value} {l : List En} (e : En) (h : Row7 X B v l) (hB : B ≤ X.heap.size) (hl : l.length + 1 ≤ 1500000000000) : ∃ a6 N6 c6 Z, (∀ ty, (Builtin.append_ #[48, 48] ty #[v, .slice (some ⟨X.heap.size, 0, none⟩) 1 1]).run Try.prog (X.alloc (.cells e.vals.toArray 42)) = .ok (.slice a6 N6 c6) Z) ∧ Row7 Z B (.slice a6 N6 c6) (l ++ [e]) ∧ Only (fun b => v.ownBlock = some b) X Z := by
  have bY := below_alloc X (.cells e.vals.toArray 42)
  obtain ⟨v6, Z, r6, row6, o6, p6⟩ := appE (w := X.alloc (.cells e.vals.toArray 42)) (B := B) (v := v) (l := l) (l2 := [e]) (ad := ⟨X.heap.size, 0, none⟩) (c := 1) (owns_below h bY) (by
    have : ec [e] = e.vals := by simp [ec]
    rw [this]
    exact one_atG (w := X)) (Nat.le_trans hB bY.size) (by simp only [List.length_cons, List.length_nil]; omega)
  obtain ⟨a6, c6, hv6⟩ := owns_len row6
  subst hv6
  exact ⟨a6, _, c6, Z, r6, row6, (Only.of bY).trans o6⟩
/-- keys behind the first one -/
theorem key_tail {w : World} {B l c g : Nat} {k : Ky} {ks : List Ky} (h : RowK w B (.slice (some ⟨g, 0, none⟩) (l + 1) c) (k :: ks)) (hl : ks.length = l) {o c' : Nat} (ho : o = 2 ∨ ks = []) : RdK w (.slice (some ⟨g, o, none⟩) l c') ks (fun _ => False) := by
  subst hl
  refine ⟨_, c', rfl, fun j x hj => ?_⟩
  have ho2 : o = 2 := by
    rcases ho with ho | ho
    · exact ho
    · rw [ho] at hj; simp at hj
  subst ho2
  obtain ⟨g', hg, -, -, k0, k1, -⟩ := h.key (i := j + 1) (p := x) (by simpa using hj)
  cases hg
  exact ⟨g, 2, rfl, by rw [show 2 + j * 2 = (j + 1) * 2 by omega]; exact k0, by rw [show 2 + j * 2 + 1 = (j + 1) * 2 + 1 by omega]; exact k1, id⟩
theorem RdK.belowF {w w' : World} {v : Value} {l : List Ky} (h : RdK w v l (fun _ => False)) (hb : Below w.heap.size w w') : RdK w' v l (fun _ => False) := by
  obtain ⟨a, cap, e, hk⟩ := h
  refine ⟨a, cap, e, fun j x hx => ?_⟩
  obtain ⟨g, o, e1, e2, e3, e4⟩ := hk j x hx
  exact ⟨g, o, e1, (hb.cell (cellLt e2)).trans e2, (hb.cell (cellLt e3)).trans e3, e4⟩
attribute [local go_sem high] eqK neqK guardK
set_option maxHeartbeats 4000000 in
theorem sameK_rd (v v' : Value) (l : List Ky) (w : World) (h : RdK w v l (fun _ => False)) (h' : RdK w v' l (fun _ => False)) (hl : l.length ≤ 140737488351232) :
    Calls Try.prog 21 #[v, v'] w fun e w' => e = .returned (.bool true) ∧ Below w.heap.size w w' := by
  obtain ⟨a, cap, rfl, hc⟩ := h
  obtain ⟨a', cap', rfl, hc'⟩ := h'
  obtain ⟨n, hn⟩ : ∃ n, l.length = n := ⟨_, rfl⟩
  have HC : Hid ((∀ (j : Nat) (k : Ky) W, l[j]? = some k → Below w.heap.size w W → ∃ g o, a = some ⟨g, o, none⟩ ∧ W.cell? ⟨g, o + j * 2, none⟩ = some (.int .i64 k.d) ∧ W.cell? ⟨g, o + j * 2 + 1, none⟩ = some (.string k.nm)) ∧ (∀ (j : Nat) (k : Ky) W, l[j]? = some k → Below w.heap.size w W → ∃ g o, a' = some ⟨g, o, none⟩ ∧ W.cell? ⟨g, o + j * 2, none⟩ = some (.int .i64 k.d) ∧ W.cell? ⟨g, o + j * 2 + 1, none⟩ = some (.string k.nm)) ∧ l.length = n) := ⟨fun j k W hj hb => by
    obtain ⟨g, o, e1, e2, e3, -⟩ := hc j k hj
    exact ⟨g, o, e1, (hb.cell (cellLt e2)).trans e2, (hb.cell (cellLt e3)).trans e3⟩, fun j k W hj hb => by
    obtain ⟨g, o, e1, e2, e3, -⟩ := hc' j k hj
    exact ⟨g, o, e1, (hb.cell (cellLt e2)).trans e2, (hb.cell (cellLt e3)).trans e3⟩, hn⟩
  rw [hn] at hl ⊢
  clear hc hc' hn
  go_enter Try.func21, Try.ntmps21
  go_wp2
  go_loopw [5] (fun i wr => ∃ k : Nat, k ≤ n ∧ i = .int .i64 k ∧ Below w.heap.size w wr) (fun i _ => n - (intOf i).toNat)
  case atStart => exact ⟨0, Nat.zero_le _, rfl, Below.refl _ _⟩
  case round =>
    obtain ⟨k, hk, rfl, hb⟩ := hrel
    by_cases hlt : k < n
    · obtain ⟨e, he⟩ : ∃ x, l[k]? = some x := ⟨_, List.getElem?_eq_getElem (by rw [HC.out.2.2]; exact hlt)⟩
      obtain ⟨g, o, rfl, x0, x1⟩ := HC.out.1 k e wr he hb
      obtain ⟨g', o', rfl, y0, y1⟩ := HC.out.2.1 k e wr he hb
      have hki : (k : Int) < (n : Int) := by omega
      clear he
      go_upto_region 6 with fail
      go_quiet (fail)
      go_wp2
      exact ⟨⟨k + 1, by omega, by simp, below_drewN hb _⟩, by simp [intOf]; omega⟩
    · obtain rfl : k = n := by omega
      have hki : ¬ (k : Int) < (k : Int) := by omega
      go_wp2
      go_ret
      exact ⟨rfl, hb⟩
end
section
open Go.ChangeShapes Go.WideShapes Go.ChangeAt Go.RowKit Go.Joins

theorem Try.cellsText : Try.prog.cellsOf 9 = 1 := by kernel_rfl
theorem cell_lt {w : World} {p : Addr} {v : Value} (h : w.cell? p = some v) : p.block < w.heap.size := by
  unfold World.cell? at h
  by_cases c : p.block < w.heap.size
  · exact c
  · rw [Array.getElem?_eq_none (by omega)] at h
    simp at h

theorem rowS_of {H : Type} {enc : TypeId × Value → H} {W : World} {a : Option Addr} {len cap : Nat} {d : DataW H} {ps : List MemPlace}
    (h : DataW.Trod enc Try.prog W 0 (fun _ => true) true 36 (.slice a len cap) d ps) :
    ∃ l : List ByteArray, len = l.length ∧ RowS W a l ∧ (l.length ≤ cap ∧ cap ≤ maxLen) := by
  obtain ⟨fuel, hf⟩ := h
  rcases Go.Deep.open_strs Try.underlying36 Try.underlying9 Try.cellsText hf with ⟨hcs, hx⟩ | ⟨a', len', cap', m, Sx, hcs, hb, hl, hm, hmm, hx, hel⟩
  · simp [Value.cells] at hcs
    obtain ⟨rfl, rfl, rfl⟩ := hcs
    exact ⟨[], rfl, .inl rfl, Nat.le_refl _, Nat.zero_le _⟩
  · simp [Value.cells] at hcs
    obtain ⟨rfl, rfl, rfl⟩ := hcs
    simp only [if_true] at hmm
    subst hmm
    refine ⟨(List.range len).map Sx, by simp, ?_, by simp; exact hl, hm⟩
    by_cases h0 : len = 0
    · subst h0; exact .inl rfl
    obtain ⟨b, off, spot⟩ := a'
    have hs := World.cell?_spot (hel 0 (by omega)).1
    have hspot : spot = none := by simpa [Addr.add] using hs
    subst hspot
    have hadd : ∀ i, (⟨b, off, none⟩ : Addr).add i = ⟨b, off + i, none⟩ := fun i => by rw [Go.WideShapes.add_plain]
    refine .inr ⟨b, off, rfl, cell_lt (hel 0 (by omega)).1, fun i x hx' => ?_⟩
    have hi : i < len := by have := (List.getElem?_eq_some_iff.1 hx').1; simpa using this
    have := (hel i (by omega)).1
    rw [hadd] at this
    rw [this]
    simp [hi] at hx'
    rw [hx']
end
section
theorem bulk_pos {H : Type} (d : DataW H) : 0 < Rows.uptoBulk d := by
  cases d with
  | lit l => cases l <;> simp [Rows.uptoBulk]
  | _ => simp [Rows.uptoBulk]
theorem bulk_many {H : Type} : ∀ l : List (DataW H), l.length ≤ Rows.uptoBulkAll l
  | [] => Nat.zero_le _
  | d :: r => by
    have h1 := bulk_pos d
    have h2 := bulk_many r
    rw [List.length_cons, Rows.uptoBulkAll]
    omega
theorem bulk_in {H : Type} {d : DataW H} : ∀ {l : List (DataW H)}, d ∈ l → Rows.uptoBulk d ≤ Rows.uptoBulkAll l
  | x :: r, h => by
    rw [Rows.uptoBulkAll]
    rcases List.mem_cons.1 h with rfl | h
    · omega
    · have := bulk_in h
      omega
theorem upto_len {H : Type} {ds : List (DataW H)} {el sp : List (DataW H)} (hk : Rows.uptoSmall H ds = true) (hm : DataW.slice el sp ∈ ds) : el.length ≤ 1048576 := by
  have h0 : Rows.uptoBulkAll ds ≤ 1048576 := of_decide_eq_true hk
  have h1 := bulk_in hm
  have h2 := bulk_many el
  rw [Rows.uptoBulk] at h1
  omega
end
section
open Go.ChangeShapes Go.WideShapes Go.ChangeAt Go.RowKit Go.Joins
theorem rowS_bulk {H : Type} {enc : TypeId × Value → H} {W : World} {a : Option Addr} {len cap : Nat} {d : DataW H} {ps : List MemPlace}
    (h : DataW.Trod enc Try.prog W 0 (fun _ => true) true 36 (.slice a len cap) d ps) {ds : List (DataW H)} (hk : Rows.uptoSmall H ds = true) (hm : d ∈ ds) :
    ∃ l : List ByteArray, len = l.length ∧ RowS W a l ∧ (l.length ≤ cap ∧ l.length ≤ 1048576) := by
  obtain ⟨l, hl, hrow, hcap, -⟩ := rowS_of h
  refine ⟨l, hl, hrow, hcap, ?_⟩
  obtain ⟨fuel, hf⟩ := h
  rcases Go.Deep.open_strs Try.underlying36 Try.underlying9 Try.cellsText hf with ⟨hcs, -⟩ | ⟨a', len', cap', m, Sx, hcs, -, -, -, -, hx, -⟩
  · simp [Value.cells] at hcs
    omega
  · simp [Value.cells] at hcs
    obtain ⟨rfl, rfl, rfl⟩ := hcs
    simp only [Prod.mk.injEq] at hx
    have := upto_len hk (by rw [← hx.1]; exact hm)
    simp at this
    omega
end
end Go.Proofs.Ytppbbddlbfgpfaa
