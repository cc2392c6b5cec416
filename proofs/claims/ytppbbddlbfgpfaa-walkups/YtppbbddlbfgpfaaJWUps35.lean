/- Lists of keys compared. -/
import Derived.Test.YtppbbddlbfgpfaaJWUps02
import Derived.Test.YtppbbddlbfgpfaaJWUps33
import Derived.Test.YtppbbddlbfgpfaaJWUps06
import Derived.Test.YtppbbddlbfgpfaaJWUps34
import Derived.Test.YtppbbddlbfgpfaaJWUps32
import Derived.Test.YtppbbddlbfgpfaaJWUps27
import Derived.Test.YtppbbddlbfgpfaaJWUps24
namespace Go.Proofs.Ytppbbddlbfgpfaa
section
open Go.RowKit
attribute [local go_sem high] eqK neqK eqE neqE eqN neqN guardK guardE guardN

/-- are two lists the same -/
def sameKs : List Ky → List Ky → Bool
  | [], [] => true
  | a :: l, b :: m => (decide (a.d = b.d) && decide (a.nm = b.nm)) && sameKs l m
  | _, _ => false
theorem sameKs_iff : ∀ (l m : List Ky), sameKs l m = true ↔ l = m
  | [], [] => by simp [sameKs]
  | [], b :: m => by simp [sameKs]
  | a :: l, [] => by simp [sameKs]
  | a :: l, b :: m => by
    rw [sameKs, Bool.and_eq_true, sameKs_iff l m]
    obtain ⟨a1, a2⟩ := a
    obtain ⟨b1, b2⟩ := b
    simp
theorem sameKs_no {l m : List Ky} (h : ¬ l = m) : sameKs l m = false := by
  cases k : sameKs l m with
  | false => rfl
  | true => exact absurd ((sameKs_iff l m).1 k) h
set_option maxHeartbeats 4000000 in
theorem sameK_any (v v' : Value) (l l' : List Ky) (base base' : Nat) (w : World) (h : RowK w base v l) (h' : RowK w base' v' l') (hl : l.length ≤ 1000000000) (hl' : l'.length ≤ 1000000000) :
    Calls Try.prog 21 #[v, v'] w fun e w' => e = .returned (.bool (sameKs l l')) ∧ Below w.heap.size w w' := by
  obtain ⟨a, cap, rfl⟩ := owns_len h
  obtain ⟨a', cap', rfl⟩ := owns_len h'
  by_cases hn : l.length = l'.length
  · obtain ⟨n, hn1⟩ : ∃ n, l.length = n := ⟨_, rfl⟩
    have hn2 : l'.length = n := by omega
    rw [hn1] at hl
    have HC : Hid (RowK w base (.slice a n cap) l ∧ RowK w base' (.slice a' n cap') l' ∧ l.length = n ∧ l'.length = n) := ⟨by rw [← hn1]; exact h, by rw [← hn2]; exact h', hn1, hn2⟩
    rw [hn1, hn2]
    clear h h' hn hn1 hn2 hl'
    go_enter Try.func21, Try.ntmps21
    go_wp2
    go_loopw [5] (fun i wr => ∃ k : Nat, k ≤ n ∧ i = .int .i64 k ∧ l.take k = l'.take k ∧ Below w.heap.size w wr) (fun i _ => n - (intOf i).toNat)
    case atStart => exact ⟨0, Nat.zero_le _, rfl, rfl, Below.refl _ _⟩
    case round =>
      obtain ⟨k, hk, rfl, ht, hb⟩ := hrel
      by_cases hlt : k < n
      · obtain ⟨e, he⟩ : ∃ x, l[k]? = some x := ⟨_, List.getElem?_eq_getElem (by rw [HC.out.2.2.1]; exact hlt)⟩
        obtain ⟨f, hf⟩ : ∃ x, l'[k]? = some x := ⟨_, List.getElem?_eq_getElem (by rw [HC.out.2.2.2]; exact hlt)⟩
        obtain ⟨g, rfl, -, -, x0, x1, -⟩ := (HC.out.1.below hb).key he
        obtain ⟨g', rfl, -, -, y0, y1, -⟩ := (HC.out.2.1.below hb).key hf
        have hki : (k : Int) < (n : Int) := by omega
        by_cases hxx : e = f
        · have HT : Hid (l.take (k + 1) = l'.take (k + 1)) := take_snocK ht he (hxx ▸ hf)
          subst hxx
          clear he hf ht
          go_upto_region 6 with fail
          go_quiet (fail)
          go_wp2
          exact ⟨⟨k + 1, by omega, by simp, HT.out, below_drewN hb _⟩, by simp [intOf]; omega⟩
        · have HE : Hid (sameKs l l' = false) := sameKs_no (by rintro rfl; rw [he] at hf; exact hxx (Option.some.inj hf))
          have hne : decide (e.d = f.d ∧ e.nm = f.nm) = false := decide_eq_false (fun h => hxx (by cases e; cases f; simp only at h; rw [h.1, h.2]))
          clear he hf ht hxx
          go_upto_region 6 with fail
          go_quiet (fail)
          go_wp2
          go_ret
          exact ⟨by rw [HE.out]; rfl, below_drewN hb _⟩
      · have hkl : k = n := by omega
        subst hkl
        have HE : Hid (sameKs l l' = true) := (sameKs_iff l l').2 (take_eqK ht HC.out.2.2.1.symm HC.out.2.2.2.symm)
        clear ht
        go_wp2
        go_ret
        exact ⟨by rw [HE.out]; rfl, hb⟩
  · have HE : Hid (sameKs l l' = false) := sameKs_no (by rintro rfl; exact hn rfl)
    have hne : ((l.length : Int) != (l'.length : Int)) = true := by simp; omega
    clear h h'
    go_enter Try.func21, Try.ntmps21
    go_wp2
    go_ret
    exact ⟨by rw [HE.out]; rfl, Below.refl _ _⟩
end
section
open Go.RowKit
attribute [local go_sem high] eqK neqK guardK eqN neqN guardN

theorem goI_len (kn : Ky → Option En) (fol : Bool) (m : ByteArray → List ByteArray → Ws → Ou) (q : Nat) (hm : ∀ tg rest s, (m tg rest s).used.length ≤ s.used.length + rest.length + q) : ∀ (steps : List ByteArray) (s : Ws), (goI kn fol m steps s).used.length ≤ s.used.length + steps.length + q
  | [], s => by rw [goI, fin_used]; omega
  | x :: rest, s => by
    have hu : (s.use ⟨s.here.id, x⟩).used.length = s.used.length + 1 := by
      show (s.used ++ [_]).length = _
      rw [List.length_append]; rfl
    rw [goI, List.length_cons]
    split
    · show s.used.length ≤ _; omega
    split
    · have := goI_len kn fol m q hm rest s; omega
    split
    · have := goI_len kn fol m q hm rest s.up
      have e : s.up.used = s.used := rfl
      rw [e] at this; omega
    split
    · show s.used.length ≤ _; omega
    · split
      · show (s.use ⟨s.here.id, x⟩).used.length ≤ _; omega
      split
      · rename_i e _ _ _
        have := hm e.tg rest (s.use ⟨s.here.id, x⟩); omega
      · rename_i e _ _ _
        have := goI_len kn fol m q hm rest ((s.use ⟨s.here.id, x⟩).go e.nd)
        have e' : ((s.use ⟨s.here.id, x⟩).go e.nd).used = (s.use ⟨s.here.id, x⟩).used := rfl
        rw [e'] at this; omega
theorem goW_len (kn : Ky → Option En) (fol : Bool) : ∀ (l : Nat) (steps : List ByteArray) (s : Ws), (goW kn fol l steps s).used.length ≤ s.used.length + steps.length + 97 * l
  | 0, steps, s => goI_len kn fol _ 0 (fun _ _ s => by show s.used.length ≤ _; omega) steps s
  | l + 1, steps, s => by
    have := goI_len kn fol (metW (goW kn fol l)) (97 * (l + 1)) (fun tg rest s => by
      unfold metW
      split
      · have h := goW_len kn fol l (cutL tg (fullB tg) ++ rest) (s.met tg (decide (rest.length = 0)))
        have hc := cutL_len tg (fullB tg)
        have e : (s.met tg (decide (rest.length = 0))).used = s.used := rfl
        rw [e, List.length_append] at h
        omega
      · show s.used.length ≤ _; omega) steps s
    exact this
theorem walkO_len (kn : Ky → Option En) (path : ByteArray) (fol : Bool) (links : Int) : (walkO kn path fol links).used.length ≤ 1000 := by
  unfold walkO
  split
  · unfold stepsO
    have := goW_len kn fol (linksN links) (cutL path (rootB path)) (startW (cutD path (rootB path)))
    have hc := cutL_len path (rootB path)
    have hl := linksN_le links
    have e : (startW (cutD path (rootB path))).used.length = 0 := rfl
    omega
  · simp
theorem ouNode' {w : World} {g : Nat} {o : Ou} {uv : Value} (h : w.heap[g]? = some (.cells (ouVals o uv).toArray 34 (0, 0))) : w.cell? ⟨g, 5, none⟩ = some (.int .i64 o.node.kind) ∧ w.cell? ⟨g, 6, none⟩ = some (.int .i64 o.node.mode) ∧ w.cell? ⟨g, 7, none⟩ = some (.string o.node.tg) :=
  ⟨by rw [cell_of h]; rfl, by rw [cell_of h]; rfl, by rw [cell_of h]; rfl⟩
set_option maxRecDepth 100000 in
set_option maxHeartbeats 8000000 in
theorem sameOut_yes (o : Ou) (v v' : Value) (base base' : Nat) (w : World) (h : RowK w base v o.used) (h' : RowK w base' v' o.used) (hl : o.used.length ≤ 1000000000) :
    Calls Try.prog 13 #[ouAgg o v, ouAgg o v'] w fun r w' => r = .returned (.bool true) ∧ Below w.heap.size w w' := by
  obtain ⟨W1, hW1⟩ : ∃ W, w.alloc (.cells (ouVals o v).toArray 34) = W := ⟨_, rfl⟩
  have b1 := boxO hW1
  obtain ⟨W2, hW2⟩ : ∃ W, W1.alloc (.cells (ouVals o v').toArray 34) = W := ⟨_, rfl⟩
  have b2 := boxO hW2
  have hb := chainB b1.2.1 b2.2.1
  obtain ⟨x0, x1, x2, x3, x4, x8⟩ := ouCells (hkeep b1.1 b2.2.1)
  obtain ⟨y0, y1, y2, y3, y4, y8⟩ := ouCells b2.1
  have x5 := ouNode' (hkeep b1.1 b2.2.1)
  have y5 := ouNode' b2.1
  obtain ⟨x5, x6, x7⟩ := x5
  obtain ⟨y5, y6, y7⟩ := y5
  have HS : Hid (Calls Try.prog 21 #[v, v'] W2 fun e w' => e = .returned (.bool true) ∧ Below W2.heap.size W2 w') := by
    have := sameK_any v v' o.used o.used base base' W2 (h.below hb) (h'.below hb) (by omega) (by omega)
    rw [(sameKs_iff _ _).2 rfl] at this
    exact this
  have HB : Hid (Below w.heap.size w W2) := hb
  have e1 : w.heap.size + 1 = W1.heap.size := b1.2.2.symm
  rw [show ouAgg o v = .agg (ouVals o v).toArray from rfl, show ouAgg o v' = .agg (ouVals o v').toArray from rfl]
  clear h h' b1 b2 hb
  go_enter Try.func13, Try.ntmps13
  go_wp2_with (go_at_call 21; refine HS.out.mono ?_; rintro r w3 ⟨rfl, hb⟩; have HZ : Hid (Below w.heap.size w w3) := chainB HB.out hb; clear hb)
  go_ret
  exact ⟨rfl, HZ.out⟩
end
section
open Go.RowKit

set_option maxHeartbeats 1000000 in
theorem copyT_any (v : Value) (l : List ByteArray) (base : Nat) (w : World) (h : Own w base v l) (hl : l.length ≤ 1000) :
    Calls Try.prog 17 #[v] w fun e w' => ∃ v', e = .returned v' ∧ Own w' w.heap.size v' l ∧ Below w.heap.size w w' := by
  obtain ⟨i0, hi, hz0, hz1, hz2⟩ := info_parts Try.infoS
  have h' := h
  unfold Own at h'
  go_enter Try.func17, Try.ntmps17
  rcases h.2 with ⟨rfl, h2⟩ | ⟨g, cap, cur, rfl, hg, hh, r⟩
  · obtain rfl : l = [] := List.length_eq_zero_iff.1 h2
    go_wp2
    go_ret
    exact ⟨_, rfl, Own.nil _ _, Below.refl _ _⟩
  · have hcells : ∀ j u, (l.map Value.string)[j]? = some u → w.cell? ((⟨g, 0, none⟩ : Addr).add j) = some u := h'.cells rfl
    clear h' hh r
    go_wp2_with (at_builtin; refine wpList_append_own _ rfl _ _ 36 rfl w.heap.size 9 i0 (.string ⟨#[]⟩) 1 16 Try.underlying36 hi hz0 hz1 hz2 rfl (by decide) _ 0 [] rfl (World.ownsRow_nil _ _ _ _) ⟨g, 0, none⟩ l.length cap (l.map Value.string) rfl (by simp) hcells ?c2 ?c3 ?c4 ?c5 ?_)
    case c2 => intro u hu; rw [List.mem_map] at hu; obtain ⟨x, _, rfl⟩ := hu; rfl
    case c3 => unfold maxLen; omega
    case c4 => omega
    case c5 => exact Nat.le_refl _
    intro v' w1 hown' hgrow _
    have hb1 : Below w.heap.size w w1 := Below.grown (Below.refl _ _) hgrow (Nat.le_refl _) (fun q hq => by cases hq)
    clear hgrow hcells
    go_wp2
    go_ret
    exact ⟨_, rfl, hown', hb1⟩
end
section
open Go.RowKit

/-- a law goes through components over its cache, with nothing fresh -/
theorem ld_steps {w0 wr : World} {p : Nat} {s : Cs} {n : Nat} {F : Nat → Prop} (h : Ld w0 wr p s n F) {B nS cS : Nat} {a : Option Addr} {steps : List ByteArray} (ho : Own wr B (.slice a nS cS) steps) (hn : nS ≤ 999999990000) (dir fol : Bool) (links : Int) :
    Calls Try.prog 15 #[.pointer (some ⟨p, 0, none⟩), .slice none 0 0, .slice a nS cS, .bool dir, .bool fol, .int .i64 links] wr fun r w' => OutR wr (stepsO (knC s) steps dir fol links) r w' := by
  obtain ⟨c, h1, h2, h3, h4⟩ := h.ex
  obtain ⟨a', c', ea, hrow⟩ := Own.row ho
  injection ea with ea1 ea2 ea3
  subst ea1
  rw [← knF_nil]
  refine steps_p p c s _ [] a nS cS steps dir fol links wr h1 h2 (RdE.nil wr) hrow ea2.symm ?_ hn (fun b o eb => by subst eb; exact (World.ownsRow.lt ho b rfl).2)
  have := Own.lim ho
  omega
/-- a tree and a cache that holds it, from a world on -/
structure Flw (w w1 : World) (t : Nat) (s : Tr) (p : Nat) (k : Int) : Prop where
  law : ∀ W, Below w1.heap.size w1 W → Law w W t s k
  ld : ∀ W, Below w1.heap.size w1 W → Ld w W p (fillS s.es) 47 (TB t s)
  below : ∀ W, Below w1.heap.size w1 W → Below w.heap.size w W
  wf : WF Mn s.es s.next
theorem FilR.fl {ops : List Opn} {w w' : World} {e : Ending} (h : FilR ops w w' e) : ∃ p t s, e = .returned (.tuple #[.pointer (some ⟨p, 0, none⟩), .pointer (some ⟨t, 0, none⟩), .bool true]) ∧ Alike s (runT Mn emptyT ops) ∧ Flw w w' t s p ops.length := by
  obtain ⟨p, t, s, he, hl, ha, hc⟩ := h
  exact ⟨p, t, s, he, ha, fun W hb => hl.below hb, fun W hb => hc.on' hb, fun W hb => chainB hc.below hb, hl.good.wf⟩
/-- a walk of the law's -/
theorem OutR.fx {w w' : World} {O : Ou} {r : Ending} (h : OutR w O r w') : ∃ a c, r = .returned (ouAgg O (.slice a O.used.length c)) ∧ RowK w' w.heap.size (.slice a O.used.length c) O.used ∧ Below w.heap.size w w' := by
  obtain ⟨uv, rfl, hr, hb⟩ := h
  obtain ⟨a, c, rfl⟩ := owns_len hr
  exact ⟨a, c, rfl, hr, hb⟩
end
section
open Go.RowKit

def ouLd (v : Value) : Sem Value := Instr.loadAt 34 v
theorem loadOu (v : Value) : Instr.loadAt 34 v = ouLd v := rfl
theorem ouLd_of {w : World} {g : Nat} {o : Ou} {uv : Value} (h : w.heap[g]? = some (.cells (ouVals o uv).toArray 34 (0, 0))) : (ouLd (.pointer (some ⟨g, 0, none⟩))).run Try.prog w = .ok (ouAgg o uv) w := by
  have := run_loadAt_mid (P := Try.prog) w g 0 34 (ouVals o uv) _ (fun j v hv => by
    rw [Nat.zero_add, cell_of h]
    simpa using hv) Try.underlying34 rfl Try.sizeOu
  exact this
attribute [irreducible] ouLd
end
section
open Go.RowKit

theorem kn_mem {es : List En} {next : Int} (h : WF Mn es next) {e : En} (he : e ∈ es) : knC (fillS es) ⟨e.d, e.nm⟩ = some e := by
  obtain ⟨i1, -⟩ := fillS_is es (wf_names h) h.rises.apart
  unfold knC
  rw [i1]
  have hk : KeysOk es := h.rises.apart
  have : getL es ⟨e.d, e.nm⟩ = some e := hk.get.2 ⟨he, rfl, rfl⟩
  rw [this]
theorem ups_root (kn : Ky → Option En) (links : Int) : stepsO kn [dot2, dot1, dot2] true true links = ⟨false, zeroKy, 0, rootN, []⟩ := by
  have h21 : ¬ dot2 = dot1 := by decide
  unfold stepsO
  rw [goW_eq, goI, if_neg (by decide), if_neg h21, if_pos rfl, goI, if_neg (by decide), if_pos rfl, goI, if_neg (by decide), if_neg h21, if_pos rfl, goI]
  rfl
/-- a directory's name, and .. behind it -/
theorem ups_plain {es : List En} {next : Int} (h : WF Mn es next) (L : List ByteArray) (links : Int) {O : Ou} (hO : stepsO (knC (fillS es)) L true true links = O) (he : O.err = 0) {e : En} (hm : e ∈ es) (hd : e.d = O.node.id) (hk : e.kind = 1) :
    stepsO (knC (fillS es)) (L ++ [e.nm, dot2]) true true links = ⟨false, zeroKy, 0, O.node, O.used ++ [⟨e.d, e.nm⟩]⟩ ∧ stepsO (knC (fillS es)) (L ++ [e.nm]) true true links = ⟨false, zeroKy, 0, e.nd, O.used ++ [⟨e.d, e.nm⟩]⟩ := by
  unfold stepsO at hO ⊢
  have hn : (goW (knC (fillS es)) true (linksN links) L (startW true)).need = false := goW_full h true _ _ _ (WayT.start _ _)
  obtain ⟨l', s', -, q2, -, q4, q5, q6⟩ := goW_ext (knC (fillS es)) true (fun _ => True) (fun _ _ => trivial) (fun _ _ _ => trivial) (fun _ _ _ _ _ _ => trivial) (fun _ _ _ _ => trivial) (linksN links) L (startW true) rfl trivial hn (by rw [hO]; exact he)
  have hway : s'.way ≠ [] := q2.way (by decide)
  have hfin : s'.fin = ⟨false, zeroKy, 0, s'.here, s'.used⟩ := by
    unfold Ws.fin
    rw [q4]
    simp
  rw [hO, hfin] at q5
  have hnode : O.node = s'.here := by rw [q5]
  have hused : O.used = s'.used := by rw [q5]
  have hkn : knC (fillS es) ⟨s'.here.id, e.nm⟩ = some e := by rw [← hnode, ← hd]; exact kn_mem h hm
  have h1 : ¬ s'.inD = false := by rw [q4]; decide
  have c1 : e.nm ≠ dot1 := chk_dot1 (h.chk e hm)
  have c2 : e.nm ≠ dot2 := chk_dot2 (h.chk e hm)
  have hneg : ¬ e.neg = true := by rw [h.neg e hm]; decide
  have hmt : ∀ r, ¬ meetsB true s' e.nd r = true := fun r => by
    unfold meetsB
    have : e.nd.kind = 1 := hk
    rw [this]
    simp
  have hid : s'.here.id = e.d := by rw [← hnode, ← hd]
  have hkey : (⟨s'.here.id, e.nm⟩ : Ky) = ⟨e.d, e.nm⟩ := by rw [hid]
  obtain ⟨t, ht⟩ : ∃ t, (s'.use ⟨s'.here.id, e.nm⟩).go e.nd = t := ⟨_, rfl⟩
  have tdir : t.dir = true := by rw [← ht]; exact q2.dir
  have tway : t.way = s'.way ++ [e.nd] := by rw [← ht]; rfl
  have tuse : t.used = s'.used ++ [⟨e.d, e.nm⟩] := by rw [← ht, hkey]; rfl
  have there : t.here = e.nd := by unfold Ws.here; rw [tway]; simp
  have tin : t.inD = true := by unfold Ws.inD; rw [there]; exact decide_eq_true hk
  have tup : t.up = ⟨s'.way, t.used, true⟩ := by
    unfold Ws.up
    rw [tway, tdir]
    have hl : 1 < (s'.way ++ [e.nd]).length := by
      rw [List.length_append, List.length_cons, List.length_nil]
      have := List.length_pos_iff.2 hway
      omega
    rw [if_pos hl, List.dropLast_concat]
  have h21 : ¬ dot2 = dot1 := by decide
  constructor
  · rw [q6, goW_eq, goI, if_neg h1, if_neg c1, if_neg c2, hkn]
    simp only
    rw [if_neg hneg, if_neg (hmt _), ht, goI, if_neg (by rw [tin]; decide), if_neg h21, if_pos rfl, goI, tup]
    have hh : (⟨s'.way, t.used, true⟩ : Ws).here = s'.here := rfl
    have hi : (⟨s'.way, t.used, true⟩ : Ws).inD = true := q4
    unfold Ws.fin
    rw [hi, hh, hnode, hused, tuse]
    rfl
  · rw [q6, goW_eq, goI, if_neg h1, if_neg c1, if_neg c2, hkn]
    simp only
    rw [if_neg hneg, if_neg (hmt _), ht, goI]
    unfold Ws.fin
    rw [tin, there, tuse, hused]
    simp
/-- Steps over a row of names that lies anywhere -/
theorem ld_stepsR {w0 wr : World} {p : Nat} {s : Cs} {n : Nat} {F : Nat → Prop} (h : Ld w0 wr p s n F) {nS cS g o : Nat} {steps : List ByteArray} (hrow : RowS wr (some ⟨g, o, none⟩) steps) (hl : steps.length = nS) (hc : nS ≤ cS) (hg : g < wr.heap.size) (hn : nS ≤ 999999990000) (dir fol : Bool) (links : Int) :
    Calls Try.prog 15 #[.pointer (some ⟨p, 0, none⟩), .slice none 0 0, .slice (some ⟨g, o, none⟩) nS cS, .bool dir, .bool fol, .int .i64 links] wr fun r w' => OutR wr (stepsO (knC s) steps dir fol links) r w' := by
  obtain ⟨c, h1, h2, h3, h4⟩ := h.ex
  rw [← knF_nil]
  exact steps_p p c s _ [] _ nS cS steps dir fol links wr h1 h2 (RdE.nil wr) hrow hl hc hn (fun b o' eb => by cases eb; exact hg)
/-- a row of names that was just made -/
theorem rowS_new (W : World) (X : List ByteArray) : RowS (W.alloc (.cells (X.map Value.string).toArray 9)) (some ⟨W.heap.size, 0, none⟩) X := by
  have hh := heap_new W (.cells (X.map Value.string).toArray 9)
  refine .inr ⟨_, 0, rfl, by simp, fun i x hi => ?_⟩
  rw [cell_of hh, Nat.zero_add]
  simp [hi]
/-- a list of names behind a copy -/
theorem ups_app {W : World} {B c cc k : Nat} {L X : List ByteArray} {a2 : Option Addr} {c2 : Nat} (h2 : Own W B (.slice a2 k c2) L) (hk : L.length = k) (hx : RowS W (some ⟨c, 0, none⟩) X) (hB : B ≤ W.heap.size) (hl : L.length + X.length ≤ 1000) :
    ∃ a3 c3 W3, (∀ ty, (Builtin.append_ #[36, 36] ty #[.slice a2 k c2, .slice (some ⟨c, 0, none⟩) X.length cc]).run Try.prog W = .ok (.slice a3 (k + X.length) c3) W3) ∧ Own W3 B (.slice a3 (k + X.length) c3) (L ++ X) ∧ Only (fun q => B ≤ q) W W3 := by
  obtain ⟨a3, N3, c3, W3, r3, o3, k3⟩ := appS_any (c := cc) h2 hx hB (by omega)
  have hN : N3 = k + X.length := by
    obtain ⟨_, _, e⟩ := owns_len o3
    injection e with _ e2 _
    rw [e2, List.length_append, hk]
  subst hN
  exact ⟨a3, c3, W3, r3, o3, k3.mono fun q hq => (World.ownsRow.lt h2 q hq).1⟩
theorem names_mem {es : List En} {d : Int} {M : List En} (h : NamesR es d M) {e : En} (he : e ∈ M) : e ∈ es ∧ e.d = d := by
  have h1 := h.1.mem_iff.1 he
  unfold nameL at h1
  have h2 := List.mem_filter.1 h1
  exact ⟨h2.1, by have := h2.2; simp at this; exact this.1⟩
end
section
open Go.RowKit
attribute [local go_sem ↓ high] loadEn storeEn loadNd storeNd storeOu loadOu

theorem Own.take {w : World} {B : Nat} {a : Option Addr} {n cap : Nat} {l : List ByteArray} (h : Own w B (.slice a n cap) l) (k : Nat) (hk : k ≤ l.length) : Own w B (.slice a k cap) (l.take k) := by
  have hn : n = l.length := by
    obtain ⟨a', c', e⟩ := owns_len h
    injection e
  subst hn
  obtain ⟨d, hd⟩ : ∃ d, l.length - k = d := ⟨_, rfl⟩
  induction d generalizing k with
  | zero =>
    have : k = l.length := by omega
    subst this
    rw [List.take_length]; exact h
  | succ d ih =>
    have h1 := ih (k + 1) (by omega) (by omega)
    have hne : l.take (k + 1) ≠ [] := by
      intro e
      have := congrArg List.length e
      rw [List.length_take, List.length_nil] at this
      omega
    have hl : (l.take (k + 1)).length = k + 1 := by rw [List.length_take]; omega
    have h2 : Own w B (.slice a (l.take (k + 1)).length cap) (l.take (k + 1)) := by rw [hl]; exact h1
    have h3 := Own.pop h2 hne
    rw [hl, Nat.add_sub_cancel] at h3
    have : (l.take (k + 1)).dropLast = l.take k := by
      rw [List.dropLast_eq_take, hl, List.take_take, Nat.add_sub_cancel, Nat.min_eq_left (by omega)]
    rw [this] at h3
    exact h3
theorem RowS.drop {w : World} {g : Nat} {l : List ByteArray} (h : RowS w (some ⟨g, 0, none⟩) l) (k : Nat) : RowS w (some ⟨g, k, none⟩) (l.drop k) := by
  rcases h with rfl | ⟨b, off, e, hb, hc⟩
  · left; simp
  · cases e
    refine .inr ⟨g, k, rfl, hb, fun i x hx => ?_⟩
    rw [List.getElem?_drop] at hx
    have := hc _ x hx
    rw [Nat.zero_add] at this
    exact this
/-- the components with a dot more -/
def dotL (L : List ByteArray) (j : Nat) : List ByteArray := (L.take j ++ [dot1]) ++ L.drop j
theorem dotL_is (L : List ByteArray) (j : Nat) : dotL L j = L.take j ++ dot1 :: L.drop j := by unfold dotL; simp
theorem dotL_len {L : List ByteArray} {j : Nat} (h : j ≤ L.length) : (dotL L j).length = L.length + 1 := by
  unfold dotL
  simp only [List.length_append, List.length_take, List.length_drop, List.length_cons, List.length_nil]
  omega
/-- a copy of the first ones, a dot, the others: however the two are made -/
theorem dot_app {w W : World} {g j c c2 cc : Nat} {L : List ByteArray} {a2 : Option Addr} {B : Nat} (hs : RowS w (some ⟨g, 0, none⟩) L) (hb : Below w.heap.size w W) (h2 : Own W B (.slice a2 j c2) (L.take j)) (hB : B ≤ W.heap.size) (hw0 : w.heap.size ≤ B) (hd : W.cell? ⟨c, 0, none⟩ = some (.string dot1)) (hj : j ≤ L.length) (hL : L.length ≤ 97) :
    ∃ a3 N3 c3 W3, (∀ ty, (Builtin.append_ #[36, 36] ty #[.slice a2 j c2, .slice (some ⟨c, 0, none⟩) 1 1]).run Try.prog W = .ok (.slice a3 N3 c3) W3) ∧
      ∃ a4 c4 W4, (∀ ty, (Builtin.append_ #[36, 36] ty #[.slice a3 N3 c3, .slice (some ⟨g, j, none⟩) (L.length - j) (cc - j)]).run Try.prog W3 = .ok (.slice a4 (L.length + 1) c4) W4) ∧ Own W4 B (.slice a4 (L.length + 1) c4) (dotL L j) ∧ Below w.heap.size w W4 ∧ Only (fun k => B ≤ k) W W4 := by
  have hlt : (L.take j).length = j := by rw [List.length_take]; omega
  obtain ⟨a3, N3, c3, W3, r3, o3, k3⟩ := appS_any (w := W) (B := B) (l := L.take j) (l2 := [dot1]) (a := some ⟨c, 0, none⟩) (c := 1) h2 (.inr ⟨c, 0, rfl, (cellLt hd), fun i x hx => by
    cases i with
    | zero => simp at hx; subst hx; exact hd
    | succ i => simp at hx⟩) hB (by simp only [List.length_cons, List.length_nil]; omega)
  have hk3 : Only (fun k => B ≤ k) W W3 := k3.mono fun k hk => (World.ownsRow.lt h2 k hk).1
  have b3 : Below w.heap.size w W3 := hk3.below hb hb.size fun k hk => by omega
  have hr3 : RowS W3 (some ⟨g, j, none⟩) (L.drop j) := (RowS.drop hs j).below b3
  obtain ⟨a4, N4, c4, W4, r4, o4, k4⟩ := appS_any (w := W3) (B := B) (l := L.take j ++ [dot1]) (l2 := L.drop j) (a := some ⟨g, j, none⟩) (c := cc - j) o3 hr3 (Nat.le_trans hB k3.size) (by simp only [List.length_append, List.length_drop, List.length_cons, List.length_nil]; omega)
  have hN4 : N4 = L.length + 1 := by
    have := owns_len o4
    obtain ⟨_, _, e⟩ := this
    injection e with _ e2 _
    rw [e2]
    exact dotL_len hj
  subst hN4
  have hk4 : Only (fun k => B ≤ k) W3 W4 := k4.mono fun k hk => (World.ownsRow.lt o3 k hk).1
  refine ⟨a3, N3, c3, W3, r3, a4, c4, W4, fun ty => ?_, o4, hk4.below b3 b3.size fun k hk => by omega, hk3.trans hk4⟩
  have := r4 ty
  rw [List.length_drop] at this
  exact this
end
end Go.Proofs.Ytppbbddlbfgpfaa
