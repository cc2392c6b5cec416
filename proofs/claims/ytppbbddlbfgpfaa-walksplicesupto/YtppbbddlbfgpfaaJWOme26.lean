/- A cache that holds a whole tree, plainly. -/
import Derived.Test.YtppbbddlbfgpfaaJWOme06
import Derived.Test.YtppbbddlbfgpfaaJWOme09
import Derived.Test.YtppbbddlbfgpfaaJWOme19
import Derived.Test.YtppbbddlbfgpfaaJWOme25
import Derived.Test.YtppbbddlbfgpfaaJWOme23
import Derived.MapKept
namespace Go.Proofs.Ytppbbddlbfgpfaa
section
open Go.RowKit

/-- what stands in the cache behind so many entries -/
def fillS (es : List En) : Cs := es.foldl (fun s e => (putS s e).setW e.id) ⟨[], [1]⟩
theorem fillS_snoc (es : List En) (e : En) : fillS (es ++ [e]) = (putS (fillS es) e).setW e.id := by unfold fillS; rw [List.foldl_append]; rfl
theorem chk_nm {nm : ByteArray} (h : chkE nm = 0) : nm ≠ nob := by
  rintro rfl
  have : chkE nob = 10 := by kernel_rfl
  omega
theorem chk_dot1 {nm : ByteArray} (h : chkE nm = 0) : nm ≠ dot1 := by
  rintro rfl
  have : chkE dot1 = 10 := by kernel_rfl
  omega
theorem chk_dot2 {nm : ByteArray} (h : chkE nm = 0) : nm ≠ dot2 := by
  rintro rfl
  have : chkE dot2 = 10 := by kernel_rfl
  omega
/-- what stands there behind so many entries -/
def SpF (pre : List En) (s : Cs) : Prop := s.L = pre ∧ ∀ d, d ∈ s.W ↔ d = 1 ∨ ∃ e ∈ pre, e.id = d
theorem SpF.step {pre : List En} {s : Cs} (h : SpF pre s) (e : En) (hne : e.nm ≠ nob) (ha : ∀ x ∈ pre, ¬ (x.d = e.d ∧ x.nm = e.nm)) : SpF (pre ++ [e]) ((putS s e).setW e.id) := by
  obtain ⟨i1, i2⟩ := h
  have hp : putS s e = ⟨pre ++ [e], s.W⟩ := by
    unfold putS
    rw [if_neg hne]
    unfold Cs.put
    rw [i1]
    have : outL pre e.key = pre := List.filter_eq_self.2 fun x hx => by
      have := ha x hx
      rw [hasK_no.2 this]; rfl
    rw [this]
  refine ⟨by rw [hp]; rfl, fun d => ?_⟩
  rw [mem_setW, hp]
  show d ∈ s.W ∨ d = e.id ↔ _
  rw [i2]
  simp only [List.mem_append, List.mem_singleton]
  constructor
  · rintro ((h | ⟨x, hx, he⟩) | h)
    · exact .inl h
    · exact .inr ⟨x, .inl hx, he⟩
    · exact .inr ⟨e, .inr rfl, h.symm⟩
  · rintro (h | ⟨x, hx | rfl, he⟩)
    · exact .inl (.inl h)
    · exact .inl (.inr ⟨x, hx, he⟩)
    · exact .inr he.symm
theorem SpF.fold : ∀ (es pre : List En) (s : Cs), SpF pre s → (∀ e ∈ es, e.nm ≠ nob) → Apart (pre ++ es) → SpF (pre ++ es) (es.foldl (fun s e => (putS s e).setW e.id) s)
  | [], pre, s, h, _, _ => by rw [List.append_nil]; exact h
  | e :: es, pre, s, h, hn, ha => by
    have hsp : pre ++ e :: es = (pre ++ [e]) ++ es := by simp
    rw [hsp]
    have ha' := ha
    unfold Apart at ha
    rw [List.pairwise_append] at ha
    exact SpF.fold es (pre ++ [e]) _ (h.step e (hn e (by simp)) fun x hx => ha.2.2 x hx e (by simp)) (fun x hx => hn x (List.mem_cons_of_mem _ hx)) (by rw [← hsp]; exact ha')
/-- entries with unlike keys are put one behind the other -/
theorem fillS_is (es : List En) (hn : ∀ e ∈ es, e.nm ≠ nob) (ha : Apart es) : (fillS es).L = es ∧ ∀ d, d ∈ (fillS es).W ↔ d = 1 ∨ ∃ e ∈ es, e.id = d :=
  SpF.fold es [] ⟨[], [1]⟩ ⟨rfl, fun d => by simp⟩ hn ha
/-- is a directory's id one of the tree's -/
def Ino (es : List En) (d : Int) : Prop := d = 1 ∨ ∃ e ∈ es, e.id = d
theorem wf_names {es : List En} {next : Int} (h : WF Mn es next) : ∀ e ∈ es, e.nm ≠ nob := fun e he => chk_nm (h.chk e he)
/-- what is known of a key, where a whole tree is cached -/
theorem knC_fill {es : List En} {next : Int} (h : WF Mn es next) {d : Int} (hd : Ino es d) (nm : ByteArray) : knC (fillS es) ⟨d, nm⟩ = some (nowE es d nm) := by
  obtain ⟨i1, i2⟩ := fillS_is es (wf_names h) h.rises.apart
  unfold knC
  rw [i1, nowE_at]
  cases hg : getL es ⟨d, nm⟩ with
  | some e =>
    have hk : KeysOk es := h.rises.apart
    have := hk.get.1 hg
    rw [(atE_iff h.keyed d nm e).2 this]
  | none =>
    have := getL_none.1 hg
    rw [(atE_none_iff d nm).2 this]
    simp only
    rw [if_pos ((i2 d).2 hd)]
    rfl
theorem nowE_cases {es : List En} {next : Int} (h : WF Mn es next) (d : Int) (nm : ByteArray) : (nowE es d nm = negK ⟨d, nm⟩ ∧ ∀ e ∈ es, ¬ (e.d = d ∧ e.nm = nm)) ∨ ∃ e ∈ es, e.d = d ∧ e.nm = nm ∧ nowE es d nm = e ∧ e.neg = false := by
  rw [nowE_at]
  cases hq : atE es d nm with
  | none => exact .inl ⟨rfl, (atE_none_iff d nm).1 hq⟩
  | some e =>
    obtain ⟨h1, h2, h3⟩ := (atE_iff h.keyed d nm e).1 hq
    exact .inr ⟨e, h1, h2, h3, rfl, h.neg e h1⟩
/-- a way in a tree: the root, and nodes of its entries -/
def NdT (es : List En) (n : Nd) : Prop := n = rootN ∨ ∃ e ∈ es, e.nd = n
def WayT (es : List En) (s : Ws) : Prop := ∀ n ∈ s.way, NdT es n
theorem NdT.ino {es : List En} {n : Nd} (h : NdT es n) : Ino es n.id := by
  rcases h with rfl | ⟨e, he, rfl⟩
  · exact .inl rfl
  · exact .inr ⟨e, he, rfl⟩
theorem here_mem {s : Ws} (h : s.way ≠ []) : s.here ∈ s.way := by
  unfold Ws.here
  rw [List.getLast?_eq_some_getLast h]
  exact List.getLast_mem h
theorem WayT.here {es : List En} {s : Ws} (h : WayT es s) : NdT es s.here := by
  by_cases hn : s.way = []
  · left; unfold Ws.here; rw [hn]; rfl
  · exact h _ (here_mem hn)
theorem WayT.up {es : List En} {s : Ws} (h : WayT es s) : WayT es s.up := by
  intro n hn
  unfold Ws.up at hn
  simp only at hn
  split at hn
  · exact h n (List.dropLast_subset _ hn)
  · exact h n hn
theorem WayT.go {es : List En} {s : Ws} (h : WayT es s) {n : Nd} (hn : NdT es n) : WayT es (s.go n) := by
  intro m hm
  unfold Ws.go at hm
  rcases List.mem_append.1 hm with hm | hm
  · exact h m hm
  · rw [List.mem_singleton.1 hm]; exact hn
theorem WayT.use {es : List En} {s : Ws} (h : WayT es s) (k : Ky) : WayT es (s.use k) := h
theorem WayT.met {es : List En} {s : Ws} (h : WayT es s) (tg : ByteArray) (last : Bool) : WayT es (s.met tg last) := by
  intro n hn
  unfold Ws.met at hn
  simp only at hn
  split at hn
  · rw [List.mem_singleton.1 hn]; exact .inl rfl
  · exact h n hn
theorem WayT.start (es : List En) (dir : Bool) : WayT es (startW dir) := by
  intro n hn
  unfold startW at hn
  rw [List.mem_singleton.1 hn]; exact .inl rfl
theorem kn_here {es : List En} {next : Int} (h : WF Mn es next) {s : Ws} (hw : WayT es s) (x : ByteArray) : knC (fillS es) ⟨s.here.id, x⟩ = some (nowE es s.here.id x) := knC_fill h hw.here.ino x
/-- over a whole tree nothing is wanted -/
theorem goI_full {es : List En} {next : Int} (h : WF Mn es next) (fol : Bool) (m : ByteArray → List ByteArray → Ws → Ou) (hm : ∀ tg rest s, WayT es s → (m tg rest s).need = false) : ∀ (steps : List ByteArray) (s : Ws), WayT es s → (goI (knC (fillS es)) fol m steps s).need = false
  | [], s, _ => by
    rw [goI]; unfold Ws.fin
    split <;> rfl
  | x :: rest, s, hw => by
    rw [goI]
    split
    · rfl
    split
    · exact goI_full h fol m hm rest s hw
    split
    · exact goI_full h fol m hm rest s.up hw.up
    rw [kn_here h hw]
    simp only
    split
    · rfl
    rename_i hneg
    have hn : NdT es (nowE es s.here.id x).nd := by
      rcases nowE_cases h s.here.id x with ⟨e, _⟩ | ⟨e, he, _, _, e1, _⟩
      · rw [e] at hneg; exact absurd rfl hneg
      · rw [e1]; exact .inr ⟨e, he, rfl⟩
    split
    · exact hm _ _ _ (hw.use _)
    · exact goI_full h fol m hm rest _ ((hw.use _).go hn)
theorem goW_full {es : List En} {next : Int} (h : WF Mn es next) (fol : Bool) : ∀ (l : Nat) (steps : List ByteArray) (s : Ws), WayT es s → (goW (knC (fillS es)) fol l steps s).need = false
  | 0, steps, s, hw => goI_full h fol _ (fun _ _ _ _ => rfl) steps s hw
  | l + 1, steps, s, hw => goI_full h fol _ (fun tg rest s hw => by
    unfold metW
    split
    · exact goW_full h fol l _ _ (hw.met _ _)
    · rfl) steps s hw
theorem walkO_full {es : List En} {next : Int} (h : WF Mn es next) (path : ByteArray) (fol : Bool) (links : Int) : (walkO (knC (fillS es)) path fol links).need = false := by
  unfold walkO
  split
  · exact goW_full h fol _ _ _ (WayT.start _ _)
  · rfl
end
section
open Go.RowKit

def kyV (k : Ky) : Value := .agg #[.int .i64 k.d, .string k.nm]
def fkv (x : Ky × En) : Value × Value := (kyV x.1, x.2.agg)
/-- the map's block -/
def FAt (w : World) (g : Nat) (fl : Fl) : Prop := ∃ es clock, w.heap[g]? = some (.map es clock) ∧ es.toList.map (fun e => (e.key, e.val)) = fl.map fkv
theorem FAt.lt {w : World} {g : Nat} {fl : Fl} (h : FAt w g fl) : g < w.heap.size := by
  obtain ⟨es, clock, hh, _⟩ := h
  exact (Array.getElem?_eq_some_iff.1 hh).1
theorem FAt.moved {w w' : World} {g : Nat} {fl : Fl} (h : FAt w g fl) (e : w'.heap[g]? = w.heap[g]?) : FAt w' g fl := by
  obtain ⟨es, clock, hh, r⟩ := h
  exact ⟨es, clock, e.trans hh, r⟩
theorem FAt.below {w w' : World} {g : Nat} {fl : Fl} (h : FAt w g fl) (hb : Below w.heap.size w w') : FAt w' g fl := h.moved (hb.block g h.lt)
theorem fl_cases (fl : Fl) (k : Ky) : (∀ x ∈ fl, sameKy k x.1 = false) ∨ ∃ A x B, fl = A ++ x :: B ∧ (∀ y ∈ A, sameKy k y.1 = false) ∧ sameKy k x.1 = true := by
  induction fl with
  | nil => exact .inl fun x hx => by cases hx
  | cons a l ih =>
    cases h : sameKy k a.1 with
    | true => exact .inr ⟨[], a, l, rfl, (fun y hy => by cases hy), h⟩
    | false =>
      rcases ih with h1 | ⟨A, x, B, rfl, h2, h3⟩
      · refine .inl fun x hx => ?_
        rcases List.mem_cons.1 hx with rfl | hx
        · exact h
        · exact h1 x hx
      · refine .inr ⟨a :: A, x, B, rfl, fun y hy => ?_, h3⟩
        rcases List.mem_cons.1 hy with rfl | hy
        · exact h
        · exact h2 y hy
theorem fget_none {fl : Fl} {k : Ky} (h : ∀ x ∈ fl, sameKy k x.1 = false) : fget fl k = none := by
  unfold fget
  rw [List.find?_eq_none.2 (fun x hx => by rw [h x hx]; simp)]; rfl
theorem fget_some {A B : Fl} {x : Ky × En} {k : Ky} (h : ∀ y ∈ A, sameKy k y.1 = false) (hx : sameKy k x.1 = true) : fget (A ++ x :: B) k = some x.2 := by
  unfold fget
  rw [List.find?_append, List.find?_eq_none.2 (fun y hy => by rw [h y hy]; simp), Option.none_or, List.find?_cons]; simp only [hx]; rfl
theorem checkKy (w : World) (em : Bool) (k : Ky) : (Instr.checkKey em 10000 28 (kyV k)).run Try.prog w = .ok () w := by
  unfold Instr.checkKey kyV
  simp [run_underlying Try.underlying28, go_sem]
  unfold Instr.checkKey
  simp [go_sem]
theorem equalKy (w : World) (a b : Ky) : (Op.equal 28 (kyV a) (kyV b)).run Try.prog w = .ok (sameKy a b) w := by
  unfold Op.equal
  exact eqInK 9998 w a.d b.d a.nm b.nm
theorem findF_none (k : Ky) (w : World) : ∀ (es : List MapEntry) (ml : Fl) (i : Nat), es.map (fun e => (e.key, e.val)) = ml.map fkv → (∀ x ∈ ml, sameKy k x.1 = false) → (Instr.findAsking 28 (kyV k) es i).run Try.prog w = .ok none w
  | [], _, _, _, _ => rfl
  | e :: es, [], _, h, _ => by simp at h
  | e :: es, x :: ml, i, h, hn => by
    simp only [List.map_cons, List.cons.injEq] at h
    obtain ⟨h1, h2⟩ := h
    have hk : e.key = kyV x.1 := congrArg Prod.fst h1
    have := equalKy w k x.1
    rw [hn x (List.mem_cons_self ..)] at this
    unfold Instr.findAsking
    rw [hk]
    simp [this, findF_none k w es ml (i + 1) h2 fun y hy => hn y (List.mem_cons_of_mem _ hy)]
theorem findF_some (k : Ky) (w : World) (x : Ky × En) (B : Fl) (hx : sameKy k x.1 = true) : ∀ (es : List MapEntry) (A : Fl) (i : Nat), es.map (fun e => (e.key, e.val)) = (A ++ x :: B).map fkv → (∀ x ∈ A, sameKy k x.1 = false) → (Instr.findAsking 28 (kyV k) es i).run Try.prog w = .ok (some (i + A.length, x.2.agg)) w
  | [], A, _, h, _ => by simp at h
  | e :: es, [], i, h, _ => by
    simp only [List.nil_append, List.map_cons, List.cons.injEq] at h
    obtain ⟨h1, h2⟩ := h
    have hk : e.key = kyV x.1 := congrArg Prod.fst h1
    have hv : e.val = x.2.agg := congrArg Prod.snd h1
    have := equalKy w k x.1
    rw [hx] at this
    unfold Instr.findAsking
    rw [hk, hv]
    simp [this]
  | e :: es, y :: A, i, h, hn => by
    simp only [List.cons_append, List.map_cons, List.cons.injEq] at h
    obtain ⟨h1, h2⟩ := h
    have hk : e.key = kyV y.1 := congrArg Prod.fst h1
    have := equalKy w k y.1
    rw [hn y (List.mem_cons_self ..)] at this
    unfold Instr.findAsking
    rw [hk]
    simp [this, findF_some k w x B hx es A (i + 1) h2 fun y hy => hn y (List.mem_cons_of_mem _ hy)]
    omega
theorem findNowF (k : Value) (fs : Array Field) (e : MapEntry) (es : List MapEntry) (i : Nat) : Instr.findNow (.struct fs) k (e :: es) i = none := by
  unfold Instr.findNow Instr.sameNow
  simp
theorem findF (k : Ky) (w : World) (es : List MapEntry) (r : Option (Nat × Value)) (h : (Instr.findAsking 28 (kyV k) es).run Try.prog w = .ok r w) : (Instr.findKey 28 (kyV k) es).run Try.prog w = .ok r w := by
  unfold Instr.findKey
  cases es with
  | nil =>
    simp [Instr.findAsking] at h
    subst h
    simp [run_underlying Try.undK, Instr.findNow]
  | cons e es => simp [run_underlying Try.undK, findNowF, h]
theorem Try.infoEn7 : (Try.prog.info? 42).map (fun i => (i.zero, i.size, i.bytes)) = some (some zeroEn.agg, 7, 72) := by kernel_rfl
/-- a look-up -/
theorem lookF (k : Ky) (w : World) (g : Nat) (fl : Fl) (h : FAt w g fl) : (Instr.lookup 79 (.map (some g)) (kyV k) true).run Try.prog w = .ok (.tuple #[((fget fl k).getD zeroEn).agg, .bool (fget fl k).isSome]) w := by
  obtain ⟨es, clock, hh, he⟩ := h
  have ho : (getObj g).run Try.prog w = .ok (.map es clock) w := MapKept.run_getObj_map hh
  have hz := zero_of Try.infoEn7 w
  unfold Instr.lookup
  rcases fl_cases fl k with hn | ⟨A, x, B, rfl, hA, hx⟩
  · have hf := findF k w es.toList none (findF_none k w es.toList fl 0 he hn)
    simp [run_underlying Try.underlying79, checkKy, hf, fget_none hn, ho, hz]
  · have hf := findF k w es.toList _ (findF_some k w x B hx es.toList A 0 he hA)
    simp [run_underlying Try.underlying79, checkKy, hf, fget_some hA hx, ho]
theorem not_same {fl : Fl} {k : Ky} (h : fget fl k = none) : ∀ x ∈ fl, sameKy k x.1 = false := by
  unfold fget at h
  rw [Option.map_eq_none_iff, List.find?_eq_none] at h
  intro x hx
  have := h x hx
  simpa using this
/-- a store of what is not there -/
theorem storeF (k : Ky) (e : En) (w : World) (g : Nat) (fl : Fl) (h : FAt w g fl) (hno : fget fl k = none) : ∃ w', (Instr.mapUpdate 79 (.map (some g)) (kyV k) e.agg).run Try.prog w = .ok () w' ∧ FAt w' g (fl ++ [(k, e)]) ∧ Only (· = g) w w' := by
  obtain ⟨es, clock, hh, he⟩ := h
  have ho : (getObj g).run Try.prog w = .ok (.map es clock) w := MapKept.run_getObj_map hh
  have hg := (Array.getElem?_eq_some_iff.1 hh).1
  unfold Instr.mapUpdate
  have hf := findF k w es.toList none (findF_none k w es.toList fl 0 he (not_same hno))
  refine ⟨{ w with heap := w.heap.setIfInBounds g (.map (es.push { key := kyV k, val := e.agg, born := clock }) (clock + 1)) }, ?_, ?_, only_block w g _⟩
  · simp [run_underlying Try.underlying79, checkKy, hf, ho, MapKept.run_setObj_map _ hh]
  · refine ⟨_, _, by simp [hg]; exact ⟨rfl, rfl⟩, ?_⟩
    simp [he, fkv]
end
section
open Go.RowKit
attribute [local go_sem ↓ high] loadEn storeEn

/-- a list of entries that can be read -/
def RdE (w : World) (v : Value) (es : List En) : Prop := ∃ a cap, v = .slice a es.length cap ∧ es.length ≤ 2000000000000 ∧ ∀ (j : Nat) (e : En), es[j]? = some e → ∃ g o, a = some ⟨g, o, none⟩ ∧ Cells7 w g (o + j * 7) e
theorem RdE.below {w w' : World} {v : Value} {es : List En} (h : RdE w v es) (hb : Below w.heap.size w w') : RdE w' v es := by
  obtain ⟨a, cap, rfl, hl, hc⟩ := h
  refine ⟨a, cap, rfl, hl, fun j e he => ?_⟩
  obtain ⟨g, o, e1, e2⟩ := hc j e he
  exact ⟨g, o, e1, e2.below hb⟩
theorem RdE.nil (w : World) : RdE w (.slice none 0 0) [] := ⟨none, 0, rfl, by simp, fun j e he => by simp at he⟩
theorem firsts_take {es : List En} {i : Nat} {e : En} (h : es[i]? = some e) : firstsL (es.take (i + 1)) = firstE (firstsL (es.take i)) e := by
  unfold firstsL
  rw [List.take_add_one, h, List.foldl_append]
  rfl
set_option maxRecDepth 100000 in
set_option maxHeartbeats 4000000 in
theorem firsts_p (v : Value) (es : List En) (w : World) (h : RdE w v es) : Calls Try.prog 29 #[v] w fun r w' => ∃ g, r = .returned (.map (some g)) ∧ FAt w' g (firstsL es) ∧ w.heap.size ≤ g ∧ Below w.heap.size w w' := by
  obtain ⟨a, cap, rfl, hl, hc⟩ := h
  obtain ⟨n, hn⟩ : ∃ n, es.length = n := ⟨_, rfl⟩
  rw [hn] at hl ⊢
  have HE : Hid (∀ (j : Nat) e, es[j]? = some e → ∃ g o, a = some ⟨g, o, none⟩ ∧ ∀ W, Below w.heap.size w W → Cells7 W g (o + j * 7) e) := fun j e he => by
    obtain ⟨g, o, e1, e2⟩ := hc j e he
    exact ⟨g, o, e1, fun W hW => e2.below hW⟩
  have HN : Hid (es.length = n) := hn
  have bx := box7
  have ld := ld7
  have hmm := @run_makeMap Try.prog
  clear hc hn
  go_enter Try.func29, Try.ntmps29
  go_wp2
  obtain ⟨W1, hW1⟩ : ∃ W, w.alloc (.map #[] 0) = W := ⟨_, rfl⟩
  have b1 := boxO hW1
  have HS : Hid (FAt W1 w.heap.size (firstsL (es.take 0)) ∧ Below w.heap.size w W1) := ⟨⟨#[], 0, b1.1, by simp [firstsL]⟩, b1.2.1⟩
  rw [hW1]
  clear hW1 b1
  go_loopw [11] (fun i wr => ∃ k : Nat, k ≤ n ∧ i = .int .i64 k ∧ Hid (FAt wr w.heap.size (firstsL (es.take k)) ∧ Below w.heap.size w wr)) (fun i _ => n - (intOf i).toNat)
  case atStart => exact ⟨0, Nat.zero_le _, rfl, HS⟩
  case round =>
    clear HS
    obtain ⟨k, hk, rfl, HJ⟩ := hrel
    by_cases hlt : k < n
    · have hltz : (k : Int) < (n : Int) := by omega
      obtain ⟨e, he⟩ : ∃ x, es[k]? = some x := ⟨_, List.getElem?_eq_getElem (by rw [HN.out]; exact hlt)⟩
      obtain ⟨g, o, rfl, hcell⟩ := HE.out k e he
      have hld := enLd_at (hcell wr HJ.out.2)
      obtain ⟨V, hV⟩ : ∃ V, wr.alloc (.cells e.vals.toArray 42) = V := ⟨_, rfl⟩
      have bV := boxO hV
      have q7 := cells7_of bV.1
      have q0 := q7.c0
      have q1 := q7.c1
      simp only [Nat.zero_add] at q0 q1
      obtain ⟨fl, hfl⟩ : ∃ fl, firstsL (es.take k) = fl := ⟨_, rfl⟩
      have ht := firsts_take he
      rw [hfl] at ht
      obtain ⟨hF, hb⟩ := HJ.out
      rw [hfl] at hF
      have hlk := lookF e.key _ _ _ (hF.below bV.2.1)
      obtain ⟨x0, hx0⟩ : ∃ x0, (fget fl e.key).getD zeroEn = x0 := ⟨_, rfl⟩
      obtain ⟨ok, hok⟩ : ∃ ok, (fget fl e.key).isSome = ok := ⟨_, rfl⟩
      rw [hx0, hok] at hlk
      have hlk2 : (Instr.lookup 79 (.map (some w.heap.size)) (.agg #[.int .i64 e.d, .string e.nm]) true).run Try.prog V = .ok (.tuple #[x0.agg, .bool ok]) V := hlk
      obtain ⟨W2, hW2⟩ : ∃ W, V.alloc (.cells x0.vals.toArray 42) = W := ⟨_, rfl⟩
      have b2 := boxO hW2
      have bW : Below wr.heap.size wr W2 := chainB bV.2.1 b2.2.1
      cases ok with
      | true =>
        have HZ : Hid (FAt W2 w.heap.size (firstsL (es.take (k + 1))) ∧ Below w.heap.size w W2) := ⟨by rw [ht]; unfold firstE; rw [hok, if_pos rfl]; exact hF.below bW, chainB hb bW⟩
        clear hlk HJ hF hb hx0 hok hfl ht bV b2 bW he hcell q7
        go_wp2
        go_roundw
        case rel => exact ⟨k + 1, by omega, rfl, HZ⟩
        case measure => simp [intOf]; omega
      | false =>
        have hno : fget fl e.key = none := by
          cases hg : fget fl e.key with
          | none => rfl
          | some z => rw [hg] at hok; cases hok
        obtain ⟨Z, hst, hFZ, hoZ⟩ := storeF e.key e W2 w.heap.size fl (hF.below bW) hno
        have hst2 : (Instr.mapUpdate 79 (.map (some w.heap.size)) (.agg #[.int .i64 e.d, .string e.nm]) e.agg).run Try.prog W2 = .ok () Z := hst
        have HZ : Hid (FAt Z w.heap.size (firstsL (es.take (k + 1))) ∧ Below w.heap.size w Z) := ⟨by rw [ht]; unfold firstE; rw [hno]; exact hFZ, hoZ.below (chainB hb bW) (chainB hb bW).size (fun b hb' => by omega)⟩
        have r7 := q7.below b2.2.1
        have r0 := r7.c0
        have r1 := r7.c1
        have ldW := enLd_at r7
        simp only [Nat.zero_add] at r0 r1
        clear hlk HJ hF hb hx0 hok hfl ht bV b2 bW he hcell hst hFZ hoZ hno r7 q7
        go_wp2
        go_roundw
        case rel => exact ⟨k + 1, by omega, rfl, HZ⟩
        case measure => simp [intOf]; omega
    · obtain rfl : k = n := by omega
      have hltz : ¬ (k : Int) < (k : Int) := by omega
      have H := HJ.out
      rw [List.take_of_length_le (by rw [HN.out]; exact Nat.le_refl _)] at H
      have HZ : Hid (FAt wr w.heap.size (firstsL es) ∧ Below w.heap.size w wr) := H
      clear HJ H
      go_wp2
      go_ret
      exact ⟨_, rfl, HZ.out.1, Nat.le_refl _, HZ.out.2⟩
end
end Go.Proofs.Ytppbbddlbfgpfaa
