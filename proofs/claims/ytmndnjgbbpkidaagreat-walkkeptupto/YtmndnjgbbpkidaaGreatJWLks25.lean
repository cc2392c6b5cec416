/- The walk, plainly: what the chapter says of it. -/
import Derived.Test.YtmndnjgbbpkidaaGreatJWLks04
import Derived.Test.YtmndnjgbbpkidaaGreatJWLks24
import Derived.Test.YtmndnjgbbpkidaaGreatJWLks08
import Derived.MapKept
namespace Go.Proofs.YtmndnjgbbpkidaaGreat
section
open Go.RowKit

structure Nd where
  id : Int
  kind : Int
  mode : Int
  tg : ByteArray
deriving DecidableEq
def En.nd (e : En) : Nd := ⟨e.id, e.kind, e.mode, e.tg⟩
def Nd.vals (n : Nd) : List Value := [.int .i64 n.id, .int .i64 n.kind, .int .i64 n.mode, .string n.tg]
def Nd.agg (n : Nd) : Value := .agg #[.int .i64 n.id, .int .i64 n.kind, .int .i64 n.mode, .string n.tg]
def zeroNd : Nd := ⟨0, 0, 0, nob⟩
def rootN : Nd := ⟨1, 1, 0, nob⟩
def zeroKy : Ky := ⟨0, nob⟩
/-- what a walk comes to -/
structure Ou where
  need : Bool
  key : Ky
  err : Int
  node : Nd
  used : List Ky
/-- where a walk is: the last of the way is where it stands -/
structure Ws where
  way : List Nd
  used : List Ky
  dir : Bool
def Ws.here (s : Ws) : Nd := s.way.getLast?.getD rootN
def Ws.inD (s : Ws) : Bool := decide (s.here.kind = 1)
def Ws.up (s : Ws) : Ws := ⟨if 1 < s.way.length then s.way.dropLast else s.way, s.used, s.dir⟩
def Ws.fail (s : Ws) (e : Int) : Ou := ⟨false, zeroKy, e, zeroNd, s.used⟩
def Ws.use (s : Ws) (k : Ky) : Ws := ⟨s.way, s.used ++ [k], s.dir⟩
def Ws.go (s : Ws) (n : Nd) : Ws := ⟨s.way ++ [n], s.used, s.dir⟩
def Ws.met (s : Ws) (tg : ByteArray) (last : Bool) : Ws := ⟨if tgtW tg then [rootN] else s.way, s.used, if last then s.dir || cutD tg (fullB tg) else s.dir⟩
def dot1 : ByteArray := ⟨#[46]⟩
def dot2 : ByteArray := ⟨#[46, 46]⟩
/-- is a node a link that is met? -/
def meetsB (fol : Bool) (s : Ws) (n : Nd) (rest : List ByteArray) : Bool := decide (n.kind = 3) && (decide (0 < rest.length) || s.dir || fol)
/-- the end of all components -/
def Ws.fin (s : Ws) : Ou := if s.dir && !s.inD then s.fail 42 else ⟨false, zeroKy, 0, s.here, s.used⟩
/-- components, one after the other; m: what follows where a link is met -/
def goI (kn : Ky → Option En) (fol : Bool) (m : ByteArray → List ByteArray → Ws → Ou) : List ByteArray → Ws → Ou
  | [], s => s.fin
  | x :: rest, s =>
    if s.inD = false then s.fail 42
    else if x = dot1 then goI kn fol m rest s
    else if x = dot2 then goI kn fol m rest s.up
    else match kn ⟨s.here.id, x⟩ with
      | none => ⟨true, ⟨s.here.id, x⟩, 0, zeroNd, s.used⟩
      | some e =>
        if e.neg then (s.use ⟨s.here.id, x⟩).fail 40
        else if meetsB fol s e.nd rest then m e.tg rest (s.use ⟨s.here.id, x⟩)
        else goI kn fol m rest ((s.use ⟨s.here.id, x⟩).go e.nd)
/-- a link is met with l links left -/
def metW (g : List ByteArray → Ws → Ou) (tg : ByteArray) (rest : List ByteArray) (s : Ws) : Ou :=
  if cutE tg (fullB tg) = 0 then g (cutL tg (fullB tg) ++ rest) (s.met tg (decide (rest.length = 0))) else s.fail (cutE tg (fullB tg))
/-- the walk with so many links left -/
def goW (kn : Ky → Option En) (fol : Bool) : Nat → List ByteArray → Ws → Ou
  | 0 => goI kn fol fun _ _ s => s.fail 49
  | l + 1 => goI kn fol (metW (goW kn fol l))
def metL (kn : Ky → Option En) (fol : Bool) : Nat → ByteArray → List ByteArray → Ws → Ou
  | 0 => fun _ _ s => s.fail 49
  | l + 1 => metW (goW kn fol l)
theorem goW_eq (kn : Ky → Option En) (fol : Bool) (l : Nat) : goW kn fol l = goI kn fol (metL kn fol l) := by cases l <;> rfl
def startW (dir : Bool) : Ws := ⟨[rootN], [], dir⟩
def linksN (l : Int) : Nat := (min (max l 0) 8).toNat
/-- Steps -/
def stepsO (kn : Ky → Option En) (steps : List ByteArray) (dir fol : Bool) (links : Int) : Ou := goW kn fol (linksN links) steps (startW dir)
/-- Walk -/
def walkO (kn : Ky → Option En) (path : ByteArray) (fol : Bool) (links : Int) : Ou :=
  if cutE path (rootB path) = 0 then stepsO kn (cutL path (rootB path)) (cutD path (rootB path)) fol links else ⟨false, zeroKy, cutE path (rootB path), zeroNd, []⟩
/-- of each key the first -/
def sameKy (a b : Ky) : Bool := decide (a.d = b.d ∧ a.nm = b.nm)
theorem sameKy_iff (a b : Ky) : sameKy a b = true ↔ a = b := by
  obtain ⟨a1, a2⟩ := a
  obtain ⟨b1, b2⟩ := b
  unfold sameKy
  simp
theorem sameKy_self (a : Ky) : sameKy a a = true := (sameKy_iff a a).2 rfl
abbrev Fl := List (Ky × En)
def fget (fl : Fl) (k : Ky) : Option En := (fl.find? fun x => sameKy k x.1).map (·.2)
def firstE (fl : Fl) (e : En) : Fl := if (fget fl e.key).isSome then fl else fl ++ [(e.key, e)]
def firstsL (es : List En) : Fl := es.foldl firstE []
def negK (k : Ky) : En := ⟨k.d, k.nm, true, 0, 0, 0, nob⟩
/-- what is known of a key -/
def knC (s : Cs) (k : Ky) : Option En := match getL s.L k with | some e => some e | none => if k.d ∈ s.W then some (negK k) else none
def knF (fl : Fl) (s : Cs) (k : Ky) : Option En := match fget fl k with | some e => some e | none => knC s k
end
section
open Go.RowKit

def kyV (k : Ky) : Value := .agg #[.int .i64 k.d, .string k.nm]
def fkv (x : Ky × En) : Value × Value := (kyV x.1, x.2.agg)
/-- the map's block -/
def FAt (w : World) (g : Nat) (fl : Fl) : Prop := ∃ es clock, w.heap[g]? = some (.map es clock) ∧ es.toList.map (fun e => (e.key, e.val)) = fl.map fkv
theorem FAt.lt {w : World} {g : Nat} {fl : Fl} (h : FAt w g fl) : g < w.heap.size := by
  obtain ⟨es, clock, hh, _⟩ := h
  exact (Array.getElem?_eq_some_iff.1 hh).1
theorem FAt.moved {w w' : World} {g : Nat} {fl : Fl} (h : FAt w g fl) (e : w'.heap[g]? = w.heap[g]?) : FAt w' g fl := by
  obtain ⟨es, clock, hh, r⟩ := h
  exact ⟨es, clock, e.trans hh, r⟩
theorem FAt.below {w w' : World} {g : Nat} {fl : Fl} (h : FAt w g fl) (hb : Below w.heap.size w w') : FAt w' g fl := h.moved (hb.block g h.lt)
theorem fl_cases (fl : Fl) (k : Ky) : (∀ x ∈ fl, sameKy k x.1 = false) ∨ ∃ A x B, fl = A ++ x :: B ∧ (∀ y ∈ A, sameKy k y.1 = false) ∧ sameKy k x.1 = true := by
  induction fl with
  | nil => exact .inl fun x hx => by cases hx
  | cons a l ih =>
    cases h : sameKy k a.1 with
    | true => exact .inr ⟨[], a, l, rfl, (fun y hy => by cases hy), h⟩
    | false =>
      rcases ih with h1 | ⟨A, x, B, rfl, h2, h3⟩
      · refine .inl fun x hx => ?_
        rcases List.mem_cons.1 hx with rfl | hx
        · exact h
        · exact h1 x hx
      · refine .inr ⟨a :: A, x, B, rfl, fun y hy => ?_, h3⟩
        rcases List.mem_cons.1 hy with rfl | hy
        · exact h
        · exact h2 y hy
theorem fget_none {fl : Fl} {k : Ky} (h : ∀ x ∈ fl, sameKy k x.1 = false) : fget fl k = none := by
  unfold fget
  rw [List.find?_eq_none.2 (fun x hx => by rw [h x hx]; simp)]; rfl
theorem fget_some {A B : Fl} {x : Ky × En} {k : Ky} (h : ∀ y ∈ A, sameKy k y.1 = false) (hx : sameKy k x.1 = true) : fget (A ++ x :: B) k = some x.2 := by
  unfold fget
  rw [List.find?_append, List.find?_eq_none.2 (fun y hy => by rw [h y hy]; simp), Option.none_or, List.find?_cons]; simp only [hx]; rfl
theorem checkKy (w : World) (em : Bool) (k : Ky) : (Instr.checkKey em 10000 29 (kyV k)).run Tryz.prog w = .ok () w := by
  unfold Instr.checkKey kyV
  simp [run_underlying Tryz.underlying29, go_sem]
  unfold Instr.checkKey
  simp [go_sem]
theorem equalKy (w : World) (a b : Ky) : (Op.equal 29 (kyV a) (kyV b)).run Tryz.prog w = .ok (sameKy a b) w := by
  unfold Op.equal
  exact eqInK 9998 w a.d b.d a.nm b.nm
theorem findF_none (k : Ky) (w : World) : ∀ (es : List MapEntry) (ml : Fl) (i : Nat), es.map (fun e => (e.key, e.val)) = ml.map fkv → (∀ x ∈ ml, sameKy k x.1 = false) → (Instr.findAsking 29 (kyV k) es i).run Tryz.prog w = .ok none w
  | [], _, _, _, _ => rfl
  | e :: es, [], _, h, _ => by simp at h
  | e :: es, x :: ml, i, h, hn => by
    simp only [List.map_cons, List.cons.injEq] at h
    obtain ⟨h1, h2⟩ := h
    have hk : e.key = kyV x.1 := congrArg Prod.fst h1
    have := equalKy w k x.1
    rw [hn x (List.mem_cons_self ..)] at this
    unfold Instr.findAsking
    rw [hk]
    simp [this, findF_none k w es ml (i + 1) h2 fun y hy => hn y (List.mem_cons_of_mem _ hy)]
theorem findF_some (k : Ky) (w : World) (x : Ky × En) (B : Fl) (hx : sameKy k x.1 = true) : ∀ (es : List MapEntry) (A : Fl) (i : Nat), es.map (fun e => (e.key, e.val)) = (A ++ x :: B).map fkv → (∀ x ∈ A, sameKy k x.1 = false) → (Instr.findAsking 29 (kyV k) es i).run Tryz.prog w = .ok (some (i + A.length, x.2.agg)) w
  | [], A, _, h, _ => by simp at h
  | e :: es, [], i, h, _ => by
    simp only [List.nil_append, List.map_cons, List.cons.injEq] at h
    obtain ⟨h1, h2⟩ := h
    have hk : e.key = kyV x.1 := congrArg Prod.fst h1
    have hv : e.val = x.2.agg := congrArg Prod.snd h1
    have := equalKy w k x.1
    rw [hx] at this
    unfold Instr.findAsking
    rw [hk, hv]
    simp [this]
  | e :: es, y :: A, i, h, hn => by
    simp only [List.cons_append, List.map_cons, List.cons.injEq] at h
    obtain ⟨h1, h2⟩ := h
    have hk : e.key = kyV y.1 := congrArg Prod.fst h1
    have := equalKy w k y.1
    rw [hn y (List.mem_cons_self ..)] at this
    unfold Instr.findAsking
    rw [hk]
    simp [this, findF_some k w x B hx es A (i + 1) h2 fun y hy => hn y (List.mem_cons_of_mem _ hy)]
    omega
theorem findNowF (k : Value) (fs : Array Field) (e : MapEntry) (es : List MapEntry) (i : Nat) : Instr.findNow (.struct fs) k (e :: es) i = none := by
  unfold Instr.findNow Instr.sameNow
  simp
theorem findF (k : Ky) (w : World) (es : List MapEntry) (r : Option (Nat × Value)) (h : (Instr.findAsking 29 (kyV k) es).run Tryz.prog w = .ok r w) : (Instr.findKey 29 (kyV k) es).run Tryz.prog w = .ok r w := by
  unfold Instr.findKey
  cases es with
  | nil =>
    simp [Instr.findAsking] at h
    subst h
    simp [run_underlying Tryz.undK, Instr.findNow]
  | cons e es => simp [run_underlying Tryz.undK, findNowF, h]
theorem Tryz.infoEn7 : (Tryz.prog.info? 52).map (fun i => (i.zero, i.size, i.bytes)) = some (some zeroEn.agg, 7, 72) := by kernel_rfl
/-- a look-up -/
theorem lookF (k : Ky) (w : World) (g : Nat) (fl : Fl) (h : FAt w g fl) : (Instr.lookup 81 (.map (some g)) (kyV k) true).run Tryz.prog w = .ok (.tuple #[((fget fl k).getD zeroEn).agg, .bool (fget fl k).isSome]) w := by
  obtain ⟨es, clock, hh, he⟩ := h
  have ho : (getObj g).run Tryz.prog w = .ok (.map es clock) w := MapKept.run_getObj_map hh
  have hz := zero_of Tryz.infoEn7 w
  unfold Instr.lookup
  rcases fl_cases fl k with hn | ⟨A, x, B, rfl, hA, hx⟩
  · have hf := findF k w es.toList none (findF_none k w es.toList fl 0 he hn)
    simp [run_underlying Tryz.underlying81, checkKy, hf, fget_none hn, ho, hz]
  · have hf := findF k w es.toList _ (findF_some k w x B hx es.toList A 0 he hA)
    simp [run_underlying Tryz.underlying81, checkKy, hf, fget_some hA hx, ho]
theorem not_same {fl : Fl} {k : Ky} (h : fget fl k = none) : ∀ x ∈ fl, sameKy k x.1 = false := by
  unfold fget at h
  rw [Option.map_eq_none_iff, List.find?_eq_none] at h
  intro x hx
  have := h x hx
  simpa using this
/-- a store of what is not there -/
theorem storeF (k : Ky) (e : En) (w : World) (g : Nat) (fl : Fl) (h : FAt w g fl) (hno : fget fl k = none) : ∃ w', (Instr.mapUpdate 81 (.map (some g)) (kyV k) e.agg).run Tryz.prog w = .ok () w' ∧ FAt w' g (fl ++ [(k, e)]) ∧ Only (· = g) w w' := by
  obtain ⟨es, clock, hh, he⟩ := h
  have ho : (getObj g).run Tryz.prog w = .ok (.map es clock) w := MapKept.run_getObj_map hh
  have hg := (Array.getElem?_eq_some_iff.1 hh).1
  unfold Instr.mapUpdate
  have hf := findF k w es.toList none (findF_none k w es.toList fl 0 he (not_same hno))
  refine ⟨{ w with heap := w.heap.setIfInBounds g (.map (es.push { key := kyV k, val := e.agg, born := clock }) (clock + 1)) }, ?_, ?_, only_block w g _⟩
  · simp [run_underlying Tryz.underlying81, checkKy, hf, ho, MapKept.run_setObj_map _ hh]
  · refine ⟨_, _, by simp [hg]; exact ⟨rfl, rfl⟩, ?_⟩
    simp [he, fkv]
end
section
open Go.RowKit
attribute [local go_sem ↓ high] loadEn storeEn

/-- a list of entries that can be read -/
def RdE (w : World) (v : Value) (es : List En) : Prop := ∃ a cap, v = .slice a es.length cap ∧ es.length ≤ 2000000000000 ∧ ∀ (j : Nat) (e : En), es[j]? = some e → ∃ g o, a = some ⟨g, o, none⟩ ∧ Cells7 w g (o + j * 7) e
theorem RdE.below {w w' : World} {v : Value} {es : List En} (h : RdE w v es) (hb : Below w.heap.size w w') : RdE w' v es := by
  obtain ⟨a, cap, rfl, hl, hc⟩ := h
  refine ⟨a, cap, rfl, hl, fun j e he => ?_⟩
  obtain ⟨g, o, e1, e2⟩ := hc j e he
  exact ⟨g, o, e1, e2.below hb⟩
theorem RdE.nil (w : World) : RdE w (.slice none 0 0) [] := ⟨none, 0, rfl, by simp, fun j e he => by simp at he⟩
theorem firsts_take {es : List En} {i : Nat} {e : En} (h : es[i]? = some e) : firstsL (es.take (i + 1)) = firstE (firstsL (es.take i)) e := by
  unfold firstsL
  rw [List.take_add_one, h, List.foldl_append]
  rfl
set_option maxRecDepth 100000 in
set_option maxHeartbeats 4000000 in
theorem firsts_p (v : Value) (es : List En) (w : World) (h : RdE w v es) : Calls Tryz.prog 48 #[v] w fun r w' => ∃ g, r = .returned (.map (some g)) ∧ FAt w' g (firstsL es) ∧ w.heap.size ≤ g ∧ Below w.heap.size w w' := by
  obtain ⟨a, cap, rfl, hl, hc⟩ := h
  obtain ⟨n, hn⟩ : ∃ n, es.length = n := ⟨_, rfl⟩
  rw [hn] at hl ⊢
  have HE : Hid (∀ (j : Nat) e, es[j]? = some e → ∃ g o, a = some ⟨g, o, none⟩ ∧ ∀ W, Below w.heap.size w W → Cells7 W g (o + j * 7) e) := fun j e he => by
    obtain ⟨g, o, e1, e2⟩ := hc j e he
    exact ⟨g, o, e1, fun W hW => e2.below hW⟩
  have HN : Hid (es.length = n) := hn
  have bx := box7
  have ld := ld7
  have hmm := @run_makeMap Tryz.prog
  clear hc hn
  go_enter Tryz.func48, Tryz.ntmps48
  go_wp2
  obtain ⟨W1, hW1⟩ : ∃ W, w.alloc (.map #[] 0) = W := ⟨_, rfl⟩
  have b1 := boxO hW1
  have HS : Hid (FAt W1 w.heap.size (firstsL (es.take 0)) ∧ Below w.heap.size w W1) := ⟨⟨#[], 0, b1.1, by simp [firstsL]⟩, b1.2.1⟩
  rw [hW1]
  clear hW1 b1
  go_loopw [11] (fun i wr => ∃ k : Nat, k ≤ n ∧ i = .int .i64 k ∧ Hid (FAt wr w.heap.size (firstsL (es.take k)) ∧ Below w.heap.size w wr)) (fun i _ => n - (intOf i).toNat)
  case atStart => exact ⟨0, Nat.zero_le _, rfl, HS⟩
  case round =>
    clear HS
    obtain ⟨k, hk, rfl, HJ⟩ := hrel
    by_cases hlt : k < n
    · have hltz : (k : Int) < (n : Int) := by omega
      obtain ⟨e, he⟩ : ∃ x, es[k]? = some x := ⟨_, List.getElem?_eq_getElem (by rw [HN.out]; exact hlt)⟩
      obtain ⟨g, o, rfl, hcell⟩ := HE.out k e he
      have hld := enLd_at (hcell wr HJ.out.2)
      obtain ⟨V, hV⟩ : ∃ V, wr.alloc (.cells e.vals.toArray 52) = V := ⟨_, rfl⟩
      have bV := boxO hV
      have q7 := cells7_of bV.1
      have q0 := q7.c0
      have q1 := q7.c1
      simp only [Nat.zero_add] at q0 q1
      obtain ⟨fl, hfl⟩ : ∃ fl, firstsL (es.take k) = fl := ⟨_, rfl⟩
      have ht := firsts_take he
      rw [hfl] at ht
      obtain ⟨hF, hb⟩ := HJ.out
      rw [hfl] at hF
      have hlk := lookF e.key _ _ _ (hF.below bV.2.1)
      obtain ⟨x0, hx0⟩ : ∃ x0, (fget fl e.key).getD zeroEn = x0 := ⟨_, rfl⟩
      obtain ⟨ok, hok⟩ : ∃ ok, (fget fl e.key).isSome = ok := ⟨_, rfl⟩
      rw [hx0, hok] at hlk
      have hlk2 : (Instr.lookup 81 (.map (some w.heap.size)) (.agg #[.int .i64 e.d, .string e.nm]) true).run Tryz.prog V = .ok (.tuple #[x0.agg, .bool ok]) V := hlk
      obtain ⟨W2, hW2⟩ : ∃ W, V.alloc (.cells x0.vals.toArray 52) = W := ⟨_, rfl⟩
      have b2 := boxO hW2
      have bW : Below wr.heap.size wr W2 := chainB bV.2.1 b2.2.1
      cases ok with
      | true =>
        have HZ : Hid (FAt W2 w.heap.size (firstsL (es.take (k + 1))) ∧ Below w.heap.size w W2) := ⟨by rw [ht]; unfold firstE; rw [hok, if_pos rfl]; exact hF.below bW, chainB hb bW⟩
        clear hlk HJ hF hb hx0 hok hfl ht bV b2 bW he hcell q7
        go_wp2
        go_roundw
        case rel => exact ⟨k + 1, by omega, rfl, HZ⟩
        case measure => simp [intOf]; omega
      | false =>
        have hno : fget fl e.key = none := by
          cases hg : fget fl e.key with
          | none => rfl
          | some z => rw [hg] at hok; cases hok
        obtain ⟨Z, hst, hFZ, hoZ⟩ := storeF e.key e W2 w.heap.size fl (hF.below bW) hno
        have hst2 : (Instr.mapUpdate 81 (.map (some w.heap.size)) (.agg #[.int .i64 e.d, .string e.nm]) e.agg).run Tryz.prog W2 = .ok () Z := hst
        have HZ : Hid (FAt Z w.heap.size (firstsL (es.take (k + 1))) ∧ Below w.heap.size w Z) := ⟨by rw [ht]; unfold firstE; rw [hno]; exact hFZ, hoZ.below (chainB hb bW) (chainB hb bW).size (fun b hb' => by omega)⟩
        have r7 := q7.below b2.2.1
        have r0 := r7.c0
        have r1 := r7.c1
        have ldW := enLd_at r7
        simp only [Nat.zero_add] at r0 r1
        clear hlk HJ hF hb hx0 hok hfl ht bV b2 bW he hcell hst hFZ hoZ hno r7 q7
        go_wp2
        go_roundw
        case rel => exact ⟨k + 1, by omega, rfl, HZ⟩
        case measure => simp [intOf]; omega
    · obtain rfl : k = n := by omega
      have hltz : ¬ (k : Int) < (k : Int) := by omega
      have H := HJ.out
      rw [List.take_of_length_le (by rw [HN.out]; exact Nat.le_refl _)] at H
      have HZ : Hid (FAt wr w.heap.size (firstsL es) ∧ Below w.heap.size w wr) := H
      clear HJ H
      go_wp2
      go_ret
      exact ⟨_, rfl, HZ.out.1, Nat.le_refl _, HZ.out.2⟩
end
end Go.Proofs.YtmndnjgbbpkidaaGreat
