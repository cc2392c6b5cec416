/- The law WireKept. -/
import Derived.Test.YtekonakanieeaaaJWEpt36
import Derived.Test.YtekonakanieeaaaJWEpt35
import Derived.Test.YtekonakanieeaaaJWEpt37
namespace Go.Proofs.Ytekonakanieeaaa
section
open Go.RowKit Go.Lib
attribute [local go_sem ↓ high] loadMg storeMd

/-- a whole message among a law's arguments, loaded, shut -/
def mmSk (v : Value) : Sem Value := Instr.loadAt 54 v
theorem loadMk (v : Value) : Instr.loadAt 54 v = mmSk v := rfl
theorem Try.sizeMmk : (Try.prog.info? 54).map (·.size) = some 17 := by kernel_rfl
theorem mmSk_of {w : World} {g : Nat} {cs : Array Value} {t : TypeId} {fr : Nat × Nat} (h : w.heap[g]? = some (.cells cs t fr)) (hs : cs.size = 17) : (mmSk (.pointer (some ⟨g, 0, none⟩))).run Try.prog w = .ok (.agg cs) w := by
  unfold mmSk Instr.loadAt Instr.sureAddr
  simp [run_loadVar_row w g t 54 cs fr _ h Try.underlying54 rfl (by rw [hs]; exact Try.sizeMmk)]
attribute [irreducible] mmSk
attribute [local go_sem ↓ high] loadMk
attribute [local go_sem high] eqK neqK eqE neqE eqN neqN guardK guardE guardN
theorem Sm.offU {w w' : World} {A : Array Value} {re im : Nat} {m : Mg} {g : Nat} {t : TypeId} (h : Sm w A re im m) (ho : Only (· = g) w w') (hg : Tag w g t) (h1 : 44 ≠ t) (h2 : 40 ≠ t) : Sm w' A re im m := by
  obtain ⟨ve, vk, e, a1, a2⟩ := h.ex
  exact ⟨ve, vk, e, row_off a1 ho hg h1, rowk_off a2 ho hg h2⟩
theorem ms_oneK {w : World} {B : Nat} {m : Mm} {ve vk : Value} (h1 : Row7 w B ve m.es) (h2 : RowK w B vk m.ks) : (m.ms ve vk).arr.all (·.oneCell') = true := by
  have e1 := own_one h1
  have e2 := own_one h2
  unfold Mm.ms Ms.arr
  simp [Value.oneCell'] <;> exact ⟨e1, e2⟩
/-- a part of bytes of one's own -/
theorem own_front {w : World} {B g n c : Nat} {l r : List Int} (h : OwnB w B (.slice (some ⟨g, 0, none⟩) n c) (l ++ r)) : RC w (.slice (some ⟨g, 0, none⟩) l.length c) l ∧ Tag w g 5 ∧ B ≤ g := by
  have ht : Tag w g 5 := Tag.own h rfl
  rcases h.form with ⟨e, e2⟩ | ⟨g', cap, e, hB, hg, hcap, hc, _⟩
  · cases e
  · cases e
    rw [List.length_append] at hcap
    refine ⟨⟨_, _, rfl, by omega, .inr ⟨g, 0, rfl, hg, fun i x hx => ?_⟩⟩, ht, hB⟩
    rw [Nat.zero_add]
    exact hc i x (by rw [List.getElem?_append_left (List.getElem?_eq_some_iff.1 hx).1]; exact hx)
/-- what the law has of its message's box, behind anything -/
structure Kb (w Z : World) (MA : Array Value) : Prop where
  box : Z.heap[w.heap.size]? = some (.cells MA 54 (0, 0))
  bel : Below w.heap.size w Z
theorem Kb.below {w Z Z' : World} {MA : Array Value} (h : Kb w Z MA) (hb : Below Z.heap.size Z Z') : Kb w Z' MA := ⟨hkeep h.box hb, chainB h.bel hb⟩
theorem Kb.off {w Z Z' : World} {MA : Array Value} {S : Nat → Prop} (h : Kb w Z MA) (ho : Only S Z Z') (hS : ∀ q, S q → w.heap.size < q) : Kb w Z' MA :=
  ⟨(ho.block _ (Array.getElem?_eq_some_iff.1 h.box).1 (fun hs => by have := hS _ hs; omega)).trans h.box, ho.below h.bel h.bel.size (fun q hq => Nat.le_of_lt (hS q hq))⟩
theorem owns_frontK {w : World} {B : Nat} {e : TypeId} {size g n m cap : Nat} {xs ys : List Value} (h : w.ownsRow B e size (.slice (some ⟨g, 0, none⟩) (n + m) cap) (n + m) (xs ++ ys)) (hx : xs.length = n * size) : w.ownsRow B e size (.slice (some ⟨g, 0, none⟩) n cap) n xs := by
  obtain ⟨hl, h2⟩ := h
  refine ⟨hx, .inr ?_⟩
  rcases h2 with ⟨e1, _⟩ | ⟨g', cap', cur, e1, hg, hh, r1, r2, r3, r4⟩
  · cases e1
  · cases e1
    refine ⟨g, cap, cur, rfl, hg, hh, by omega, r2, r3, ?_⟩
    have := congrArg (fun z : List Value => z.take (n * size)) r4
    simp only [List.take_take] at this
    rw [Nat.min_eq_left (Nat.mul_le_mul_right _ (Nat.le_add_right _ _)), ← hx, List.take_left] at this
    rw [← hx]
    exact this
def negE : En := ⟨0, ⟨#[]⟩, true, 0, 0, 0, ⟨#[]⟩⟩
def negK : Ky := ⟨-4, ⟨#[]⟩⟩
theorem rep_ec (es : List En) (k : Nat) : ec (es ++ List.replicate (k + 1) negE) = ec (es ++ List.replicate k negE) ++ negE.vals := by
  rw [List.replicate_succ', ← List.append_assoc, ec_app]; unfold ec; simp
theorem rep_kc (ks : List Ky) (k : Nat) : kc (ks ++ List.replicate (k + 1) negK) = kc (ks ++ List.replicate k negK) ++ [.int .i64 (-4), .string ⟨#[]⟩] := by
  rw [List.replicate_succ', ← List.append_assoc]; unfold kc; rw [List.flatMap_append (xs := ks ++ List.replicate k negK)]; rfl
/-- the law's message with so much room behind its lists -/
structure Kq (w Z : World) (MA : Array Value) (o : Nat) (m : Mm) (ve vk : Value) (i j : Nat) : Prop where
  kb : Kb w Z MA
  lt : w.heap.size < o
  box : Z.heap[o]? = some (.cells (m.ms ve vk).arr 30 (0, 0))
  es : Z.ownsRow (w.heap.size + 1) 44 7 ve (m.es.length + i) (ec (m.es ++ List.replicate i negE))
  ks : Z.ownsRow (w.heap.size + 1) 40 2 vk (m.ks.length + j) (kc (m.ks ++ List.replicate j negK))
theorem Kq.below {w Z Z' : World} {MA : Array Value} {o : Nat} {m : Mm} {ve vk : Value} {i j : Nat} (h : Kq w Z MA o m ve vk i j) (hb : Below Z.heap.size Z Z') : Kq w Z' MA o m ve vk i j :=
  ⟨h.kb.below hb, h.lt, hkeep h.box hb, owns_below h.es hb, owns_below h.ks hb⟩
theorem Kq.entry {w Z X w5 : World} {MA : Array Value} {o : Nat} {m : Mm} {ve vk v5 : Value} {i j : Nat} (h : Kq w Z MA o m ve vk i j) (hX : Below Z.heap.size Z X) (hown : w5.ownsRow (w.heap.size + 1) 44 7 v5 (m.es.length + i + 1) (ec (m.es ++ List.replicate i negE) ++ negE.vals)) (hg : X.grownBy w5 ve.ownBlock) : Kq w (w5.setCell ⟨o, 14, none⟩ v5) MA o m v5 vk (i + 1) j := by
  have hx := h.below hX
  have hO := only_grown hg
  have ho1 : Only (· = o) w5 (w5.setCell ⟨o, 14, none⟩ v5) := only1 _ _ _ _
  have tE : ∀ q, ve.ownBlock = some q → Tag X q 44 ∧ w.heap.size < q := fun q hq => ⟨Tag.own hx.es hq, (World.ownsRow.lt hx.es q hq).1⟩
  have to_ : Tag X o 30 := ⟨_, _, hx.box⟩
  have b5 : w5.heap[o]? = some (.cells (m.ms ve vk).arr 30 (0, 0)) := (hO.block o to_.lt (fun e => (tE o e).1.ne to_ (by decide) rfl)).trans hx.box
  have to5 : Tag w5 o 30 := ⟨_, _, b5⟩
  refine ⟨(hx.kb.off hO (fun q hq => (tE q hq).2)).off ho1 (fun q hq => by rw [hq]; exact h.lt), h.lt, (heap_set b5 14 v5).trans rfl, ?_, ?_⟩
  · rw [rep_ec, ← Nat.add_assoc]
    exact owns_moved hown fun q hq => ho1.block q (Tag.own hown hq).lt ((Tag.own hown hq).ne to5 (by decide))
  · have h5 : w5.ownsRow (w.heap.size + 1) 40 2 vk (m.ks.length + j) (kc (m.ks ++ List.replicate j negK)) := owns_moved hx.ks fun q hq => hO.block q (Tag.own hx.ks hq).lt (fun e => (tE q e).1.ne (Tag.own hx.ks hq) (by decide) rfl)
    exact owns_moved h5 fun q hq => ho1.block q (Tag.own h5 hq).lt ((Tag.own h5 hq).ne to5 (by decide))
theorem Kq.key {w Z X w5 : World} {MA : Array Value} {o : Nat} {m : Mm} {ve vk v5 : Value} {i j : Nat} (h : Kq w Z MA o m ve vk i j) (hX : Below Z.heap.size Z X) (hown : w5.ownsRow (w.heap.size + 1) 40 2 v5 (m.ks.length + j + 1) (kc (m.ks ++ List.replicate j negK) ++ [.int .i64 (-4), .string ⟨#[]⟩])) (hg : X.grownBy w5 vk.ownBlock) : Kq w (w5.setCell ⟨o, 15, none⟩ v5) MA o m ve v5 i (j + 1) := by
  have hx := h.below hX
  have hO := only_grown hg
  have ho1 : Only (· = o) w5 (w5.setCell ⟨o, 15, none⟩ v5) := only1 _ _ _ _
  have tE : ∀ q, vk.ownBlock = some q → Tag X q 40 ∧ w.heap.size < q := fun q hq => ⟨Tag.own hx.ks hq, (World.ownsRow.lt hx.ks q hq).1⟩
  have to_ : Tag X o 30 := ⟨_, _, hx.box⟩
  have b5 : w5.heap[o]? = some (.cells (m.ms ve vk).arr 30 (0, 0)) := (hO.block o to_.lt (fun e => (tE o e).1.ne to_ (by decide) rfl)).trans hx.box
  have to5 : Tag w5 o 30 := ⟨_, _, b5⟩
  refine ⟨(hx.kb.off hO (fun q hq => (tE q hq).2)).off ho1 (fun q hq => by rw [hq]; exact h.lt), h.lt, (heap_set b5 15 v5).trans rfl, ?_, ?_⟩
  · have h5 : w5.ownsRow (w.heap.size + 1) 44 7 ve (m.es.length + i) (ec (m.es ++ List.replicate i negE)) := owns_moved hx.es fun q hq => hO.block q (Tag.own hx.es hq).lt (fun e => (tE q e).1.ne (Tag.own hx.es hq) (by decide) rfl)
    exact owns_moved h5 fun q hq => ho1.block q (Tag.own h5 hq).lt ((Tag.own h5 hq).ne to5 (by decide))
  · rw [rep_kc, ← Nat.add_assoc]
    exact owns_moved hown fun q hq => ho1.block q (Tag.own hown hq).lt ((Tag.own hown hq).ne to5 (by decide))
/-- .. its lists cut back, the room behind them still there -/
structure Kr (w Z : World) (MA : Array Value) (o : Nat) (m : Mm) (av bv : Option Addr) (cv dv ne nk : Nat) : Prop where
  kb : Kb w Z MA
  lt : w.heap.size < o
  box : Z.heap[o]? = some (.cells (m.ms (.slice av ne cv) (.slice bv nk dv)).arr 30 (0, 0))
  es : Z.ownsRow (w.heap.size + 1) 44 7 (.slice av (ne + 5) cv) (ne + 5) (ec (m.es ++ List.replicate 5 negE))
  ks : Z.ownsRow (w.heap.size + 1) 40 2 (.slice bv (nk + 5) dv) (nk + 5) (kc (m.ks ++ List.replicate 5 negK))
  le : m.es.length = ne
  lk : m.ks.length = nk
theorem Kr.below {w Z Z' : World} {MA : Array Value} {o : Nat} {m : Mm} {av bv : Option Addr} {cv dv ne nk : Nat} (h : Kr w Z MA o m av bv cv dv ne nk) (hb : Below Z.heap.size Z Z') : Kr w Z' MA o m av bv cv dv ne nk :=
  ⟨h.kb.below hb, h.lt, hkeep h.box hb, owns_below h.es hb, owns_below h.ks hb, h.le, h.lk⟩
theorem Kr.size {w Z : World} {MA : Array Value} {o : Nat} {m : Mm} {av bv : Option Addr} {cv dv ne nk : Nat} (h : Kr w Z MA o m av bv cv dv ne nk) : w.heap.size + 1 ≤ Z.heap.size := (Array.getElem?_eq_some_iff.1 h.kb.box).1
theorem Kr.box' {w Z : World} {MA YA : Array Value} {o : Nat} {m : Mm} {av bv : Option Addr} {cv dv ne nk : Nat} (h : Kr w Z MA o m av bv cv dv ne nk) (hA : (m.ms (.slice av ne cv) (.slice bv nk dv)).arr = YA) : Z.heap[o]? = some (.cells YA 30 (0, 0)) := by rw [← hA]; exact h.box
theorem Kr.rowE {w Z : World} {MA : Array Value} {o : Nat} {m : Mm} {av bv : Option Addr} {cv dv ne nk : Nat} (h : Kr w Z MA o m av bv cv dv ne nk) : Row7 Z 0 (.slice av ne cv) m.es := by
  obtain ⟨g, c, e⟩ := owns_form (n := ne + 4) h.es
  cases e
  have h' := h.es
  rw [ec_app] at h'
  unfold Row7
  rw [h.le]
  exact owns_le (owns_frontK h' (by rw [ec_len, h.le])) (Nat.zero_le _)
theorem Kr.rowK {w Z : World} {MA : Array Value} {o : Nat} {m : Mm} {av bv : Option Addr} {cv dv ne nk : Nat} (h : Kr w Z MA o m av bv cv dv ne nk) : RowK Z 0 (.slice bv nk dv) m.ks := by
  obtain ⟨g, c, e⟩ := owns_form (n := nk + 4) h.ks
  cases e
  have h' := h.ks
  rw [show kc (m.ks ++ List.replicate 5 negK) = kc m.ks ++ kc (List.replicate 5 negK) by unfold kc; rw [List.flatMap_append]] at h'
  unfold RowK
  rw [h.lk]
  exact owns_le (owns_frontK h' (by rw [kc_len, h.lk])) (Nat.zero_le _)
theorem Kr.spare {w Z : World} {MA : Array Value} {o : Nat} {m : Mm} {a b cv dv ne nk k : Nat} (h : Kr w Z MA o m (some ⟨a, 0, none⟩) (some ⟨b, 0, none⟩) cv dv ne nk) (hk : k < 5) : Cells7 Z a ((ne + k) * 7) negE ∧ (Z.cell? ⟨b, (nk + k) * 2, none⟩ = some (.int .i64 (-4)) ∧ Z.cell? ⟨b, (nk + k) * 2 + 1, none⟩ = some (.string ⟨#[]⟩)) := by
  have hE : (m.es ++ List.replicate 5 negE)[ne + k]? = some negE := by rw [← h.le, List.getElem?_append_right (by omega), List.getElem?_replicate]; simp; omega
  have hK : (m.ks ++ List.replicate 5 negK)[nk + k]? = some negK := by rw [← h.lk, List.getElem?_append_right (by omega), List.getElem?_replicate]; simp; omega
  have hes : Row7 Z (w.heap.size + 1) (.slice (some ⟨a, 0, none⟩) (ne + 5) cv) (m.es ++ List.replicate 5 negE) := by unfold Row7; rw [List.length_append, List.length_replicate, h.le]; exact h.es
  have hks : RowK Z (w.heap.size + 1) (.slice (some ⟨b, 0, none⟩) (nk + 5) dv) (m.ks ++ List.replicate 5 negK) := by unfold RowK; rw [List.length_append, List.length_replicate, h.lk]; exact h.ks
  obtain ⟨g, e, -, -, -, hc, -⟩ := owns_entry hes hE
  cases e
  obtain ⟨g', e', -, -, hc0, hc1, -⟩ := hks.key hK
  cases e'
  exact ⟨hc, hc0, hc1⟩
theorem Kq.cut {w Z : World} {MA : Array Value} {o : Nat} {m : Mm} {a b cv dv ne nk : Nat} (h : Kq w Z MA o m (.slice (some ⟨a, 0, none⟩) (ne + 4 + 1) cv) (.slice (some ⟨b, 0, none⟩) (nk + 4 + 1) dv) 5 5) (he : m.es.length = ne) (hk : m.ks.length = nk) : Kr w ((Z.setCell ⟨o, 14, none⟩ (.slice (some ⟨a, 0, none⟩) ne cv)).setCell ⟨o, 15, none⟩ (.slice (some ⟨b, 0, none⟩) nk dv)) MA o m (some ⟨a, 0, none⟩) (some ⟨b, 0, none⟩) cv dv ne nk := by
  have ho : Only (· = o) Z ((Z.setCell ⟨o, 14, none⟩ (.slice (some ⟨a, 0, none⟩) ne cv)).setCell ⟨o, 15, none⟩ (.slice (some ⟨b, 0, none⟩) nk dv)) := (only1 _ _ _ _).trans (only1 _ _ _ _)
  have to_ : Tag Z o 30 := ⟨_, _, h.box⟩
  have h1 := h.es
  have h2 := h.ks
  rw [he] at h1
  rw [hk] at h2
  exact ⟨h.kb.off ho (fun q hq => by rw [hq]; exact h.lt), h.lt, (heap_set (heap_set h.box 14 _) 15 _).trans rfl, owns_moved h1 fun q hq => ho.block q (Tag.own h1 hq).lt ((Tag.own h1 hq).ne to_ (by decide)), owns_moved h2 fun q hq => ho.block q (Tag.own h2 hq).lt ((Tag.own h2 hq).ne to_ (by decide)), he, hk⟩
theorem order_intK (n : Int) (h : (Lit.int .i64 n).wf = true) : FloatKind.f64.format.order (floatOfInt .f64 n) (floatOfInt .f64 n) = some .eq := by
  have hb : n.natAbs ≤ 2 ^ 63 := by
    have a1 : IntKind.i64.min = -9223372036854775808 := rfl
    have a2 : IntKind.i64.max = 9223372036854775807 := rfl
    simp only [Lit.wf, Bool.and_eq_true, decide_eq_true_eq] at h
    omega
  obtain ⟨v, hv⟩ := ofInt_fin n hb
  have := order_val hv hv
  rw [cmp_eq rfl] at this
  exact this
theorem same_ms (m : Mm) (we : (Lit.int .i64 m.ep).wf = true) (wn : (Lit.int .i64 m.nb).wf = true) (hle : m.es.length ≤ 140737488351232) (hlk : m.ks.length ≤ 140737488351232) (ve vk ve2 vk2 : Value) (w : World) (he : Row7 w 0 ve m.es) (he2 : Row7 w 0 ve2 m.es) (hk : RowK w 0 vk m.ks) (hk2 : RowK w 0 vk2 m.ks) :
    Calls Try.prog 9 #[.agg (m.ms ve vk).arr, .agg (m.ms ve2 vk2).arr] w fun e w' => e = .returned (.bool true) ∧ Below w.heap.size w w' :=
  sameMsg_big m.kind m.client m.life m.seq _ _ _ _ m.vers m.err m.op ve vk ve2 vk2 m.es m.ks w (order_intK _ we) (order_intK _ wn) he he2 hk hk2 hle hlk
theorem Kr.loads {w Z : World} {MA YA : Array Value} {o : Nat} {m : Mm} {av bv : Option Addr} {cv dv ne nk : Nat} (h : Kr w Z MA o m av bv cv dv ne nk) (hA : (m.ms (.slice av ne cv) (.slice bv nk dv)).arr = YA ∧ YA.size = 16) (hM : m.arr = MA ∧ MA.size = 17) : (msgS (.pointer (some ⟨o, 0, none⟩))).run Try.prog Z = .ok (.agg YA) Z ∧ (mmSk (.pointer (some ⟨w.heap.size, 0, none⟩))).run Try.prog Z = .ok (.agg MA) Z := ⟨msgS_of (h.box' hA.1) hA.2, mmSk_of h.kb.box hM.2⟩
theorem Kr.off {w Z Z' : World} {MA : Array Value} {o : Nat} {m : Mm} {av bv : Option Addr} {cv dv ne nk g : Nat} (h : Kr w Z MA o m av bv cv dv ne nk) (ho : Only (· = g) Z Z') (hg : Tag Z g 5) (hgt : w.heap.size < g) : Kr w Z' MA o m av bv cv dv ne nk := by
  have to_ : Tag Z o 30 := ⟨_, _, h.box⟩
  exact ⟨h.kb.off ho (fun q hq => by rw [hq]; exact hgt), h.lt, (ho.block o to_.lt (to_.ne hg (by decide))).trans h.box, owns_moved h.es fun q hq => ho.block q (Tag.own h.es hq).lt ((Tag.own h.es hq).ne hg (by decide)), owns_moved h.ks fun q hq => ho.block q (Tag.own h.ks hq).lt ((Tag.own h.ks hq).ne hg (by decide)), h.le, h.lk⟩
/-- what both sides' Encode answers, whatever lists it has -/
theorem enc_all (m : Mm) : ∃ (B : List Int) (E : Int), B.length ≤ 20000 ∧ (E = 0 ∨ E = 50) ∧
    (∀ ve vk W, Row7 W 0 ve m.es → RowK W 0 vk m.ks → Calls Try.prog 16 #[.agg (m.ms ve vk).arr] W fun e w' => ∃ a c, e = .returned (.tuple #[.slice a B.length c, .int .i64 E]) ∧ Hid (OwnB w' W.heap.size (.slice a B.length c) B) ∧ Below W.heap.size W w') ∧
    (∀ ve vk W, Row7 W 0 ve m.es → RowK W 0 vk m.ks → Calls Try.prog 17 #[.agg (m.ms ve vk).arr] W fun e w' => ∃ a c, e = .returned (.tuple #[.slice a B.length c, .int .i64 E]) ∧ Hid (OwnB w' W.heap.size (.slice a B.length c) B) ∧ Below W.heap.size W w') := by
  have hpl : ∀ ve vk, plainB (m.ms ve vk) = m.plain := fun _ _ => rfl
  have hmg : ∀ ve vk, (m.ms ve vk).mg = m.mg := fun _ _ => rfl
  cases hP : m.plain with
  | true =>
    have hok : msgOk m.mg := ((plainB_iff (m.ms (.slice none 0 0) (.slice none 0 0))).1 hP).2
    have key : ∀ {W w' : World} {e : Ending}, EncR true (msgB m.mg) W w' e → ∃ a c, e = .returned (.tuple #[.slice a (msgB m.mg).length c, .int .i64 0]) ∧ Hid (OwnB w' W.heap.size (.slice a (msgB m.mg).length c) (msgB m.mg)) ∧ Below W.heap.size W w' := fun h => h.yes
    exact ⟨msgB m.mg, 0, msgB_len hok, .inl rfl, fun ve vk W h1 h2 => (encode_p (m.ms ve vk) W ⟨h1, h2⟩).mono fun e w' hh => key (by rw [hpl, hP, hmg] at hh; exact hh), fun ve vk W h1 h2 => (encode_d (m.ms ve vk) W ⟨h1, h2⟩).mono fun e w' hh => key (by rw [hpl, hP, hmg] at hh; exact hh)⟩
  | false =>
    have key : ∀ {W w' : World} {e : Ending}, EncR false (msgB m.mg) W w' e → ∃ a c, e = .returned (.tuple #[.slice a ([] : List Int).length c, .int .i64 50]) ∧ Hid (OwnB w' W.heap.size (.slice a ([] : List Int).length c) []) ∧ Below W.heap.size W w' := fun h => ⟨none, 0, h.no.1, OwnB.nil _ _, h.no.2⟩
    exact ⟨[], 50, by simp, .inr rfl, fun ve vk W h1 h2 => (encode_p (m.ms ve vk) W ⟨h1, h2⟩).mono fun e w' hh => key (by rw [hpl, hP, hmg] at hh; exact hh), fun ve vk W h1 h2 => (encode_d (m.ms ve vk) W ⟨h1, h2⟩).mono fun e w' hh => key (by rw [hpl, hP, hmg] at hh; exact hh)⟩
set_option maxRecDepth 20000 in
set_option maxHeartbeats 16000000 in
theorem walk_WireKept (m : Mm) (a0 : Option Addr) (n0 c0 : Nat) (l : List Int) (w : World) (hm : ArgM w m) (we : (Lit.int .i64 m.ep).wf = true) (wn : (Lit.int .i64 m.nb).wf = true) (hr : RC w (.slice a0 n0 c0) l) (hlen : l.length ≤ LB) (hbyt : Byt l) :
    Calls Try.prog 5 #[.agg m.arr, .slice a0 n0 c0] w fun e w' => e = .returned (.bool true) ∧ Below w.heap.size w w' := by
  have hLB : l.length ≤ 140737488351232 := hlen
  have HAw : Hid (∀ W, Calls Try.prog 10 #[] W fun e w' => e = .returned (.bool true) ∧ Below W.heap.size W w') := awake_w
  have HR : Hid (RC w (.slice a0 n0 c0) l ∧ ArgM w m) := ⟨hr, hm⟩
  have HWf : Hid ((Lit.int .i64 m.ep).wf = true ∧ (Lit.int .i64 m.nb).wf = true) := ⟨we, wn⟩
  clear we wn
  obtain ⟨MA, hMA⟩ : ∃ A, m.arr = A := ⟨_, rfl⟩
  have HMA : Hid (m.arr = MA ∧ MA.size = 17) := ⟨hMA, by rw [← hMA]; rfl⟩
  rw [hMA]
  obtain ⟨W, hW⟩ : ∃ W, w.alloc (.cells MA 54) = W := ⟨_, rfl⟩
  have bW := boxB hW
  have K0 : Hid (Kb w W MA ∧ w.heap.size < W.heap.size) := ⟨⟨bW.1, bW.2⟩, by rw [← hW]; simp⟩
  have HLe : Hid (Calls Try.prog 13 #[.slice a0 n0 c0] W fun e w' => ∃ g cap, e = .returned (.tuple #[.slice (some ⟨g, 0, none⟩) l.length cap, .slice (some ⟨g, 0, none⟩) (l.length + 70) cap]) ∧ Hid (OwnB w' W.heap.size (.slice (some ⟨g, 0, none⟩) (l.length + 70) cap) (l ++ marks 70)) ∧ Below W.heap.size W w') := lend_any _ l W (hr.below bW.2).rb hlen
  have HBa : Hid (∀ v2 W2, Below w.heap.size w W2 → OwnB W2 W.heap.size v2 (l ++ marks 70) → Calls Try.prog 14 #[.slice a0 n0 c0, v2] W2 fun e w' => e = .returned (.bool true) ∧ Below W2.heap.size W2 w') := fun v2 W2 hb ho => back_any _ v2 l _ W2 (hr.below hb).rb ho hlen
  obtain ⟨mg, re, im, E, f1, f2, f3, f4, h1, h2⟩ := dec_both l hbyt hLB
  have HF : Hid (FloatKind.f64.format.order re re = some .eq ∧ FloatKind.f64.format.order im im = some .eq ∧ mg.es.length ≤ 1000000000 ∧ mg.ks.length ≤ 1000000000) := ⟨f1, f2, f3, f4⟩
  have H1 : Hid (∀ v W, RC W v l → Calls Try.prog 6 #[v] W fun e w' => ∃ A, e = .returned (.tuple #[.agg A, .int .i64 E]) ∧ Hid (Sm w' A re im mg) ∧ Below W.heap.size W w') := h1
  have H2 : Hid (∀ v W, RC W v l → Calls Try.prog 8 #[v] W fun e w' => ∃ A, e = .returned (.tuple #[.agg A, .int .i64 E]) ∧ Hid (Sm w' A re im mg) ∧ Below W.heap.size W w') := h2
  obtain ⟨nl, hnl⟩ : ∃ n, l.length = n := ⟨_, rfl⟩
  rw [hnl] at HLe hLB
  have HNl : Hid (l.length = nl) := hnl
  clear hr hlen hbyt f1 f2 f3 f4 h1 h2 bW hMA hm hnl
  go_enter Try.func5, Try.ntmps5
  go_upto_region 1 with fail
  clear hW
  go_upto_region 2 with (go_at_call 13; refine HLe.out.mono ?_; rintro e w1 ⟨g, cap, rfl, ho1, hb1⟩)
  have K1 : Hid (Kb w w1 MA ∧ RC w1 (.slice (some ⟨g, 0, none⟩) nl cap) l ∧ W.heap.size ≤ g) := by
    have h := own_front ho1.out
    rw [HNl.out] at h
    exact ⟨K0.out.1.below hb1, h.1, h.2.2⟩
  clear HLe hb1
  go_upto_region 3 with (go_at_call 6; refine (H1.out _ w1 K1.out.2.1).mono ?_; rintro e w2 ⟨A, rfl, hs2, hb2⟩; obtain ⟨W3, hW3⟩ : ∃ W, w2.alloc (.cells #[.int .i64 0, .int .i64 0, .int .i64 0, .int .i64 0, .complex .f64 0 0, .int .i64 0, .int .i64 0, .int .i64 0, .int .i64 0, .string ⟨#[]⟩, .int .i64 0, .string ⟨#[]⟩, .int .i64 0, .string ⟨#[]⟩, .slice none 0 0, .slice none 0 0] 30) = W := ⟨_, rfl⟩; obtain ⟨W4, hW4⟩ : ∃ W, W3.setRow w2.heap.size A = W := ⟨_, rfl⟩; have nt := msgTd_of (boxB hW3).1 rfl hs2.out.size.1 hs2.out.size.2 hW4)
  obtain ⟨y1, hy1⟩ : ∃ y, w2.heap.size = y := ⟨_, rfl⟩
  have H4 : Hid (W4.heap[y1]? = some (.cells A 30 (0, 0)) ∧ Kb w W4 MA ∧ Sm W4 A re im mg ∧ OwnB W4 W.heap.size (.slice (some ⟨g, 0, none⟩) (nl + 70) cap) (l ++ marks 70)) := by
    have h := box_msg hW3 hW4 hs2.out
    rw [← hy1]
    exact ⟨h.1, (K1.out.1.below hb2).below h.2.1, h.2.2, (ho1.out.below hb2).below h.2.1⟩
  rw [hy1]
  clear hW3 hW4 nt hb2 hs2 hy1 ho1
  go_upto_region 5 with (go_at_call 14; refine (HBa.out _ W4 H4.out.2.1.bel H4.out.2.2.2).mono ?_; rintro e w5 ⟨rfl, hb5⟩)
  have H5 : Hid (w5.heap[y1]? = some (.cells A 30 (0, 0)) ∧ Kb w w5 MA ∧ Sm w5 A re im mg ∧ OwnB w5 W.heap.size (.slice (some ⟨g, 0, none⟩) (nl + 70) cap) (l ++ marks 70)) := ⟨hkeep H4.out.1 hb5, H4.out.2.1.below hb5, H4.out.2.2.1.below hb5, H4.out.2.2.2.below hb5⟩
  clear H4 hb5 HBa
  go_wp2
  go_loopw [9] (fun i wr => ∃ (k : Nat) (L : List Int), k ≤ nl + 70 ∧ i = .int .i64 k ∧ Hid (L.length = nl + 70 ∧ OwnB wr W.heap.size (.slice (some ⟨g, 0, none⟩) (nl + 70) cap) L ∧ wr.heap[y1]? = some (.cells A 30 (0, 0)) ∧ Kb w wr MA ∧ Sm wr A re im mg)) (fun i _ => nl + 70 - (intOf i).toNat)
  case atStart => exact ⟨0, _, Nat.zero_le _, rfl, by rw [List.length_append, marks_len, HNl.out], H5.out.2.2.2, H5.out.1, H5.out.2.1, H5.out.2.2.1⟩
  case round =>
    obtain ⟨k, L, hk, rfl, hI⟩ := hrel
    by_cases hkn : k < nl + 70
    · obtain ⟨x, hx⟩ : ∃ x, L[k]? = some x := ⟨_, List.getElem?_eq_getElem (by rw [hI.out.1]; exact hkn)⟩
      obtain ⟨⟨x', hc⟩, hf⟩ := hI.out.2.1.cell k (by rw [hI.out.1]; exact hkn)
      have hki : (k : Int) < (nl : Int) + 70 := by omega
      have hki2 : (k : Int) < ((nl + 70 : Nat) : Int) := by omega
      have HG : Hid (Tag wr g 5 ∧ W.heap.size ≤ g) := ⟨Tag.own hI.out.2.1 rfl, K1.out.2.2⟩
      clear hx
      go_wp2
      have hO : Only (· = g) wr (wr.setCell ⟨g, k, none⟩ (.int .u8 (bits BinOp.xor IntKind.u8 x' 85))) := only1 _ _ _ _
      have ty : Tag wr y1 30 := ⟨_, _, hI.out.2.2.1⟩
      exact ⟨⟨k + 1, L.set k (bits BinOp.xor IntKind.u8 x' 85), by omega, by simp, by rw [List.length_set]; exact hI.out.1, hI.out.2.1.put hI.out.1 k _, (hO.block y1 ty.lt (ty.ne HG.out.1 (by decide))).trans hI.out.2.2.1, hI.out.2.2.2.1.off hO (fun q hq => by have := HG.out.2; have := K0.out.2; omega), hI.out.2.2.2.2.offU hO HG.out.1 (by decide) (by decide)⟩, by simp [intOf]; omega⟩
    · have hki : ¬ (k : Int) < (nl : Int) + 70 := by omega
      have hki2 : ¬ (k : Int) < ((nl + 70 : Nat) : Int) := by omega
      have H6 : Hid (wr.heap[y1]? = some (.cells A 30 (0, 0)) ∧ Kb w wr MA ∧ Sm wr A re im mg) := hI.out.2.2
      clear hI H5
      go_upto_region 10 with (go_at_call 8; refine (H2.out _ wr (HR.out.1.below H6.out.2.1.bel)).mono ?_; rintro e w6 ⟨A2, rfl, hs6, hb6⟩; obtain ⟨W7, hW7⟩ : ∃ W, w6.alloc (.cells #[.int .i64 0, .int .i64 0, .int .i64 0, .int .i64 0, .complex .f64 0 0, .int .i64 0, .int .i64 0, .int .i64 0, .int .i64 0, .string ⟨#[]⟩, .int .i64 0, .string ⟨#[]⟩, .int .i64 0, .string ⟨#[]⟩, .slice none 0 0, .slice none 0 0] 30) = W := ⟨_, rfl⟩; obtain ⟨W8, hW8⟩ : ∃ W, W7.setRow w6.heap.size A2 = W := ⟨_, rfl⟩; have nt := msgTd_of (boxB hW7).1 rfl hs6.out.size.1 hs6.out.size.2 hW8)
      have H8 : Hid (W8.heap[y1]? = some (.cells A 30 (0, 0)) ∧ W8.heap[w6.heap.size]? = some (.cells A2 30 (0, 0)) ∧ Kb w W8 MA ∧ Sm W8 A re im mg ∧ Sm W8 A2 re im mg) := by
        have h := box_msg hW7 hW8 hs6.out
        have h' := box_msg hW7 hW8 (H6.out.2.2.below hb6)
        exact ⟨hkeep (hkeep H6.out.1 hb6) h.2.1, h.1, (H6.out.2.1.below hb6).below h.2.1, h'.2.2, h.2.2⟩
      have nl1 := msgS_of H8.out.1 H8.out.2.2.2.1.size.1
      have nl2 := msgS_of H8.out.2.1 H8.out.2.2.2.2.size.1
      clear hW7 hW8 nt hb6 hs6 H6 hki hki2 hkn
      go_upto_region 12 with (go_at_call 9; refine (H8.out.2.2.2.1.same H8.out.2.2.2.2 HF.out.1 HF.out.2.1 HF.out.2.2.1 HF.out.2.2.2).mono ?_; rintro e w9 ⟨rfl, hb9⟩; clear nl1 nl2)
      have K9 : Hid (Kb w w9 MA) := H8.out.2.2.1.below hb9
      clear H8 hb9 H1 H2 HF K1
      have HMs : Hid (∀ W2, Kb w W2 MA → Calls Try.prog 15 #[.agg MA] W2 fun e w' => ∃ ve vk A, e = .returned (.agg A) ∧ Hid ((m.ms ve vk).arr = A ∧ Row7 w' W2.heap.size ve m.es ∧ RowK w' W2.heap.size vk m.ks) ∧ Below W2.heap.size W2 w') := fun W2 hk => by
        have h := msg_any m W2 (HR.out.2.below hk.bel)
        rw [HMA.out.1] at h
        exact h.mono fun e w' ⟨ve, vk, he, h1, h2, hb⟩ => ⟨ve, vk, _, he, ⟨rfl, h1, h2⟩, hb⟩
      have nm := mmSk_of K9.out.box HMA.out.2
      go_upto_region 13 with (go_at_call 15; refine (HMs.out w9 K9.out).mono ?_; rintro e w10 ⟨ve, vk, Y, rfl, h10, hb10⟩; clear nm; have hYs : Y.size = 16 ∧ Y.all (·.oneCell') = true := (by rw [← h10.out.1]; exact ⟨rfl, ms_oneK h10.out.2.1 h10.out.2.2⟩); obtain ⟨W11, hW11⟩ : ∃ W, w10.alloc (.cells #[.int .i64 0, .int .i64 0, .int .i64 0, .int .i64 0, .complex .f64 0 0, .int .i64 0, .int .i64 0, .int .i64 0, .int .i64 0, .string ⟨#[]⟩, .int .i64 0, .string ⟨#[]⟩, .int .i64 0, .string ⟨#[]⟩, .slice none 0 0, .slice none 0 0] 30) = W := ⟨_, rfl⟩; obtain ⟨W12, hW12⟩ : ∃ W, W11.setRow w10.heap.size Y = W := ⟨_, rfl⟩; have nt := msgTd_of (boxB hW11).1 rfl hYs.1 hYs.2 hW12)
      obtain ⟨o, hoo⟩ : ∃ o, w10.heap.size = o := ⟨_, rfl⟩
      have Q0 : Hid (Kq w W12 MA o m ve vk 0 0) := by
        have b11 := boxB hW11
        have hB12 : Below w10.heap.size w10 W12 := by rw [← hW12]; exact below_setRow b11.2 (Nat.le_refl _) _
        have t11 : Tag W11 w10.heap.size 30 := ⟨_, _, b11.1⟩
        have hO12 : Only (· = w10.heap.size) W11 W12 := by rw [← hW12]; exact setRow_onlyD _ _ _
        have hlt9 : w.heap.size < w9.heap.size := (Array.getElem?_eq_some_iff.1 K9.out.box).1
        rw [← hoo]
        refine ⟨(K9.out.below hb10).below hB12, by have := hb10.size; omega, by rw [h10.out.1, ← hW12]; exact setRow_heap _ _ _ _ _ _ b11.1, ?_, ?_⟩
        · simp only [List.replicate_zero, List.append_nil, Nat.add_zero]
          exact owns_le (row_off (h10.out.2.1.below b11.2) hO12 t11 (by decide)) (by omega)
        · simp only [List.replicate_zero, List.append_nil, Nat.add_zero]
          exact owns_le (rowk_off (h10.out.2.2.below b11.2) hO12 t11 (by decide)) (by omega)
      try rw [hoo]
      clear hW11 hW12 nt hYs h10 hb10 K9 hoo
      obtain ⟨i1, hi1, hw0, hw1, hw2⟩ := info_parts Try.infoE
      obtain ⟨i2, hi2, hv0, hv1, hv2⟩ := info_parts Try.infoKy
      obtain ⟨ae, ce, hme, hle, -⟩ := HR.out.2.es
      obtain ⟨ak, ck, hmk, hlk, -⟩ := HR.out.2.ks
      obtain ⟨ne, hne⟩ : ∃ n, m.es.length = n := ⟨_, rfl⟩
      obtain ⟨nk, hnk⟩ : ∃ n, m.ks.length = n := ⟨_, rfl⟩
      have HN : Hid (m.es.length = ne ∧ m.ks.length = nk ∧ ne * 72 ≤ 140737488351232 ∧ nk * 24 ≤ 140737488351232 ∧ m.ve = .slice ae ne ce ∧ m.vk = .slice ak nk ck) := ⟨hne, hnk, by rw [← hne]; exact hle, by rw [← hnk]; exact hlk, by rw [← hne]; exact hme, by rw [← hnk]; exact hmk⟩
      clear hme hle hmk hlk hne hnk
      go_wp2
      go_loopw [13] (fun i wr => ∃ (k : Nat) (ve vk : Value), k ≤ 5 ∧ i = .int .i64 k ∧ Hid (Kq w wr MA o m ve vk k k)) (fun i _ => 5 - (intOf i).toNat)
      case atStart => exact ⟨0, ve, vk, by omega, rfl, Q0.out⟩
      case round =>
        obtain ⟨k, ve, vk, hk, rfl, hI⟩ := hrel
        by_cases hk5 : k < 5
        · have hki : (k : Int) < 5 := by omega
          obtain ⟨av, cv, hve⟩ := owns_len hI.out.es
          obtain ⟨bv, dv, hvk⟩ := owns_len hI.out.ks
          rw [HN.out.1] at hve
          rw [HN.out.2.1] at hvk
          subst hve hvk
          have q14 : wr.cell? ⟨o, 14, none⟩ = some (.slice av (ne + k) cv) := by rw [cell_of hI.out.box]; rfl
          have hre : wr.ownsRow (w.heap.size + 1) 44 7 (.slice av (ne + k) cv) (ne + k) (ec (m.es ++ List.replicate k negE)) := by have h := hI.out.es; rw [HN.out.1] at h; exact h
          have HRe : Hid (wr.ownsRow (w.heap.size + 1) 44 7 (.slice av (ne + k) cv) (ne + k) (ec (m.es ++ List.replicate k negE)) ∧ w.heap.size + 1 ≤ wr.heap.size) := ⟨hre, (Array.getElem?_eq_some_iff.1 hI.out.kb.box).1⟩
          obtain ⟨X, hX⟩ : ∃ X, wr.alloc (.cells #[.int .i64 0, .string ⟨#[]⟩, .bool true, .int .i64 0, .int .i64 0, .int .i64 0, .string ⟨#[]⟩] 44) = X := ⟨_, rfl⟩
          have HXb : Hid (Below wr.heap.size wr X) := (boxB hX).2
          have oX : X.cell? ⟨o, 14, none⟩ = some (.slice av (ne + k) cv) := (HXb.out.cell (cellLt q14)).trans q14
          clear hre
          go_upto_region 17 with (at_builtin; refine wpList_append_own_at _ rfl _ _ 27 rfl (w.heap.size + 1) 44 i1 _ 7 72 Try.underlying27 hi1 hw0 hw1 hw2 rfl (by decide) _ (ne + k) (ec (m.es ++ List.replicate k negE)) rfl (owns_below HRe.out.1 HXb.out) ⟨wr.heap.size, 0, none⟩ 1 1 negE.vals rfl rfl (by rw [← hX]; exact vals_at wr negE _) (vals_one negE) (by have := HN.out; unfold maxLen; omega) (by have := HN.out; omega) (Nat.le_trans HRe.out.2 HXb.out.size) ?_; intro v5 w5 hown5 hgrow5 hq5 hq6; clear hq5 hq6; obtain ⟨g5, c5, hv5⟩ := owns_form hown5; subst hv5; have P5 : Hid (Kq w (w5.setCell ⟨o, 14, none⟩ (.slice (some ⟨g5, 0, none⟩) (ne + k + 1) c5)) MA o m (.slice (some ⟨g5, 0, none⟩) (ne + k + 1) c5) (.slice bv (nk + k) dv) (k + 1) k) := hI.out.entry HXb.out (by rw [HN.out.1]; exact hown5) hgrow5; have b5 : Hid (w5.heap[o]? = some (.cells (m.ms (.slice av (ne + k) cv) (.slice bv (nk + k) dv)).arr 30 (0, 0))) := ((only_grown hgrow5).block o (Tag.lt (t := 30) ⟨_, _, hkeep hI.out.box HXb.out⟩) (fun e => (Tag.own (owns_below HRe.out.1 HXb.out) e).ne (t' := 30) ⟨_, _, hkeep hI.out.box HXb.out⟩ (by decide) rfl)).trans (hkeep hI.out.box HXb.out); have q5 : w5.cell? ⟨o, 14, none⟩ = some (.slice av (ne + k) cv) := (by rw [cell_of b5.out]; rfl); have qg5 := free_of b5.out 14; clear hown5 hgrow5)
          obtain ⟨Z5, hZ5⟩ : ∃ Z, w5.setCell ⟨o, 14, none⟩ (.slice (some ⟨g5, 0, none⟩) (ne + k + 1) c5) = Z := ⟨_, rfl⟩
          rw [hZ5] at P5 ⊢
          clear hZ5 q5 qg5 b5 hX oX q14 HXb HRe
          have r15 : Z5.cell? ⟨o, 15, none⟩ = some (.slice bv (nk + k) dv) := by rw [cell_of P5.out.box]; rfl
          have HRk : Hid (Z5.ownsRow (w.heap.size + 1) 40 2 (.slice bv (nk + k) dv) (nk + k) (kc (m.ks ++ List.replicate k negK)) ∧ w.heap.size + 1 ≤ Z5.heap.size) := ⟨by have h := P5.out.ks; rw [HN.out.2.1] at h; exact h, (Array.getElem?_eq_some_iff.1 P5.out.kb.box).1⟩
          obtain ⟨X2, hX2⟩ : ∃ X, Z5.alloc (.cells #[.int .i64 (-4), .string ⟨#[]⟩] 40) = X := ⟨_, rfl⟩
          have HXc : Hid (Below Z5.heap.size Z5 X2) := (boxB hX2).2
          have oX2 : X2.cell? ⟨o, 15, none⟩ = some (.slice bv (nk + k) dv) := (HXc.out.cell (cellLt r15)).trans r15
          go_wp2_with (at_builtin; refine wpList_append_own_at _ rfl _ _ 28 rfl (w.heap.size + 1) 40 i2 _ 2 24 Try.underlying28 hi2 hv0 hv1 hv2 rfl (by decide) _ (nk + k) (kc (m.ks ++ List.replicate k negK)) rfl (owns_below HRk.out.1 HXc.out) ⟨Z5.heap.size, 0, none⟩ 1 1 [.int .i64 (-4), .string ⟨#[]⟩] rfl rfl (by rw [← hX2]; exact kvals_at Z5 negK _) (kvals_one negK) (by have := HN.out; unfold maxLen; omega) (by have := HN.out; omega) (Nat.le_trans HRk.out.2 HXc.out.size) ?_; intro v6 w6 hown6 hgrow6 hq5 hq6; clear hq5 hq6; obtain ⟨g6, c6, hv6⟩ := owns_form hown6; subst hv6; have P6 : Hid (Kq w (w6.setCell ⟨o, 15, none⟩ (.slice (some ⟨g6, 0, none⟩) (nk + k + 1) c6)) MA o m (.slice (some ⟨g5, 0, none⟩) (ne + k + 1) c5) (.slice (some ⟨g6, 0, none⟩) (nk + k + 1) c6) (k + 1) (k + 1)) := P5.out.key HXc.out (by rw [HN.out.2.1]; exact hown6) hgrow6; have b6 : Hid (w6.heap[o]? = some (.cells (m.ms (.slice (some ⟨g5, 0, none⟩) (ne + k + 1) c5) (.slice bv (nk + k) dv)).arr 30 (0, 0))) := ((only_grown hgrow6).block o (Tag.lt (t := 30) ⟨_, _, hkeep P5.out.box HXc.out⟩) (fun e => (Tag.own (owns_below HRk.out.1 HXc.out) e).ne (t' := 30) ⟨_, _, hkeep P5.out.box HXc.out⟩ (by decide) rfl)).trans (hkeep P5.out.box HXc.out); have q6 : w6.cell? ⟨o, 15, none⟩ = some (.slice bv (nk + k) dv) := (by rw [cell_of b6.out]; rfl); have qg6 := free_of b6.out 15; clear hown6 hgrow6)
          exact ⟨⟨k + 1, _, _, by omega, by simp, P6.out⟩, by simp [intOf]; omega⟩
        · obtain rfl : k = 5 := by omega
          obtain ⟨av, cv, hve⟩ := owns_form (n := ne + 4) (by have h := hI.out.es; rw [HN.out.1] at h; exact h)
          obtain ⟨bv, dv, hvk⟩ := owns_form (n := nk + 4) (by have h := hI.out.ks; rw [HN.out.2.1] at h; exact h)
          subst hve hvk
          clear hk hk5 Q0
          have hI5 : Hid (Kq w wr MA o m (.slice (some ⟨av, 0, none⟩) (ne + 4 + 1) cv) (.slice (some ⟨bv, 0, none⟩) (nk + 4 + 1) dv) 5 5) := hI
          have HcE : Hid (ne + 5 ≤ cv ∧ nk + 5 ≤ dv) := by
            have h := hI5.out.es
            have h' := hI5.out.ks
            rw [HN.out.1] at h
            rw [HN.out.2.1] at h'
            have e1 := (owns_cells (n := ne + 5) h).2.2.1
            have e2 := (owns_cells (n := nk + 5) h').2.2.1
            exact ⟨e1, e2⟩
          have q14 : wr.cell? ⟨o, 14, none⟩ = some (.slice (some ⟨av, 0, none⟩) (ne + 4 + 1) cv) := by rw [cell_of hI5.out.box]; rfl
          have q15 : wr.cell? ⟨o, 15, none⟩ = some (.slice (some ⟨bv, 0, none⟩) (nk + 4 + 1) dv) := by rw [cell_of hI5.out.box]; rfl
          have qf := free_of hI5.out.box
          have qf14 := qf 14
          have qf15 := qf 15
          have m15 : wr.cell? ⟨w.heap.size, 15, none⟩ = some (.slice ae ne ce) := by rw [cell_of hI5.out.kb.box, ← HMA.out.1, ← HN.out.2.2.2.2.1]; rfl
          have m16 : wr.cell? ⟨w.heap.size, 16, none⟩ = some (.slice ak nk ck) := by rw [cell_of hI5.out.kb.box, ← HMA.out.1, ← HN.out.2.2.2.2.2]; rfl
          have c0 : (0 : Int) ≤ (ne : Int) := by omega
          have c1 : (ne : Int) ≤ (cv : Int) := by have := HcE.out; omega
          have c2 : ne ≤ cv := by have := HcE.out; omega
          have d0 : (0 : Int) ≤ (nk : Int) := by omega
          have d1 : (nk : Int) ≤ (dv : Int) := by have := HcE.out; omega
          have d2 : nk ≤ dv := by have := HcE.out; omega
          clear qf hI
          go_upto_region 22 with fail
          obtain ⟨Zt, hZt⟩ : ∃ Z, (wr.setCell ⟨o, 14, none⟩ (.slice (some ⟨av, 0, none⟩) ne cv)).setCell ⟨o, 15, none⟩ (.slice (some ⟨bv, 0, none⟩) nk dv) = Z := ⟨_, rfl⟩
          have R0 : Hid (Kr w Zt MA o m (some ⟨av, 0, none⟩) (some ⟨bv, 0, none⟩) cv dv ne nk) := by
            show Kr _ _ _ _ _ _ _ _ _ _ _
            rw [← hZt]
            exact hI5.out.cut HN.out.1 HN.out.2.1
          rw [hZt]
          clear hZt q14 q15 qf14 qf15 m15 m16 c0 c1 c2 d0 d1 d2 hI5
          obtain ⟨YA, hYA⟩ : ∃ A, (m.ms (.slice (some ⟨av, 0, none⟩) ne cv) (.slice (some ⟨bv, 0, none⟩) nk dv)).arr = A := ⟨_, rfl⟩
          have HYA : Hid ((m.ms (.slice (some ⟨av, 0, none⟩) ne cv) (.slice (some ⟨bv, 0, none⟩) nk dv)).arr = YA ∧ YA.size = 16) := ⟨hYA, by rw [← hYA]; rfl⟩
          obtain ⟨B, EE, hBl, hEE, hEn, hEd⟩ := enc_all m
          have HEE : Hid (EE = 0 ∨ EE = 50) := hEE
          have HB : Hid (B.length ≤ 20000) := hBl
          obtain ⟨nB, hnB⟩ : ∃ n, B.length = n := ⟨_, rfl⟩
          rw [hnB] at hEn hEd
          have HnB : Hid (B.length = nB ∧ nB ≤ 20000) := ⟨hnB, by rw [← hnB]; exact hBl⟩
          have HEn : Hid (∀ W2, Kr w W2 MA o m (some ⟨av, 0, none⟩) (some ⟨bv, 0, none⟩) cv dv ne nk → Calls Try.prog 16 #[.agg YA] W2 fun e w' => ∃ a c, e = .returned (.tuple #[.slice a nB c, .int .i64 EE]) ∧ Hid (OwnB w' W2.heap.size (.slice a nB c) B) ∧ Below W2.heap.size W2 w') := fun W2 hk => by rw [← hYA]; exact hEn _ _ W2 hk.rowE hk.rowK
          have HEd : Hid (∀ ve vk W2, Row7 W2 0 ve m.es → RowK W2 0 vk m.ks → Calls Try.prog 17 #[.agg (m.ms ve vk).arr] W2 fun e w' => ∃ a c, e = .returned (.tuple #[.slice a nB c, .int .i64 EE]) ∧ Hid (OwnB w' W2.heap.size (.slice a nB c) B) ∧ Below W2.heap.size W2 w') := hEd
          have hnB2 : nB ≤ 20000 := HnB.out.2
          clear hBl hEE hEn hEd hnB hYA
          have nl1 := msgS_of (R0.out.box' HYA.out.1) HYA.out.2
          go_upto_region 23 with (go_at_call 16; refine (HEn.out Zt R0.out).mono ?_; rintro e x1 ⟨a1, c1, rfl, ho1, hb1⟩; clear nl1)
          have R1 : Hid (Kr w x1 MA o m (some ⟨av, 0, none⟩) (some ⟨bv, 0, none⟩) cv dv ne nk ∧ OwnB x1 (w.heap.size + 1) (.slice a1 nB c1) B) := ⟨R0.out.below hb1, owns_le ho1.out R0.out.size⟩
          have nl2 := msgS_of (R1.out.1.box' HYA.out.1) HYA.out.2
          clear hb1 ho1 R0
          go_upto_region 24 with (go_at_call 16; refine (HEn.out x1 R1.out.1).mono ?_; rintro e x2 ⟨a2, c2, rfl, ho2, hb2⟩; clear nl2)
          have R2 : Hid (Kr w x2 MA o m (some ⟨av, 0, none⟩) (some ⟨bv, 0, none⟩) cv dv ne nk ∧ OwnB x2 (w.heap.size + 1) (.slice a1 nB c1) B ∧ OwnB x2 (w.heap.size + 1) (.slice a2 nB c2) B ∧ ∀ q, Value.ownBlock (.slice a1 nB c1) = some q → Value.ownBlock (.slice a2 nB c2) ≠ some q) := ⟨R1.out.1.below hb2, R1.out.2.below hb2, owns_le ho2.out R1.out.1.size, fun q hq e => by have := (World.ownsRow.lt R1.out.2 q hq).2; have := (World.ownsRow.lt ho2.out q e).1; omega⟩
          clear hb2 ho2 R1
          go_wp2
          go_loopw [20] (fun i wr => ∃ (k : Nat), k ≤ 5 ∧ i = .int .i64 k ∧ Hid (wr = x2)) (fun i _ => 5 - (intOf i).toNat)
          case atStart => exact ⟨0, by omega, rfl, rfl⟩
          case round =>
            obtain ⟨k, hk, rfl, hI⟩ := hrel
            obtain rfl := hI.out
            by_cases hk5 : k < 5
            · have hki : (k : Int) < 5 := by omega
              have m15 : wr.cell? ⟨w.heap.size, 15, none⟩ = some (.slice ae ne ce) := by rw [cell_of R2.out.1.kb.box, ← HMA.out.1, ← HN.out.2.2.2.2.1]; rfl
              have m16 : wr.cell? ⟨w.heap.size, 16, none⟩ = some (.slice ak nk ck) := by rw [cell_of R2.out.1.kb.box, ← HMA.out.1, ← HN.out.2.2.2.2.2]; rfl
              obtain ⟨ce', hcells⟩ := R2.out.1.spare hk5
              have e0 : wr.cell? ⟨av, (ne + k) * 7, none⟩ = some (.int .i64 0) := ce'.c0
              have e1 : wr.cell? ⟨av, (ne + k) * 7 + 1, none⟩ = some (.string ⟨#[]⟩) := ce'.c1
              have e2 : wr.cell? ⟨av, (ne + k) * 7 + 2, none⟩ = some (.bool true) := ce'.c2
              have e3 : wr.cell? ⟨av, (ne + k) * 7 + 3, none⟩ = some (.int .i64 0) := ce'.c3
              have e4 : wr.cell? ⟨av, (ne + k) * 7 + 4, none⟩ = some (.int .i64 0) := ce'.c4
              have e5 : wr.cell? ⟨av, (ne + k) * 7 + 5, none⟩ = some (.int .i64 0) := ce'.c5
              have e6 : wr.cell? ⟨av, (ne + k) * 7 + 6, none⟩ = some (.string ⟨#[]⟩) := ce'.c6
              have hqe : eqEn ⟨0, ⟨#[]⟩, true, 0, 0, 0, ⟨#[]⟩⟩ ⟨0, ⟨#[]⟩, true, 0, 0, 0, ⟨#[]⟩⟩ = true := (eqEn_iff _ _).2 rfl
              obtain ⟨f0, f1⟩ := hcells
              have w1 : IntKind.i64.wrap ((ne : Int) + (k : Int)) = (ne : Int) + (k : Int) := IntWalk.i64_in _ (by have := HN.out; omega)
              have w2 : IntKind.i64.wrap ((nk : Int) + (k : Int)) = (nk : Int) + (k : Int) := IntWalk.i64_in _ (by have := HN.out; omega)
              have t1 : ((ne : Int) + (k : Int)).toNat = ne + k := by omega
              have t2 : ((nk : Int) + (k : Int)).toNat = nk + k := by omega
              have z1 : (0 : Int) ≤ (ne : Int) + (k : Int) := by omega
              have z2 : (0 : Int) ≤ (nk : Int) + (k : Int) := by omega
              have l1 : (ne : Int) + (k : Int) < (ne : Int) + 4 + 1 := by omega
              have l2 : (nk : Int) + (k : Int) < (nk : Int) + 4 + 1 := by omega
              have l3 : (ne : Int) + (k : Int) < (ne : Int) + 5 := by omega
              have l4 : (nk : Int) + (k : Int) < (nk : Int) + 5 := by omega
              clear ce'
              go_wp2
              exact ⟨⟨k + 1, by omega, by simp, trivial⟩, by simp [intOf]; omega⟩
            · have hki : ¬ (k : Int) < 5 := by omega
              clear hI hk hk5
              go_wp2
              go_loopw [21] (fun i W5 => ∃ (k : Nat) (L : List Int), k ≤ nB ∧ i = .int .i64 k ∧ Hid (L.length = nB ∧ Kr w W5 MA o m (some ⟨av, 0, none⟩) (some ⟨bv, 0, none⟩) cv dv ne nk ∧ OwnB W5 (w.heap.size + 1) (.slice a1 nB c1) L ∧ OwnB W5 (w.heap.size + 1) (.slice a2 nB c2) B)) (fun i _ => nB - (intOf i).toNat)
              case atStart => exact ⟨0, B, Nat.zero_le _, rfl, HnB.out.1, R2.out.1, R2.out.2.1, R2.out.2.2.1⟩
              case round =>
                obtain ⟨j, L, hj, rfl, hJ⟩ := hrel
                by_cases hjn : j < nB
                · obtain ⟨g1, hg1⟩ : ∃ g1, a1 = some ⟨g1, 0, none⟩ := by
                    rcases hJ.out.2.2.1.form with ⟨e, e2⟩ | ⟨g', cap', e, _⟩
                    · rw [e2] at hJ; have := hJ.out.1; simp at this; omega
                    · cases e; exact ⟨g', rfl⟩
                  subst hg1
                  obtain ⟨⟨x', hc⟩, hf⟩ := hJ.out.2.2.1.cell j (by rw [hJ.out.1]; exact hjn)
                  have hji : (j : Int) < (nB : Int) := by omega
                  go_wp2
                  have hO : Only (· = g1) wr (wr.setCell ⟨g1, j, none⟩ (.int .u8 ((x' + 1) % 256))) := only1 _ _ _ _
                  have hT : Tag wr g1 5 := Tag.own hJ.out.2.2.1 rfl
                  have hgt := (World.ownsRow.lt hJ.out.2.2.1 g1 rfl).1
                  exact ⟨⟨j + 1, L.set j ((x' + 1) % 256), by omega, by simp, by rw [List.length_set]; exact hJ.out.1, hJ.out.2.1.off hO hT hgt, hJ.out.2.2.1.put hJ.out.1 j _, owns_moved hJ.out.2.2.2 fun q hq => hO.block q (Tag.own hJ.out.2.2.2 hq).lt (fun e => R2.out.2.2.2 g1 rfl (by rw [← e]; exact hq))⟩, by simp [intOf]; omega⟩
                · have hji : ¬ (j : Int) < (nB : Int) := by omega
                  have R5 : Hid (Kr w wr MA o m (some ⟨av, 0, none⟩) (some ⟨bv, 0, none⟩) cv dv ne nk ∧ OwnB wr (w.heap.size + 1) (.slice a2 nB c2) B) := ⟨hJ.out.2.1, hJ.out.2.2.2⟩
                  have nm := mmSk_of R5.out.1.kb.box HMA.out.2
                  clear hJ hjn hj
                  go_upto_region 34 with (first
                    | (go_at_call 15; refine (HMs.out wr R5.out.1.kb).mono ?_; rintro e w10 ⟨ve3, vk3, Y3, rfl, h10, hb10⟩; clear nm)
                    | (go_at_call 17; have hEd3 := HEd.out ve3 vk3 w10 (owns_le h10.out.2.1 (Nat.zero_le _)) (owns_le h10.out.2.2 (Nat.zero_le _)); rw [h10.out.1] at hEd3; refine hEd3.mono ?_; rintro e w11 ⟨a3, c3, rfl, ho3, hb3⟩))
                  have R6 : Hid (Kr w w11 MA o m (some ⟨av, 0, none⟩) (some ⟨bv, 0, none⟩) cv dv ne nk ∧ OwnB w11 (w.heap.size + 1) (.slice a2 nB c2) B ∧ OwnB w11 0 (.slice a3 nB c3) B) := ⟨(R5.out.1.below hb10).below hb3, (R5.out.2.below hb10).below hb3, owns_le ho3.out (Nat.zero_le _)⟩
                  clear R5 hb10 hb3 ho3 h10 hEd3 HEd HEn R2
                  have HSb : Hid (∀ W2, Below w11.heap.size w11 W2 → Calls Try.prog 18 #[.slice a2 nB c2, .slice a3 nB c3] W2 fun e w' => e = .returned (.bool true) ∧ Below W2.heap.size W2 w') := fun W2 hb => by
                    have h := same_any (.slice a2 nB c2) (.slice a3 nB c3) B B W2 (R6.out.2.1.below hb).rb (R6.out.2.2.below hb).rb (by have := HnB.out; unfold LB; omega) (by have := HnB.out; unfold LB; omega)
                    rw [decide_eq_true rfl] at h
                    exact h
                  have HSm : Hid (∀ W2 ve4 vk4 Y4, Kr w W2 MA o m (some ⟨av, 0, none⟩) (some ⟨bv, 0, none⟩) cv dv ne nk → ((m.ms ve4 vk4).arr = Y4 ∧ Row7 W2 0 ve4 m.es ∧ RowK W2 0 vk4 m.ks) → Calls Try.prog 9 #[.agg YA, .agg Y4] W2 fun e w' => e = .returned (.bool true) ∧ Below W2.heap.size W2 w') := fun W2 ve4 vk4 Y4 hk hy => by
                    rw [← HYA.out.1, ← hy.1]
                    exact same_ms m HWf.out.1 HWf.out.2 (by have := HN.out; omega) (by have := HN.out; omega) _ _ _ _ W2 hk.rowE hy.2.1 hk.rowK hy.2.2
                  have S11 := R6.out.1.loads HYA.out HMA.out
                  have S12 := (R6.out.1.below (below_drewN (Below.refl _ _) 1)).loads HYA.out HMA.out
                  have D11 : Hid (Below w11.heap.size w11 w11.drew) := below_drewN (Below.refl _ _) 1
                  rcases HEE.out with rfl | rfl
                  all_goals
                    go_region_held3 (fun w' => (msgS (.pointer (some ⟨o, 0, none⟩))).run Try.prog w' = .ok (.agg YA) w' ∧ (mmSk (.pointer (some ⟨w.heap.size, 0, none⟩))).run Try.prog w' = .ok (.agg MA) w')
                      (first | exact S11 | exact S12 | exact S13 | exact S14 | exact S15 | exact S16)
                      (first
                        | (go_at_call 18; refine (HSb.out _ D11.out).mono ?_; rintro e w12 ⟨rfl, hb12⟩; have R12 : Hid (Kr w w12 MA o m (some ⟨av, 0, none⟩) (some ⟨bv, 0, none⟩) cv dv ne nk) := (R6.out.1.below D11.out).below hb12; have S13 := R12.out.loads HYA.out HMA.out)
                        | (go_at_call 15; refine (HMs.out w12 R12.out.kb).mono ?_; rintro e w13 ⟨ve4, vk4, Y4, rfl, h13, hb13⟩; have R13 : Hid (Kr w w13 MA o m (some ⟨av, 0, none⟩) (some ⟨bv, 0, none⟩) cv dv ne nk ∧ ((m.ms ve4 vk4).arr = Y4 ∧ Row7 w13 0 ve4 m.es ∧ RowK w13 0 vk4 m.ks)) := ⟨R12.out.below hb13, h13.out.1, owns_le h13.out.2.1 (Nat.zero_le _), owns_le h13.out.2.2 (Nat.zero_le _)⟩; have S14 := R13.out.1.loads HYA.out HMA.out)
                        | (go_at_call 9; refine (HSm.out w13 _ _ _ R13.out.1 R13.out.2).mono ?_; rintro e w14 ⟨rfl, hb14⟩; have R14 : Hid (Kr w w14 MA o m (some ⟨av, 0, none⟩) (some ⟨bv, 0, none⟩) cv dv ne nk) := R13.out.1.below hb14; have S15 := R14.out.loads HYA.out HMA.out)
                        | (go_at_call 10; refine (HAw.out w14).mono ?_; rintro e w15 ⟨rfl, hb15⟩; have R15 : Hid (Kr w w15 MA o m (some ⟨av, 0, none⟩) (some ⟨bv, 0, none⟩) cv dv ne nk) := R14.out.below hb15; have S16 := R15.out.loads HYA.out HMA.out))
                    go_wp2
                    go_ret
                    exact ⟨rfl, R15.out.kb.bel⟩
end
end Go.Proofs.Ytekonakanieeaaa
