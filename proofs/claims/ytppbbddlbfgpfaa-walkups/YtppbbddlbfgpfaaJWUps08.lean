/- The tree, plainly: what a mutation that is done does. -/
import Derived.Test.YtppbbddlbfgpfaaJWUps07
namespace Go.Proofs.Ytppbbddlbfgpfaa
section
open Go.RowKit

def goneEn (d : Int) (nm : ByteArray) : En := ⟨d, nm, true, 0, 0, 0, ⟨#[]⟩⟩
def movedEn (e : En) (d : Int) (nm : ByteArray) : En := { e with d := d, nm := nm, neg := false }
/-- what a mutation that is done tells -/
def tellL (s : Tr) (o : Opn) : List En :=
  if o.kind = 5 then [⟨o.dir, o.nm, false, s.next, 2, o.mode, ⟨#[]⟩⟩]
  else if o.kind = 6 then [⟨o.dir, o.nm, false, s.next, 1, o.mode, ⟨#[]⟩⟩]
  else if o.kind = 7 then [⟨o.dir, o.nm, false, s.next, 3, 0, o.tg⟩]
  else if o.kind = 8 ∨ o.kind = 9 then [goneEn o.dir o.nm]
  else match atE s.es o.dir o.nm with
    | none => []
    | some e =>
      if o.kind = 10 then
        if o.dst = o.dir ∧ o.new = o.nm then [e]
        else if lessK o.dir o.nm o.dst o.new then [goneEn o.dir o.nm, movedEn e o.dst o.new] else [movedEn e o.dst o.new, goneEn o.dir o.nm]
      else [{ e with mode := o.mode }]
def keysL (o : Opn) : List Ky :=
  if o.kind = 10 ∧ ¬ (o.dst = o.dir ∧ o.new = o.nm) then
    if lessK o.dst o.new o.dir o.nm then [⟨o.dst, o.new⟩, ⟨o.dir, o.nm⟩] else [⟨o.dir, o.nm⟩, ⟨o.dst, o.new⟩]
  else [⟨o.dir, o.nm⟩]
def putsL (es : List En) (l : List En) : List En := l.foldl putL es
def nextL (n : Int) (l : List En) : Int := l.foldl (fun n x => if x.neg then n else max n (x.id + 1)) n
/-- is a key one of these entries'? -/
def Told (l : List En) (y : En) : Prop := ∃ x ∈ l, y.d = x.d ∧ y.nm = x.nm
theorem putsL_rises {es : List En} (h : Rises es) (l : List En) : Rises (putsL es l) := by
  induction l generalizing es with
  | nil => exact h
  | cons x l ih => exact ih (putL_rises h x)
theorem putsL_mem {es l : List En} (hl : Apart l) (y : En) : y ∈ putsL es l ↔ (y ∈ es ∧ ¬ Told l y) ∨ (y ∈ l ∧ y.neg = false) := by
  induction l generalizing es with
  | nil => simp [putsL, Told]
  | cons x l ih =>
    obtain ⟨h1, h2⟩ := List.pairwise_cons.1 hl
    have e1 : putsL es (x :: l) = putsL (putL es x) l := rfl
    rw [e1, ih h2, putL_mem]
    constructor
    · rintro (⟨(⟨ha, hb⟩ | ⟨rfl, hb⟩), hc⟩ | ⟨ha, hb⟩)
      · refine .inl ⟨ha, ?_⟩
        rintro ⟨z, hz, hq⟩
        rcases List.mem_cons.1 hz with rfl | hz
        · exact hb hq
        · exact hc ⟨z, hz, hq⟩
      · exact .inr ⟨List.mem_cons_self .., hb⟩
      · exact .inr ⟨List.mem_cons_of_mem _ ha, hb⟩
    · rintro (⟨ha, hb⟩ | ⟨ha, hb⟩)
      · exact .inl ⟨.inl ⟨ha, fun hq => hb ⟨x, List.mem_cons_self .., hq⟩⟩, fun ⟨z, hz, hq⟩ => hb ⟨z, List.mem_cons_of_mem _ hz, hq⟩⟩
      · rcases List.mem_cons.1 ha with rfl | ha
        · exact .inl ⟨.inr ⟨rfl, hb⟩, fun ⟨z, hz, hq⟩ => h1 z hz hq⟩
        · exact .inr ⟨ha, hb⟩

theorem otherE_at {es : List En} {d : Int} {nm : ByteArray} {i : Nat} (hi : atI es d nm = some i) (d2 : Int) (nm2 : ByteArray) : otherE es i d2 nm2 = if d2 = d ∧ nm2 = nm then none else atE es d2 nm2 := by
  unfold otherE
  by_cases hq : d2 = d ∧ nm2 = nm
  · obtain ⟨rfl, rfl⟩ := hq
    rw [hi, if_pos ⟨rfl, rfl⟩]; simp
  · rw [if_neg hq]
    cases hj : atI es d2 nm2 with
    | none => rw [atE_none hj]
    | some j =>
      obtain ⟨e, he, h1, h2⟩ := atI_lt hi
      obtain ⟨f, hf, g1, g2⟩ := atI_lt hj
      have : j ≠ i := by
        rintro rfl
        rw [he] at hf; cases hf
        exact hq ⟨g1.symm.trans h1, g2.symm.trans h2⟩
      simp only [if_neg this]
      rw [atE_some hj hf, hf]
theorem renamedE_at (es : List En) (d : Int) (nm : ByteArray) (d2 : Int) (nm2 : ByteArray) : renamedE es d nm d2 nm2 = match atE es d nm with | none => 40 | some e => if e.kind = 1 ∧ withinF es (es.length + 1) d2 e.id = true then 45 else renErr es e (if d2 = d ∧ nm2 = nm then none else atE es d2 nm2) := by
  unfold renamedE
  cases hi : atI es d nm with
  | none => rw [atE_none hi]
  | some i =>
    obtain ⟨e, he, _⟩ := atI_lt hi
    rw [atE_some hi he]
    simp only [he, otherE_at hi]
theorem renamedL_at (es : List En) (d : Int) (nm : ByteArray) (d2 : Int) (nm2 : ByteArray) : renamedL es d nm d2 nm2 = match atE es d nm with | none => es | some e => goneL (if (if d2 = d ∧ nm2 = nm then none else atE es d2 nm2).isSome then goneL es d2 nm2 else es) d nm ++ [movedEn e d2 nm2] := by
  unfold renamedL
  cases hi : atI es d nm with
  | none => rw [atE_none hi]
  | some i =>
    obtain ⟨e, he, _⟩ := atI_lt hi
    rw [atE_some hi he]
    simp only [he, otherE_at hi]; rfl
theorem setM_map {es : List En} (h : Apart es) (d : Int) (nm : ByteArray) (m : Int) : setM es d nm m = es.map fun x => if x.d = d ∧ x.nm = nm then { x with mode := m } else x := by
  unfold setM
  cases hi : atI es d nm with
  | none =>
    have hno := (atE_none_iff d nm).1 (atE_none hi)
    simp only []
    rw [List.map_congr_left (g := id) fun x hx => by rw [if_neg (hno x hx)]; rfl, List.map_id]
  | some i =>
    obtain ⟨e, he, h1, h2⟩ := atI_lt hi
    simp only [he]
    apply List.ext_getElem?
    intro j
    rw [List.getElem?_set, List.getElem?_map]
    have hil := (List.getElem?_eq_some_iff.1 he).1
    by_cases hij : i = j
    · subst hij
      rw [if_pos rfl, if_pos hil, he]; simp [h1, h2]
    · rw [if_neg hij]
      cases hj : es[j]? with
      | none => rfl
      | some f =>
        have hne : ¬ (f.d = d ∧ f.nm = nm) := by
          rintro ⟨g1, g2⟩
          have hjl := (List.getElem?_eq_some_iff.1 hj).1
          have e1 := (List.getElem?_eq_some_iff.1 he).2
          have e2 := (List.getElem?_eq_some_iff.1 hj).2
          unfold Apart at h
          rw [List.pairwise_iff_getElem] at h
          rcases Nat.lt_or_gt_of_ne hij with hlt | hlt
          · have := h i j hil hjl hlt
            rw [e1, e2] at this
            exact this ⟨h1.trans g1.symm, h2.trans g2.symm⟩
          · have := h j i hjl hil hlt
            rw [e1, e2] at this
            exact this ⟨g1.trans h1.symm, g2.trans h2.symm⟩
        simp [hne]

def kindP (k : Int) : Int := if k = 5 then 2 else if k = 6 then 1 else 3
/-- the shapes of a mutation that is done: something new, something gone, something moved, something turned -/
structure DMade (M : Nms) (s : Tr) (o : Opn) (x : En) : Prop where
  hk : o.kind = 5 ∨ o.kind = 6 ∨ o.kind = 7
  hd : x.d = o.dir
  hnm : x.nm = o.nm
  hneg : x.neg = false
  hid : x.id = s.next
  hkind : x.kind = kindP o.kind
  hok : (0 ≤ x.mode ∧ x.mode ≤ 511) ∧ (x.kind = 3 ∧ M.tgt x.tg = 0 ∨ (x.kind = 1 ∨ x.kind = 2) ∧ x.tg = ⟨#[]⟩)
  hno : atE s.es o.dir o.nm = none
  hdir : dirE s.es o.dir = 0
  hchk : M.chk o.nm = 0
  hroom : s.es.length < 47
  hT : tellL s o = [x]
  hL : doesL s o = s.es ++ [x]
  hN : doesN s o = s.next + 1
structure DGone (M : Nms) (s : Tr) (o : Opn) (e : En) : Prop where
  hk : o.kind = 8 ∨ o.kind = 9
  he : e ∈ s.es
  hd : e.d = o.dir
  hnm : e.nm = o.nm
  hempty : ∀ y ∈ s.es, y.d ≠ e.id
  hT : tellL s o = [goneEn o.dir o.nm]
  hL : doesL s o = goneL s.es o.dir o.nm
  hN : doesN s o = s.next
structure DMoved (M : Nms) (s : Tr) (o : Opn) (e : En) : Prop where
  hk : o.kind = 10
  he : e ∈ s.es
  hd : e.d = o.dir
  hnm : e.nm = o.nm
  hne : ¬ (o.dst = o.dir ∧ o.new = o.nm)
  hdir : dirE s.es o.dst = 0
  hchk : M.chk o.new = 0
  hfree : withinF s.es (s.es.length + 1) o.dst e.id = false
  hto : ∀ f, atE s.es o.dst o.new = some f → ∀ y ∈ s.es, y.d ≠ f.id
  hT : tellL s o = if lessK o.dir o.nm o.dst o.new then [goneEn o.dir o.nm, movedEn e o.dst o.new] else [movedEn e o.dst o.new, goneEn o.dir o.nm]
  hL : doesL s o = goneL (if (atE s.es o.dst o.new).isSome then goneL s.es o.dst o.new else s.es) o.dir o.nm ++ [movedEn e o.dst o.new]
  hN : doesN s o = s.next
structure DSet (M : Nms) (s : Tr) (o : Opn) (e x : En) : Prop where
  he : e ∈ s.es
  hd : e.d = o.dir
  hnm : e.nm = o.nm
  hx : x = { e with mode := x.mode }
  hm : 0 ≤ x.mode ∧ x.mode ≤ 511
  hk : o.kind = 11 ∧ x.mode = o.mode ∨ o.kind = 10 ∧ x = e ∧ o.dst = o.dir ∧ o.new = o.nm
  hT : tellL s o = [x]
  hL : ∀ y, y ∈ doesL s o ↔ (y ∈ s.es ∧ ¬ (y.d = o.dir ∧ y.nm = o.nm)) ∨ y = x
  hA : Apart (doesL s o)
  hl : (doesL s o).length ≤ 47
  hN : doesN s o = s.next
def Deed (M : Nms) (s : Tr) (o : Opn) : Prop := (∃ x, DMade M s o x) ∨ (∃ e, DGone M s o e) ∨ (∃ e, DMoved M s o e) ∨ (∃ e x, DSet M s o e x)
theorem Deed.made {M : Nms} {s : Tr} {o : Opn} (x : En) (hk : o.kind = 5 ∨ o.kind = 6 ∨ o.kind = 7) (hd : x.d = o.dir) (hnm : x.nm = o.nm) (hneg : x.neg = false) (hid : x.id = s.next) (hkind : x.kind = kindP o.kind) (hok : (0 ≤ x.mode ∧ x.mode ≤ 511) ∧ (x.kind = 3 ∧ M.tgt x.tg = 0 ∨ (x.kind = 1 ∨ x.kind = 2) ∧ x.tg = ⟨#[]⟩)) (hno : atE s.es o.dir o.nm = none) (hdir : dirE s.es o.dir = 0) (hchk : M.chk o.nm = 0) (hroom : s.es.length < 47) (hT : tellL s o = [x]) (hL : doesL s o = s.es ++ [x]) (hN : doesN s o = s.next + 1) : Deed M s o := .inl ⟨x, ⟨hk, hd, hnm, hneg, hid, hkind, hok, hno, hdir, hchk, hroom, hT, hL, hN⟩⟩
theorem Deed.gone {M : Nms} {s : Tr} {o : Opn} (e : En) (hk : o.kind = 8 ∨ o.kind = 9) (he : e ∈ s.es) (hd : e.d = o.dir) (hnm : e.nm = o.nm) (hempty : ∀ y ∈ s.es, y.d ≠ e.id) (hT : tellL s o = [goneEn o.dir o.nm]) (hL : doesL s o = goneL s.es o.dir o.nm) (hN : doesN s o = s.next) : Deed M s o := .inr (.inl ⟨e, ⟨hk, he, hd, hnm, hempty, hT, hL, hN⟩⟩)
theorem Deed.moved {M : Nms} {s : Tr} {o : Opn} (e : En) (hk : o.kind = 10) (he : e ∈ s.es) (hd : e.d = o.dir) (hnm : e.nm = o.nm) (hne : ¬ (o.dst = o.dir ∧ o.new = o.nm)) (hdir : dirE s.es o.dst = 0) (hchk : M.chk o.new = 0) (hfree : withinF s.es (s.es.length + 1) o.dst e.id = false) (hto : ∀ f, atE s.es o.dst o.new = some f → ∀ y ∈ s.es, y.d ≠ f.id) (hT : tellL s o = if lessK o.dir o.nm o.dst o.new then [goneEn o.dir o.nm, movedEn e o.dst o.new] else [movedEn e o.dst o.new, goneEn o.dir o.nm]) (hL : doesL s o = goneL (if (atE s.es o.dst o.new).isSome then goneL s.es o.dst o.new else s.es) o.dir o.nm ++ [movedEn e o.dst o.new]) (hN : doesN s o = s.next) : Deed M s o := .inr (.inr (.inl ⟨e, ⟨hk, he, hd, hnm, hne, hdir, hchk, hfree, hto, hT, hL, hN⟩⟩))
theorem Deed.set {M : Nms} {s : Tr} {o : Opn} (e x : En) (he : e ∈ s.es) (hd : e.d = o.dir) (hnm : e.nm = o.nm) (hx : x = { e with mode := x.mode }) (hm : 0 ≤ x.mode ∧ x.mode ≤ 511) (hk : o.kind = 11 ∧ x.mode = o.mode ∨ o.kind = 10 ∧ x = e ∧ o.dst = o.dir ∧ o.new = o.nm) (hT : tellL s o = [x]) (hL : ∀ y, y ∈ doesL s o ↔ (y ∈ s.es ∧ ¬ (y.d = o.dir ∧ y.nm = o.nm)) ∨ y = x) (hA : Apart (doesL s o)) (hl : (doesL s o).length ≤ 47) (hN : doesN s o = s.next) : Deed M s o := .inr (.inr (.inr ⟨e, x, ⟨he, hd, hnm, hx, hm, hk, hT, hL, hA, hl, hN⟩⟩))
theorem Deed.el {M : Nms} {s : Tr} {o : Opn} {motive : Deed M s o → Prop}
    (made : ∀ (x : En) (hk : o.kind = 5 ∨ o.kind = 6 ∨ o.kind = 7) (hd : x.d = o.dir) (hnm : x.nm = o.nm) (hneg : x.neg = false) (hid : x.id = s.next) (hkind : x.kind = kindP o.kind) (hok : (0 ≤ x.mode ∧ x.mode ≤ 511) ∧ (x.kind = 3 ∧ M.tgt x.tg = 0 ∨ (x.kind = 1 ∨ x.kind = 2) ∧ x.tg = ⟨#[]⟩)) (hno : atE s.es o.dir o.nm = none) (hdir : dirE s.es o.dir = 0) (hchk : M.chk o.nm = 0) (hroom : s.es.length < 47) (hT : tellL s o = [x]) (hL : doesL s o = s.es ++ [x]) (hN : doesN s o = s.next + 1), motive (Deed.made x hk hd hnm hneg hid hkind hok hno hdir hchk hroom hT hL hN))
    (gone : ∀ (e : En) (hk : o.kind = 8 ∨ o.kind = 9) (he : e ∈ s.es) (hd : e.d = o.dir) (hnm : e.nm = o.nm) (hempty : ∀ y ∈ s.es, y.d ≠ e.id) (hT : tellL s o = [goneEn o.dir o.nm]) (hL : doesL s o = goneL s.es o.dir o.nm) (hN : doesN s o = s.next), motive (Deed.gone e hk he hd hnm hempty hT hL hN))
    (moved : ∀ (e : En) (hk : o.kind = 10) (he : e ∈ s.es) (hd : e.d = o.dir) (hnm : e.nm = o.nm) (hne : ¬ (o.dst = o.dir ∧ o.new = o.nm)) (hdir : dirE s.es o.dst = 0) (hchk : M.chk o.new = 0) (hfree : withinF s.es (s.es.length + 1) o.dst e.id = false) (hto : ∀ f, atE s.es o.dst o.new = some f → ∀ y ∈ s.es, y.d ≠ f.id) (hT : tellL s o = if lessK o.dir o.nm o.dst o.new then [goneEn o.dir o.nm, movedEn e o.dst o.new] else [movedEn e o.dst o.new, goneEn o.dir o.nm]) (hL : doesL s o = goneL (if (atE s.es o.dst o.new).isSome then goneL s.es o.dst o.new else s.es) o.dir o.nm ++ [movedEn e o.dst o.new]) (hN : doesN s o = s.next), motive (Deed.moved e hk he hd hnm hne hdir hchk hfree hto hT hL hN))
    (set : ∀ (e x : En) (he : e ∈ s.es) (hd : e.d = o.dir) (hnm : e.nm = o.nm) (hx : x = { e with mode := x.mode }) (hm : 0 ≤ x.mode ∧ x.mode ≤ 511) (hk : o.kind = 11 ∧ x.mode = o.mode ∨ o.kind = 10 ∧ x = e ∧ o.dst = o.dir ∧ o.new = o.nm) (hT : tellL s o = [x]) (hL : ∀ y, y ∈ doesL s o ↔ (y ∈ s.es ∧ ¬ (y.d = o.dir ∧ y.nm = o.nm)) ∨ y = x) (hA : Apart (doesL s o)) (hl : (doesL s o).length ≤ 47) (hN : doesN s o = s.next), motive (Deed.set e x he hd hnm hx hm hk hT hL hA hl hN))
    (h : Deed M s o) : motive h := by
  rcases h with ⟨x, h⟩ | ⟨e, h⟩ | ⟨e, h⟩ | ⟨e, x, h⟩
  · exact made x h.hk h.hd h.hnm h.hneg h.hid h.hkind h.hok h.hno h.hdir h.hchk h.hroom h.hT h.hL h.hN
  · exact gone e h.hk h.he h.hd h.hnm h.hempty h.hT h.hL h.hN
  · exact moved e h.hk h.he h.hd h.hnm h.hne h.hdir h.hchk h.hfree h.hto h.hT h.hL h.hN
  · exact set e x h.he h.hd h.hnm h.hx h.hm h.hk h.hT h.hL h.hA h.hl h.hN

theorem named_ok {M : Nms} {es : List En} {d : Int} {nm : ByteArray} (h : namedE M es d nm = 0) : dirE es d = 0 ∧ M.chk nm = 0 := by
  unfold namedE at h
  by_cases hd : dirE es d = 0
  · rw [if_pos hd] at h; exact ⟨hd, h⟩
  · rw [if_neg hd] at h; exact absurd h hd
theorem bad_ok {m : Int} (h : badM m = false) : 0 ≤ m ∧ m ≤ 511 := by
  unfold badM at h
  simp at h
  omega
theorem made_ok {es : List En} {d : Int} {nm : ByteArray} (h : madeE es d nm = 0) : atE es d nm = none ∧ es.length < 47 := by
  unfold madeE at h
  cases hq : atE es d nm with
  | some e => rw [hq] at h; simp at h
  | none =>
    rw [hq] at h
    refine ⟨rfl, ?_⟩
    simp at h
    omega
theorem WF.file {M : Nms} {es : List En} {next : Int} (w : WF M es next) {e : En} (he : e ∈ es) (hk : ¬ e.kind = 1) : ∀ y ∈ es, y.d ≠ e.id := by
  intro y hy h
  have := (w.hang y hy).dir w
  rw [h] at this
  unfold dirE at this
  rw [w.node he] at this
  simp [hk] at this
theorem none_in {es : List En} {d : Int} (h : ¬ 0 < namesN es d) : ∀ y ∈ es, y.d ≠ d := fun y hy hq => h (namesN_pos.2 ⟨y, hy, hq⟩)
theorem doesE_kind {M : Nms} {s : Tr} {o : Opn} (h : doesE M s o = 0) : 5 ≤ o.kind ∧ o.kind ≤ 11 ∧ namedE M s.es o.dir o.nm = 0 := by
  unfold doesE at h
  by_cases h1 : o.kind < 5 ∨ 11 < o.kind
  · rw [if_pos h1] at h; simp at h
  · rw [if_neg h1] at h
    by_cases h2 : namedE M s.es o.dir o.nm = 0
    · exact ⟨by omega, by omega, h2⟩
    · rw [if_pos h2] at h; exact absurd h h2
theorem apart_map {es : List En} (h : Apart es) (f : En → En) (hf : ∀ x, (f x).d = x.d ∧ (f x).nm = x.nm) : Apart (es.map f) := by
  unfold Apart at *
  rw [List.pairwise_map]
  refine h.imp ?_
  rintro a b hab ⟨h1, h2⟩
  exact hab ⟨(hf a).1.symm.trans (h1.trans (hf b).1), (hf a).2.symm.trans (h2.trans (hf b).2)⟩

theorem deed {M : Nms} {s : Tr} {o : Opn} (w : WF M s.es s.next) (h : doesE M s o = 0) : Deed M s o := by
  obtain ⟨k5, k11, hn⟩ := doesE_kind h
  obtain ⟨hdir, hchk⟩ := named_ok hn
  unfold doesE at h
  rw [if_neg (by omega), hn] at h
  simp only [ne_eq, not_true_eq_false, if_false] at h
  rcases (show o.kind = 5 ∨ o.kind = 6 ∨ o.kind = 7 ∨ o.kind = 8 ∨ o.kind = 9 ∨ o.kind = 10 ∨ o.kind = 11 by omega) with hk | hk | hk | hk | hk | hk | hk
  · simp [hk] at h
    cases hb : badM o.mode with
    | true => simp [hb] at h
    | false =>
      simp [hb] at h
      obtain ⟨hno, hroom⟩ := made_ok h
      exact .made ⟨o.dir, o.nm, false, s.next, 2, o.mode, ⟨#[]⟩⟩ (.inl hk) rfl rfl rfl rfl (by simp [kindP, hk]) ⟨bad_ok hb, .inr ⟨.inr rfl, rfl⟩⟩ hno hdir hchk hroom (by simp [tellL, hk]) (by simp [doesL, hk]) (by simp [doesN, hk])
  · simp [hk] at h
    cases hb : badM o.mode with
    | true => simp [hb] at h
    | false =>
      simp [hb] at h
      obtain ⟨hno, hroom⟩ := made_ok h
      exact .made ⟨o.dir, o.nm, false, s.next, 1, o.mode, ⟨#[]⟩⟩ (.inr (.inl hk)) rfl rfl rfl rfl (by simp [kindP, hk]) ⟨bad_ok hb, .inr ⟨.inl rfl, rfl⟩⟩ hno hdir hchk hroom (by simp [tellL, hk]) (by simp [doesL, hk]) (by simp [doesN, hk])
  · simp [hk] at h
    by_cases ht : M.tgt o.tg = 0
    · simp [ht] at h
      obtain ⟨hno, hroom⟩ := made_ok h
      exact .made ⟨o.dir, o.nm, false, s.next, 3, 0, o.tg⟩ (.inr (.inr hk)) rfl rfl rfl rfl (by simp [kindP, hk]) ⟨⟨Int.le_refl _, (by show (0 : Int) ≤ 511; decide)⟩, .inl ⟨rfl, ht⟩⟩ hno hdir hchk hroom (by simp [tellL, hk]) (by simp [doesL, hk]) (by simp [doesN, hk])
    · simp [ht] at h
  · simp [hk] at h
    unfold removedE at h
    cases hq : atE s.es o.dir o.nm with
    | none => rw [hq] at h; simp at h
    | some e =>
      rw [hq] at h
      obtain ⟨he, h1, h2⟩ := atE_key hq
      have hkd : ¬ e.kind = 1 := by intro hh; simp [hh] at h
      exact .gone e (.inl hk) he h1 h2 (w.file he hkd) (by simp [tellL, hk]) (by simp [doesL, hk]) (by simp [doesN, hk])
  · simp [hk] at h
    unfold removedE at h
    cases hq : atE s.es o.dir o.nm with
    | none => rw [hq] at h; simp at h
    | some e =>
      rw [hq] at h
      obtain ⟨he, h1, h2⟩ := atE_key hq
      have hkd : e.kind = 1 := by
        by_cases hh : e.kind = 1
        · exact hh
        · simp [hh] at h
      have hn0 : ¬ 0 < namesN s.es e.id := by intro hh; simp [hkd, hh] at h
      exact .gone e (.inr hk) he h1 h2 (none_in hn0) (by simp [tellL, hk]) (by simp [doesL, hk]) (by simp [doesN, hk])
  · simp [hk] at h
    by_cases hn2 : namedE M s.es o.dst o.new = 0
    · simp [hn2] at h
      obtain ⟨hdir2, hchk2⟩ := named_ok hn2
      rw [renamedE_at] at h
      cases hq : atE s.es o.dir o.nm with
      | none => rw [hq] at h; simp at h
      | some e =>
        rw [hq] at h
        simp only at h
        obtain ⟨he, h1, h2⟩ := atE_key hq
        by_cases hw : e.kind = 1 ∧ withinF s.es (s.es.length + 1) o.dst e.id = true
        · rw [if_pos hw] at h; simp at h
        · rw [if_neg hw] at h
          have hfree : withinF s.es (s.es.length + 1) o.dst e.id = false := by
            cases hv : withinF s.es (s.es.length + 1) o.dst e.id with
            | false => rfl
            | true =>
              rcases within_dir (w.hangs hdir2) w.ided (fun e he => w.ne1 he) hv with h3 | ⟨f, hf, h3, h4⟩
              · exact absurd h3 (w.ne1 he)
              · obtain rfl := w.ided f hf e he h3
                exact absurd ⟨h4, hv⟩ hw
          by_cases hs : o.dst = o.dir ∧ o.new = o.nm
          · have hL : doesL s o = goneL s.es o.dir o.nm ++ [e] := by
              unfold doesL
              simp only [hk]
              simp only [show ¬ ((10 : Int) = 5) by decide, show ¬ ((10 : Int) = 6) by decide, show ¬ ((10 : Int) = 7) by decide, show ¬ ((10 : Int) = 8 ∨ (10 : Int) = 9) by decide, if_false, if_true]
              rw [renamedL_at, hq, hs.1, hs.2]
              simp [movedEn]
              rw [← h1, ← h2, ← w.neg e he]
            refine .set e e he h1 h2 rfl (w.ok e he).1 (.inr ⟨hk, rfl, hs⟩) (by simp [tellL, hk, hq, hs]) (fun y => ?_) ?_ ?_ (by simp [doesN, hk])
            · rw [hL, List.mem_append, goneL_mem, List.mem_singleton]
            · rw [hL, ← h1, ← h2]; exact apart_gone_snoc e w.rises.apart
            · rw [hL, List.length_append]
              have : (goneL s.es o.dir o.nm).length < s.es.length := by
                unfold goneL
                rw [List.length_filter_lt_length_iff_exists]
                exact ⟨e, he, by simp [h1, h2]⟩
              have := w.len
              simp; omega
          · rw [if_neg hs] at h
            refine .moved e hk he h1 h2 hs hdir2 hchk2 hfree (fun f hf => ?_) (by simp [tellL, hk, hq, hs]) ?_ (by simp [doesN, hk])
            · rw [hf] at h
              obtain ⟨hfm, _⟩ := atE_key hf
              by_cases hf1 : f.kind = 1
              · have hn0 : ¬ 0 < namesN s.es f.id := by
                  intro hh
                  unfold renErr at h
                  by_cases he1 : e.kind = 1 <;> simp [he1, hf1, hh] at h
                exact none_in hn0
              · exact w.file hfm hf1
            · unfold doesL
              simp only [hk]
              simp only [show ¬ ((10 : Int) = 5) by decide, show ¬ ((10 : Int) = 6) by decide, show ¬ ((10 : Int) = 7) by decide, show ¬ ((10 : Int) = 8 ∨ (10 : Int) = 9) by decide, if_false, if_true]
              rw [renamedL_at, hq]
              simp only [if_neg hs]
    · simp [hn2] at h
  · simp [hk] at h
    cases hb : badM o.mode with
    | true => simp [hb] at h
    | false =>
      simp [hb] at h
      cases hq : atE s.es o.dir o.nm with
      | none => rw [hq] at h; simp at h
      | some e =>
        obtain ⟨he, h1, h2⟩ := atE_key hq
        have hL : doesL s o = s.es.map fun x => if x.d = o.dir ∧ x.nm = o.nm then { x with mode := o.mode } else x := by
          unfold doesL
          simp only [hk]
          simp only [show ¬ ((11 : Int) = 5) by decide, show ¬ ((11 : Int) = 6) by decide, show ¬ ((11 : Int) = 7) by decide, show ¬ ((11 : Int) = 8 ∨ (11 : Int) = 9) by decide, show ¬ ((11 : Int) = 10) by decide, if_false]
          exact setM_map w.rises.apart _ _ _
        refine .set e { e with mode := o.mode } he h1 h2 rfl (bad_ok hb) (.inl ⟨hk, rfl⟩) (by simp [tellL, hk, hq]) (fun y => ?_) ?_ ?_ (by simp [doesN, hk])
        · rw [hL, List.mem_map]
          constructor
          · rintro ⟨z, hz, rfl⟩
            by_cases hzq : z.d = o.dir ∧ z.nm = o.nm
            · obtain rfl := w.keyed z hz e he (hzq.1.trans h1.symm) (hzq.2.trans h2.symm)
              right; rw [if_pos hzq]
            · left; rw [if_neg hzq]; exact ⟨hz, hzq⟩
          · rintro (⟨hz, hzq⟩ | rfl)
            · exact ⟨y, hz, by rw [if_neg hzq]⟩
            · exact ⟨e, he, by rw [if_pos ⟨h1, h2⟩]⟩
        · rw [hL]
          refine apart_map w.rises.apart _ fun x => ?_
          split <;> exact ⟨rfl, rfl⟩
        · rw [hL, List.length_map]; exact w.len
end
end Go.Proofs.Ytppbbddlbfgpfaa
