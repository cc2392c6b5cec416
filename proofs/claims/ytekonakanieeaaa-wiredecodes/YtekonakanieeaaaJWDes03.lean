/- Keys, entries, ops and lists as bytes, and read, plainly. -/
import Derived.Test.YtekonakanieeaaaJWDes02
namespace Go.Proofs.Ytekonakanieeaaa
section
open Go.RowKit

def numI (v : Int) : List Int := numB v.toNat
def numOk (v : Int) : Prop := 0 ≤ v ∧ v ≤ 1099511627776
instance (v : Int) : Decidable (numOk v) := by unfold numOk; infer_instance
theorem numI_byt (v : Int) : Byt (numI v) := numB_byt _
theorem numI_back {v : Int} (r : List Int) (h : numOk v) : numP (some (numI v ++ r)) = (v, some r) := by
  unfold numI
  have := numP_back (v := v.toNat) r (by unfold numOk at h; omega)
  rw [this]
  congr 1
  unfold numOk at h; omega
theorem numI_forth {l r : List Int} {m : Int} (hl : Byt l) (h : numP (some l) = (m, some r)) : numOk m ∧ l = numI m ++ r ∧ Byt r := by
  obtain ⟨h0, h1, h2⟩ := numP_forth hl h
  refine ⟨⟨h0, h1⟩, h2, ?_⟩
  rw [h2] at hl; exact hl.tail
theorem textI_forth {l r : List Int} {s : ByteArray} (hl : Byt l) (h : textP (some l) = (s, some r)) : s.size ≤ 96 ∧ l = textB s ++ r ∧ Byt r := by
  obtain ⟨h1, h2⟩ := textP_forth hl h
  refine ⟨h1, h2, ?_⟩
  rw [h2] at hl; exact hl.tail
theorem octI_forth {l r : List Int} {x : Int} (hl : Byt l) (h : octP (some l) = (x, some r)) : (0 ≤ x ∧ x < 256) ∧ l = x :: r ∧ Byt r := by
  have e := octP_forth h
  have e : l = x :: r := e
  subst e
  exact ⟨hl.cons.1, rfl, hl.cons.2⟩
theorem octP_stop {s : St} (h : (octP s).2 ≠ none) : ∃ l, s = some l := by
  cases s with
  | none => exact absurd rfl h
  | some l => exact ⟨l, rfl⟩
theorem numP_stop {s : St} {m : Int} {r : List Int} (h : numP s = (m, some r)) : ∃ l, s = some l := by
  cases s with
  | none => rw [numP_none] at h; cases h
  | some l => exact ⟨l, rfl⟩
theorem textP_stop {s : St} {m : ByteArray} {r : List Int} (h : textP s = (m, some r)) : ∃ l, s = some l := by
  cases s with
  | none => rw [textP_none] at h; cases h
  | some l => exact ⟨l, rfl⟩
theorem octP_stop' {s : St} {m : Int} {r : List Int} (h : octP s = (m, some r)) : ∃ l, s = some l := by
  cases s with
  | none => cases h
  | some l => exact ⟨l, rfl⟩

/- keys -/
def keyB (k : Ky) : List Int := numI k.d ++ textB k.nm
def keyOk (k : Ky) : Prop := numOk k.d ∧ k.nm.size ≤ 96
theorem keyB_byt (k : Ky) : Byt (keyB k) := (numI_byt _).app (textB_byt _)
def keyP (s : St) : Ky × St := (⟨(numP s).1, (textP (numP s).2).1⟩, (textP (numP s).2).2)
theorem keyP_none : keyP none = (⟨0, ⟨#[]⟩⟩, none) := by unfold keyP; rw [numP_none]; simp only []; rw [textP_none]
theorem keyP_back {k : Ky} (r : List Int) (h : keyOk k) : keyP (some (keyB k ++ r)) = (k, some r) := by
  unfold keyP keyB
  rw [List.append_assoc, numI_back _ h.1]
  simp only []
  rw [textP_back _ h.2]
theorem prod_eta {α β : Type} (p : α × β) {b : β} (h : p.2 = b) : p = (p.1, b) := by rw [← h]
theorem keyP_forth {l r : List Int} {k : Ky} (hl : Byt l) (h : keyP (some l) = (k, some r)) : keyOk k ∧ l = keyB k ++ r ∧ Byt r := by
  unfold keyP at h
  obtain ⟨rfl, h2⟩ := Prod.mk.inj h
  have e2 := prod_eta _ h2
  obtain ⟨l1, e1⟩ := textP_stop e2
  rw [e1] at e2 ⊢
  have f1 := prod_eta _ e1
  obtain ⟨a1, a2, a3⟩ := numI_forth hl f1
  obtain ⟨b1, b2, b3⟩ := textI_forth a3 e2
  refine ⟨⟨a1, b1⟩, ?_, b3⟩
  unfold keyB
  rw [List.append_assoc, ← b2]; exact a2
theorem keyP_lft {s : St} (h : Lft s) : Lft (keyP s).2 := textP_lft (numP_lft h)

/- entries -/
def nodeB (e : En) : List Int := numI e.id ++ (e.kind :: (numI e.mode ++ textB e.tg))
def entB (e : En) : List Int := keyB ⟨e.d, e.nm⟩ ++ (if e.neg then [1] else 0 :: nodeB e)
def nodeOk (e : En) : Prop := numOk e.id ∧ numOk e.mode ∧ (1 ≤ e.kind ∧ e.kind ≤ 3) ∧ e.tg.size ≤ 96
def nodeZ (e : En) : Prop := e.id = 0 ∧ e.kind = 0 ∧ e.mode = 0 ∧ e.tg = ⟨#[]⟩
def entOk (e : En) : Prop := keyOk ⟨e.d, e.nm⟩ ∧ if e.neg then nodeZ e else nodeOk e
/-- a node, read -/
structure Nd where
  id : Int
  kind : Int
  mode : Int
  tg : ByteArray
def nodeP (s : St) : Nd × St :=
  let a := numP s
  let b := octP a.2
  let c := numP b.2
  let d := textP c.2
  (⟨a.1, b.1, c.1, d.1⟩, d.2)
theorem nodeP_none : nodeP none = (⟨0, 0, 0, ⟨#[]⟩⟩, none) := by
  unfold nodeP
  simp only [numP_none, octP, textP_none]
def ndB (n : Nd) : List Int := numI n.id ++ (n.kind :: (numI n.mode ++ textB n.tg))
theorem nodeP_back {n : Nd} (r : List Int) (h : numOk n.id ∧ numOk n.mode ∧ n.tg.size ≤ 96) : nodeP (some (ndB n ++ r)) = (n, some r) := by
  unfold nodeP ndB
  simp only []
  rw [List.append_assoc, numI_back _ h.1]
  show (⟨⟨n.id, n.kind, (numP (some ((numI n.mode ++ textB n.tg) ++ r))).1, (textP (numP (some ((numI n.mode ++ textB n.tg) ++ r))).2).1⟩, _⟩ : Nd × St) = _
  show (_, (textP (numP (some ((numI n.mode ++ textB n.tg) ++ r))).2).2) = _
  rw [List.append_assoc, numI_back _ h.2.1]
  simp only []
  rw [textP_back _ h.2.2]
theorem nodeP_forth {l r : List Int} {n : Nd} (hl : Byt l) (h : nodeP (some l) = (n, some r)) : (numOk n.id ∧ numOk n.mode ∧ n.tg.size ≤ 96) ∧ l = ndB n ++ r ∧ Byt r := by
  unfold nodeP at h
  simp only [] at h
  obtain ⟨rfl, h2⟩ := Prod.mk.inj h
  have e4 := prod_eta _ h2
  obtain ⟨l3, s3⟩ := textP_stop e4
  have e3 := prod_eta _ s3
  obtain ⟨l2, s2⟩ := numP_stop e3
  have e2 := prod_eta _ s2
  obtain ⟨l1, s1⟩ := octP_stop' e2
  have e1 := prod_eta _ s1
  obtain ⟨a1, a2, a3⟩ := numI_forth hl e1
  rw [s1] at e2
  obtain ⟨b1, b2, b3⟩ := octI_forth a3 e2
  rw [s2] at e3
  obtain ⟨c1, c2, c3⟩ := numI_forth b3 e3
  rw [s3] at e4
  obtain ⟨d1, d2, d3⟩ := textI_forth c3 e4
  rw [s3, s2, s1]
  refine ⟨⟨a1, c1, d1⟩, ?_, d3⟩
  unfold ndB
  rw [List.append_assoc, List.cons_append, List.append_assoc, ← d2, ← c2, ← b2]
  exact a2
theorem nodeP_lft {s : St} (h : Lft s) : Lft (nodeP s).2 := textP_lft (numP_lft (octP_lft (numP_lft h)))
/-- an entry, read -/
def entP (s : St) : En × St :=
  let k := keyP s
  let f := octP k.2
  if f.1 = 0 then (⟨k.1.d, k.1.nm, false, (nodeP f.2).1.id, (nodeP f.2).1.kind, (nodeP f.2).1.mode, (nodeP f.2).1.tg⟩, (nodeP f.2).2)
  else if f.1 = 1 then (⟨k.1.d, k.1.nm, true, 0, 0, 0, ⟨#[]⟩⟩, f.2)
  else (⟨0, ⟨#[]⟩, false, 0, 0, 0, ⟨#[]⟩⟩, none)
theorem entP_none : entP none = (⟨0, ⟨#[]⟩, false, 0, 0, 0, ⟨#[]⟩⟩, none) := by
  unfold entP
  simp only [keyP_none, octP, if_true, nodeP_none]
theorem entB_byt {e : En} (h : entOk e) : Byt (entB e) := by
  unfold entB
  refine (keyB_byt _).app ?_
  unfold entOk at h
  cases hn : e.neg with
  | true => simp only [if_true]; exact Byt.one (by decide)
  | false =>
    rw [hn] at h
    simp only [Bool.false_eq_true, if_false] at h ⊢
    intro x hx
    rcases List.mem_cons.1 hx with rfl | hx
    · decide
    · unfold nodeB at hx
      rcases List.mem_append.1 hx with hx | hx
      · exact numI_byt _ x hx
      · rcases List.mem_cons.1 hx with rfl | hx
        · have := h.2.2.2.1; omega
        · exact ((numI_byt _).app (textB_byt _)) x hx
theorem entP_back {e : En} (r : List Int) (h : entOk e) : entP (some (entB e ++ r)) = (e, some r) := by
  obtain ⟨d, nm, neg, id, kind, mode, tg⟩ := e
  unfold entOk at h
  unfold entP entB
  simp only [] at h ⊢
  rw [List.append_assoc, keyP_back _ h.1]
  cases neg with
  | true =>
    simp only [if_true] at h ⊢
    obtain ⟨h1, h2, h3, h4⟩ := h.2
    simp only [] at h1 h2 h3 h4
    rw [octP_back]
    simp [h1, h2, h3, h4]
  | false =>
    simp only [Bool.false_eq_true, if_false] at h ⊢
    have hk : octP (some (0 :: nodeB ⟨d, nm, false, id, kind, mode, tg⟩ ++ r)) = (0, some (ndB ⟨id, kind, mode, tg⟩ ++ r)) := rfl
    rw [hk]
    simp only [if_true]
    rw [nodeP_back (n := ⟨id, kind, mode, tg⟩) r ⟨h.2.1, h.2.2.1, h.2.2.2.2⟩]
/-- what is read as an entry has these bytes -/
theorem entP_forth {l r : List Int} {e : En} (hl : Byt l) (h : entP (some l) = (e, some r)) : l = entB e ++ r ∧ Byt r := by
  unfold entP at h
  simp only [] at h
  split at h
  · rename_i hf
    obtain ⟨rfl, h2⟩ := Prod.mk.inj h
    have en := prod_eta _ h2
    have : ∃ l2, (octP (keyP (some l)).2).2 = some l2 := by
      cases hq : (octP (keyP (some l)).2).2 with
      | none => rw [hq, nodeP_none] at en; cases en
      | some l2 => exact ⟨l2, rfl⟩
    obtain ⟨l2, s2⟩ := this
    have e2 := prod_eta _ s2
    obtain ⟨l1, s1⟩ := octP_stop' e2
    have e1 := prod_eta _ s1
    obtain ⟨a1, a2, a3⟩ := keyP_forth hl e1
    rw [s1] at e2
    obtain ⟨b1, b2, b3⟩ := octI_forth a3 e2
    rw [s2] at en
    obtain ⟨c1, c2, c3⟩ := nodeP_forth b3 en
    rw [s2]
    refine ⟨?_, c3⟩
    unfold entB
    rw [← s1] at b2
    rw [s1] at b2
    rw [s1] at hf
    rw [hf] at b2
    simp only [Bool.false_eq_true, if_false]
    rw [List.append_assoc, List.cons_append]
    show l = keyB (keyP (some l)).1 ++ (0 :: (ndB (nodeP (some l2)).1 ++ r))
    rw [← c2, ← b2]
    exact a2
  · split at h
    · rename_i hf0 hf
      obtain ⟨rfl, h2⟩ := Prod.mk.inj h
      have e2 := prod_eta _ h2
      obtain ⟨l1, s1⟩ := octP_stop' e2
      have e1 := prod_eta _ s1
      obtain ⟨a1, a2, a3⟩ := keyP_forth hl e1
      rw [s1] at e2 hf
      obtain ⟨b1, b2, b3⟩ := octI_forth a3 e2
      refine ⟨?_, b3⟩
      unfold entB
      rw [hf] at b2
      simp only [if_true]
      rw [List.append_assoc]
      show l = keyB (keyP (some l)).1 ++ (1 :: r)
      rw [← b2]
      exact a2
    · cases h
theorem entP_lft {s : St} (h : Lft s) : Lft (entP s).2 := by
  unfold entP
  simp only []
  split
  · exact nodeP_lft (octP_lft (keyP_lft h))
  · split
    · exact octP_lft (keyP_lft h)
    · exact Lft.none

/- ops -/
def opB (o : Opn) : List Int := o.kind :: (numI o.dir ++ (textB o.nm ++ (numI o.dst ++ (textB o.new ++ (numI o.mode ++ textB o.tg)))))
def opOk (o : Opn) : Prop := (1 ≤ o.kind ∧ o.kind ≤ 11) ∧ numOk o.dir ∧ numOk o.dst ∧ numOk o.mode ∧ o.nm.size ≤ 96 ∧ o.new.size ≤ 96 ∧ o.tg.size ≤ 96
def zeroOp : Opn := ⟨0, 0, ⟨#[]⟩, 0, ⟨#[]⟩, 0, ⟨#[]⟩⟩
theorem opB_byt {o : Opn} (h : opOk o) : Byt (opB o) := by
  unfold opB
  intro x hx
  rcases List.mem_cons.1 hx with rfl | hx
  · have := h.1; omega
  · exact ((numI_byt _).app ((textB_byt _).app ((numI_byt _).app ((textB_byt _).app ((numI_byt _).app (textB_byt _)))))) x hx
def opP (s : St) : Opn × St :=
  let a := octP s
  let b := numP a.2
  let c := textP b.2
  let d := numP c.2
  let e := textP d.2
  let f := numP e.2
  let g := textP f.2
  (⟨a.1, b.1, c.1, d.1, e.1, f.1, g.1⟩, g.2)
theorem opP_none : opP none = (zeroOp, none) := by
  unfold opP
  simp only [numP_none, octP, textP_none]
  rfl
theorem opP_back {o : Opn} (r : List Int) (h : opOk o) : opP (some (opB o ++ r)) = (o, some r) := by
  obtain ⟨_, h1, h2, h3, h4, h5, h6⟩ := h
  unfold opP opB
  have e : octP (some (o.kind :: (numI o.dir ++ (textB o.nm ++ (numI o.dst ++ (textB o.new ++ (numI o.mode ++ textB o.tg))))) ++ r)) = (o.kind, some (numI o.dir ++ (textB o.nm ++ (numI o.dst ++ (textB o.new ++ (numI o.mode ++ (textB o.tg ++ r))))))) := by
    simp only [List.cons_append, List.append_assoc]; rfl
  simp only [e, numI_back _ h1, textP_back _ h4, numI_back _ h2, textP_back _ h5, numI_back _ h3, textP_back _ h6]
theorem opP_forth {l r : List Int} {o : Opn} (hl : Byt l) (h : opP (some l) = (o, some r)) : l = opB o ++ r ∧ Byt r := by
  unfold opP at h
  simp only [] at h
  obtain ⟨rfl, h2⟩ := Prod.mk.inj h
  have e7 := prod_eta _ h2
  obtain ⟨l6, s6⟩ := textP_stop e7
  have e6 := prod_eta _ s6
  obtain ⟨l5, s5⟩ := numP_stop e6
  have e5 := prod_eta _ s5
  obtain ⟨l4, s4⟩ := textP_stop e5
  have e4 := prod_eta _ s4
  obtain ⟨l3, s3⟩ := numP_stop e4
  have e3 := prod_eta _ s3
  obtain ⟨l2, s2⟩ := textP_stop e3
  have e2 := prod_eta _ s2
  obtain ⟨l1, s1⟩ := numP_stop e2
  have e1 := prod_eta _ s1
  obtain ⟨a1, a2, a3⟩ := octI_forth hl e1
  rw [s1] at e2
  obtain ⟨b1, b2, b3⟩ := numI_forth a3 e2
  rw [s2] at e3
  obtain ⟨c1, c2, c3⟩ := textI_forth b3 e3
  rw [s3] at e4
  obtain ⟨d1, d2, d3⟩ := numI_forth c3 e4
  rw [s4] at e5
  obtain ⟨f1, f2, f3⟩ := textI_forth d3 e5
  rw [s5] at e6
  obtain ⟨g1, g2, g3⟩ := numI_forth f3 e6
  rw [s6] at e7
  obtain ⟨k1, k2, k3⟩ := textI_forth g3 e7
  rw [s6, s5, s4, s3, s2, s1]
  refine ⟨?_, k3⟩
  unfold opB
  simp only [List.cons_append, List.append_assoc]
  rw [← k2, ← g2, ← f2, ← d2, ← c2, ← b2]
  exact a2
theorem opP_lft {s : St} (h : Lft s) : Lft (opP s).2 := textP_lft (numP_lft (textP_lft (numP_lft (textP_lft (numP_lft (octP_lft h))))))

/- lists -/
def listG {α : Type} (rd : St → α × St) : Nat → List α → St → List α × St
  | 0, acc, s => (acc, s)
  | k + 1, acc, s => if s = none ∨ acc.length = 48 then ([], none) else listG rd k (acc ++ [(rd s).1]) (rd s).2
def listP {α : Type} (rd : St → α × St) (s : St) : List α × St := listG rd (numP s).1.toNat [] (numP s).2
theorem listP_none {α : Type} (rd : St → α × St) : listP rd none = ([], none) := by
  unfold listP; rw [numP_none]; rfl
theorem listG_back {α : Type} (rd : St → α × St) (B : α → List Int) (Ok : α → Prop) (hrd : ∀ x r, Ok x → rd (some (B x ++ r)) = (x, some r)) :
    ∀ (l acc : List α) (r : List Int), (∀ x ∈ l, Ok x) → acc.length + l.length ≤ 48 → listG rd l.length acc (some (l.flatMap B ++ r)) = (acc ++ l, some r) := by
  intro l
  induction l with
  | nil => intro acc r _ _; simp [listG]
  | cons x l ih =>
    intro acc r hl hlen
    rw [List.length_cons] at hlen
    rw [List.length_cons, List.flatMap_cons, List.append_assoc]
    unfold listG
    rw [if_neg (by simp; omega), hrd x _ (hl x (List.mem_cons_self ..))]
    simp only []
    rw [ih _ _ (fun y hy => hl y (List.mem_cons_of_mem _ hy)) (by simp; omega)]
    simp
theorem listG_forth {α : Type} (rd : St → α × St) (B : α → List Int) (hrd : ∀ l x r, Byt l → rd (some l) = (x, some r) → l = B x ++ r ∧ Byt r) :
    ∀ (k : Nat) (acc es : List α) (l r : List Int), Byt l → listG rd k acc (some l) = (es, some r) → ∃ m, es = acc ++ m ∧ m.length = k ∧ l = m.flatMap B ++ r ∧ Byt r := by
  have stop : ∀ (k : Nat) (acc : List α), (listG rd k acc none).2 = none := by
    intro k acc
    cases k with
    | zero => rfl
    | succ k => unfold listG; simp
  intro k
  induction k with
  | zero =>
    intro acc es l r hl h
    simp only [listG, Prod.mk.injEq, Option.some.injEq] at h
    obtain ⟨rfl, rfl⟩ := h
    exact ⟨[], by simp, rfl, rfl, hl⟩
  | succ k ih =>
    intro acc es l r hl h
    unfold listG at h
    split at h
    · cases h
    · rename_i hq
      cases hs : (rd (some l)).2 with
      | none => rw [hs] at h; have := stop k (acc ++ [(rd (some l)).1]); rw [h] at this; cases this
      | some l1 =>
        rw [hs] at h
        obtain ⟨a1, a2⟩ := hrd l _ l1 hl (prod_eta _ hs)
        obtain ⟨m, e1, e2, e3, e4⟩ := ih _ _ _ _ a2 h
        refine ⟨(rd (some l)).1 :: m, by rw [e1]; simp, by simp [e2], ?_, e4⟩
        rw [List.flatMap_cons, List.append_assoc, ← e3]; exact a1
end
section
open Go.RowKit

/-- a message: the mark by its parts -/
structure Mg where
  kind : Int
  client : Int
  life : Int
  seq : Int
  ep : Int
  nb : Int
  vers : Int
  err : Int
  op : Opn
  es : List En
  ks : List Ky
def zeroMg : Mg := ⟨0, 0, 0, 0, 0, 0, 0, 0, zeroOp, [], []⟩
def bodyB (m : Mg) : List Int := if m.kind = 1 then opB m.op else if m.kind = 2 then numI m.es.length ++ m.es.flatMap entB else if m.kind = 3 then numI m.ks.length ++ m.ks.flatMap keyB else []
def msgB (m : Mg) : List Int := m.kind :: (numI m.client ++ (numI m.life ++ (numI m.seq ++ (numI m.ep ++ (numI m.nb ++ (numI m.vers ++ (numI m.err ++ bodyB m)))))))
structure headOk (m : Mg) : Prop where
  client : numOk m.client
  life : numOk m.life
  seq : numOk m.seq
  ep : numOk m.ep
  nb : numOk m.nb
  vers : numOk m.vers
  err : numOk m.err
/-- what a message carries is what its kind carries -/
def bodyOk (m : Mg) : Prop :=
  m.kind = 1 ∧ opOk m.op ∧ m.es = [] ∧ m.ks = [] ∨
  m.kind = 2 ∧ m.op = zeroOp ∧ m.es.length ≤ 48 ∧ (∀ e ∈ m.es, entOk e) ∧ m.ks = [] ∨
  m.kind = 3 ∧ m.op = zeroOp ∧ m.es = [] ∧ 0 < m.ks.length ∧ m.ks.length ≤ 48 ∧ (∀ k ∈ m.ks, keyOk k) ∨
  m.kind = 4 ∧ m.op = zeroOp ∧ m.es = [] ∧ m.ks = []
def msgOk (m : Mg) : Prop := headOk m ∧ bodyOk m
theorem flat_byt {α : Type} {B : α → List Int} {l : List α} (h : ∀ x ∈ l, Byt (B x)) : Byt (l.flatMap B) := by
  intro x hx
  obtain ⟨y, hy, hxy⟩ := List.mem_flatMap.1 hx
  exact h y hy x hxy
theorem bodyB_byt {m : Mg} (h : bodyOk m) : Byt (bodyB m) := by
  unfold bodyB
  rcases h with ⟨h1, h2, _⟩ | ⟨h1, _, _, h2, _⟩ | ⟨h1, _, _, _, _, h2⟩ | ⟨h1, _⟩
  · rw [if_pos h1]; exact opB_byt h2
  · rw [if_neg (by omega), if_pos h1]; exact (numI_byt _).app (flat_byt fun e he => entB_byt (h2 e he))
  · rw [if_neg (by omega), if_neg (by omega), if_pos h1]; exact (numI_byt _).app (flat_byt fun e _ => keyB_byt e)
  · rw [if_neg (by omega), if_neg (by omega), if_neg (by omega)]; exact Byt.nil
theorem msgB_byt {m : Mg} (h : msgOk m) : Byt (msgB m) := by
  unfold msgB
  intro x hx
  rcases List.mem_cons.1 hx with rfl | hx
  · have := h.2; unfold bodyOk at this; omega
  · exact ((numI_byt _).app ((numI_byt _).app ((numI_byt _).app ((numI_byt _).app ((numI_byt _).app ((numI_byt _).app ((numI_byt _).app (bodyB_byt h.2)))))))) x hx
/-- what a message carries, read -/
def bodyP (k : Int) (s : St) : (Opn × List En × List Ky) × St :=
  if k = 1 then ((((opP s).1, [], []) : Opn × List En × List Ky), (opP s).2)
  else if k = 2 then ((zeroOp, (listP entP s).1, []), (listP entP s).2)
  else if k = 3 then ((zeroOp, [], (listP keyP s).1), (listP keyP s).2)
  else ((zeroOp, [], []), s)
/-- a message, read -/
def msgP (s : St) : Mg × St :=
  let a := octP s
  let b := numP a.2
  let c := numP b.2
  let d := numP c.2
  let e := numP d.2
  let f := numP e.2
  let g := numP f.2
  let h := numP g.2
  let i := bodyP a.1 h.2
  (⟨a.1, b.1, c.1, d.1, e.1, f.1, g.1, h.1, i.1.1, i.1.2.1, i.1.2.2⟩, i.2)
theorem listP_back {α : Type} (rd : St → α × St) (B : α → List Int) (Ok : α → Prop) (hrd : ∀ x r, Ok x → rd (some (B x ++ r)) = (x, some r)) (l : List α) (r : List Int) (h : ∀ x ∈ l, Ok x) (hl : l.length ≤ 48) : listP rd (some (numI l.length ++ (l.flatMap B ++ r))) = (l, some r) := by
  unfold listP
  rw [numI_back _ (by unfold numOk; omega)]
  simp only [Int.toNat_natCast]
  rw [listG_back rd B Ok hrd l [] r h (by simpa using hl)]
  simp
theorem listP_forth {α : Type} (rd : St → α × St) (B : α → List Int) (hrd : ∀ l x r, Byt l → rd (some l) = (x, some r) → l = B x ++ r ∧ Byt r) (l : List Int) (es : List α) (r : List Int) (hl : Byt l) (h : listP rd (some l) = (es, some r)) : l = numI es.length ++ (es.flatMap B ++ r) ∧ Byt r := by
  unfold listP at h
  cases hs : (numP (some l)).2 with
  | none =>
    rw [hs] at h
    cases hk : (numP (some l)).1.toNat with
    | zero => rw [hk] at h; cases h
    | succ k => rw [hk] at h; unfold listG at h; simp at h
  | some l1 =>
    rw [hs] at h
    obtain ⟨a1, a2, a3⟩ := numI_forth hl (prod_eta _ hs)
    obtain ⟨m, e1, e2, e3, e4⟩ := listG_forth rd B hrd _ _ _ _ _ a3 h
    rw [List.nil_append] at e1
    subst e1
    have : ((es.length : Nat) : Int) = (numP (some l)).1 := by rw [e2]; unfold numOk at a1; omega
    rw [this, ← e3]
    exact ⟨a2, e4⟩
theorem bodyP_none (k : Int) : (bodyP k none).2 = none := by
  unfold bodyP
  split
  · rw [opP_none]
  · split
    · rw [listP_none]
    · split
      · rw [listP_none]
      · rfl
theorem bodyP_back {m : Mg} (h : bodyOk m) (r : List Int) : bodyP m.kind (some (bodyB m ++ r)) = ((m.op, m.es, m.ks), some r) := by
  obtain ⟨kind, client, life, seq, ep, nb, vers, err, op, es, ks⟩ := m
  unfold bodyOk at h
  unfold bodyP bodyB
  simp only [] at h ⊢
  rcases h with ⟨rfl, h1, rfl, rfl⟩ | ⟨rfl, rfl, h1, h2, rfl⟩ | ⟨rfl, rfl, rfl, h0, h1, h2⟩ | ⟨rfl, rfl, rfl, rfl⟩
  · rw [if_pos rfl, if_pos rfl, opP_back _ h1]
  · rw [if_neg (by decide), if_pos rfl, if_neg (by decide), if_pos rfl, List.append_assoc, listP_back entP entB entOk (fun x r hx => entP_back r hx) es r h2 h1]
  · rw [if_neg (by decide), if_neg (by decide), if_pos rfl, if_neg (by decide), if_neg (by decide), if_pos rfl, List.append_assoc, listP_back keyP keyB keyOk (fun x r hx => keyP_back r hx) ks r h2 h1]
  · rw [if_neg (by decide), if_neg (by decide), if_neg (by decide), if_neg (by decide), if_neg (by decide), if_neg (by decide)]
    rfl
theorem msgP_back {m : Mg} (h : msgOk m) (r : List Int) : msgP (some (msgB m ++ r)) = (m, some r) := by
  obtain ⟨⟨h1, h2, h3, h4, h5, h6, h7⟩, h8⟩ := h
  unfold msgP msgB
  have e : octP (some (m.kind :: (numI m.client ++ (numI m.life ++ (numI m.seq ++ (numI m.ep ++ (numI m.nb ++ (numI m.vers ++ (numI m.err ++ bodyB m))))))) ++ r)) = (m.kind, some (numI m.client ++ (numI m.life ++ (numI m.seq ++ (numI m.ep ++ (numI m.nb ++ (numI m.vers ++ (numI m.err ++ (bodyB m ++ r))))))))) := by
    simp only [List.cons_append, List.append_assoc]; rfl
  simp only [e, numI_back _ h1, numI_back _ h2, numI_back _ h3, numI_back _ h4, numI_back _ h5, numI_back _ h6, numI_back _ h7, bodyP_back h8]
theorem bodyP_forth {k : Int} {l r : List Int} {x : Opn × List En × List Ky} (hl : Byt l) (h : bodyP k (some l) = (x, some r)) (m : Mg) (hk : m.kind = k) (hm : m.op = x.1 ∧ m.es = x.2.1 ∧ m.ks = x.2.2) : l = bodyB m ++ r := by
  unfold bodyP at h
  unfold bodyB
  rw [hk, hm.1, hm.2.1, hm.2.2]
  split at h
  · rename_i h1
    rw [if_pos h1]
    obtain ⟨rfl, h2⟩ := Prod.mk.inj h
    exact (opP_forth hl (prod_eta _ h2)).1
  · rename_i h1
    rw [if_neg h1]
    split at h
    · rename_i h2
      rw [if_pos h2]
      obtain ⟨rfl, h3⟩ := Prod.mk.inj h
      rw [List.append_assoc]
      exact (listP_forth entP entB (fun l x r hl h => entP_forth hl h) _ _ _ hl (prod_eta _ h3)).1
    · rename_i h2
      rw [if_neg h2]
      split at h
      · rename_i h3
        rw [if_pos h3]
        obtain ⟨rfl, h4⟩ := Prod.mk.inj h
        rw [List.append_assoc]
        exact (listP_forth keyP keyB (fun l x r hl h => (keyP_forth hl h).2) _ _ _ hl (prod_eta _ h4)).1
      · rename_i h3
        rw [if_neg h3]
        cases h
        rfl
theorem bodyP_stop {k : Int} {s : St} {x : Opn × List En × List Ky} {r : List Int} (h : bodyP k s = (x, some r)) : ∃ l, s = some l := by
  cases s with
  | none => have := bodyP_none k; rw [h] at this; cases this
  | some l => exact ⟨l, rfl⟩
theorem msgP_forth {l r : List Int} {m : Mg} (hl : Byt l) (h : msgP (some l) = (m, some r)) : l = msgB m ++ r := by
  unfold msgP at h
  simp only [] at h
  obtain ⟨rfl, h2⟩ := Prod.mk.inj h
  have e9 := prod_eta _ h2
  obtain ⟨l8, s8⟩ := bodyP_stop e9
  have e8 := prod_eta _ s8
  obtain ⟨l7, s7⟩ := numP_stop e8
  have e7 := prod_eta _ s7
  obtain ⟨l6, s6⟩ := numP_stop e7
  have e6 := prod_eta _ s6
  obtain ⟨l5, s5⟩ := numP_stop e6
  have e5 := prod_eta _ s5
  obtain ⟨l4, s4⟩ := numP_stop e5
  have e4 := prod_eta _ s4
  obtain ⟨l3, s3⟩ := numP_stop e4
  have e3 := prod_eta _ s3
  obtain ⟨l2, s2⟩ := numP_stop e3
  have e2 := prod_eta _ s2
  obtain ⟨l1, s1⟩ := numP_stop e2
  have e1 := prod_eta _ s1
  obtain ⟨a1, a2, a3⟩ := octI_forth hl e1
  rw [s1] at e2
  obtain ⟨b1, b2, b3⟩ := numI_forth a3 e2
  rw [s2] at e3
  obtain ⟨c1, c2, c3⟩ := numI_forth b3 e3
  rw [s3] at e4
  obtain ⟨d1, d2, d3⟩ := numI_forth c3 e4
  rw [s4] at e5
  obtain ⟨f1, f2, f3⟩ := numI_forth d3 e5
  rw [s5] at e6
  obtain ⟨g1, g2, g3⟩ := numI_forth f3 e6
  rw [s6] at e7
  obtain ⟨k1, k2, k3⟩ := numI_forth g3 e7
  rw [s7] at e8
  obtain ⟨n1, n2, n3⟩ := numI_forth k3 e8
  rw [s8] at e9
  rw [s8, s7, s6, s5, s4, s3, s2, s1]
  have hb := bodyP_forth n3 e9 ⟨(octP (some l)).1, (numP (some l1)).1, (numP (some l2)).1, (numP (some l3)).1, (numP (some l4)).1, (numP (some l5)).1, (numP (some l6)).1, (numP (some l7)).1, (bodyP (octP (some l)).1 (some l8)).1.1, (bodyP (octP (some l)).1 (some l8)).1.2.1, (bodyP (octP (some l)).1 (some l8)).1.2.2⟩ rfl ⟨rfl, rfl, rfl⟩
  unfold msgB
  simp only [List.cons_append, List.append_assoc]
  rw [← hb, ← n2, ← k2, ← g2, ← f2, ← d2, ← c2, ← b2]
  exact a2
/-- what bytes say, where they are those of a plain message -/
theorem msgP_iff {l : List Int} (hl : Byt l) (m : Mg) : (msgP (some l) = (m, some []) ∧ msgOk m) ↔ (msgOk m ∧ l = msgB m) := by
  constructor
  · rintro ⟨h, hk⟩
    have := msgP_forth hl h
    rw [List.append_nil] at this
    exact ⟨hk, this⟩
  · rintro ⟨hk, rfl⟩
    have := msgP_back hk []
    rw [List.append_nil] at this
    exact ⟨this, hk⟩
theorem msgB_inj {m n : Mg} (hm : msgOk m) (hn : msgOk n) (h : msgB m = msgB n) : m = n := by
  have h1 := msgP_back hm []
  have h2 := msgP_back hn []
  rw [h] at h1
  rw [h1] at h2
  exact (Prod.mk.inj h2).1
/-- none is a beginning of another one -/
theorem msgB_cut {m n : Mg} (hm : msgOk m) (hn : msgOk n) {r : List Int} (h : msgB m = msgB n ++ r) : r = [] := by
  have h1 := msgP_back hm []
  have h2 := msgP_back hn r
  rw [← h] at h2
  rw [List.append_nil, h2] at h1
  exact Option.some.inj (Prod.mk.inj h1).2
end
end Go.Proofs.Ytekonakanieeaaa
