/- Messages as bytes, and read, plainly. -/
import Derived.Test.YtekonakanieeaaaJWEpt02
import Derived.Test.YtekonakanieeaaaJWEpt01
import Derived.Lib.AppendStr
import Derived.Laws.Bits128
namespace Go.Proofs.Ytekonakanieeaaa
section
open Go.RowKit

/-- a message: the mark by its parts -/
structure Mg where
  kind : Int
  client : Int
  life : Int
  seq : Int
  ep : Int
  nb : Int
  vers : Int
  err : Int
  op : Opn
  es : List En
  ks : List Ky
def zeroMg : Mg := ⟨0, 0, 0, 0, 0, 0, 0, 0, zeroOp, [], []⟩
def bodyB (m : Mg) : List Int := if m.kind = 1 then opB m.op else if m.kind = 2 then numI m.es.length ++ m.es.flatMap entB else if m.kind = 3 then numI m.ks.length ++ m.ks.flatMap keyB else []
def msgB (m : Mg) : List Int := m.kind :: (numI m.client ++ (numI m.life ++ (numI m.seq ++ (numI m.ep ++ (numI m.nb ++ (numI m.vers ++ (numI m.err ++ bodyB m)))))))
structure headOk (m : Mg) : Prop where
  client : numOk m.client
  life : numOk m.life
  seq : numOk m.seq
  ep : numOk m.ep
  nb : numOk m.nb
  vers : numOk m.vers
  err : numOk m.err
/-- what a message carries is what its kind carries -/
def bodyOk (m : Mg) : Prop :=
  m.kind = 1 ∧ opOk m.op ∧ m.es = [] ∧ m.ks = [] ∨
  m.kind = 2 ∧ m.op = zeroOp ∧ m.es.length ≤ 48 ∧ (∀ e ∈ m.es, entOk e) ∧ m.ks = [] ∨
  m.kind = 3 ∧ m.op = zeroOp ∧ m.es = [] ∧ 0 < m.ks.length ∧ m.ks.length ≤ 48 ∧ (∀ k ∈ m.ks, keyOk k) ∨
  m.kind = 4 ∧ m.op = zeroOp ∧ m.es = [] ∧ m.ks = []
def msgOk (m : Mg) : Prop := headOk m ∧ bodyOk m
theorem flat_byt {α : Type} {B : α → List Int} {l : List α} (h : ∀ x ∈ l, Byt (B x)) : Byt (l.flatMap B) := by
  intro x hx
  obtain ⟨y, hy, hxy⟩ := List.mem_flatMap.1 hx
  exact h y hy x hxy
theorem bodyB_byt {m : Mg} (h : bodyOk m) : Byt (bodyB m) := by
  unfold bodyB
  rcases h with ⟨h1, h2, _⟩ | ⟨h1, _, _, h2, _⟩ | ⟨h1, _, _, _, _, h2⟩ | ⟨h1, _⟩
  · rw [if_pos h1]; exact opB_byt h2
  · rw [if_neg (by omega), if_pos h1]; exact (numI_byt _).app (flat_byt fun e he => entB_byt (h2 e he))
  · rw [if_neg (by omega), if_neg (by omega), if_pos h1]; exact (numI_byt _).app (flat_byt fun e _ => keyB_byt e)
  · rw [if_neg (by omega), if_neg (by omega), if_neg (by omega)]; exact Byt.nil
theorem msgB_byt {m : Mg} (h : msgOk m) : Byt (msgB m) := by
  unfold msgB
  intro x hx
  rcases List.mem_cons.1 hx with rfl | hx
  · have := h.2; unfold bodyOk at this; omega
  · exact ((numI_byt _).app ((numI_byt _).app ((numI_byt _).app ((numI_byt _).app ((numI_byt _).app ((numI_byt _).app ((numI_byt _).app (bodyB_byt h.2)))))))) x hx
/-- what a message carries, read -/
def bodyP (k : Int) (s : St) : (Opn × List En × List Ky) × St :=
  if k = 1 then ((((opP s).1, [], []) : Opn × List En × List Ky), (opP s).2)
  else if k = 2 then ((zeroOp, (listP entP s).1, []), (listP entP s).2)
  else if k = 3 then ((zeroOp, [], (listP keyP s).1), (listP keyP s).2)
  else ((zeroOp, [], []), s)
/-- a message, read -/
def msgP (s : St) : Mg × St :=
  let a := octP s
  let b := numP a.2
  let c := numP b.2
  let d := numP c.2
  let e := numP d.2
  let f := numP e.2
  let g := numP f.2
  let h := numP g.2
  let i := bodyP a.1 h.2
  (⟨a.1, b.1, c.1, d.1, e.1, f.1, g.1, h.1, i.1.1, i.1.2.1, i.1.2.2⟩, i.2)
theorem listP_back {α : Type} (rd : St → α × St) (B : α → List Int) (Ok : α → Prop) (hrd : ∀ x r, Ok x → rd (some (B x ++ r)) = (x, some r)) (l : List α) (r : List Int) (h : ∀ x ∈ l, Ok x) (hl : l.length ≤ 48) : listP rd (some (numI l.length ++ (l.flatMap B ++ r))) = (l, some r) := by
  unfold listP
  rw [numI_back _ (by unfold numOk; omega)]
  simp only [Int.toNat_natCast]
  rw [listG_back rd B Ok hrd l [] r h (by simpa using hl)]
  simp
theorem listP_forth {α : Type} (rd : St → α × St) (B : α → List Int) (hrd : ∀ l x r, Byt l → rd (some l) = (x, some r) → l = B x ++ r ∧ Byt r) (l : List Int) (es : List α) (r : List Int) (hl : Byt l) (h : listP rd (some l) = (es, some r)) : l = numI es.length ++ (es.flatMap B ++ r) ∧ Byt r := by
  unfold listP at h
  cases hs : (numP (some l)).2 with
  | none =>
    rw [hs] at h
    cases hk : (numP (some l)).1.toNat with
    | zero => rw [hk] at h; cases h
    | succ k => rw [hk] at h; unfold listG at h; simp at h
  | some l1 =>
    rw [hs] at h
    obtain ⟨a1, a2, a3⟩ := numI_forth hl (prod_eta _ hs)
    obtain ⟨m, e1, e2, e3, e4⟩ := listG_forth rd B hrd _ _ _ _ _ a3 h
    rw [List.nil_append] at e1
    subst e1
    have : ((es.length : Nat) : Int) = (numP (some l)).1 := by rw [e2]; unfold numOk at a1; omega
    rw [this, ← e3]
    exact ⟨a2, e4⟩
theorem bodyP_none (k : Int) : (bodyP k none).2 = none := by
  unfold bodyP
  split
  · rw [opP_none]
  · split
    · rw [listP_none]
    · split
      · rw [listP_none]
      · rfl
theorem bodyP_back {m : Mg} (h : bodyOk m) (r : List Int) : bodyP m.kind (some (bodyB m ++ r)) = ((m.op, m.es, m.ks), some r) := by
  obtain ⟨kind, client, life, seq, ep, nb, vers, err, op, es, ks⟩ := m
  unfold bodyOk at h
  unfold bodyP bodyB
  simp only [] at h ⊢
  rcases h with ⟨rfl, h1, rfl, rfl⟩ | ⟨rfl, rfl, h1, h2, rfl⟩ | ⟨rfl, rfl, rfl, h0, h1, h2⟩ | ⟨rfl, rfl, rfl, rfl⟩
  · rw [if_pos rfl, if_pos rfl, opP_back _ h1]
  · rw [if_neg (by decide), if_pos rfl, if_neg (by decide), if_pos rfl, List.append_assoc, listP_back entP entB entOk (fun x r hx => entP_back r hx) es r h2 h1]
  · rw [if_neg (by decide), if_neg (by decide), if_pos rfl, if_neg (by decide), if_neg (by decide), if_pos rfl, List.append_assoc, listP_back keyP keyB keyOk (fun x r hx => keyP_back r hx) ks r h2 h1]
  · rw [if_neg (by decide), if_neg (by decide), if_neg (by decide), if_neg (by decide), if_neg (by decide), if_neg (by decide)]
    rfl
theorem msgP_back {m : Mg} (h : msgOk m) (r : List Int) : msgP (some (msgB m ++ r)) = (m, some r) := by
  obtain ⟨⟨h1, h2, h3, h4, h5, h6, h7⟩, h8⟩ := h
  unfold msgP msgB
  have e : octP (some (m.kind :: (numI m.client ++ (numI m.life ++ (numI m.seq ++ (numI m.ep ++ (numI m.nb ++ (numI m.vers ++ (numI m.err ++ bodyB m))))))) ++ r)) = (m.kind, some (numI m.client ++ (numI m.life ++ (numI m.seq ++ (numI m.ep ++ (numI m.nb ++ (numI m.vers ++ (numI m.err ++ (bodyB m ++ r))))))))) := by
    simp only [List.cons_append, List.append_assoc]; rfl
  simp only [e, numI_back _ h1, numI_back _ h2, numI_back _ h3, numI_back _ h4, numI_back _ h5, numI_back _ h6, numI_back _ h7, bodyP_back h8]
theorem bodyP_forth {k : Int} {l r : List Int} {x : Opn × List En × List Ky} (hl : Byt l) (h : bodyP k (some l) = (x, some r)) (m : Mg) (hk : m.kind = k) (hm : m.op = x.1 ∧ m.es = x.2.1 ∧ m.ks = x.2.2) : l = bodyB m ++ r := by
  unfold bodyP at h
  unfold bodyB
  rw [hk, hm.1, hm.2.1, hm.2.2]
  split at h
  · rename_i h1
    rw [if_pos h1]
    obtain ⟨rfl, h2⟩ := Prod.mk.inj h
    exact (opP_forth hl (prod_eta _ h2)).1
  · rename_i h1
    rw [if_neg h1]
    split at h
    · rename_i h2
      rw [if_pos h2]
      obtain ⟨rfl, h3⟩ := Prod.mk.inj h
      rw [List.append_assoc]
      exact (listP_forth entP entB (fun l x r hl h => entP_forth hl h) _ _ _ hl (prod_eta _ h3)).1
    · rename_i h2
      rw [if_neg h2]
      split at h
      · rename_i h3
        rw [if_pos h3]
        obtain ⟨rfl, h4⟩ := Prod.mk.inj h
        rw [List.append_assoc]
        exact (listP_forth keyP keyB (fun l x r hl h => (keyP_forth hl h).2) _ _ _ hl (prod_eta _ h4)).1
      · rename_i h3
        rw [if_neg h3]
        cases h
        rfl
theorem bodyP_stop {k : Int} {s : St} {x : Opn × List En × List Ky} {r : List Int} (h : bodyP k s = (x, some r)) : ∃ l, s = some l := by
  cases s with
  | none => have := bodyP_none k; rw [h] at this; cases this
  | some l => exact ⟨l, rfl⟩
theorem msgP_forth {l r : List Int} {m : Mg} (hl : Byt l) (h : msgP (some l) = (m, some r)) : l = msgB m ++ r := by
  unfold msgP at h
  simp only [] at h
  obtain ⟨rfl, h2⟩ := Prod.mk.inj h
  have e9 := prod_eta _ h2
  obtain ⟨l8, s8⟩ := bodyP_stop e9
  have e8 := prod_eta _ s8
  obtain ⟨l7, s7⟩ := numP_stop e8
  have e7 := prod_eta _ s7
  obtain ⟨l6, s6⟩ := numP_stop e7
  have e6 := prod_eta _ s6
  obtain ⟨l5, s5⟩ := numP_stop e6
  have e5 := prod_eta _ s5
  obtain ⟨l4, s4⟩ := numP_stop e5
  have e4 := prod_eta _ s4
  obtain ⟨l3, s3⟩ := numP_stop e4
  have e3 := prod_eta _ s3
  obtain ⟨l2, s2⟩ := numP_stop e3
  have e2 := prod_eta _ s2
  obtain ⟨l1, s1⟩ := numP_stop e2
  have e1 := prod_eta _ s1
  obtain ⟨a1, a2, a3⟩ := octI_forth hl e1
  rw [s1] at e2
  obtain ⟨b1, b2, b3⟩ := numI_forth a3 e2
  rw [s2] at e3
  obtain ⟨c1, c2, c3⟩ := numI_forth b3 e3
  rw [s3] at e4
  obtain ⟨d1, d2, d3⟩ := numI_forth c3 e4
  rw [s4] at e5
  obtain ⟨f1, f2, f3⟩ := numI_forth d3 e5
  rw [s5] at e6
  obtain ⟨g1, g2, g3⟩ := numI_forth f3 e6
  rw [s6] at e7
  obtain ⟨k1, k2, k3⟩ := numI_forth g3 e7
  rw [s7] at e8
  obtain ⟨n1, n2, n3⟩ := numI_forth k3 e8
  rw [s8] at e9
  rw [s8, s7, s6, s5, s4, s3, s2, s1]
  have hb := bodyP_forth n3 e9 ⟨(octP (some l)).1, (numP (some l1)).1, (numP (some l2)).1, (numP (some l3)).1, (numP (some l4)).1, (numP (some l5)).1, (numP (some l6)).1, (numP (some l7)).1, (bodyP (octP (some l)).1 (some l8)).1.1, (bodyP (octP (some l)).1 (some l8)).1.2.1, (bodyP (octP (some l)).1 (some l8)).1.2.2⟩ rfl ⟨rfl, rfl, rfl⟩
  unfold msgB
  simp only [List.cons_append, List.append_assoc]
  rw [← hb, ← n2, ← k2, ← g2, ← f2, ← d2, ← c2, ← b2]
  exact a2
/-- what bytes say, where they are those of a plain message -/
theorem msgP_iff {l : List Int} (hl : Byt l) (m : Mg) : (msgP (some l) = (m, some []) ∧ msgOk m) ↔ (msgOk m ∧ l = msgB m) := by
  constructor
  · rintro ⟨h, hk⟩
    have := msgP_forth hl h
    rw [List.append_nil] at this
    exact ⟨hk, this⟩
  · rintro ⟨hk, rfl⟩
    have := msgP_back hk []
    rw [List.append_nil] at this
    exact ⟨this, hk⟩
theorem msgB_inj {m n : Mg} (hm : msgOk m) (hn : msgOk n) (h : msgB m = msgB n) : m = n := by
  have h1 := msgP_back hm []
  have h2 := msgP_back hn []
  rw [h] at h1
  rw [h1] at h2
  exact (Prod.mk.inj h2).1
/-- none is a beginning of another one -/
theorem msgB_cut {m n : Mg} (hm : msgOk m) (hn : msgOk n) {r : List Int} (h : msgB m = msgB n ++ r) : r = [] := by
  have h1 := msgP_back hm []
  have h2 := msgP_back hn r
  rw [← h] at h2
  rw [List.append_nil, h2] at h1
  exact Option.some.inj (Prod.mk.inj h1).2
end
section
open Go.RowKit

/-- a note -/
structure Nt where
  kind : Int
  epoch : Int
  vers : Int
  next : Int
  client : Int
  e : En
  life : Int
  seq : Int
  err : Int
  op : Opn
def nilEn : En := ⟨0, ⟨#[]⟩, false, 0, 0, 0, ⟨#[]⟩⟩
def zeroNt : Nt := ⟨0, 0, 0, 0, 0, nilEn, 0, 0, 0, zeroOp⟩
def seenB (n : Nt) : List Int := numI n.client ++ (numI n.life ++ (numI n.seq ++ numI n.err))
def ntB (n : Nt) : List Int := if n.kind = 1 then numI n.epoch else if n.kind = 2 then numI n.epoch ++ (numI n.vers ++ numI n.next) else if n.kind = 3 then entB n.e else if n.kind = 4 then seenB n else if n.kind = 5 then seenB n ++ opB n.op else []
def noteB (n : Nt) : List Int := n.kind :: ntB n
/-- a note with the fields alone that its kind names -/
def onlyN (n : Nt) : Nt := if n.kind = 1 then { zeroNt with kind := 1, epoch := n.epoch } else if n.kind = 2 then { zeroNt with kind := 2, epoch := n.epoch, vers := n.vers, next := n.next } else if n.kind = 3 then { zeroNt with kind := 3, e := n.e } else if n.kind = 4 then { zeroNt with kind := 4, client := n.client, life := n.life, seq := n.seq, err := n.err } else if n.kind = 5 then { zeroNt with kind := 5, client := n.client, life := n.life, seq := n.seq, err := n.err, op := n.op } else { zeroNt with kind := n.kind }
structure numsOk (n : Nt) : Prop where
  epoch : numOk n.epoch
  vers : numOk n.vers
  next : numOk n.next
  client : numOk n.client
  life : numOk n.life
  seq : numOk n.seq
  err : numOk n.err
def noteOk (n : Nt) : Prop := n = onlyN n ∧ numsOk n ∧ (n.kind = 1 ∨ n.kind = 2 ∨ n.kind = 4 ∨ n.kind = 3 ∧ n.e.neg = false ∧ entOk n.e ∨ n.kind = 5 ∧ opOk n.op)
theorem seenB_byt (n : Nt) : Byt (seenB n) := (numI_byt _).app ((numI_byt _).app ((numI_byt _).app (numI_byt _)))
theorem ntB_byt {n : Nt} (h : noteOk n) : Byt (ntB n) := by
  unfold ntB
  rcases h.2.2 with h1 | h1 | h1 | ⟨h1, _, h2⟩ | ⟨h1, h2⟩
  · rw [if_pos h1]; exact numI_byt _
  · rw [if_neg (by omega), if_pos h1]; exact (numI_byt _).app ((numI_byt _).app (numI_byt _))
  · rw [if_neg (by omega), if_neg (by omega), if_neg (by omega), if_pos h1]; exact seenB_byt n
  · rw [if_neg (by omega), if_neg (by omega), if_pos h1]; exact entB_byt h2
  · rw [if_neg (by omega), if_neg (by omega), if_neg (by omega), if_neg (by omega), if_pos h1]; exact (seenB_byt n).app (opB_byt h2)
theorem noteB_byt {n : Nt} (h : noteOk n) : Byt (noteB n) := by
  unfold noteB
  intro x hx
  rcases List.mem_cons.1 hx with rfl | hx
  · have := h.2.2; omega
  · exact ntB_byt h x hx
def seenP (s : St) : (Int × Int × Int × Int) × St :=
  let a := numP s
  let b := numP a.2
  let c := numP b.2
  let d := numP c.2
  ((a.1, b.1, c.1, d.1), d.2)
theorem seenP_none : (seenP none).2 = none := by unfold seenP; simp only [numP_none]
theorem seenP_back {n : Nt} (h : numsOk n) (r : List Int) : seenP (some (seenB n ++ r)) = ((n.client, n.life, n.seq, n.err), some r) := by
  unfold seenP seenB
  simp only [List.append_assoc, numI_back _ h.client, numI_back _ h.life, numI_back _ h.seq, numI_back _ h.err]
theorem seenP_forth {l r : List Int} {x : Int × Int × Int × Int} (hl : Byt l) (h : seenP (some l) = (x, some r)) : l = numI x.1 ++ (numI x.2.1 ++ (numI x.2.2.1 ++ (numI x.2.2.2 ++ r))) ∧ Byt r := by
  unfold seenP at h
  simp only [] at h
  obtain ⟨rfl, h2⟩ := Prod.mk.inj h
  have e4 := prod_eta _ h2
  obtain ⟨l3, s3⟩ := numP_stop e4
  have e3 := prod_eta _ s3
  obtain ⟨l2, s2⟩ := numP_stop e3
  have e2 := prod_eta _ s2
  obtain ⟨l1, s1⟩ := numP_stop e2
  have e1 := prod_eta _ s1
  obtain ⟨a1, a2, a3⟩ := numI_forth hl e1
  rw [s1] at e2
  obtain ⟨b1, b2, b3⟩ := numI_forth a3 e2
  rw [s2] at e3
  obtain ⟨c1, c2, c3⟩ := numI_forth b3 e3
  rw [s3] at e4
  obtain ⟨d1, d2, d3⟩ := numI_forth c3 e4
  rw [s3, s2, s1]
  refine ⟨?_, d3⟩
  simp only []
  rw [← d2, ← c2, ← b2]
  exact a2
/-- a note, read -/
def ntP (k : Int) (s : St) : Nt × St :=
  if k = 1 then ({ zeroNt with kind := k, epoch := (numP s).1 }, (numP s).2)
  else if k = 2 then ({ zeroNt with kind := k, epoch := (numP s).1, vers := (numP (numP s).2).1, next := (numP (numP (numP s).2).2).1 }, (numP (numP (numP s).2).2).2)
  else if k = 3 then ({ zeroNt with kind := k, e := (entP s).1 }, (entP s).2)
  else if k = 4 then ({ zeroNt with kind := k, client := (seenP s).1.1, life := (seenP s).1.2.1, seq := (seenP s).1.2.2.1, err := (seenP s).1.2.2.2 }, (seenP s).2)
  else if k = 5 then ({ zeroNt with kind := k, client := (seenP s).1.1, life := (seenP s).1.2.1, seq := (seenP s).1.2.2.1, err := (seenP s).1.2.2.2, op := (opP (seenP s).2).1 }, (opP (seenP s).2).2)
  else ({ zeroNt with kind := k }, s)
def noteP (s : St) : Nt × St := ntP (octP s).1 (octP s).2
theorem ntP_none (k : Int) : (ntP k none).2 = none := by
  unfold ntP
  split
  · simp only [numP_none]
  · split
    · simp only [numP_none]
    · split
      · simp only [entP_none]
      · split
        · exact seenP_none
        · split
          · simp only [seenP_none, opP_none]
          · rfl
theorem ntP_back {n : Nt} (h : noteOk n) (r : List Int) : ntP n.kind (some (ntB n ++ r)) = (n, some r) := by
  obtain ⟨h0, h1, h2⟩ := h
  unfold onlyN at h0
  unfold ntP ntB
  rcases h2 with h2 | h2 | h2 | ⟨h2, _, h3⟩ | ⟨h2, h3⟩
  · rw [if_pos h2, if_pos h2, numI_back _ h1.epoch]
    rw [if_pos h2] at h0
    simp only [h2]; rw [← h0]
  · have n1 : ¬ n.kind = 1 := by omega
    rw [if_neg n1, if_pos h2, if_neg n1, if_pos h2]
    rw [if_neg n1, if_pos h2] at h0
    simp only [List.append_assoc, numI_back _ h1.epoch, numI_back _ h1.vers, numI_back _ h1.next, h2]; rw [← h0]
  · have n1 : ¬ n.kind = 1 := by omega
    have n2 : ¬ n.kind = 2 := by omega
    have n3 : ¬ n.kind = 3 := by omega
    rw [if_neg n1, if_neg n2, if_neg n3, if_pos h2, if_neg n1, if_neg n2, if_neg n3, if_pos h2]
    rw [if_neg n1, if_neg n2, if_neg n3, if_pos h2] at h0
    simp only [seenP_back h1, h2]; rw [← h0]
  · have n1 : ¬ n.kind = 1 := by omega
    have n2 : ¬ n.kind = 2 := by omega
    rw [if_neg n1, if_neg n2, if_pos h2, if_neg n1, if_neg n2, if_pos h2]
    rw [if_neg n1, if_neg n2, if_pos h2] at h0
    simp only [entP_back _ h3, h2]; rw [← h0]
  · have n1 : ¬ n.kind = 1 := by omega
    have n2 : ¬ n.kind = 2 := by omega
    have n3 : ¬ n.kind = 3 := by omega
    have n4 : ¬ n.kind = 4 := by omega
    rw [if_neg n1, if_neg n2, if_neg n3, if_neg n4, if_pos h2, if_neg n1, if_neg n2, if_neg n3, if_neg n4, if_pos h2]
    rw [if_neg n1, if_neg n2, if_neg n3, if_neg n4, if_pos h2] at h0
    simp only [List.append_assoc, seenP_back h1, opP_back _ h3, h2]; rw [← h0]
theorem noteP_back {n : Nt} (h : noteOk n) (r : List Int) : noteP (some (noteB n ++ r)) = (n, some r) := by
  unfold noteP noteB
  show ntP n.kind (some (ntB n ++ r)) = _
  exact ntP_back h r
theorem ntP_forth {k : Int} {l r : List Int} {n : Nt} (hl : Byt l) (h : ntP k (some l) = (n, some r)) : n.kind = k ∧ l = ntB n ++ r := by
  unfold ntP at h
  unfold ntB
  split at h
  · rename_i h1
    subst h1
    obtain ⟨rfl, h2⟩ := Prod.mk.inj h
    exact ⟨rfl, (numI_forth hl (prod_eta _ h2)).2.1⟩
  · rename_i h1
    split at h
    · rename_i h2
      subst h2
      obtain ⟨rfl, h3⟩ := Prod.mk.inj h
      have e3 := prod_eta _ h3
      obtain ⟨l2, s2⟩ := numP_stop e3
      have e2 := prod_eta _ s2
      obtain ⟨l1, s1⟩ := numP_stop e2
      have e1 := prod_eta _ s1
      obtain ⟨a1, a2, a3⟩ := numI_forth hl e1
      rw [s1] at e2
      obtain ⟨b1, b2, b3⟩ := numI_forth a3 e2
      rw [s2] at e3
      obtain ⟨c1, c2, c3⟩ := numI_forth b3 e3
      refine ⟨rfl, ?_⟩
      rw [if_neg (by show ¬ (2 : Int) = 1; decide), if_pos rfl, s2, s1]
      simp only [List.append_assoc]
      rw [← c2, ← b2]
      exact a2
    · rename_i h2
      split at h
      · rename_i h3
        subst h3
        obtain ⟨rfl, h4⟩ := Prod.mk.inj h
        exact ⟨rfl, (entP_forth hl (prod_eta _ h4)).1⟩
      · rename_i h3
        split at h
        · rename_i h4
          subst h4
          obtain ⟨rfl, h5⟩ := Prod.mk.inj h
          refine ⟨rfl, ?_⟩
          rw [if_neg (by show ¬ (4 : Int) = 1; decide), if_neg (by show ¬ (4 : Int) = 2; decide), if_neg (by show ¬ (4 : Int) = 3; decide), if_pos rfl]
          unfold seenB
          simp only [List.append_assoc]
          exact (seenP_forth hl (prod_eta _ h5)).1
        · rename_i h4
          split at h
          · rename_i h5
            subst h5
            obtain ⟨rfl, h6⟩ := Prod.mk.inj h
            refine ⟨rfl, ?_⟩
            rw [if_neg (by show ¬ (5 : Int) = 1; decide), if_neg (by show ¬ (5 : Int) = 2; decide), if_neg (by show ¬ (5 : Int) = 3; decide), if_neg (by show ¬ (5 : Int) = 4; decide), if_pos rfl]
            have e2 := prod_eta _ h6
            have : ∃ l1, (seenP (some l)).2 = some l1 := by
              cases hq : (seenP (some l)).2 with
              | none => rw [hq, opP_none] at e2; cases e2
              | some l1 => exact ⟨l1, rfl⟩
            obtain ⟨l1, s1⟩ := this
            obtain ⟨a1, a2⟩ := seenP_forth hl (prod_eta _ s1)
            rw [s1] at e2
            obtain ⟨b1, b2⟩ := opP_forth a2 e2
            unfold seenB
            simp only [List.append_assoc, s1]
            rw [← b1]
            exact a1
          · rename_i h5
            cases h
            exact ⟨rfl, by rw [if_neg h1, if_neg h2, if_neg h3, if_neg h4, if_neg h5]; rfl⟩
theorem noteP_forth {l r : List Int} {n : Nt} (hl : Byt l) (h : noteP (some l) = (n, some r)) : l = noteB n ++ r := by
  unfold noteP at h
  cases hs : (octP (some l)).2 with
  | none => rw [hs] at h; have := ntP_none (octP (some l)).1; rw [h] at this; cases this
  | some l1 =>
    obtain ⟨a1, a2, a3⟩ := octI_forth hl (prod_eta _ hs)
    rw [hs] at h
    obtain ⟨b1, b2⟩ := ntP_forth a3 h
    unfold noteB
    rw [List.cons_append, ← b2, b1]
    exact a2
theorem noteB_inj {m n : Nt} (hm : noteOk m) (hn : noteOk n) (h : noteB m = noteB n) : m = n := by
  have h1 := noteP_back hm []
  have h2 := noteP_back hn []
  rw [h] at h1
  rw [h1] at h2
  exact (Prod.mk.inj h2).1
theorem noteB_cut {m n : Nt} (hm : noteOk m) (hn : noteOk n) {r : List Int} (h : noteB m = noteB n ++ r) : r = [] := by
  have h1 := noteP_back hm []
  have h2 := noteP_back hn r
  rw [← h] at h2
  rw [List.append_nil, h2] at h1
  exact Option.some.inj (Prod.mk.inj h1).2
/-- no note is too long -/
theorem numI_len {v : Int} (h : numOk v) : (numI v).length ≤ 6 := by
  unfold numI
  exact numB_len 5 _ (by unfold numOk at h; omega)
theorem textB_len {s : ByteArray} (h : s.size ≤ 96) : (textB s).length ≤ 97 := by
  unfold textB
  rw [List.length_append, bs_len, numB_lt (by omega)]
  simp; omega
theorem noteB_len {n : Nt} (h : noteOk n) : (noteB n).length ≤ 424 := by
  obtain ⟨_, h1, h2⟩ := h
  have l1 := numI_len h1.epoch
  have l2 := numI_len h1.vers
  have l3 := numI_len h1.next
  have l4 := numI_len h1.client
  have l5 := numI_len h1.life
  have l6 := numI_len h1.seq
  have l7 := numI_len h1.err
  unfold noteB ntB seenB
  rw [List.length_cons]
  rcases h2 with h2 | h2 | h2 | ⟨h2, hn, h3⟩ | ⟨h2, h3⟩
  · rw [if_pos h2]; omega
  · rw [if_neg (by omega), if_pos h2]; simp only [List.length_append]; omega
  · rw [if_neg (by omega), if_neg (by omega), if_neg (by omega), if_pos h2]; simp only [List.length_append]; omega
  · rw [if_neg (by omega), if_neg (by omega), if_pos h2]
    unfold entOk at h3
    rw [hn] at h3
    simp only [Bool.false_eq_true, if_false] at h3
    have a1 := numI_len h3.1.1
    have a2 := textB_len h3.1.2
    have a3 := numI_len h3.2.1
    have a4 := numI_len h3.2.2.1
    have a5 := textB_len h3.2.2.2.2
    unfold entB keyB nodeB
    rw [hn]
    simp only [Bool.false_eq_true, if_false, List.length_append, List.length_cons]
    simp only [] at a1 a2
    omega
  · rw [if_neg (by omega), if_neg (by omega), if_neg (by omega), if_neg (by omega), if_pos h2]
    obtain ⟨_, b1, b2, b3, b4, b5, b6⟩ := h3
    have c1 := numI_len b1
    have c2 := numI_len b2
    have c3 := numI_len b3
    have c4 := textB_len b4
    have c5 := textB_len b5
    have c6 := textB_len b6
    unfold opB
    simp only [List.length_append, List.length_cons]
    omega
end
section
open Go.RowKit

theorem Try.infoU : (Try.prog.info? 5).map (fun i => (i.zero, i.size, i.bytes)) = some (some (.int .u8 0), 1, 1) := by kernel_rfl
/-- a writer that a call has made which began in w0, and what it has written -/
structure IsW (w0 w : World) (t : Nat) (l : List Int) (v : Value) : Prop where
  head : w.heap[t]? = some (.cells #[v] 86 (0, 0))
  row : OwnB w w0.heap.size v l
  t0 : w0.heap.size ≤ t
  bel : Below w0.heap.size w0 w
/-- what a call of the writer's leaves alone -/
structure Kp (t : Nat) (w w' : World) : Prop where
  size : w.heap.size ≤ w'.heap.size
  keep : ∀ k ty, Tag w k ty → ty ≠ 5 → k ≠ t → w'.heap[k]? = w.heap[k]?
theorem Kp.refl (t : Nat) (w : World) : Kp t w w := ⟨Nat.le_refl _, fun _ _ _ _ _ => rfl⟩
theorem Kp.trans {t : Nat} {a b c : World} (h : Kp t a b) (k : Kp t b c) : Kp t a c :=
  ⟨Nat.le_trans h.size k.size, fun i ty ht hy hi => (k.keep i ty (ht.moved (h.keep i ty ht hy hi)) hy hi).trans (h.keep i ty ht hy hi)⟩
theorem Kp.of {t : Nat} {w w' : World} (h : Below w.heap.size w w') : Kp t w w' := ⟨h.size, fun k _ ht _ _ => h.block k ht.lt⟩
theorem IsW.tt {w0 w : World} {t : Nat} {l : List Int} {v : Value} (h : IsW w0 w t l v) : Tag w t 86 := ⟨_, _, h.head⟩
theorem IsW.below {w0 w w' : World} {t : Nat} {l : List Int} {v : Value} (h : IsW w0 w t l v) (hb : Below w.heap.size w w') : IsW w0 w' t l v :=
  ⟨(hb.block _ h.tt.lt).trans h.head, h.row.below hb, h.t0, chainB h.bel hb⟩
theorem IsW.cells {w0 w : World} {t : Nat} {l : List Int} {v : Value} (h : IsW w0 w t l v) : w.cell? ⟨t, 0, none⟩ = some v ∧ ∀ i, w.frozen? ⟨t, i, none⟩ = false := ⟨by rw [cell_of h.head]; rfl, free_of h.head⟩
def Wrote (w0 w w' : World) (t : Nat) (l : List Int) : Prop := (∃ v, IsW w0 w' t l v) ∧ Kp t w w'

/-- its row made longer, then its field set -/
theorem IsW.push {w0 w W w1 : World} {t : Nat} {l m : List Int} {v v1 : Value} (h : IsW w0 w t l v) (hb : Below w.heap.size w W) (hown : w1.ownsRow w0.heap.size 5 1 v1 (l.length + m.length) (ub l ++ ub m)) (hg : W.grownBy w1 v.ownBlock) :
    w1.cell? ⟨t, 0, none⟩ = some v ∧ (∀ i, w1.frozen? ⟨t, i, none⟩ = false) ∧ Hid (Wrote w0 w (w1.setCell ⟨t, 0, none⟩ v1) t (l ++ m)) := by
  have h' := h.below hb
  have hne : ∀ q, v.ownBlock = some q → q ≠ t := fun q hq => (h'.row.tag hq).ne h'.tt (by decide)
  have hh : w1.heap[t]? = some (.cells #[v] 86 (0, 0)) := (hg.block t h'.tt.lt (fun e => hne t e.symm rfl)).trans h'.head
  have hO : Only (fun q => v.ownBlock = some q) W w1 := only_grown hg
  have hb1 : Below w0.heap.size w0 w1 := hO.below h'.bel h'.bel.size (fun k hk => (h'.row.at k hk).1)
  have t0 := h.t0
  refine ⟨by rw [cell_of hh]; rfl, free_of hh, ⟨v1, ⟨(heap_set hh 0 v1).trans rfl, ?_, h.t0, ?_⟩⟩, ?_⟩
  · unfold OwnB
    rw [List.length_append, show ub (l ++ m) = ub l ++ ub m by unfold ub; rw [List.map_append]]
    exact owns_moved hown fun k hk => heap_set_ne ((Tag.own hown hk).ne (⟨_, _, hh⟩ : Tag w1 t 86) (by decide))
  · exact (only1 w1 t 0 v1).below hb1 (by have := hb1.size; exact this) (fun k hk => by omega)
  · refine (Kp.of hb).trans ⟨by simp [World.setCell]; exact hg.size, fun k ty ht hy hk => ?_⟩
    rw [heap_set_ne hk]
    exact hg.block k ht.lt (fun e => (h'.row.tag e.symm).ne ht (fun e => hy e.symm) rfl)

set_option maxRecDepth 20000 in
set_option maxHeartbeats 2000000 in
theorem octet_w (t : Nat) (x : Int) (l : List Int) (v : Value) (w0 w : World) (h : IsW w0 w t l v) (hl : l.length ≤ 1000000) (hx : 0 ≤ x ∧ x < 256) :
    Calls Try.prog 63 #[.pointer (some ⟨t, 0, none⟩), .int .i64 x] w fun e w' => e = .returned (.tuple #[]) ∧ Wrote w0 w w' t (l ++ [x]) := by
  obtain ⟨i0, hi, hz0, hz1, hz2⟩ := info_parts Try.infoU
  have H : Hid (IsW w0 w t l v) := h
  obtain ⟨c0, cf⟩ := h.cells
  obtain ⟨a, cap, e⟩ := owns_len h.row
  subst e
  have hw8 : IntKind.u8.wrap x = x := IntWalk.u8_in x (by omega)
  clear h
  go_enter Try.func63, Try.ntmps63
  go_wp2_with (at_builtin; refine wpList_append_own_at _ rfl (.tmp 8) (.tmp 11) 22 rfl w0.heap.size 5 i0 (.int .u8 0) 1 1 Try.underlying22 hi hz0 hz1 hz2 rfl (by decide) _ l.length (ub l) rfl (World.ownsRow.alloc H.out.row _) ⟨w.heap.size, 0, none⟩ 1 1 [.int .u8 x] rfl rfl (one_at _ _ _) (one_cell _ rfl) (by unfold maxLen; omega) (by omega) (by have := H.out.bel.size; simp; omega) ?_; intro v1 w1 hown hgrow _ _; obtain ⟨d0, df, HE⟩ := H.out.push (m := [x]) (below_alloc _ _) hown hgrow; obtain ⟨a1, c1, rfl⟩ := owns_len hown; clear hown hgrow)
  go_end0
  exact ⟨rfl, HE.out⟩
end
section
open Go.RowKit

/-- a row of numbers that a call of the writer's leaves alone -/
def RowN (w : World) (t : Nat) (a : Option Addr) (xs : List Int) : Prop := ∃ g ty, a = some ⟨g, 0, none⟩ ∧ Tag w g ty ∧ ty ≠ 5 ∧ g ≠ t ∧ ∀ (i : Nat) (x : Int), xs[i]? = some x → w.cell? ⟨g, i, none⟩ = some (.int .i64 x)
theorem RowN.kp {w w' : World} {t : Nat} {a : Option Addr} {xs : List Int} (h : RowN w t a xs) (k : Kp t w w') : RowN w' t a xs := by
  obtain ⟨g, ty, ha, ht, hy, hg, hc⟩ := h
  have e := k.keep g ty ht hy hg
  refine ⟨g, ty, ha, ht.moved e, hy, hg, fun i x hx => ?_⟩
  have := hc i x hx
  unfold World.cell? at this ⊢
  simp only [] at this ⊢
  rw [e]; exact this
def numsB (xs : List Int) : List Int := xs.flatMap numI
theorem numsB_take (xs : List Int) (k : Nat) (x : Int) (h : xs[k]? = some x) : numsB (xs.take (k + 1)) = numsB (xs.take k) ++ numI x := by
  unfold numsB
  rw [List.take_add_one, h, List.flatMap_append]
  simp

theorem or128 : ∀ y : Fin 128, (y : Nat) ||| 128 = (y : Nat) + 128 := by decide
theorem i64_or128 (y : Nat) (h₁ : y < 128) : bits .or .i64 (y : Int) 128 = (y : Int) + 128 := by
  show IntKind.i64.wrap ((BitVec.ofInt 64 (y : Int) ||| BitVec.ofInt 64 128).toNat : Int) = _
  rw [BitVec.toNat_or, show (BitVec.ofInt 64 128).toNat = 128 from rfl, BitVec.toNat_ofInt, show ((y : Int) % ((2 ^ 64 : Nat) : Int)).toNat = y by omega, or128 ⟨y, h₁⟩]
  exact IntWalk.i64_in _ (by show _ ≤ (((y + 128 : Nat)) : Int) ∧ _; omega)
/-- one byte more -/
theorem Wrote.octet {w0 w wr : World} {t : Nat} {l : List Int} (h : Wrote w0 w wr t l) (x : Int) (hl : l.length ≤ 1000000) (hx : 0 ≤ x ∧ x < 256) :
    Calls Try.prog 63 #[.pointer (some ⟨t, 0, none⟩), .int .i64 x] wr fun e w' => e = .returned (.tuple #[]) ∧ Hid (Wrote w0 w w' t (l ++ [x])) := by
  obtain ⟨⟨v, hv⟩, hk⟩ := h
  exact (octet_w t x l v w0 wr hv hl hx).mono fun e w' ⟨he, hw⟩ => ⟨he, hw.1, hk.trans hw.2⟩
set_option maxRecDepth 20000 in
set_option maxHeartbeats 4000000 in
theorem numbers_w (t : Nat) (a : Option Addr) (cap : Nat) (xs : List Int) (l : List Int) (v : Value) (w0 w : World) (h : IsW w0 w t l v) (hr : RowN w t a xs) (hx : ∀ x ∈ xs, numOk x) (hl : l.length + xs.length * 6 ≤ 1000000) :
    Calls Try.prog 64 #[.pointer (some ⟨t, 0, none⟩), .slice a xs.length cap] w fun e w' => e = .returned (.tuple #[]) ∧ Wrote w0 w w' t (l ++ numsB xs) := by
  obtain ⟨n, hn⟩ : ∃ n, xs.length = n := ⟨_, rfl⟩
  rw [hn] at hl ⊢
  have H : Hid (RowN w t a xs ∧ (∀ x ∈ xs, numOk x) ∧ xs.length = n) := ⟨hr, hx, hn⟩
  have H0 : Hid (Wrote w0 w w t l) := ⟨⟨v, h⟩, Kp.refl _ _⟩
  clear hr hx hn h
  go_enter Try.func64, Try.ntmps64
  go_wp2
  go_loopw [8] (fun i wr => ∃ k : Nat, k ≤ n ∧ i = .int .i64 k ∧ Hid (Wrote w0 w wr t (l ++ numsB (xs.take k)) ∧ (numsB (xs.take k)).length ≤ k * 6)) (fun i _ => n - (intOf i).toNat)
  case atStart => exact ⟨0, Nat.zero_le _, rfl, by simpa [numsB] using H0.out, by simp [numsB]⟩
  case round =>
    obtain ⟨k, hk, rfl, hI⟩ := hrel
    by_cases hkn : k < n
    · obtain ⟨x, hx⟩ : ∃ x, xs[k]? = some x := ⟨_, List.getElem?_eq_getElem (by rw [H.out.2.2]; exact hkn)⟩
      obtain ⟨g, ty, rfl, _, _, _, hc⟩ := H.out.1.kp hI.out.1.2
      have x0 := hc k x hx
      have hki : (k : Int) < (n : Int) := by omega
      have hxo : numOk x := H.out.2.1 x (List.mem_of_getElem? hx)
      have HX : Hid (xs[k]? = some x) := hx
      clear hc hx
      go_wp2
      obtain ⟨L, hL⟩ : ∃ L, l ++ numsB (xs.take k) = L := ⟨_, rfl⟩
      have HL : Hid (l ++ numsB (xs.take k) = L ∧ L.length ≤ 999994) := ⟨hL, by have := hI.out.2; rw [← hL, List.length_append]; omega⟩
      have HI2 : Hid (Wrote w0 w wr t L) := by have := hI.out.1; rw [hL] at this; exact this
      obtain ⟨x', hx'⟩ : ∃ x' : Nat, x = (x' : Int) := ⟨x.toNat, by unfold numOk at hxo; omega⟩
      subst hx'
      have HK : Hid ((numsB (xs.take k)).length ≤ k * 6 ∧ (numI (x' : Int)).length ≤ 6) := ⟨hI.out.2, numI_len hxo⟩
      clear hL hI x0
      go_loopw [5] (fun i wr2 => ∃ (y : Nat) (m : List Int), i = .int .i64 y ∧ y ≤ 1099511627776 ∧ Hid (numI (x' : Int) = m ++ numI y ∧ Wrote w0 w wr2 t (L ++ m))) (fun i _ => (intOf i).toNat)
      case atStart => exact ⟨x', [], rfl, by unfold numOk at hxo; omega, rfl, by simpa using HI2.out⟩
      case round =>
        obtain ⟨y, m, rfl, hy, hW⟩ := hrel
        have HM : Hid ((L ++ m).length ≤ 1000000) := by
          have h1 := HL.out.2
          have h2 := HK.out.2
          rw [hW.out.1] at h2
          rw [List.length_append] at h2
          show (L ++ m).length ≤ 1000000
          rw [List.length_append]; omega
        by_cases hy1 : 128 ≤ y
        · have hyi : (128 : Int) ≤ (y : Int) := by omega
          have hand : bits .and .i64 (y : Int) 127 = ((y % 128 : Nat) : Int) := by rw [i64_and127]; omega
          obtain ⟨R, hR⟩ : ∃ R, y % 128 = R := ⟨_, rfl⟩
          rw [hR] at hand
          have hor : bits .or .i64 (R : Int) 128 = (R : Int) + 128 := i64_or128 _ (by omega)
          obtain ⟨X, hX⟩ : ∃ X, (R : Int) + 128 = X := ⟨_, rfl⟩
          rw [hX] at hor
          have HXr : Hid (X = ((y % 128 + 128 : Nat) : Int)) := by show _ = _; rw [← hX, ← hR]; omega
          have hX0 : 0 ≤ X ∧ X < 256 := by omega
          clear hX hR
          go_wp2_with (go_at_call 63; refine (hW.out.2.octet X HM.out hX0).mono ?_; rintro e w7 ⟨rfl, h7⟩)
          refine ⟨⟨y / 128, m ++ [X], ?_, by omega, ?_, ?_⟩, ?_⟩
          · show Value.int .i64 ((y : Int) / 2 ^ (7 : Int).toNat) = _
            rw [show (2 : Int) ^ (7 : Int).toNat = 128 from rfl]
            congr 1
          · rw [hW.out.1]
            unfold numI
            rw [show ((y : Int)).toNat = y by omega, show (((y / 128 : Nat) : Int)).toNat = y / 128 by omega, numB_ge (n := y) (by omega), HXr.out]
            simp
          · rw [← List.append_assoc]; exact h7.out
          · simp [intOf]; omega
        · have hyi : ¬ (128 : Int) ≤ (y : Int) := by omega
          have hy0 : (0 : Int) ≤ (y : Int) ∧ (y : Int) < 256 := by omega
          go_wp2_with (go_at_call 63; refine (hW.out.2.octet (y : Int) HM.out hy0).mono ?_; rintro e w7 ⟨rfl, h7⟩)
          refine ⟨⟨k + 1, by omega, by simp, ?_⟩, by simp [intOf]; omega⟩
          have he : numI (x' : Int) = m ++ [(y : Int)] := by rw [hW.out.1]; unfold numI; rw [show ((y : Int)).toNat = y by omega, numB_lt (by omega)]
          rw [numsB_take xs k _ HX.out, ← List.append_assoc, HL.out.1, he, ← List.append_assoc]
          refine ⟨h7.out, ?_⟩
          have := HK.out
          rw [he] at this
          rw [List.length_append]; omega
    · have hkn' : ¬ (k : Int) < (n : Int) := by omega
      have hke : xs.take k = xs := List.take_of_length_le (by rw [H.out.2.2]; omega)
      rw [hke] at hI
      go_wp2
      go_end0
      exact ⟨rfl, hI.out.1⟩
end
end Go.Proofs.Ytekonakanieeaaa
