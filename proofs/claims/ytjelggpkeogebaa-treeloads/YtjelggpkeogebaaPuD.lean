/- Lists of entries, plainly: keys and ids that are there once; sorting; lists that tell the same. -/
import Derived.Test.YtjelggpkeogebaaEnP
namespace Go.Proofs.Ytjelggpkeogebaa
section
open Go.RowKit

/-- no key twice -/
def Keyed (es : List En) : Prop := ∀ e ∈ es, ∀ f ∈ es, e.d = f.d → e.nm = f.nm → e = f
/-- no id twice -/
def Ided (es : List En) : Prop := ∀ e ∈ es, ∀ f ∈ es, e.id = f.id → e = f

theorem Rises.keyed {es : List En} (h : Rises es) : Keyed es := by
  induction es with
  | nil => intro e he; cases he
  | cons a es ih =>
    obtain ⟨h1, h2⟩ := List.pairwise_cons.1 h
    have no : ∀ f ∈ es, ¬ (a.d = f.d ∧ a.nm = f.nm) := fun f hf ⟨e1, e2⟩ => by
      have := h1 f hf
      rw [lessE_iff] at this
      rcases this with h | ⟨_, h⟩
      · omega
      · rw [e2] at h; exact List.lt_irrefl _ h
    intro e he f hf e1 e2
    rcases List.mem_cons.1 he with q | he' <;> rcases List.mem_cons.1 hf with q' | hf'
    · rw [q, q']
    · rw [q] at e1 e2; exact absurd ⟨e1, e2⟩ (no f hf')
    · rw [q'] at e1 e2; exact absurd ⟨e1.symm, e2.symm⟩ (no e he')
    · exact ih h2 e he' f hf' e1 e2
theorem Rises.apart {es : List En} (h : Rises es) : Apart es := by
  unfold Apart
  refine List.Pairwise.imp ?_ h
  rintro a b hab ⟨e1, e2⟩
  rw [lessE_iff] at hab
  rcases hab with h | ⟨_, h⟩
  · omega
  · rw [e2] at h; exact List.lt_irrefl _ h
theorem Apart.keyed {es : List En} (h : Apart es) : Keyed es := by
  induction es with
  | nil => intro e he; cases he
  | cons a es ih =>
    obtain ⟨h1, h2⟩ := List.pairwise_cons.1 h
    intro e he f hf e1 e2
    rcases List.mem_cons.1 he with q | he' <;> rcases List.mem_cons.1 hf with q' | hf'
    · rw [q, q']
    · rw [q] at e1 e2; exact absurd ⟨e1, e2⟩ (h1 f hf')
    · rw [q'] at e1 e2; exact absurd ⟨e1.symm, e2.symm⟩ (h1 e he')
    · exact ih h2 e he' f hf' e1 e2
theorem Apart.perm {l m : List En} (h : Apart l) (p : l.Perm m) : Apart m := by
  unfold Apart at *
  exact p.pairwise h (fun h ⟨a, b⟩ => h ⟨a.symm, b.symm⟩)
theorem Apart.nodup {l : List En} (h : Apart l) : l.Nodup := by
  refine List.Pairwise.imp ?_ h
  rintro a b hab rfl
  exact hab ⟨rfl, rfl⟩
theorem Keyed.perm {l m : List En} (h : Keyed l) (p : l.Perm m) : Keyed m := fun e he f hf => h e (p.mem_iff.2 he) f (p.mem_iff.2 hf)
theorem Ided.perm {l m : List En} (h : Ided l) (p : l.Perm m) : Ided m := fun e he f hf => h e (p.mem_iff.2 he) f (p.mem_iff.2 hf)
theorem perm_of_mem {l m : List En} (hl : l.Nodup) (hm : m.Nodup) (h : ∀ x, x ∈ l ↔ x ∈ m) : l.Perm m := (List.perm_ext_iff_of_nodup hl hm).2 h

/-- the entry of a key, by membership -/
theorem atE_iff {es : List En} (hk : Keyed es) (d : Int) (nm : ByteArray) (e : En) : atE es d nm = some e ↔ e ∈ es ∧ e.d = d ∧ e.nm = nm := by
  constructor
  · intro h
    unfold atE at h
    cases hq : atI es d nm with
    | none => rw [hq] at h; cases h
    | some i =>
      rw [hq] at h
      obtain ⟨e', he', h1, h2⟩ := atI_lt hq
      have : es[i]? = some e := h
      rw [he'] at this
      cases this
      exact ⟨List.mem_of_getElem? he', h1, h2⟩
  · rintro ⟨hm, h1, h2⟩
    cases hq : atI es d nm with
    | none =>
      unfold atI at hq
      rw [List.findIdx?_eq_none_iff] at hq
      have := hq e hm
      simp [h1, h2] at this
    | some i =>
      obtain ⟨e', he', g1, g2⟩ := atI_lt hq
      rw [atE_some hq he', hk e' (List.mem_of_getElem? he') e hm (g1.trans h1.symm) (g2.trans h2.symm)]
theorem atE_none_iff {es : List En} (d : Int) (nm : ByteArray) : atE es d nm = none ↔ ∀ e ∈ es, ¬ (e.d = d ∧ e.nm = nm) := by
  constructor
  · intro h e he hq
    cases hi : atI es d nm with
    | none =>
      unfold atI at hi
      rw [List.findIdx?_eq_none_iff] at hi
      have := hi e he
      simp [hq] at this
    | some i =>
      obtain ⟨e', he', _⟩ := atI_lt hi
      rw [atE_some hi he'] at h
      cases h
  · intro h
    refine atE_none (atI_miss es d nm fun j e he => h e (List.mem_of_getElem? he))
theorem atE_key {es : List En} {d : Int} {nm : ByteArray} {e : En} (h : atE es d nm = some e) : e ∈ es ∧ e.d = d ∧ e.nm = nm := by
  cases hq : atI es d nm with
  | none => rw [atE_none hq] at h; cases h
  | some i =>
    obtain ⟨e', he', h1, h2⟩ := atI_lt hq
    rw [atE_some hq he'] at h
    cases h
    exact ⟨List.mem_of_getElem? he', h1, h2⟩
theorem atE_perm {l m : List En} (hk : Keyed l) (p : l.Perm m) (d : Int) (nm : ByteArray) : atE l d nm = atE m d nm := by
  cases h : atE m d nm with
  | none => rw [atE_none_iff] at h ⊢; exact fun e he => h e (p.mem_iff.1 he)
  | some e => rw [atE_iff (hk.perm p)] at h; rw [atE_iff hk]; exact ⟨p.mem_iff.2 h.1, h.2⟩
theorem nowE_at (es : List En) (d : Int) (nm : ByteArray) : nowE es d nm = (match atE es d nm with | some e => e | none => ⟨d, nm, true, 0, 0, 0, ⟨#[]⟩⟩) := rfl
theorem nowE_perm {l m : List En} (hk : Keyed l) (p : l.Perm m) (d : Int) (nm : ByteArray) : nowE l d nm = nowE m d nm := by rw [nowE_at, nowE_at, atE_perm hk p]
theorem nodeE_iff {es : List En} (hi : Ided es) {id : Int} (h1 : id ≠ 1) (e : En) : nodeE es id = some e ↔ e ∈ es ∧ e.id = id := by
  unfold nodeE
  rw [if_neg h1]
  constructor
  · intro h
    exact ⟨List.mem_of_find?_eq_some h, by simpa using List.find?_some h⟩
  · rintro ⟨hm, he⟩
    cases hq : es.find? fun e => decide (e.id = id) with
    | none => rw [List.find?_eq_none] at hq; have := hq e hm; simp [he] at this
    | some f =>
      have h2 : f.id = id := by simpa using List.find?_some hq
      rw [hi f (List.mem_of_find?_eq_some hq) e hm (h2.trans he.symm)]
theorem nodeE_none_iff (es : List En) {id : Int} (h1 : id ≠ 1) : nodeE es id = none ↔ ∀ e ∈ es, e.id ≠ id := by
  unfold nodeE
  rw [if_neg h1, List.find?_eq_none]
  constructor
  · intro h e he; simpa using h e he
  · intro h e he; simpa using h e he
theorem nodeE_mem {es : List En} {id : Int} {e : En} (h1 : id ≠ 1) (h : nodeE es id = some e) : e ∈ es ∧ e.id = id := by
  unfold nodeE at h
  rw [if_neg h1] at h
  exact ⟨List.mem_of_find?_eq_some h, by simpa using List.find?_some h⟩
theorem nodeE_perm {l m : List En} (hi : Ided l) (p : l.Perm m) (id : Int) : nodeE l id = nodeE m id := by
  by_cases h1 : id = 1
  · subst h1; rfl
  · cases h : nodeE m id with
    | none => rw [nodeE_none_iff _ h1] at h ⊢; exact fun e he => h e (p.mem_iff.1 he)
    | some e => rw [nodeE_iff (hi.perm p) h1] at h; rw [nodeE_iff hi h1]; exact ⟨p.mem_iff.2 h.1, h.2⟩
theorem dirE_perm {l m : List En} (hi : Ided l) (p : l.Perm m) (id : Int) : dirE l id = dirE m id := by unfold dirE; rw [nodeE_perm hi p]
theorem namesN_perm {l m : List En} (p : l.Perm m) (d : Int) : namesN l d = namesN m d := (p.filter _).length_eq
theorem withinF_perm {l m : List En} (hi : Ided l) (p : l.Perm m) (n : Nat) (d a : Int) : withinF l n d a = withinF m n d a := by
  induction n generalizing d with
  | zero => rfl
  | succ n ih =>
    rw [withinF, withinF, nodeE_perm hi p]
    split
    · rfl
    · cases nodeE m d with
      | none => rfl
      | some e => 
        simp only []
        split
        · rfl
        · exact ih _
theorem namesN_pos {es : List En} {d : Int} : 0 < namesN es d ↔ ∃ e ∈ es, e.d = d := by
  unfold namesN
  rw [List.length_pos_iff_exists_mem]
  constructor
  · rintro ⟨e, he⟩
    rw [List.mem_filter] at he
    exact ⟨e, he.1, by simpa using he.2⟩
  · rintro ⟨e, he, hd⟩
    exact ⟨e, List.mem_filter.2 ⟨he, by simpa using hd⟩⟩

theorem goneL_mem {es : List En} {d : Int} {nm : ByteArray} {x : En} : x ∈ goneL es d nm ↔ x ∈ es ∧ ¬ (x.d = d ∧ x.nm = nm) := by
  unfold goneL
  rw [List.mem_filter, Bool.not_eq_true', decide_eq_false_iff_not]
theorem goneL_none {es : List En} {d : Int} {nm : ByteArray} (h : atE es d nm = none) : goneL es d nm = es := by
  unfold goneL
  rw [List.filter_eq_self]
  intro a ha
  rw [Bool.not_eq_true', decide_eq_false_iff_not]
  exact (atE_none_iff d nm).1 h a ha
theorem goneL_rises {es : List En} (h : Rises es) (d : Int) (nm : ByteArray) : Rises (goneL es d nm) := h.filter _
theorem goneL_perm {l m : List En} (p : l.Perm m) (d : Int) (nm : ByteArray) : (goneL l d nm).Perm (goneL m d nm) := p.filter _

/-- an entry put at its place -/
def insE (x : En) : List En → List En
  | [] => [x]
  | y :: l => if lessK x.d x.nm y.d y.nm then x :: y :: l else y :: insE x l
/-- entries, rising -/
def srt : List En → List En
  | [] => []
  | x :: l => insE x (srt l)
theorem insE_perm (x : En) (l : List En) : (insE x l).Perm (x :: l) := by
  induction l with
  | nil => exact List.Perm.refl _
  | cons y l ih =>
    unfold insE
    split
    · exact List.Perm.refl _
    · exact (List.Perm.cons y ih).trans (List.Perm.swap x y l)
theorem srt_perm (l : List En) : (srt l).Perm l := by
  induction l with
  | nil => exact List.Perm.refl _
  | cons x l ih => exact (insE_perm x (srt l)).trans (List.Perm.cons x ih)
theorem insE_rises {x : En} {l : List En} (h : Rises l) (hx : ∀ y ∈ l, ¬ (x.d = y.d ∧ x.nm = y.nm)) : Rises (insE x l) := by
  induction l with
  | nil => exact List.pairwise_singleton _ _
  | cons y l ih =>
    obtain ⟨h1, h2⟩ := List.pairwise_cons.1 h
    unfold insE
    split
    · rename_i hl
      refine List.pairwise_cons.2 ⟨fun z hz => ?_, h⟩
      rcases List.mem_cons.1 hz with rfl | hz
      · exact hl
      · exact lessE_trans (show lessE x y from hl) (h1 z hz)
    · rename_i hl
      refine List.pairwise_cons.2 ⟨fun z hz => ?_, ih h2 fun y hy => hx y (List.mem_cons_of_mem _ hy)⟩
      rcases List.mem_cons.1 ((insE_perm x l).mem_iff.1 hz) with rfl | hz
      · rcases lessE_total z y with h | h | h
        · exact absurd h hl
        · exact absurd h (hx y (List.mem_cons_self ..))
        · exact h
      · exact h1 z hz
theorem srt_rises {l : List En} (h : Apart l) : Rises (srt l) := by
  induction l with
  | nil => exact List.Pairwise.nil
  | cons x l ih =>
    obtain ⟨h1, h2⟩ := List.pairwise_cons.1 h
    exact insE_rises (ih h2) fun y hy => h1 y ((srt_perm l).mem_iff.1 hy)
theorem srt_mem {l : List En} {x : En} : x ∈ srt l ↔ x ∈ l := (srt_perm l).mem_iff
theorem srt_len (l : List En) : (srt l).length = l.length := (srt_perm l).length_eq
theorem Rises.srt {l m : List En} (h : Rises l) (p : l.Perm m) : srt m = l :=
  Rises.same (srt_rises (h.apart.perm p)) h fun x => by rw [srt_mem, p.mem_iff]
theorem srt_self {l : List En} (h : Rises l) : srt l = l := h.srt (List.Perm.refl _)
theorem srt_congr {l m : List En} (h : Apart l) (p : l.Perm m) : srt l = srt m :=
  Rises.same (srt_rises h) (srt_rises (h.perm p)) fun x => by rw [srt_mem, srt_mem, p.mem_iff]
theorem apart_snoc {l : List En} {x : En} (h : Apart l) (hx : ∀ y ∈ l, ¬ (y.d = x.d ∧ y.nm = x.nm)) : Apart (l ++ [x]) := by
  unfold Apart at *
  rw [List.pairwise_append]
  exact ⟨h, List.pairwise_singleton _ _, fun a ha b hb => by rw [List.mem_singleton.1 hb]; exact hx a ha⟩
theorem apart_gone_snoc {l : List En} (x : En) (h : Apart l) : Apart (goneL l x.d x.nm ++ [x]) :=
  apart_snoc (h.filter _) fun _ hy => (goneL_mem.1 hy).2

/-- what the program's put makes of a list -/
def putL (es : List En) (x : En) : List En := if x.neg then goneL es x.d x.nm else srt (goneL es x.d x.nm ++ [x])
theorem putL_rises {es : List En} (h : Rises es) (x : En) : Rises (putL es x) := by
  unfold putL
  split
  · exact goneL_rises h _ _
  · exact srt_rises (apart_gone_snoc x h.apart)
theorem putL_mem {es : List En} {x y : En} : y ∈ putL es x ↔ (y ∈ es ∧ ¬ (y.d = x.d ∧ y.nm = x.nm)) ∨ (y = x ∧ x.neg = false) := by
  unfold putL
  split
  · rename_i h; rw [goneL_mem]; simp [h]
  · rename_i h
    rw [srt_mem, List.mem_append, goneL_mem, List.mem_singleton]
    simp [h]
theorem putL_eq {es m : List En} {x : En} (h : Rises es) (hm : Apart m) (hq : ∀ y, y ∈ m ↔ (y ∈ es ∧ ¬ (y.d = x.d ∧ y.nm = x.nm)) ∨ (y = x ∧ x.neg = false)) : putL es x = srt m :=
  Rises.same (putL_rises h x) (srt_rises hm) fun y => by rw [putL_mem, srt_mem, hq]
end
section
open Go.RowKit

/-- a directory hangs on the root -/
def HangsN (es : List En) : Nat → Int → Prop
  | 0, d => d = 1
  | n + 1, d => ∃ e ∈ es, e.kind = 1 ∧ e.id = d ∧ HangsN es n e.d
def Hangs (es : List En) (d : Int) : Prop := ∃ n, HangsN es n d
theorem Hangs.root {es : List En} : Hangs es 1 := ⟨0, rfl⟩
theorem Hangs.up {es : List En} (e : En) (d : Int) (he : e ∈ es) (hk : e.kind = 1) (hi : e.id = d) (h : Hangs es e.d) : Hangs es d := by
  obtain ⟨n, hn⟩ := h
  exact ⟨n + 1, e, he, hk, hi, hn⟩
theorem Hangs.el {es : List En} {motive : (d : Int) → Hangs es d → Prop} (root : motive 1 Hangs.root) (up : ∀ (e : En) (d : Int) (he : e ∈ es) (hk : e.kind = 1) (hi : e.id = d) (hh : Hangs es e.d), motive e.d hh → motive d (Hangs.up e d he hk hi hh)) {d : Int} (h : Hangs es d) : motive d h := by
  have key : ∀ n d (hn : HangsN es n d), motive d ⟨n, hn⟩ := by
    intro n
    induction n with
    | zero => intro d hn; have : d = 1 := hn; subst this; exact root
    | succ n ih =>
      intro d hn
      obtain ⟨e, he, hk, hi, hm⟩ := hn
      exact up e d he hk hi ⟨n, hm⟩ (ih _ hm)
  obtain ⟨n, hn⟩ := h
  exact key n d hn
/-- a right list of entries -/
structure WF (M : Nms) (es : List En) (next : Int) : Prop where
  rises : Rises es
  len : es.length ≤ 47
  ids : ∀ e ∈ es, 2 ≤ e.id ∧ e.id < next
  ided : Ided es
  neg : ∀ e ∈ es, e.neg = false
  chk : ∀ e ∈ es, M.chk e.nm = 0
  ok : ∀ e ∈ es, (0 ≤ e.mode ∧ e.mode ≤ 511) ∧ (e.kind = 3 ∧ M.tgt e.tg = 0 ∨ (e.kind = 1 ∨ e.kind = 2) ∧ e.tg = ⟨#[]⟩)
  hang : ∀ e ∈ es, Hangs es e.d
  next2 : 2 ≤ next
theorem WF.keyed {M : Nms} {es : List En} {next : Int} (h : WF M es next) : Keyed es := h.rises.keyed
theorem WF.new (M : Nms) : WF M [] 2 :=
  ⟨List.Pairwise.nil, by simp, by simp, (by intro e he; cases he), by simp, by simp, by simp, by simp, by omega⟩
theorem WF.ne1 {M : Nms} {es : List En} {next : Int} (h : WF M es next) {e : En} (he : e ∈ es) : e.id ≠ 1 := by have := h.ids e he; omega
theorem WF.node {M : Nms} {es : List En} {next : Int} (h : WF M es next) {e : En} (he : e ∈ es) : nodeE es e.id = some e := (nodeE_iff h.ided (h.ne1 he) e).2 ⟨he, rfl⟩
theorem Hangs.dir {M : Nms} {es : List En} {next : Int} (h : WF M es next) {d : Int} (hd : Hangs es d) : dirE es d = 0 := by
  cases hd using Hangs.el with
  | root => unfold dirE nodeE; simp [rootEn]
  | up e d he hk hi _ => subst hi; unfold dirE; rw [h.node he]; simp [hk]
theorem WF.hangs {M : Nms} {es : List En} {next : Int} (h : WF M es next) {d : Int} (hd : dirE es d = 0) : Hangs es d := by
  by_cases h1 : d = 1
  · subst h1; exact .root
  · unfold dirE at hd
    cases hq : nodeE es d with
    | none => rw [hq] at hd; simp at hd
    | some e =>
      rw [hq] at hd
      obtain ⟨hm, hi⟩ := nodeE_mem h1 hq
      refine .up e d hm ?_ hi (h.hang e hm)
      by_cases hk : e.kind = 1
      · exact hk
      · simp [hk] at hd
theorem Hangs.mono {es fs : List En} (h : ∀ e ∈ es, e ∈ fs) {d : Int} (hd : Hangs es d) : Hangs fs d := by
  induction hd using Hangs.el with
  | root => exact .root
  | up e d he hk hi _ ih => exact .up e d (h e he) hk hi ih
/-- what hangs, and has something in it, hangs on -/
theorem Hangs.on {es fs : List En} (h : ∀ e ∈ es, e.kind = 1 → (∃ y ∈ es, y.d = e.id) → Hangs fs e.d → Hangs fs e.id) {d : Int} (hd : Hangs es d) (hc : ∃ y ∈ es, y.d = d) : Hangs fs d := by
  induction hd using Hangs.el with
  | root => exact .root
  | up e d he hk hi _ ih => subst hi; exact h e he hk hc (ih ⟨e, he, rfl⟩)
theorem Hangs.n {es : List En} {d : Int} (h : Hangs es d) : ∃ n, HangsN es n d := h
theorem HangsN.hangs {es : List En} {n : Nat} {d : Int} (h : HangsN es n d) : Hangs es d := by
  induction n generalizing d with
  | zero => cases h; exact .root
  | succ n ih => obtain ⟨e, he, hk, hi, hn⟩ := h; exact .up e d he hk hi (ih hn)
theorem HangsN.one {M : Nms} {es : List En} {next : Int} (w : WF M es next) {n m : Nat} {d : Int} (h : HangsN es n d) (k : HangsN es m d) : n = m := by
  induction n generalizing d m with
  | zero =>
    cases h
    cases m with
    | zero => rfl
    | succ m => obtain ⟨e, he, _, hi, _⟩ := k; exact absurd hi (w.ne1 he)
  | succ n ih =>
    obtain ⟨e, he, _, hi, hn⟩ := h
    cases m with
    | zero => cases k; exact absurd hi (w.ne1 he)
    | succ m =>
      obtain ⟨f, hf, _, hj, hm⟩ := k
      obtain rfl := w.ided e he f hf (hi.trans hj.symm)
      rw [ih hn hm]
theorem nodup_le : ∀ {l es : List En}, l.Nodup → (∀ e ∈ l, e ∈ es) → l.length ≤ es.length
  | [], _, _, _ => Nat.zero_le _
  | a :: l, es, hn, hs => by
    obtain ⟨h1, h2⟩ := List.nodup_cons.1 hn
    obtain ⟨s, t, hst⟩ := List.append_of_mem (hs a (List.mem_cons_self ..))
    have := nodup_le (l := l) (es := s ++ t) h2 fun e he => by
      have hm := hs e (List.mem_cons_of_mem _ he)
      rw [hst] at hm
      rcases List.mem_append.1 hm with hm | hm
      · exact List.mem_append_left _ hm
      · rcases List.mem_cons.1 hm with hm | hm
        · rw [hm] at he; exact absurd he h1
        · exact List.mem_append_right _ hm
    rw [hst]
    simp at this ⊢
    omega
theorem HangsN.chain {M : Nms} {es : List En} {next : Int} (w : WF M es next) {n : Nat} {d : Int} (h : HangsN es n d) : ∃ l : List En, l.length = n ∧ l.Nodup ∧ ∀ e ∈ l, e ∈ es ∧ ∃ m, m ≤ n ∧ HangsN es m e.id := by
  induction n generalizing d with
  | zero => exact ⟨[], rfl, List.nodup_nil, by simp⟩
  | succ n ih =>
    have h' := h
    obtain ⟨e, he, _, hi, hn⟩ := h
    obtain ⟨l, hl, hd, hm⟩ := ih hn
    subst hi
    refine ⟨e :: l, by simp [hl], List.nodup_cons.2 ⟨fun hc => ?_, hd⟩, fun f hf => ?_⟩
    · obtain ⟨_, m, hmn, hm⟩ := hm e hc
      have := hm.one w h'
      omega
    · rcases List.mem_cons.1 hf with rfl | hf
      · exact ⟨he, n + 1, Nat.le_refl _, h'⟩
      · obtain ⟨h1, m, h2, h3⟩ := hm f hf
        exact ⟨h1, m, by omega, h3⟩
theorem HangsN.le {M : Nms} {es : List En} {next : Int} (w : WF M es next) {n : Nat} {d : Int} (h : HangsN es n d) : n ≤ es.length := by
  obtain ⟨l, hl, hd, hm⟩ := h.chain w
  rw [← hl]
  exact nodup_le hd fun e he => (hm e he).1
theorem HangsN.within {M : Nms} {es : List En} {next : Int} (w : WF M es next) {n k : Nat} {d : Int} (h : HangsN es n d) (hk : n ≤ k) : withinF es (k + 1) d 1 = true := by
  induction n generalizing d k with
  | zero => cases h; exact withinF_hit _ _ _
  | succ n ih =>
    obtain ⟨e, he, _, hi, hn⟩ := h
    subst hi
    obtain ⟨k, rfl⟩ : ∃ j, k = j + 1 := ⟨k - 1, by omega⟩
    rw [withinF_up es (k + 1) e.id 1 e (w.ne1 he) (w.node he) (w.ne1 he)]
    exact ih hn (by omega)
theorem WF.within {M : Nms} {es : List En} {next : Int} (w : WF M es next) {d : Int} (h : Hangs es d) : withinF es (es.length + 1) d 1 = true := by
  obtain ⟨n, hn⟩ := h.n
  exact hn.within w (hn.le w)
/-- the converse, where each entry lies in a directory -/
theorem hangs_within {es : List En} (hd : ∀ e ∈ es, dirE es e.d = 0) {k : Nat} {d : Int} (h0 : dirE es d = 0) (h : withinF es k d 1 = true) : Hangs es d := by
  induction k generalizing d with
  | zero => cases h
  | succ k ih =>
    by_cases h1 : d = 1
    · subst h1; exact .root
    · cases hq : nodeE es d with
      | none => rw [withinF_none _ _ _ _ h1 hq] at h; cases h
      | some e =>
        obtain ⟨hm, hi⟩ := nodeE_mem h1 hq
        rw [withinF_up _ _ _ _ e h1 hq h1] at h
        refine .up e d hm ?_ hi (ih (hd e hm) h)
        unfold dirE at h0
        rw [hq] at h0
        by_cases hk : e.kind = 1
        · exact hk
        · simp [hk] at h0
/-- nothing lies in what is no directory -/
theorem within_dir {es : List En} {k : Nat} {d x : Int} (hd : Hangs es d) (hi : Ided es) (h1 : ∀ e ∈ es, e.id ≠ 1) (h : withinF es k d x = true) : x = 1 ∨ ∃ e ∈ es, e.id = x ∧ e.kind = 1 := by
  induction hd using Hangs.el generalizing k with
  | root =>
    cases k with
    | zero => cases h
    | succ k =>
      by_cases hx : (1 : Int) = x
      · exact .inl hx.symm
      · rw [withinF_root _ _ _ hx] at h; cases h
  | up e d he hk hj _ ih =>
    cases k with
    | zero => cases h
    | succ k =>
      by_cases hx : d = x
      · exact .inr ⟨e, he, hj.trans hx, hk⟩
      · subst hj
        rw [withinF_up _ _ _ _ e hx ((nodeE_iff hi (h1 e he) e).2 ⟨he, rfl⟩) (h1 e he)] at h
        exact ih h
/-- the way up does not meet x -/
def FreeN (es : List En) (x : Int) : Nat → Int → Prop
  | 0, d => d = 1
  | n + 1, d => ∃ e ∈ es, e.kind = 1 ∧ e.id = d ∧ d ≠ x ∧ FreeN es x n e.d
def Free (es : List En) (x : Int) (d : Int) : Prop := ∃ n, FreeN es x n d
theorem Free.root {es : List En} {x : Int} : Free es x 1 := ⟨0, rfl⟩
theorem Free.up {es : List En} {x : Int} (e : En) (d : Int) (he : e ∈ es) (hk : e.kind = 1) (hi : e.id = d) (hx : d ≠ x) (h : Free es x e.d) : Free es x d := by
  obtain ⟨n, hn⟩ := h
  exact ⟨n + 1, e, he, hk, hi, hx, hn⟩
theorem Free.el {es : List En} {x : Int} {motive : (d : Int) → Free es x d → Prop} (root : motive 1 Free.root) (up : ∀ (e : En) (d : Int) (he : e ∈ es) (hk : e.kind = 1) (hi : e.id = d) (hx : d ≠ x) (hh : Free es x e.d), motive e.d hh → motive d (Free.up e d he hk hi hx hh)) {d : Int} (h : Free es x d) : motive d h := by
  have key : ∀ n d (hn : FreeN es x n d), motive d ⟨n, hn⟩ := by
    intro n
    induction n with
    | zero => intro d hn; have : d = 1 := hn; subst this; exact root
    | succ n ih =>
      intro d hn
      obtain ⟨e, he, hk, hi, hx, hm⟩ := hn
      exact up e d he hk hi hx ⟨n, hm⟩ (ih _ hm)
  obtain ⟨n, hn⟩ := h
  exact key n d hn
theorem free_way {M : Nms} {es : List En} {next : Int} (w : WF M es next) {x : Int} {n k : Nat} {d : Int} (h : HangsN es n d) (hk : n ≤ k) (hw : withinF es (k + 1) d x = false) : Free es x d := by
  induction n generalizing d k with
  | zero => cases h; exact .root
  | succ n ih =>
    obtain ⟨e, he, hk1, hi, hn⟩ := h
    obtain ⟨k, rfl⟩ : ∃ j, k = j + 1 := ⟨k - 1, by omega⟩
    have hx : d ≠ x := by rintro rfl; rw [withinF_hit] at hw; cases hw
    have hx' := hx
    subst hi
    rw [withinF_up es (k + 1) e.id x e hx (w.node he) (w.ne1 he)] at hw
    exact .up e _ he hk1 rfl hx' (ih hn (by omega) hw)
theorem WF.free {M : Nms} {es : List En} {next : Int} (w : WF M es next) {x d : Int} (h : Hangs es d) (hw : withinF es (es.length + 1) d x = false) : Free es x d := by
  obtain ⟨n, hn⟩ := h.n
  exact free_way w hn (hn.le w) hw
theorem Free.hangs {es fs : List En} {x : Int} {R : En → Prop} {d : Int} (h : Free es x d) (h1 : ∀ f, R f → d ≠ f.id) (h2 : ∀ e ∈ es, ∀ f, R f → e.d ≠ f.id) (h3 : ∀ e ∈ es, e.id ≠ x → ¬ R e → e ∈ fs) : Hangs fs d := by
  induction h using Free.el with
  | root => exact .root
  | up e d he hk hi hx _ ih => exact .up e d (h3 e he (by rw [hi]; exact hx) fun hr => h1 e hr hi.symm) hk hi (ih (h2 e he))

/-- the program's way up: from what is not there to nothing -/
def upD (es : List En) (d : Int) : Int := if d = 1 then 0 else match nodeE es d with | none => 0 | some e => e.d
def insideF (es : List En) : Nat → Int → Int → Bool
  | 0, _, _ => false
  | n + 1, d, x => if d = x then true else insideF es n (upD es d) x
theorem insideF_zero {es : List En} (h0 : ∀ e ∈ es, e.id ≠ 0) {x : Int} (hx : x ≠ 0) (n : Nat) : insideF es n 0 x = false := by
  induction n with
  | zero => rfl
  | succ n ih =>
    rw [insideF, if_neg (Ne.symm hx)]
    have : upD es 0 = 0 := by unfold upD; rw [if_neg (by decide), (nodeE_none_iff es (by decide)).2 h0]
    rw [this]; exact ih
theorem insideF_within {es : List En} (h0 : ∀ e ∈ es, e.id ≠ 0) {x : Int} (hx : x ≠ 0) (n : Nat) (d : Int) : insideF es n d x = withinF es n d x := by
  induction n generalizing d with
  | zero => rfl
  | succ n ih =>
    rw [insideF]
    by_cases hd : d = x
    · subst hd; rw [if_pos rfl, withinF_hit]
    · rw [if_neg hd]
      by_cases h1 : d = 1
      · subst h1
        rw [withinF_root _ _ _ hd]
        have : upD es 1 = 0 := by unfold upD; simp
        rw [this]; exact insideF_zero h0 hx n
      · cases hq : nodeE es d with
        | none =>
          rw [withinF_none _ _ _ _ hd hq]
          have : upD es d = 0 := by unfold upD; rw [if_neg h1, hq]
          rw [this]; exact insideF_zero h0 hx n
        | some e =>
          rw [withinF_up _ _ _ _ e hd hq h1]
          have : upD es d = e.d := by unfold upD; rw [if_neg h1, hq]
          rw [this]; exact ih _
end
section
open Go.RowKit

def goneEn (d : Int) (nm : ByteArray) : En := ⟨d, nm, true, 0, 0, 0, ⟨#[]⟩⟩
def movedEn (e : En) (d : Int) (nm : ByteArray) : En := { e with d := d, nm := nm, neg := false }
/-- what a mutation that is done tells -/
def tellL (s : Tr) (o : Opn) : List En :=
  if o.kind = 5 then [⟨o.dir, o.nm, false, s.next, 2, o.mode, ⟨#[]⟩⟩]
  else if o.kind = 6 then [⟨o.dir, o.nm, false, s.next, 1, o.mode, ⟨#[]⟩⟩]
  else if o.kind = 7 then [⟨o.dir, o.nm, false, s.next, 3, 0, o.tg⟩]
  else if o.kind = 8 ∨ o.kind = 9 then [goneEn o.dir o.nm]
  else match atE s.es o.dir o.nm with
    | none => []
    | some e =>
      if o.kind = 10 then
        if o.dst = o.dir ∧ o.new = o.nm then [e]
        else if lessK o.dir o.nm o.dst o.new then [goneEn o.dir o.nm, movedEn e o.dst o.new] else [movedEn e o.dst o.new, goneEn o.dir o.nm]
      else [{ e with mode := o.mode }]
def keysL (o : Opn) : List Ky :=
  if o.kind = 10 ∧ ¬ (o.dst = o.dir ∧ o.new = o.nm) then
    if lessK o.dst o.new o.dir o.nm then [⟨o.dst, o.new⟩, ⟨o.dir, o.nm⟩] else [⟨o.dir, o.nm⟩, ⟨o.dst, o.new⟩]
  else [⟨o.dir, o.nm⟩]
def putsL (es : List En) (l : List En) : List En := l.foldl putL es
def nextL (n : Int) (l : List En) : Int := l.foldl (fun n x => if x.neg then n else max n (x.id + 1)) n
/-- is a key one of these entries'? -/
def Told (l : List En) (y : En) : Prop := ∃ x ∈ l, y.d = x.d ∧ y.nm = x.nm
theorem putsL_rises {es : List En} (h : Rises es) (l : List En) : Rises (putsL es l) := by
  induction l generalizing es with
  | nil => exact h
  | cons x l ih => exact ih (putL_rises h x)
theorem putsL_mem {es l : List En} (hl : Apart l) (y : En) : y ∈ putsL es l ↔ (y ∈ es ∧ ¬ Told l y) ∨ (y ∈ l ∧ y.neg = false) := by
  induction l generalizing es with
  | nil => simp [putsL, Told]
  | cons x l ih =>
    obtain ⟨h1, h2⟩ := List.pairwise_cons.1 hl
    have e1 : putsL es (x :: l) = putsL (putL es x) l := rfl
    rw [e1, ih h2, putL_mem]
    constructor
    · rintro (⟨(⟨ha, hb⟩ | ⟨rfl, hb⟩), hc⟩ | ⟨ha, hb⟩)
      · refine .inl ⟨ha, ?_⟩
        rintro ⟨z, hz, hq⟩
        rcases List.mem_cons.1 hz with rfl | hz
        · exact hb hq
        · exact hc ⟨z, hz, hq⟩
      · exact .inr ⟨List.mem_cons_self .., hb⟩
      · exact .inr ⟨List.mem_cons_of_mem _ ha, hb⟩
    · rintro (⟨ha, hb⟩ | ⟨ha, hb⟩)
      · exact .inl ⟨.inl ⟨ha, fun hq => hb ⟨x, List.mem_cons_self .., hq⟩⟩, fun ⟨z, hz, hq⟩ => hb ⟨z, List.mem_cons_of_mem _ hz, hq⟩⟩
      · rcases List.mem_cons.1 ha with rfl | ha
        · exact .inl ⟨.inr ⟨rfl, hb⟩, fun ⟨z, hz, hq⟩ => h1 z hz hq⟩
        · exact .inr ⟨ha, hb⟩

theorem otherE_at {es : List En} {d : Int} {nm : ByteArray} {i : Nat} (hi : atI es d nm = some i) (d2 : Int) (nm2 : ByteArray) : otherE es i d2 nm2 = if d2 = d ∧ nm2 = nm then none else atE es d2 nm2 := by
  unfold otherE
  by_cases hq : d2 = d ∧ nm2 = nm
  · obtain ⟨rfl, rfl⟩ := hq
    rw [hi, if_pos ⟨rfl, rfl⟩]; simp
  · rw [if_neg hq]
    cases hj : atI es d2 nm2 with
    | none => rw [atE_none hj]
    | some j =>
      obtain ⟨e, he, h1, h2⟩ := atI_lt hi
      obtain ⟨f, hf, g1, g2⟩ := atI_lt hj
      have : j ≠ i := by
        rintro rfl
        rw [he] at hf; cases hf
        exact hq ⟨g1.symm.trans h1, g2.symm.trans h2⟩
      simp only [if_neg this]
      rw [atE_some hj hf, hf]
theorem renamedE_at (es : List En) (d : Int) (nm : ByteArray) (d2 : Int) (nm2 : ByteArray) : renamedE es d nm d2 nm2 = match atE es d nm with | none => 40 | some e => if e.kind = 1 ∧ withinF es (es.length + 1) d2 e.id = true then 45 else renErr es e (if d2 = d ∧ nm2 = nm then none else atE es d2 nm2) := by
  unfold renamedE
  cases hi : atI es d nm with
  | none => rw [atE_none hi]
  | some i =>
    obtain ⟨e, he, _⟩ := atI_lt hi
    rw [atE_some hi he]
    simp only [he, otherE_at hi]
theorem renamedL_at (es : List En) (d : Int) (nm : ByteArray) (d2 : Int) (nm2 : ByteArray) : renamedL es d nm d2 nm2 = match atE es d nm with | none => es | some e => goneL (if (if d2 = d ∧ nm2 = nm then none else atE es d2 nm2).isSome then goneL es d2 nm2 else es) d nm ++ [movedEn e d2 nm2] := by
  unfold renamedL
  cases hi : atI es d nm with
  | none => rw [atE_none hi]
  | some i =>
    obtain ⟨e, he, _⟩ := atI_lt hi
    rw [atE_some hi he]
    simp only [he, otherE_at hi]; rfl
theorem setM_map {es : List En} (h : Apart es) (d : Int) (nm : ByteArray) (m : Int) : setM es d nm m = es.map fun x => if x.d = d ∧ x.nm = nm then { x with mode := m } else x := by
  unfold setM
  cases hi : atI es d nm with
  | none =>
    have hno := (atE_none_iff d nm).1 (atE_none hi)
    simp only []
    rw [List.map_congr_left (g := id) fun x hx => by rw [if_neg (hno x hx)]; rfl, List.map_id]
  | some i =>
    obtain ⟨e, he, h1, h2⟩ := atI_lt hi
    simp only [he]
    apply List.ext_getElem?
    intro j
    rw [List.getElem?_set, List.getElem?_map]
    have hil := (List.getElem?_eq_some_iff.1 he).1
    by_cases hij : i = j
    · subst hij
      rw [if_pos rfl, if_pos hil, he]; simp [h1, h2]
    · rw [if_neg hij]
      cases hj : es[j]? with
      | none => rfl
      | some f =>
        have hne : ¬ (f.d = d ∧ f.nm = nm) := by
          rintro ⟨g1, g2⟩
          have hjl := (List.getElem?_eq_some_iff.1 hj).1
          have e1 := (List.getElem?_eq_some_iff.1 he).2
          have e2 := (List.getElem?_eq_some_iff.1 hj).2
          unfold Apart at h
          rw [List.pairwise_iff_getElem] at h
          rcases Nat.lt_or_gt_of_ne hij with hlt | hlt
          · have := h i j hil hjl hlt
            rw [e1, e2] at this
            exact this ⟨h1.trans g1.symm, h2.trans g2.symm⟩
          · have := h j i hjl hil hlt
            rw [e1, e2] at this
            exact this ⟨g1.trans h1.symm, g2.trans h2.symm⟩
        simp [hne]

def kindP (k : Int) : Int := if k = 5 then 2 else if k = 6 then 1 else 3
/-- the shapes of a mutation that is done: something new, something gone, something moved, something turned -/
structure DMade (M : Nms) (s : Tr) (o : Opn) (x : En) : Prop where
  hk : o.kind = 5 ∨ o.kind = 6 ∨ o.kind = 7
  hd : x.d = o.dir
  hnm : x.nm = o.nm
  hneg : x.neg = false
  hid : x.id = s.next
  hkind : x.kind = kindP o.kind
  hok : (0 ≤ x.mode ∧ x.mode ≤ 511) ∧ (x.kind = 3 ∧ M.tgt x.tg = 0 ∨ (x.kind = 1 ∨ x.kind = 2) ∧ x.tg = ⟨#[]⟩)
  hno : atE s.es o.dir o.nm = none
  hdir : dirE s.es o.dir = 0
  hchk : M.chk o.nm = 0
  hroom : s.es.length < 47
  hT : tellL s o = [x]
  hL : doesL s o = s.es ++ [x]
  hN : doesN s o = s.next + 1
structure DGone (M : Nms) (s : Tr) (o : Opn) (e : En) : Prop where
  hk : o.kind = 8 ∨ o.kind = 9
  he : e ∈ s.es
  hd : e.d = o.dir
  hnm : e.nm = o.nm
  hempty : ∀ y ∈ s.es, y.d ≠ e.id
  hT : tellL s o = [goneEn o.dir o.nm]
  hL : doesL s o = goneL s.es o.dir o.nm
  hN : doesN s o = s.next
structure DMoved (M : Nms) (s : Tr) (o : Opn) (e : En) : Prop where
  hk : o.kind = 10
  he : e ∈ s.es
  hd : e.d = o.dir
  hnm : e.nm = o.nm
  hne : ¬ (o.dst = o.dir ∧ o.new = o.nm)
  hdir : dirE s.es o.dst = 0
  hchk : M.chk o.new = 0
  hfree : withinF s.es (s.es.length + 1) o.dst e.id = false
  hto : ∀ f, atE s.es o.dst o.new = some f → ∀ y ∈ s.es, y.d ≠ f.id
  hT : tellL s o = if lessK o.dir o.nm o.dst o.new then [goneEn o.dir o.nm, movedEn e o.dst o.new] else [movedEn e o.dst o.new, goneEn o.dir o.nm]
  hL : doesL s o = goneL (if (atE s.es o.dst o.new).isSome then goneL s.es o.dst o.new else s.es) o.dir o.nm ++ [movedEn e o.dst o.new]
  hN : doesN s o = s.next
structure DSet (M : Nms) (s : Tr) (o : Opn) (e x : En) : Prop where
  he : e ∈ s.es
  hd : e.d = o.dir
  hnm : e.nm = o.nm
  hx : x = { e with mode := x.mode }
  hm : 0 ≤ x.mode ∧ x.mode ≤ 511
  hk : o.kind = 11 ∧ x.mode = o.mode ∨ o.kind = 10 ∧ x = e ∧ o.dst = o.dir ∧ o.new = o.nm
  hT : tellL s o = [x]
  hL : ∀ y, y ∈ doesL s o ↔ (y ∈ s.es ∧ ¬ (y.d = o.dir ∧ y.nm = o.nm)) ∨ y = x
  hA : Apart (doesL s o)
  hl : (doesL s o).length ≤ 47
  hN : doesN s o = s.next
def Deed (M : Nms) (s : Tr) (o : Opn) : Prop := (∃ x, DMade M s o x) ∨ (∃ e, DGone M s o e) ∨ (∃ e, DMoved M s o e) ∨ (∃ e x, DSet M s o e x)
theorem Deed.made {M : Nms} {s : Tr} {o : Opn} (x : En) (hk : o.kind = 5 ∨ o.kind = 6 ∨ o.kind = 7) (hd : x.d = o.dir) (hnm : x.nm = o.nm) (hneg : x.neg = false) (hid : x.id = s.next) (hkind : x.kind = kindP o.kind) (hok : (0 ≤ x.mode ∧ x.mode ≤ 511) ∧ (x.kind = 3 ∧ M.tgt x.tg = 0 ∨ (x.kind = 1 ∨ x.kind = 2) ∧ x.tg = ⟨#[]⟩)) (hno : atE s.es o.dir o.nm = none) (hdir : dirE s.es o.dir = 0) (hchk : M.chk o.nm = 0) (hroom : s.es.length < 47) (hT : tellL s o = [x]) (hL : doesL s o = s.es ++ [x]) (hN : doesN s o = s.next + 1) : Deed M s o := .inl ⟨x, ⟨hk, hd, hnm, hneg, hid, hkind, hok, hno, hdir, hchk, hroom, hT, hL, hN⟩⟩
theorem Deed.gone {M : Nms} {s : Tr} {o : Opn} (e : En) (hk : o.kind = 8 ∨ o.kind = 9) (he : e ∈ s.es) (hd : e.d = o.dir) (hnm : e.nm = o.nm) (hempty : ∀ y ∈ s.es, y.d ≠ e.id) (hT : tellL s o = [goneEn o.dir o.nm]) (hL : doesL s o = goneL s.es o.dir o.nm) (hN : doesN s o = s.next) : Deed M s o := .inr (.inl ⟨e, ⟨hk, he, hd, hnm, hempty, hT, hL, hN⟩⟩)
theorem Deed.moved {M : Nms} {s : Tr} {o : Opn} (e : En) (hk : o.kind = 10) (he : e ∈ s.es) (hd : e.d = o.dir) (hnm : e.nm = o.nm) (hne : ¬ (o.dst = o.dir ∧ o.new = o.nm)) (hdir : dirE s.es o.dst = 0) (hchk : M.chk o.new = 0) (hfree : withinF s.es (s.es.length + 1) o.dst e.id = false) (hto : ∀ f, atE s.es o.dst o.new = some f → ∀ y ∈ s.es, y.d ≠ f.id) (hT : tellL s o = if lessK o.dir o.nm o.dst o.new then [goneEn o.dir o.nm, movedEn e o.dst o.new] else [movedEn e o.dst o.new, goneEn o.dir o.nm]) (hL : doesL s o = goneL (if (atE s.es o.dst o.new).isSome then goneL s.es o.dst o.new else s.es) o.dir o.nm ++ [movedEn e o.dst o.new]) (hN : doesN s o = s.next) : Deed M s o := .inr (.inr (.inl ⟨e, ⟨hk, he, hd, hnm, hne, hdir, hchk, hfree, hto, hT, hL, hN⟩⟩))
theorem Deed.set {M : Nms} {s : Tr} {o : Opn} (e x : En) (he : e ∈ s.es) (hd : e.d = o.dir) (hnm : e.nm = o.nm) (hx : x = { e with mode := x.mode }) (hm : 0 ≤ x.mode ∧ x.mode ≤ 511) (hk : o.kind = 11 ∧ x.mode = o.mode ∨ o.kind = 10 ∧ x = e ∧ o.dst = o.dir ∧ o.new = o.nm) (hT : tellL s o = [x]) (hL : ∀ y, y ∈ doesL s o ↔ (y ∈ s.es ∧ ¬ (y.d = o.dir ∧ y.nm = o.nm)) ∨ y = x) (hA : Apart (doesL s o)) (hl : (doesL s o).length ≤ 47) (hN : doesN s o = s.next) : Deed M s o := .inr (.inr (.inr ⟨e, x, ⟨he, hd, hnm, hx, hm, hk, hT, hL, hA, hl, hN⟩⟩))
theorem Deed.el {M : Nms} {s : Tr} {o : Opn} {motive : Deed M s o → Prop}
    (made : ∀ (x : En) (hk : o.kind = 5 ∨ o.kind = 6 ∨ o.kind = 7) (hd : x.d = o.dir) (hnm : x.nm = o.nm) (hneg : x.neg = false) (hid : x.id = s.next) (hkind : x.kind = kindP o.kind) (hok : (0 ≤ x.mode ∧ x.mode ≤ 511) ∧ (x.kind = 3 ∧ M.tgt x.tg = 0 ∨ (x.kind = 1 ∨ x.kind = 2) ∧ x.tg = ⟨#[]⟩)) (hno : atE s.es o.dir o.nm = none) (hdir : dirE s.es o.dir = 0) (hchk : M.chk o.nm = 0) (hroom : s.es.length < 47) (hT : tellL s o = [x]) (hL : doesL s o = s.es ++ [x]) (hN : doesN s o = s.next + 1), motive (Deed.made x hk hd hnm hneg hid hkind hok hno hdir hchk hroom hT hL hN))
    (gone : ∀ (e : En) (hk : o.kind = 8 ∨ o.kind = 9) (he : e ∈ s.es) (hd : e.d = o.dir) (hnm : e.nm = o.nm) (hempty : ∀ y ∈ s.es, y.d ≠ e.id) (hT : tellL s o = [goneEn o.dir o.nm]) (hL : doesL s o = goneL s.es o.dir o.nm) (hN : doesN s o = s.next), motive (Deed.gone e hk he hd hnm hempty hT hL hN))
    (moved : ∀ (e : En) (hk : o.kind = 10) (he : e ∈ s.es) (hd : e.d = o.dir) (hnm : e.nm = o.nm) (hne : ¬ (o.dst = o.dir ∧ o.new = o.nm)) (hdir : dirE s.es o.dst = 0) (hchk : M.chk o.new = 0) (hfree : withinF s.es (s.es.length + 1) o.dst e.id = false) (hto : ∀ f, atE s.es o.dst o.new = some f → ∀ y ∈ s.es, y.d ≠ f.id) (hT : tellL s o = if lessK o.dir o.nm o.dst o.new then [goneEn o.dir o.nm, movedEn e o.dst o.new] else [movedEn e o.dst o.new, goneEn o.dir o.nm]) (hL : doesL s o = goneL (if (atE s.es o.dst o.new).isSome then goneL s.es o.dst o.new else s.es) o.dir o.nm ++ [movedEn e o.dst o.new]) (hN : doesN s o = s.next), motive (Deed.moved e hk he hd hnm hne hdir hchk hfree hto hT hL hN))
    (set : ∀ (e x : En) (he : e ∈ s.es) (hd : e.d = o.dir) (hnm : e.nm = o.nm) (hx : x = { e with mode := x.mode }) (hm : 0 ≤ x.mode ∧ x.mode ≤ 511) (hk : o.kind = 11 ∧ x.mode = o.mode ∨ o.kind = 10 ∧ x = e ∧ o.dst = o.dir ∧ o.new = o.nm) (hT : tellL s o = [x]) (hL : ∀ y, y ∈ doesL s o ↔ (y ∈ s.es ∧ ¬ (y.d = o.dir ∧ y.nm = o.nm)) ∨ y = x) (hA : Apart (doesL s o)) (hl : (doesL s o).length ≤ 47) (hN : doesN s o = s.next), motive (Deed.set e x he hd hnm hx hm hk hT hL hA hl hN))
    (h : Deed M s o) : motive h := by
  rcases h with ⟨x, h⟩ | ⟨e, h⟩ | ⟨e, h⟩ | ⟨e, x, h⟩
  · exact made x h.hk h.hd h.hnm h.hneg h.hid h.hkind h.hok h.hno h.hdir h.hchk h.hroom h.hT h.hL h.hN
  · exact gone e h.hk h.he h.hd h.hnm h.hempty h.hT h.hL h.hN
  · exact moved e h.hk h.he h.hd h.hnm h.hne h.hdir h.hchk h.hfree h.hto h.hT h.hL h.hN
  · exact set e x h.he h.hd h.hnm h.hx h.hm h.hk h.hT h.hL h.hA h.hl h.hN

theorem named_ok {M : Nms} {es : List En} {d : Int} {nm : ByteArray} (h : namedE M es d nm = 0) : dirE es d = 0 ∧ M.chk nm = 0 := by
  unfold namedE at h
  by_cases hd : dirE es d = 0
  · rw [if_pos hd] at h; exact ⟨hd, h⟩
  · rw [if_neg hd] at h; exact absurd h hd
theorem bad_ok {m : Int} (h : badM m = false) : 0 ≤ m ∧ m ≤ 511 := by
  unfold badM at h
  simp at h
  omega
theorem made_ok {es : List En} {d : Int} {nm : ByteArray} (h : madeE es d nm = 0) : atE es d nm = none ∧ es.length < 47 := by
  unfold madeE at h
  cases hq : atE es d nm with
  | some e => rw [hq] at h; simp at h
  | none =>
    rw [hq] at h
    refine ⟨rfl, ?_⟩
    simp at h
    omega
theorem WF.file {M : Nms} {es : List En} {next : Int} (w : WF M es next) {e : En} (he : e ∈ es) (hk : ¬ e.kind = 1) : ∀ y ∈ es, y.d ≠ e.id := by
  intro y hy h
  have := (w.hang y hy).dir w
  rw [h] at this
  unfold dirE at this
  rw [w.node he] at this
  simp [hk] at this
theorem none_in {es : List En} {d : Int} (h : ¬ 0 < namesN es d) : ∀ y ∈ es, y.d ≠ d := fun y hy hq => h (namesN_pos.2 ⟨y, hy, hq⟩)
theorem doesE_kind {M : Nms} {s : Tr} {o : Opn} (h : doesE M s o = 0) : 5 ≤ o.kind ∧ o.kind ≤ 11 ∧ namedE M s.es o.dir o.nm = 0 := by
  unfold doesE at h
  by_cases h1 : o.kind < 5 ∨ 11 < o.kind
  · rw [if_pos h1] at h; simp at h
  · rw [if_neg h1] at h
    by_cases h2 : namedE M s.es o.dir o.nm = 0
    · exact ⟨by omega, by omega, h2⟩
    · rw [if_pos h2] at h; exact absurd h h2
theorem apart_map {es : List En} (h : Apart es) (f : En → En) (hf : ∀ x, (f x).d = x.d ∧ (f x).nm = x.nm) : Apart (es.map f) := by
  unfold Apart at *
  rw [List.pairwise_map]
  refine h.imp ?_
  rintro a b hab ⟨h1, h2⟩
  exact hab ⟨(hf a).1.symm.trans (h1.trans (hf b).1), (hf a).2.symm.trans (h2.trans (hf b).2)⟩

theorem deed {M : Nms} {s : Tr} {o : Opn} (w : WF M s.es s.next) (h : doesE M s o = 0) : Deed M s o := by
  obtain ⟨k5, k11, hn⟩ := doesE_kind h
  obtain ⟨hdir, hchk⟩ := named_ok hn
  unfold doesE at h
  rw [if_neg (by omega), hn] at h
  simp only [ne_eq, not_true_eq_false, if_false] at h
  rcases (show o.kind = 5 ∨ o.kind = 6 ∨ o.kind = 7 ∨ o.kind = 8 ∨ o.kind = 9 ∨ o.kind = 10 ∨ o.kind = 11 by omega) with hk | hk | hk | hk | hk | hk | hk
  · simp [hk] at h
    cases hb : badM o.mode with
    | true => simp [hb] at h
    | false =>
      simp [hb] at h
      obtain ⟨hno, hroom⟩ := made_ok h
      exact .made ⟨o.dir, o.nm, false, s.next, 2, o.mode, ⟨#[]⟩⟩ (.inl hk) rfl rfl rfl rfl (by simp [kindP, hk]) ⟨bad_ok hb, .inr ⟨.inr rfl, rfl⟩⟩ hno hdir hchk hroom (by simp [tellL, hk]) (by simp [doesL, hk]) (by simp [doesN, hk])
  · simp [hk] at h
    cases hb : badM o.mode with
    | true => simp [hb] at h
    | false =>
      simp [hb] at h
      obtain ⟨hno, hroom⟩ := made_ok h
      exact .made ⟨o.dir, o.nm, false, s.next, 1, o.mode, ⟨#[]⟩⟩ (.inr (.inl hk)) rfl rfl rfl rfl (by simp [kindP, hk]) ⟨bad_ok hb, .inr ⟨.inl rfl, rfl⟩⟩ hno hdir hchk hroom (by simp [tellL, hk]) (by simp [doesL, hk]) (by simp [doesN, hk])
  · simp [hk] at h
    by_cases ht : M.tgt o.tg = 0
    · simp [ht] at h
      obtain ⟨hno, hroom⟩ := made_ok h
      exact .made ⟨o.dir, o.nm, false, s.next, 3, 0, o.tg⟩ (.inr (.inr hk)) rfl rfl rfl rfl (by simp [kindP, hk]) ⟨⟨Int.le_refl _, (by show (0 : Int) ≤ 511; decide)⟩, .inl ⟨rfl, ht⟩⟩ hno hdir hchk hroom (by simp [tellL, hk]) (by simp [doesL, hk]) (by simp [doesN, hk])
    · simp [ht] at h
  · simp [hk] at h
    unfold removedE at h
    cases hq : atE s.es o.dir o.nm with
    | none => rw [hq] at h; simp at h
    | some e =>
      rw [hq] at h
      obtain ⟨he, h1, h2⟩ := atE_key hq
      have hkd : ¬ e.kind = 1 := by intro hh; simp [hh] at h
      exact .gone e (.inl hk) he h1 h2 (w.file he hkd) (by simp [tellL, hk]) (by simp [doesL, hk]) (by simp [doesN, hk])
  · simp [hk] at h
    unfold removedE at h
    cases hq : atE s.es o.dir o.nm with
    | none => rw [hq] at h; simp at h
    | some e =>
      rw [hq] at h
      obtain ⟨he, h1, h2⟩ := atE_key hq
      have hkd : e.kind = 1 := by
        by_cases hh : e.kind = 1
        · exact hh
        · simp [hh] at h
      have hn0 : ¬ 0 < namesN s.es e.id := by intro hh; simp [hkd, hh] at h
      exact .gone e (.inr hk) he h1 h2 (none_in hn0) (by simp [tellL, hk]) (by simp [doesL, hk]) (by simp [doesN, hk])
  · simp [hk] at h
    by_cases hn2 : namedE M s.es o.dst o.new = 0
    · simp [hn2] at h
      obtain ⟨hdir2, hchk2⟩ := named_ok hn2
      rw [renamedE_at] at h
      cases hq : atE s.es o.dir o.nm with
      | none => rw [hq] at h; simp at h
      | some e =>
        rw [hq] at h
        simp only at h
        obtain ⟨he, h1, h2⟩ := atE_key hq
        by_cases hw : e.kind = 1 ∧ withinF s.es (s.es.length + 1) o.dst e.id = true
        · rw [if_pos hw] at h; simp at h
        · rw [if_neg hw] at h
          have hfree : withinF s.es (s.es.length + 1) o.dst e.id = false := by
            cases hv : withinF s.es (s.es.length + 1) o.dst e.id with
            | false => rfl
            | true =>
              rcases within_dir (w.hangs hdir2) w.ided (fun e he => w.ne1 he) hv with h3 | ⟨f, hf, h3, h4⟩
              · exact absurd h3 (w.ne1 he)
              · obtain rfl := w.ided f hf e he h3
                exact absurd ⟨h4, hv⟩ hw
          by_cases hs : o.dst = o.dir ∧ o.new = o.nm
          · have hL : doesL s o = goneL s.es o.dir o.nm ++ [e] := by
              unfold doesL
              simp only [hk]
              simp only [show ¬ ((10 : Int) = 5) by decide, show ¬ ((10 : Int) = 6) by decide, show ¬ ((10 : Int) = 7) by decide, show ¬ ((10 : Int) = 8 ∨ (10 : Int) = 9) by decide, if_false, if_true]
              rw [renamedL_at, hq, hs.1, hs.2]
              simp [movedEn]
              rw [← h1, ← h2, ← w.neg e he]
            refine .set e e he h1 h2 rfl (w.ok e he).1 (.inr ⟨hk, rfl, hs⟩) (by simp [tellL, hk, hq, hs]) (fun y => ?_) ?_ ?_ (by simp [doesN, hk])
            · rw [hL, List.mem_append, goneL_mem, List.mem_singleton]
            · rw [hL, ← h1, ← h2]; exact apart_gone_snoc e w.rises.apart
            · rw [hL, List.length_append]
              have : (goneL s.es o.dir o.nm).length < s.es.length := by
                unfold goneL
                rw [List.length_filter_lt_length_iff_exists]
                exact ⟨e, he, by simp [h1, h2]⟩
              have := w.len
              simp; omega
          · rw [if_neg hs] at h
            refine .moved e hk he h1 h2 hs hdir2 hchk2 hfree (fun f hf => ?_) (by simp [tellL, hk, hq, hs]) ?_ (by simp [doesN, hk])
            · rw [hf] at h
              obtain ⟨hfm, _⟩ := atE_key hf
              by_cases hf1 : f.kind = 1
              · have hn0 : ¬ 0 < namesN s.es f.id := by
                  intro hh
                  unfold renErr at h
                  by_cases he1 : e.kind = 1 <;> simp [he1, hf1, hh] at h
                exact none_in hn0
              · exact w.file hfm hf1
            · unfold doesL
              simp only [hk]
              simp only [show ¬ ((10 : Int) = 5) by decide, show ¬ ((10 : Int) = 6) by decide, show ¬ ((10 : Int) = 7) by decide, show ¬ ((10 : Int) = 8 ∨ (10 : Int) = 9) by decide, if_false, if_true]
              rw [renamedL_at, hq]
              simp only [if_neg hs]
    · simp [hn2] at h
  · simp [hk] at h
    cases hb : badM o.mode with
    | true => simp [hb] at h
    | false =>
      simp [hb] at h
      cases hq : atE s.es o.dir o.nm with
      | none => rw [hq] at h; simp at h
      | some e =>
        obtain ⟨he, h1, h2⟩ := atE_key hq
        have hL : doesL s o = s.es.map fun x => if x.d = o.dir ∧ x.nm = o.nm then { x with mode := o.mode } else x := by
          unfold doesL
          simp only [hk]
          simp only [show ¬ ((11 : Int) = 5) by decide, show ¬ ((11 : Int) = 6) by decide, show ¬ ((11 : Int) = 7) by decide, show ¬ ((11 : Int) = 8 ∨ (11 : Int) = 9) by decide, show ¬ ((11 : Int) = 10) by decide, if_false]
          exact setM_map w.rises.apart _ _ _
        refine .set e { e with mode := o.mode } he h1 h2 rfl (bad_ok hb) (.inl ⟨hk, rfl⟩) (by simp [tellL, hk, hq]) (fun y => ?_) ?_ ?_ (by simp [doesN, hk])
        · rw [hL, List.mem_map]
          constructor
          · rintro ⟨z, hz, rfl⟩
            by_cases hzq : z.d = o.dir ∧ z.nm = o.nm
            · obtain rfl := w.keyed z hz e he (hzq.1.trans h1.symm) (hzq.2.trans h2.symm)
              right; rw [if_pos hzq]
            · left; rw [if_neg hzq]; exact ⟨hz, hzq⟩
          · rintro (⟨hz, hzq⟩ | rfl)
            · exact ⟨y, hz, by rw [if_neg hzq]⟩
            · exact ⟨e, he, by rw [if_pos ⟨h1, h2⟩]⟩
        · rw [hL]
          refine apart_map w.rises.apart _ fun x => ?_
          split <;> exact ⟨rfl, rfl⟩
        · rw [hL, List.length_map]; exact w.len
end
section
open Go.RowKit

theorem lessK_not {d d2 : Int} {nm nm2 : ByteArray} (h : lessK d nm d2 nm2 = true) : ¬ (d2 = d ∧ nm2 = nm) := by
  rintro ⟨rfl, rfl⟩
  exact lessE_irrefl ⟨d2, nm2, false, 0, 0, 0, ⟨#[]⟩⟩ h
theorem lessK_flip {d d2 : Int} {nm nm2 : ByteArray} (h : lessK d nm d2 nm2 = false) (hne : ¬ (d2 = d ∧ nm2 = nm)) : lessK d2 nm2 d nm = true := by
  rcases lessE_total ⟨d, nm, false, 0, 0, 0, ⟨#[]⟩⟩ ⟨d2, nm2, false, 0, 0, 0, ⟨#[]⟩⟩ with k | ⟨k1, k2⟩ | k
  · unfold lessE at k; rw [h] at k; cases k
  · exact absurd ⟨k1.symm, k2.symm⟩ hne
  · exact k
theorem lessK_asym {d d2 : Int} {nm nm2 : ByteArray} (h : lessK d nm d2 nm2 = true) : lessK d2 nm2 d nm = false := by
  cases k : lessK d2 nm2 d nm with
  | false => rfl
  | true => exact absurd (lessE_trans (e := ⟨d, nm, false, 0, 0, 0, ⟨#[]⟩⟩) (f := ⟨d2, nm2, false, 0, 0, 0, ⟨#[]⟩⟩) (g := ⟨d, nm, false, 0, 0, 0, ⟨#[]⟩⟩) h k) (lessE_irrefl _)

/-- what is told: no key twice; what is nothing is plainly nothing -/
theorem tell_apart {M : Nms} {s : Tr} {o : Opn} (h : Deed M s o) : Apart (tellL s o) := by
  cases h using Deed.el with
  | made x _ _ _ _ _ _ _ _ _ _ _ hT => rw [hT]; exact List.pairwise_singleton _ _
  | gone e _ _ _ _ _ hT => rw [hT]; exact List.pairwise_singleton _ _
  | set e x _ _ _ _ _ _ hT => rw [hT]; exact List.pairwise_singleton _ _
  | moved e hk he hd hnm hne _ _ _ _ hT =>
    rw [hT]
    split
    · refine List.pairwise_cons.2 ⟨fun y hy => ?_, List.pairwise_singleton _ _⟩
      rw [List.mem_singleton.1 hy]
      rintro ⟨h1, h2⟩
      exact hne ⟨h1.symm, h2.symm⟩
    · refine List.pairwise_cons.2 ⟨fun y hy => ?_, List.pairwise_singleton _ _⟩
      rw [List.mem_singleton.1 hy]
      exact hne
theorem tell_neg {M : Nms} {s : Tr} {o : Opn} (w : WF M s.es s.next) (h : Deed M s o) : ∀ x ∈ tellL s o, x.neg = true → x = goneEn x.d x.nm := by
  cases h using Deed.el with
  | made x _ _ _ hneg _ _ _ _ _ _ _ hT => rw [hT]; intro y hy hq; rw [List.mem_singleton.1 hy, hneg] at hq; cases hq
  | gone e _ _ _ _ _ hT => rw [hT]; intro y hy hq; rw [List.mem_singleton.1 hy]; rfl
  | set e x he _ _ hx _ _ hT => rw [hT]; intro y hy hq; rw [List.mem_singleton.1 hy, hx] at hq; have := w.neg e he; simp [this] at hq
  | moved e hk he hd hnm hne _ _ _ _ hT =>
    rw [hT]
    intro y hy hq
    have : y = goneEn o.dir o.nm ∨ y = movedEn e o.dst o.new := by
      split at hy <;> simp at hy <;> first | exact hy | exact hy.symm
    rcases this with rfl | rfl
    · rfl
    · cases hq
/-- what is there behind it -/
theorem does_mem {M : Nms} {s : Tr} {o : Opn} (w : WF M s.es s.next) (h : Deed M s o) (y : En) : y ∈ doesL s o ↔ (y ∈ s.es ∧ ¬ Told (tellL s o) y) ∨ (y ∈ tellL s o ∧ y.neg = false) := by
  cases h using Deed.el with
  | made x _ hd hnm hneg _ _ _ hno _ _ _ hT hL =>
    rw [hT, hL, List.mem_append, List.mem_singleton]
    constructor
    · rintro (hy | rfl)
      · refine .inl ⟨hy, ?_⟩
        rintro ⟨z, hz, hq⟩
        rw [List.mem_singleton.1 hz, hd, hnm] at hq
        exact (atE_none_iff _ _).1 hno y hy hq
      · exact .inr ⟨rfl, hneg⟩
    · rintro (hy | hy)
      · exact .inl hy.1
      · exact .inr hy.1
  | gone e _ _ _ _ _ hT hL =>
    rw [hT, hL, goneL_mem, List.mem_singleton]
    constructor
    · rintro ⟨hy, hq⟩
      exact .inl ⟨hy, fun ⟨z, hz, hk⟩ => by rw [List.mem_singleton.1 hz] at hk; exact hq hk⟩
    · rintro (⟨hy, hq⟩ | ⟨rfl, hq⟩)
      · exact ⟨hy, fun hk => hq ⟨_, List.mem_singleton.2 rfl, hk⟩⟩
      · cases hq
  | set e x he hd hnm hx _ _ hT hL =>
    have hxn : x.neg = false := by rw [hx]; exact w.neg e he
    have hxk : x.d = o.dir ∧ x.nm = o.nm := by rw [hx]; exact ⟨hd, hnm⟩
    rw [hT, hL, List.mem_singleton]
    constructor
    · rintro (⟨hy, hq⟩ | rfl)
      · exact .inl ⟨hy, fun ⟨z, hz, hk⟩ => by rw [List.mem_singleton.1 hz, hxk.1, hxk.2] at hk; exact hq hk⟩
      · exact .inr ⟨rfl, hxn⟩
    · rintro (⟨hy, hq⟩ | ⟨rfl, hq⟩)
      · exact .inl ⟨hy, fun hk => hq ⟨_, List.mem_singleton.2 rfl, by rw [hxk.1, hxk.2]; exact hk⟩⟩
      · exact .inr rfl
  | moved e hk he hd hnm hne _ _ _ _ hT hL =>
    have hm : ∀ z, z ∈ tellL s o ↔ z = goneEn o.dir o.nm ∨ z = movedEn e o.dst o.new := by
      intro z
      rw [hT]
      split
      · simp
      · simp [or_comm]
    have hg : ∀ z, z ∈ (if (atE s.es o.dst o.new).isSome then goneL s.es o.dst o.new else s.es) ↔ z ∈ s.es ∧ ¬ (z.d = o.dst ∧ z.nm = o.new) := by
      intro z
      split
      · exact goneL_mem
      · rename_i hq
        have hq : atE s.es o.dst o.new = none := by simpa using hq
        exact ⟨fun hz => ⟨hz, (atE_none_iff _ _).1 hq z hz⟩, fun hz => hz.1⟩
    rw [hL, List.mem_append, goneL_mem, List.mem_singleton, hg]
    constructor
    · rintro (⟨⟨hy, h2⟩, h1⟩ | rfl)
      · refine .inl ⟨hy, ?_⟩
        rintro ⟨z, hz, hq⟩
        rcases (hm z).1 hz with rfl | rfl
        · exact h1 hq
        · exact h2 hq
      · exact .inr ⟨(hm _).2 (.inr rfl), rfl⟩
    · rintro (⟨hy, hq⟩ | ⟨hy, hq⟩)
      · exact .inl ⟨⟨hy, fun hk => hq ⟨_, (hm _).2 (.inr rfl), hk⟩⟩, fun hk => hq ⟨_, (hm _).2 (.inl rfl), hk⟩⟩
      · rcases (hm y).1 hy with rfl | rfl
        · cases hq
        · exact .inr rfl
theorem does_apart {M : Nms} {s : Tr} {o : Opn} (w : WF M s.es s.next) (h : Deed M s o) : Apart (doesL s o) := by
  cases h using Deed.el with
  | made x _ hd hnm hneg _ _ _ hno _ _ _ hT hL => rw [hL]; exact apart_snoc w.rises.apart fun y hy => by rw [hd, hnm]; exact (atE_none_iff _ _).1 hno y hy
  | gone e _ _ _ _ _ hT hL => rw [hL]; exact w.rises.apart.filter _
  | set e x he hd hnm hx _ _ hT hL hA => exact hA
  | moved e hk he hd hnm hne _ _ _ _ hT hL =>
    rw [hL]
    refine apart_snoc ?_ fun y hy => ?_
    · split
      · exact (w.rises.apart.filter _).filter _
      · exact w.rises.apart.filter _
    · have := (goneL_mem.1 hy).1
      split at this
      · exact (goneL_mem.1 this).2
      · rename_i hq
        have hq : atE s.es o.dst o.new = none := by simpa using hq
        exact (atE_none_iff _ _).1 hq y this
theorem does_len {M : Nms} {s : Tr} {o : Opn} (w : WF M s.es s.next) (h : Deed M s o) : (doesL s o).length ≤ 47 := by
  have hl := w.len
  cases h using Deed.el with
  | made x _ hd hnm hneg _ _ _ hno _ _ hroom hT hL => rw [hL]; simp; omega
  | gone e _ _ _ _ _ hT hL => rw [hL]; have := goneL_le s.es o.dir o.nm; omega
  | set e x he hd hnm hx _ _ hT hL hA hl => exact hl
  | moved e hk he hd hnm hne _ _ _ _ hT hL =>
    rw [hL, List.length_append]
    have h1 : (goneL (if (atE s.es o.dst o.new).isSome then goneL s.es o.dst o.new else s.es) o.dir o.nm).length < s.es.length := by
      unfold goneL
      split
      · refine Nat.lt_of_lt_of_le ?_ (goneL_le s.es o.dst o.new)
        unfold goneL
        rw [List.length_filter_lt_length_iff_exists]
        refine ⟨e, List.mem_filter.2 ⟨he, ?_⟩, by simp [hd, hnm]⟩
        rw [Bool.not_eq_true', decide_eq_false_iff_not, hd, hnm]
        exact fun hq => hne ⟨hq.1.symm, hq.2.symm⟩
      · rw [List.length_filter_lt_length_iff_exists]
        exact ⟨e, he, by simp [hd, hnm]⟩
    simp
    omega
/-- the program's puts leave the document's list, rising -/
theorem puts_does {M : Nms} {s : Tr} {o : Opn} (w : WF M s.es s.next) (h : Deed M s o) : putsL s.es (tellL s o) = srt (doesL s o) :=
  Rises.same (putsL_rises w.rises _) (srt_rises (does_apart w h)) fun y => by rw [putsL_mem (tell_apart h), srt_mem, does_mem w h]
theorem next_does {M : Nms} {s : Tr} {o : Opn} (w : WF M s.es s.next) (h : Deed M s o) : nextL s.next (tellL s o) = doesN s o := by
  cases h using Deed.el with
  | made x _ hd hnm hneg hid _ _ hno _ _ hroom hT hL hN => rw [hT, hN]; simp [nextL, hneg, hid]; omega
  | gone e _ _ _ _ _ hT hL hN => rw [hT, hN]; rfl
  | set e x he hd hnm hx _ _ hT hL hA hl hN =>
    have hi := w.ids e he
    have hxn : x.neg = false := by rw [hx]; exact w.neg e he
    have hxi : x.id = e.id := by rw [hx]
    rw [hT, hN]; simp [nextL, hxn, hxi]; omega
  | moved e hk he hd hnm hne _ _ _ _ hT hL hN =>
    have hi := w.ids e he
    rw [hT, hN]
    split
    · simp [nextL, goneEn, movedEn]; omega
    · simp [nextL, goneEn, movedEn]; omega
theorem tell_now {M : Nms} {s : Tr} {o : Opn} (w : WF M s.es s.next) (h : Deed M s o) : ∀ x ∈ tellL s o, nowE (doesL s o) x.d x.nm = x := by
  intro x hx
  rw [nowE_at]
  cases hn : x.neg with
  | false =>
    rw [(atE_iff (does_apart w h).keyed x.d x.nm x).2 ⟨(does_mem w h x).2 (.inr ⟨hx, hn⟩), rfl, rfl⟩]
  | true =>
    have : atE (doesL s o) x.d x.nm = none := by
      rw [atE_none_iff]
      intro y hy hq
      rcases (does_mem w h y).1 hy with ⟨_, k⟩ | ⟨k1, k2⟩
      · exact k ⟨x, hx, hq⟩
      · have := (tell_apart h).keyed y k1 x hx hq.1 hq.2
        subst this
        rw [hn] at k2; cases k2
    rw [this]
    exact (tell_neg w h x hx hn).symm
theorem tell_keys {M : Nms} {s : Tr} {o : Opn} (h : Deed M s o) : (tellL s o).map (fun x => (⟨x.d, x.nm⟩ : Ky)) = keysL o := by
  cases h using Deed.el with
  | made x hk hd hnm _ _ _ _ _ _ _ _ hT => rw [hT]; unfold keysL; rw [if_neg (by omega)]; simp [hd, hnm]
  | gone e hk _ _ _ _ hT => rw [hT]; unfold keysL; rw [if_neg (by omega)]; rfl
  | set e x he hd hnm hx _ hk hT =>
    rw [hT]; unfold keysL
    have hxk : x.d = o.dir ∧ x.nm = o.nm := by rw [hx]; exact ⟨hd, hnm⟩
    have hn : ¬ (o.kind = 10 ∧ ¬ (o.dst = o.dir ∧ o.new = o.nm)) := by
      rintro ⟨h1, h2⟩
      rcases hk with k | k
      · omega
      · exact h2 ⟨k.2.2.1, k.2.2.2⟩
    rw [if_neg hn]
    simp [hxk]
  | moved e hk he hd hnm hne _ _ _ _ hT =>
    have hp : o.kind = 10 ∧ ¬ (o.dst = o.dir ∧ o.new = o.nm) := ⟨hk, hne⟩
    unfold keysL
    rw [if_pos hp, hT]
    cases hl : lessK o.dir o.nm o.dst o.new with
    | true => rw [lessK_asym hl]; rfl
    | false => rw [lessK_flip hl hne]; rfl
/-- the entries that the document tells -/
theorem tell_doc {M : Nms} {s : Tr} {o : Opn} (w : WF M s.es s.next) (h : Deed M s o) : tellL s o = (keysL o).map fun k => nowE (doesL s o) k.d k.nm := by
  rw [← tell_keys h, List.map_map]
  conv => lhs; rw [← List.map_id (tellL s o)]
  exact List.map_congr_left fun x hx => (tell_now w h x hx).symm

/-- a right tree is left -/
theorem WF.step {M : Nms} {s : Tr} {o : Opn} (w : WF M s.es s.next) (h : Deed M s o) : WF M (srt (doesL s o)) (doesN s o) := by
  have hmem := fun y => does_mem w h y
  have hsm : ∀ y, y ∈ srt (doesL s o) ↔ (y ∈ s.es ∧ ¬ Told (tellL s o) y) ∨ (y ∈ tellL s o ∧ y.neg = false) := fun y => by rw [srt_mem]; exact hmem y
  have hA := does_apart w h
  have hLen := does_len w h
  -- the new entries
  have hnew : ∀ x ∈ tellL s o, x.neg = false → (2 ≤ x.id ∧ x.id < doesN s o) ∧ M.chk x.nm = 0 ∧ ((0 ≤ x.mode ∧ x.mode ≤ 511) ∧ (x.kind = 3 ∧ M.tgt x.tg = 0 ∨ (x.kind = 1 ∨ x.kind = 2) ∧ x.tg = ⟨#[]⟩)) ∧ (∀ y ∈ s.es, ¬ Told (tellL s o) y → y.id ≠ x.id) ∧ Hangs (srt (doesL s o)) x.d := by
    cases h using Deed.el with
    | made x _ hd hnm hneg hid _ hok hno hdir hchk hroom hT hL hN =>
      intro y hy _
      rw [hT] at hy
      rw [List.mem_singleton.1 hy, hN, hid, hnm]
      refine ⟨⟨w.next2, by omega⟩, hchk, hok, fun z hz _ => by have := w.ids z hz; omega, ?_⟩
      rw [hd]
      exact (w.hangs hdir).mono fun e he => by rw [srt_mem, hL]; exact List.mem_append_left _ he
    | gone e _ _ _ _ _ hT => rw [hT]; intro y hy hq; rw [List.mem_singleton.1 hy] at hq; cases hq
    | set e x he hd hnm hx hm hk hT hL _ _ hN =>
      intro y hy _
      rw [hT] at hy
      have hxi : x.id = e.id := by rw [hx]
      have hxk : x.kind = e.kind := by rw [hx]
      have hxt : x.tg = e.tg := by rw [hx]
      have hxm : x.nm = e.nm := by rw [hx]
      have hxd : x.d = e.d := by rw [hx]
      rw [List.mem_singleton.1 hy, hN, hxi, hxm, hxk, hxt, hxd]
      refine ⟨w.ids e he, w.chk e he, ⟨hm, (w.ok e he).2⟩, fun z hz ht hq => ?_, ?_⟩
      · obtain rfl := w.ided z hz e he hq
        exact ht ⟨x, by rw [hT]; exact List.mem_singleton.2 rfl, hxd.symm, hxm.symm⟩
      · refine (w.hang e he).on (fun f hf hfk _ hh => ?_) ⟨e, he, rfl⟩
        by_cases hq : f.d = o.dir ∧ f.nm = o.nm
        · obtain rfl := w.keyed f hf e he (hq.1.trans hd.symm) (hq.2.trans hnm.symm)
          exact .up x _ (srt_mem.2 ((hL x).2 (.inr rfl))) (by rw [hxk]; exact hfk) hxi (by rw [hxd]; exact hh)
        · exact .up f _ (srt_mem.2 ((hL f).2 (.inl ⟨hf, hq⟩))) hfk rfl hh
    | moved e hk he hd hnm hne hdir hchk hfree hto hT hL hN =>
      intro y hy hq
      have hy' : y = goneEn o.dir o.nm ∨ y = movedEn e o.dst o.new := by
        rw [hT] at hy
        split at hy <;> simp at hy <;> first | exact hy | exact hy.symm
      rcases hy' with rfl | rfl
      · cases hq
      · rw [hN]
        have hgt : goneEn o.dir o.nm ∈ tellL s o := by rw [hT]; split <;> simp
        refine ⟨w.ids e he, hchk, w.ok e he, fun z hz ht hq => ?_, ?_⟩
        · obtain rfl := w.ided z hz e he hq
          exact ht ⟨_, hgt, hd, hnm⟩
        · refine (w.free (w.hangs hdir) hfree).hangs (R := fun f => f ∈ s.es ∧ f.d = o.dst ∧ f.nm = o.new) ?_ ?_ ?_
          · rintro f ⟨hf, h1, h2⟩ hq
            have := hto f ((atE_iff w.keyed _ _ _).2 ⟨hf, h1, h2⟩) f hf
            exact this (by rw [h1]; exact hq)
          · rintro z hz f ⟨hf, h1, h2⟩
            exact hto f ((atE_iff w.keyed _ _ _).2 ⟨hf, h1, h2⟩) z hz
          · intro z hz hzi hzr
            refine (hsm z).2 (.inl ⟨hz, ?_⟩)
            rintro ⟨t, ht, hk1, hk2⟩
            have ht' : t = goneEn o.dir o.nm ∨ t = movedEn e o.dst o.new := by
              rw [hT] at ht
              split at ht <;> simp at ht <;> first | exact ht | exact ht.symm
            rcases ht' with rfl | rfl
            · exact hzi (by rw [w.keyed z hz e he (hk1.trans hd.symm) (hk2.trans hnm.symm)])
            · exact hzr ⟨hz, hk1, hk2⟩
  -- what has something in it hangs on
  have hup : ∀ f ∈ s.es, f.kind = 1 → (∃ y ∈ s.es, y.d = f.id) → Hangs (srt (doesL s o)) f.d → Hangs (srt (doesL s o)) f.id := by
    intro f hf hfk hc hh
    by_cases ht : Told (tellL s o) f
    · cases h using Deed.el with
      | made x _ hd hnm hneg hid _ hok hno hdir hchk hroom hT hL hN =>
        obtain ⟨z, hz, h1, h2⟩ := ht
        rw [hT] at hz
        rw [List.mem_singleton.1 hz, hd] at h1
        rw [List.mem_singleton.1 hz, hnm] at h2
        exact absurd ⟨h1, h2⟩ ((atE_none_iff _ _).1 hno f hf)
      | gone e _ he hd hnm hempty hT =>
        obtain ⟨z, hz, h1, h2⟩ := ht
        rw [hT] at hz
        rw [List.mem_singleton.1 hz] at h1 h2
        obtain rfl := w.keyed f hf e he (h1.trans hd.symm) (h2.trans hnm.symm)
        obtain ⟨y, hy, hq⟩ := hc
        exact absurd hq (hempty y hy)
      | set e x he hd hnm hx hm hk hT hL _ _ hN =>
        have hxi : x.id = e.id := by rw [hx]
        have hxk : x.kind = e.kind := by rw [hx]
        have hxm : x.nm = e.nm := by rw [hx]
        have hxd : x.d = e.d := by rw [hx]
        obtain ⟨z, hz, h1, h2⟩ := ht
        rw [hT] at hz
        rw [List.mem_singleton.1 hz] at h1 h2
        obtain rfl := w.keyed f hf e he (h1.trans hxd) (h2.trans hxm)
        exact .up x _ (srt_mem.2 ((hL x).2 (.inr rfl))) (by rw [hxk]; exact hfk) hxi (by rw [hxd]; exact hh)
      | moved e hk he hd hnm hne hdir hchk hfree hto hT hL hN =>
        obtain ⟨z, hz, h1, h2⟩ := ht
        have hz' : z = goneEn o.dir o.nm ∨ z = movedEn e o.dst o.new := by
          rw [hT] at hz
          split at hz <;> simp at hz <;> first | exact hz | exact hz.symm
        have hmt : movedEn e o.dst o.new ∈ tellL s o := by rw [hT]; split <;> simp
        rcases hz' with rfl | rfl
        · obtain rfl := w.keyed f hf e he (h1.trans hd.symm) (h2.trans hnm.symm)
          exact .up (movedEn f o.dst o.new) _ ((hsm _).2 (.inr ⟨hmt, rfl⟩)) hfk rfl (hnew _ hmt rfl).2.2.2.2
        · obtain ⟨y, hy, hq⟩ := hc
          exact absurd hq (hto f ((atE_iff w.keyed _ _ _).2 ⟨hf, h1, h2⟩) y hy)
    · exact .up f _ ((hsm f).2 (.inl ⟨hf, ht⟩)) hfk rfl hh
  have hnx : s.next ≤ doesN s o := by
    cases h using Deed.el with
    | made x _ _ _ _ _ _ _ _ _ _ _ _ _ hN => omega
    | gone e _ _ _ _ _ _ _ hN => omega
    | set e x _ _ _ _ _ _ _ _ _ _ hN => omega
    | moved e _ _ _ _ _ _ _ _ _ _ _ hN => omega
  refine ⟨srt_rises hA, by rw [srt_len]; exact hLen, fun e he => ?_, fun e he f hf hq => ?_, fun e he => ?_, fun e he => ?_, fun e he => ?_, fun e he => ?_, by have := w.next2; omega⟩
  · rcases (hsm e).1 he with ⟨h1, _⟩ | ⟨h1, h2⟩
    · have := w.ids e h1; omega
    · exact (hnew e h1 h2).1
  · rcases (hsm e).1 he with ⟨h1, h2⟩ | ⟨h1, h2⟩ <;> rcases (hsm f).1 hf with ⟨k1, k2⟩ | ⟨k1, k2⟩
    · exact w.ided e h1 f k1 hq
    · exact absurd hq ((hnew f k1 k2).2.2.2.1 e h1 h2)
    · exact absurd hq.symm ((hnew e h1 h2).2.2.2.1 f k1 k2)
    · -- two new ones: there is but one that is there
      have : ∀ x y, x ∈ tellL s o → y ∈ tellL s o → x.neg = false → y.neg = false → x = y := by
        cases h using Deed.el with
        | made z _ _ _ _ _ _ _ _ _ _ _ hT => rw [hT]; intro x y hx hy _ _; rw [List.mem_singleton.1 hx, List.mem_singleton.1 hy]
        | gone z _ _ _ _ _ hT => rw [hT]; intro x y hx hy _ _; rw [List.mem_singleton.1 hx, List.mem_singleton.1 hy]
        | set z z' _ _ _ _ _ _ hT => rw [hT]; intro x y hx hy _ _; rw [List.mem_singleton.1 hx, List.mem_singleton.1 hy]
        | moved z _ _ _ _ _ _ _ _ _ hT =>
          rw [hT]
          intro x y hx hy hxn hyn
          have hx' : x = goneEn o.dir o.nm ∨ x = movedEn z o.dst o.new := by
            split at hx <;> simp at hx <;> first | exact hx | exact hx.symm
          have hy' : y = goneEn o.dir o.nm ∨ y = movedEn z o.dst o.new := by
            split at hy <;> simp at hy <;> first | exact hy | exact hy.symm
          rcases hx' with rfl | rfl
          · cases hxn
          · rcases hy' with rfl | rfl
            · cases hyn
            · rfl
      exact this e f h1 k1 h2 k2
  · rcases (hsm e).1 he with ⟨h1, _⟩ | ⟨h1, h2⟩
    · exact w.neg e h1
    · exact h2
  · rcases (hsm e).1 he with ⟨h1, _⟩ | ⟨h1, h2⟩
    · exact w.chk e h1
    · exact (hnew e h1 h2).2.1
  · rcases (hsm e).1 he with ⟨h1, _⟩ | ⟨h1, h2⟩
    · exact w.ok e h1
    · exact (hnew e h1 h2).2.2.1
  · rcases (hsm e).1 he with ⟨h1, _⟩ | ⟨h1, h2⟩
    · exact (w.hang e h1).on hup ⟨e, h1, rfl⟩
    · exact (hnew e h1 h2).2.2.2.2
end
end Go.Proofs.Ytjelggpkeogebaa
