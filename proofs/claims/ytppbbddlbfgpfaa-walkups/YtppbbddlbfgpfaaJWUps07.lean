/- The tree, plainly: all hangs on the root; what a right list of entries is. -/
import Derived.Test.YtppbbddlbfgpfaaJWUps06
namespace Go.Proofs.Ytppbbddlbfgpfaa
section
open Go.RowKit

/-- a directory hangs on the root -/
def HangsN (es : List En) : Nat → Int → Prop
  | 0, d => d = 1
  | n + 1, d => ∃ e ∈ es, e.kind = 1 ∧ e.id = d ∧ HangsN es n e.d
def Hangs (es : List En) (d : Int) : Prop := ∃ n, HangsN es n d
theorem Hangs.root {es : List En} : Hangs es 1 := ⟨0, rfl⟩
theorem Hangs.up {es : List En} (e : En) (d : Int) (he : e ∈ es) (hk : e.kind = 1) (hi : e.id = d) (h : Hangs es e.d) : Hangs es d := by
  obtain ⟨n, hn⟩ := h
  exact ⟨n + 1, e, he, hk, hi, hn⟩
theorem Hangs.el {es : List En} {motive : (d : Int) → Hangs es d → Prop} (root : motive 1 Hangs.root) (up : ∀ (e : En) (d : Int) (he : e ∈ es) (hk : e.kind = 1) (hi : e.id = d) (hh : Hangs es e.d), motive e.d hh → motive d (Hangs.up e d he hk hi hh)) {d : Int} (h : Hangs es d) : motive d h := by
  have key : ∀ n d (hn : HangsN es n d), motive d ⟨n, hn⟩ := by
    intro n
    induction n with
    | zero => intro d hn; have : d = 1 := hn; subst this; exact root
    | succ n ih =>
      intro d hn
      obtain ⟨e, he, hk, hi, hm⟩ := hn
      exact up e d he hk hi ⟨n, hm⟩ (ih _ hm)
  obtain ⟨n, hn⟩ := h
  exact key n d hn
/-- a right list of entries -/
structure WF (M : Nms) (es : List En) (next : Int) : Prop where
  rises : Rises es
  len : es.length ≤ 47
  ids : ∀ e ∈ es, 2 ≤ e.id ∧ e.id < next
  ided : Ided es
  neg : ∀ e ∈ es, e.neg = false
  chk : ∀ e ∈ es, M.chk e.nm = 0
  ok : ∀ e ∈ es, (0 ≤ e.mode ∧ e.mode ≤ 511) ∧ (e.kind = 3 ∧ M.tgt e.tg = 0 ∨ (e.kind = 1 ∨ e.kind = 2) ∧ e.tg = ⟨#[]⟩)
  hang : ∀ e ∈ es, Hangs es e.d
  next2 : 2 ≤ next
theorem WF.keyed {M : Nms} {es : List En} {next : Int} (h : WF M es next) : Keyed es := h.rises.keyed
theorem WF.new (M : Nms) : WF M [] 2 :=
  ⟨List.Pairwise.nil, by simp, by simp, (by intro e he; cases he), by simp, by simp, by simp, by simp, by omega⟩
theorem WF.ne1 {M : Nms} {es : List En} {next : Int} (h : WF M es next) {e : En} (he : e ∈ es) : e.id ≠ 1 := by have := h.ids e he; omega
theorem WF.node {M : Nms} {es : List En} {next : Int} (h : WF M es next) {e : En} (he : e ∈ es) : nodeE es e.id = some e := (nodeE_iff h.ided (h.ne1 he) e).2 ⟨he, rfl⟩
theorem Hangs.dir {M : Nms} {es : List En} {next : Int} (h : WF M es next) {d : Int} (hd : Hangs es d) : dirE es d = 0 := by
  cases hd using Hangs.el with
  | root => unfold dirE nodeE; simp [rootEn]
  | up e d he hk hi _ => subst hi; unfold dirE; rw [h.node he]; simp [hk]
theorem WF.hangs {M : Nms} {es : List En} {next : Int} (h : WF M es next) {d : Int} (hd : dirE es d = 0) : Hangs es d := by
  by_cases h1 : d = 1
  · subst h1; exact .root
  · unfold dirE at hd
    cases hq : nodeE es d with
    | none => rw [hq] at hd; simp at hd
    | some e =>
      rw [hq] at hd
      obtain ⟨hm, hi⟩ := nodeE_mem h1 hq
      refine .up e d hm ?_ hi (h.hang e hm)
      by_cases hk : e.kind = 1
      · exact hk
      · simp [hk] at hd
theorem Hangs.mono {es fs : List En} (h : ∀ e ∈ es, e ∈ fs) {d : Int} (hd : Hangs es d) : Hangs fs d := by
  induction hd using Hangs.el with
  | root => exact .root
  | up e d he hk hi _ ih => exact .up e d (h e he) hk hi ih
/-- what hangs, and has something in it, hangs on -/
theorem Hangs.on {es fs : List En} (h : ∀ e ∈ es, e.kind = 1 → (∃ y ∈ es, y.d = e.id) → Hangs fs e.d → Hangs fs e.id) {d : Int} (hd : Hangs es d) (hc : ∃ y ∈ es, y.d = d) : Hangs fs d := by
  induction hd using Hangs.el with
  | root => exact .root
  | up e d he hk hi _ ih => subst hi; exact h e he hk hc (ih ⟨e, he, rfl⟩)
theorem Hangs.n {es : List En} {d : Int} (h : Hangs es d) : ∃ n, HangsN es n d := h
theorem HangsN.hangs {es : List En} {n : Nat} {d : Int} (h : HangsN es n d) : Hangs es d := by
  induction n generalizing d with
  | zero => cases h; exact .root
  | succ n ih => obtain ⟨e, he, hk, hi, hn⟩ := h; exact .up e d he hk hi (ih hn)
theorem HangsN.one {M : Nms} {es : List En} {next : Int} (w : WF M es next) {n m : Nat} {d : Int} (h : HangsN es n d) (k : HangsN es m d) : n = m := by
  induction n generalizing d m with
  | zero =>
    cases h
    cases m with
    | zero => rfl
    | succ m => obtain ⟨e, he, _, hi, _⟩ := k; exact absurd hi (w.ne1 he)
  | succ n ih =>
    obtain ⟨e, he, _, hi, hn⟩ := h
    cases m with
    | zero => cases k; exact absurd hi (w.ne1 he)
    | succ m =>
      obtain ⟨f, hf, _, hj, hm⟩ := k
      obtain rfl := w.ided e he f hf (hi.trans hj.symm)
      rw [ih hn hm]
theorem nodup_le : ∀ {l es : List En}, l.Nodup → (∀ e ∈ l, e ∈ es) → l.length ≤ es.length
  | [], _, _, _ => Nat.zero_le _
  | a :: l, es, hn, hs => by
    obtain ⟨h1, h2⟩ := List.nodup_cons.1 hn
    obtain ⟨s, t, hst⟩ := List.append_of_mem (hs a (List.mem_cons_self ..))
    have := nodup_le (l := l) (es := s ++ t) h2 fun e he => by
      have hm := hs e (List.mem_cons_of_mem _ he)
      rw [hst] at hm
      rcases List.mem_append.1 hm with hm | hm
      · exact List.mem_append_left _ hm
      · rcases List.mem_cons.1 hm with hm | hm
        · rw [hm] at he; exact absurd he h1
        · exact List.mem_append_right _ hm
    rw [hst]
    simp at this ⊢
    omega
theorem HangsN.chain {M : Nms} {es : List En} {next : Int} (w : WF M es next) {n : Nat} {d : Int} (h : HangsN es n d) : ∃ l : List En, l.length = n ∧ l.Nodup ∧ ∀ e ∈ l, e ∈ es ∧ ∃ m, m ≤ n ∧ HangsN es m e.id := by
  induction n generalizing d with
  | zero => exact ⟨[], rfl, List.nodup_nil, by simp⟩
  | succ n ih =>
    have h' := h
    obtain ⟨e, he, _, hi, hn⟩ := h
    obtain ⟨l, hl, hd, hm⟩ := ih hn
    subst hi
    refine ⟨e :: l, by simp [hl], List.nodup_cons.2 ⟨fun hc => ?_, hd⟩, fun f hf => ?_⟩
    · obtain ⟨_, m, hmn, hm⟩ := hm e hc
      have := hm.one w h'
      omega
    · rcases List.mem_cons.1 hf with rfl | hf
      · exact ⟨he, n + 1, Nat.le_refl _, h'⟩
      · obtain ⟨h1, m, h2, h3⟩ := hm f hf
        exact ⟨h1, m, by omega, h3⟩
theorem HangsN.le {M : Nms} {es : List En} {next : Int} (w : WF M es next) {n : Nat} {d : Int} (h : HangsN es n d) : n ≤ es.length := by
  obtain ⟨l, hl, hd, hm⟩ := h.chain w
  rw [← hl]
  exact nodup_le hd fun e he => (hm e he).1
theorem HangsN.within {M : Nms} {es : List En} {next : Int} (w : WF M es next) {n k : Nat} {d : Int} (h : HangsN es n d) (hk : n ≤ k) : withinF es (k + 1) d 1 = true := by
  induction n generalizing d k with
  | zero => cases h; exact withinF_hit _ _ _
  | succ n ih =>
    obtain ⟨e, he, _, hi, hn⟩ := h
    subst hi
    obtain ⟨k, rfl⟩ : ∃ j, k = j + 1 := ⟨k - 1, by omega⟩
    rw [withinF_up es (k + 1) e.id 1 e (w.ne1 he) (w.node he) (w.ne1 he)]
    exact ih hn (by omega)
theorem WF.within {M : Nms} {es : List En} {next : Int} (w : WF M es next) {d : Int} (h : Hangs es d) : withinF es (es.length + 1) d 1 = true := by
  obtain ⟨n, hn⟩ := h.n
  exact hn.within w (hn.le w)
/-- the converse, where each entry lies in a directory -/
theorem hangs_within {es : List En} (hd : ∀ e ∈ es, dirE es e.d = 0) {k : Nat} {d : Int} (h0 : dirE es d = 0) (h : withinF es k d 1 = true) : Hangs es d := by
  induction k generalizing d with
  | zero => cases h
  | succ k ih =>
    by_cases h1 : d = 1
    · subst h1; exact .root
    · cases hq : nodeE es d with
      | none => rw [withinF_none _ _ _ _ h1 hq] at h; cases h
      | some e =>
        obtain ⟨hm, hi⟩ := nodeE_mem h1 hq
        rw [withinF_up _ _ _ _ e h1 hq h1] at h
        refine .up e d hm ?_ hi (ih (hd e hm) h)
        unfold dirE at h0
        rw [hq] at h0
        by_cases hk : e.kind = 1
        · exact hk
        · simp [hk] at h0
/-- nothing lies in what is no directory -/
theorem within_dir {es : List En} {k : Nat} {d x : Int} (hd : Hangs es d) (hi : Ided es) (h1 : ∀ e ∈ es, e.id ≠ 1) (h : withinF es k d x = true) : x = 1 ∨ ∃ e ∈ es, e.id = x ∧ e.kind = 1 := by
  induction hd using Hangs.el generalizing k with
  | root =>
    cases k with
    | zero => cases h
    | succ k =>
      by_cases hx : (1 : Int) = x
      · exact .inl hx.symm
      · rw [withinF_root _ _ _ hx] at h; cases h
  | up e d he hk hj _ ih =>
    cases k with
    | zero => cases h
    | succ k =>
      by_cases hx : d = x
      · exact .inr ⟨e, he, hj.trans hx, hk⟩
      · subst hj
        rw [withinF_up _ _ _ _ e hx ((nodeE_iff hi (h1 e he) e).2 ⟨he, rfl⟩) (h1 e he)] at h
        exact ih h
/-- the way up does not meet x -/
def FreeN (es : List En) (x : Int) : Nat → Int → Prop
  | 0, d => d = 1
  | n + 1, d => ∃ e ∈ es, e.kind = 1 ∧ e.id = d ∧ d ≠ x ∧ FreeN es x n e.d
def Free (es : List En) (x : Int) (d : Int) : Prop := ∃ n, FreeN es x n d
theorem Free.root {es : List En} {x : Int} : Free es x 1 := ⟨0, rfl⟩
theorem Free.up {es : List En} {x : Int} (e : En) (d : Int) (he : e ∈ es) (hk : e.kind = 1) (hi : e.id = d) (hx : d ≠ x) (h : Free es x e.d) : Free es x d := by
  obtain ⟨n, hn⟩ := h
  exact ⟨n + 1, e, he, hk, hi, hx, hn⟩
theorem Free.el {es : List En} {x : Int} {motive : (d : Int) → Free es x d → Prop} (root : motive 1 Free.root) (up : ∀ (e : En) (d : Int) (he : e ∈ es) (hk : e.kind = 1) (hi : e.id = d) (hx : d ≠ x) (hh : Free es x e.d), motive e.d hh → motive d (Free.up e d he hk hi hx hh)) {d : Int} (h : Free es x d) : motive d h := by
  have key : ∀ n d (hn : FreeN es x n d), motive d ⟨n, hn⟩ := by
    intro n
    induction n with
    | zero => intro d hn; have : d = 1 := hn; subst this; exact root
    | succ n ih =>
      intro d hn
      obtain ⟨e, he, hk, hi, hx, hm⟩ := hn
      exact up e d he hk hi hx ⟨n, hm⟩ (ih _ hm)
  obtain ⟨n, hn⟩ := h
  exact key n d hn
theorem free_way {M : Nms} {es : List En} {next : Int} (w : WF M es next) {x : Int} {n k : Nat} {d : Int} (h : HangsN es n d) (hk : n ≤ k) (hw : withinF es (k + 1) d x = false) : Free es x d := by
  induction n generalizing d k with
  | zero => cases h; exact .root
  | succ n ih =>
    obtain ⟨e, he, hk1, hi, hn⟩ := h
    obtain ⟨k, rfl⟩ : ∃ j, k = j + 1 := ⟨k - 1, by omega⟩
    have hx : d ≠ x := by rintro rfl; rw [withinF_hit] at hw; cases hw
    have hx' := hx
    subst hi
    rw [withinF_up es (k + 1) e.id x e hx (w.node he) (w.ne1 he)] at hw
    exact .up e _ he hk1 rfl hx' (ih hn (by omega) hw)
theorem WF.free {M : Nms} {es : List En} {next : Int} (w : WF M es next) {x d : Int} (h : Hangs es d) (hw : withinF es (es.length + 1) d x = false) : Free es x d := by
  obtain ⟨n, hn⟩ := h.n
  exact free_way w hn (hn.le w) hw
theorem Free.hangs {es fs : List En} {x : Int} {R : En → Prop} {d : Int} (h : Free es x d) (h1 : ∀ f, R f → d ≠ f.id) (h2 : ∀ e ∈ es, ∀ f, R f → e.d ≠ f.id) (h3 : ∀ e ∈ es, e.id ≠ x → ¬ R e → e ∈ fs) : Hangs fs d := by
  induction h using Free.el with
  | root => exact .root
  | up e d he hk hi hx _ ih => exact .up e d (h3 e he (by rw [hi]; exact hx) fun hr => h1 e hr hi.symm) hk hi (ih (h2 e he))

/-- the program's way up: from what is not there to nothing -/
def upD (es : List En) (d : Int) : Int := if d = 1 then 0 else match nodeE es d with | none => 0 | some e => e.d
def insideF (es : List En) : Nat → Int → Int → Bool
  | 0, _, _ => false
  | n + 1, d, x => if d = x then true else insideF es n (upD es d) x
theorem insideF_zero {es : List En} (h0 : ∀ e ∈ es, e.id ≠ 0) {x : Int} (hx : x ≠ 0) (n : Nat) : insideF es n 0 x = false := by
  induction n with
  | zero => rfl
  | succ n ih =>
    rw [insideF, if_neg (Ne.symm hx)]
    have : upD es 0 = 0 := by unfold upD; rw [if_neg (by decide), (nodeE_none_iff es (by decide)).2 h0]
    rw [this]; exact ih
theorem insideF_within {es : List En} (h0 : ∀ e ∈ es, e.id ≠ 0) {x : Int} (hx : x ≠ 0) (n : Nat) (d : Int) : insideF es n d x = withinF es n d x := by
  induction n generalizing d with
  | zero => rfl
  | succ n ih =>
    rw [insideF]
    by_cases hd : d = x
    · subst hd; rw [if_pos rfl, withinF_hit]
    · rw [if_neg hd]
      by_cases h1 : d = 1
      · subst h1
        rw [withinF_root _ _ _ hd]
        have : upD es 1 = 0 := by unfold upD; simp
        rw [this]; exact insideF_zero h0 hx n
      · cases hq : nodeE es d with
        | none =>
          rw [withinF_none _ _ _ _ hd hq]
          have : upD es d = 0 := by unfold upD; rw [if_neg h1, hq]
          rw [this]; exact insideF_zero h0 hx n
        | some e =>
          rw [withinF_up _ _ _ _ e hd hq h1]
          have : upD es d = e.d := by unfold upD; rw [if_neg h1, hq]
          rw [this]; exact ih _
end
end Go.Proofs.Ytppbbddlbfgpfaa
