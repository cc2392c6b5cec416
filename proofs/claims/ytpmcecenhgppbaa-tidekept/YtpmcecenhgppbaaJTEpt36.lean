/- The document's tide: Take, plainly. -/
import Derived.Test.YtpmcecenhgppbaaJTEpt35
import Derived.Deep.CutRange
namespace Go.Proofs.Ytpmcecenhgppbaa
section
open Go.RowKit Go.Shelf

theorem due_nil {s : Ts} (h : s.held = []) : s.due = none := by unfold Ts.due; rw [h]; rfl
theorem settle_due (n : Nat) : ∀ s : Ts, s.held.length = n → s.settle.1.due = none := by
  induction n with
  | zero =>
    intro s hs
    have h := due_nil (List.length_eq_zero_iff.1 hs)
    rw [Ts.settle_none h]; exact h
  | succ n ih =>
    intro s hs
    cases hd : s.due with
    | none => rw [Ts.settle_none hd]; exact hd
    | some i =>
      obtain ⟨m, hm, hq⟩ := Ts.due_some hd
      rw [Ts.settle_some hd hm]
      refine ih _ ?_
      rw [(meet_due hq).1, List.length_eraseIdx_of_lt (List.getElem?_eq_some_iff.1 hm).1, hs]; rfl
theorem apply_fr (s : Ts) (m : Pm) : (s.apply m).fr.length ≤ s.fr.length + 1 ∧ (s.apply m).held = s.held := by
  unfold Ts.apply
  refine ⟨?_, rfl⟩
  show (if 0 < s.asked then s.fr ++ [_] else s.fr).length ≤ _
  split
  · rw [List.length_append]; exact Nat.le_refl _
  · omega
theorem used_fr (s : Ts) (m : Pm) : (s.used m).fr.length ≤ s.fr.length := by
  unfold Ts.used Ts.newer
  split
  · exact Nat.le_refl _
  · exact Nat.zero_le _
theorem holds_fr (s : Ts) (m : Pm) : (s.holds m).fr = s.fr ∧ (s.holds m).held.length ≤ s.held.length + 1 := by
  unfold Ts.holds
  split
  · exact ⟨rfl, by rw [List.length_append]; exact Nat.le_refl _⟩
  · exact ⟨rfl, Nat.le_succ _⟩
theorem meet_fr (s : Ts) (m : Pm) : (s.meet m).1.fr.length ≤ s.fr.length + 1 ∧ (s.meet m).1.fr.length + (s.meet m).1.held.length ≤ s.fr.length + s.held.length + 1 := by
  have h1 := apply_fr s m
  have h2 := used_fr s m
  have h3 := used_held s m
  have h4 := holds_fr s m
  unfold Ts.meet
  split
  · split
    · split
      · show (s.used m).fr.length ≤ _ ∧ (s.used m).fr.length + (s.used m).held.length ≤ _
        rw [h3.1]; omega
      · show (s.holds m).fr.length ≤ _ ∧ (s.holds m).fr.length + (s.holds m).held.length ≤ _
        rw [h4.1]; omega
    · show s.fr.length ≤ _ ∧ s.fr.length + s.held.length ≤ _
      omega
  · split
    · show s.fr.length ≤ _ ∧ s.fr.length + s.held.length ≤ _
      omega
    · split
      · show (s.apply m).fr.length ≤ _ ∧ (s.apply m).fr.length + (s.apply m).held.length ≤ _
        rw [h1.2]; omega
      · show (s.holds m).fr.length ≤ _ ∧ (s.holds m).fr.length + (s.holds m).held.length ≤ _
        rw [h4.1]; omega
theorem due_pot {s : Ts} {i : Nat} {m : Pm} (hd : s.due = some i) (hm : s.held[i]? = some m) : ((s.without i).meet m).1.fr.length + ((s.without i).meet m).1.held.length ≤ s.fr.length + s.held.length ∧ ((s.without i).meet m).1.held.length + 1 = s.held.length := by
  obtain ⟨m', e, hq⟩ := Ts.due_some hd
  rw [hm] at e
  cases e
  have hi := (List.getElem?_eq_some_iff.1 hm).1
  have h1 := (meet_fr (s.without i) m).1
  rw [(meet_due hq).1, List.length_eraseIdx_of_lt hi]
  have : (s.without i).fr.length = s.fr.length := rfl
  omega
theorem settle_pot (n : Nat) : ∀ s : Ts, s.held.length = n → s.settle.1.fr.length + s.settle.1.held.length ≤ s.fr.length + s.held.length := by
  induction n with
  | zero =>
    intro s hs
    rw [Ts.settle_none (due_nil (List.length_eq_zero_iff.1 hs))]
    exact Nat.le_refl _
  | succ n ih =>
    intro s hs
    cases hd : s.due with
    | none => rw [Ts.settle_none hd]; exact Nat.le_refl _
    | some i =>
      obtain ⟨m, hm, hq⟩ := Ts.due_some hd
      rw [Ts.settle_some hd hm]
      have hp := due_pot hd hm
      have := ih ((s.without i).meet m).1 (by omega)
      exact Nat.le_trans this hp.1
theorem begun_due {s : Ts} {m : Pm} (h : s.due = none) : (s.begun m).due = none := by
  unfold Ts.begun
  split
  · exact due_nil rfl
  · exact h
theorem begun_pot (s : Ts) (m : Pm) : (s.begun m).fr.length + (s.begun m).held.length ≤ s.fr.length + s.held.length := by
  unfold Ts.begun
  split
  · exact Nat.zero_le _
  · exact Nat.le_refl _
theorem take_due {s : Ts} {m : Pm} (h : s.due = none) : (s.take m).1.due = none := by
  unfold Ts.take
  split
  · exact settle_due _ _ rfl
  · exact h
theorem take_pot (s : Ts) (m : Pm) : (s.take m).1.fr.length + (s.take m).1.held.length ≤ s.fr.length + s.held.length + 1 := by
  unfold Ts.take
  split
  · have h1 := settle_pot _ ((s.begun m).meet m).1 rfl
    have h2 := (meet_fr (s.begun m) m).2
    have h3 := begun_pot s m
    show ((s.begun m).meet m).1.settle.1.fr.length + ((s.begun m).meet m).1.settle.1.held.length ≤ _
    omega
  · exact Nat.le_succ _
theorem find_filter {α : Type} {p q : α → Bool} {l : List α} (h : l.findIdx? p = none) : (l.filter q).findIdx? p = none := by
  rw [List.findIdx?_eq_none_iff] at h ⊢
  exact fun x hx => h x (List.mem_filter.1 hx).1
theorem ask_due {s : Ts} {q : Int} (h : s.due = none) : (s.ask q).due = none := by
  unfold Ts.due at h
  cases h1 : s.held.findIdx? s.due1 with
  | some i => rw [h1, Option.some_or] at h; cases h
  | none =>
    rw [h1, Option.none_or] at h
    cases h2 : s.held.findIdx? s.due2 with
    | some i => rw [h2, Option.some_or] at h; cases h
    | none =>
      rw [h2, Option.none_or] at h
      unfold Ts.due
      have e1 : (s.ask q).held.findIdx? (s.ask q).due1 = none := find_filter h1
      have e2 : (s.ask q).held.findIdx? (s.ask q).due2 = none := find_filter h2
      have e3 : (s.ask q).held.findIdx? (s.ask q).due3 = none := find_filter h
      rw [e1, e2, e3]; rfl
theorem ask_pot (s : Ts) (q : Int) : (s.ask q).fr.length + (s.ask q).held.length ≤ s.fr.length + s.held.length := by
  have h := List.length_filter_le (fun m : Pm => !(decide (m.kind = 2) && decide (m.seq ≠ max q 0))) s.held
  show 0 + (s.held.filter fun m => !(decide (m.kind = 2) && decide (m.seq ≠ max q 0))).length ≤ _
  omega
theorem new_due (client life : Int) (hold : Nat) : (Ts.new client life hold).due = none := due_nil rfl
end
section
open Go.RowKit Go.Shelf
attribute [local go_sem ↓ high] loadMsg storeMsg buildMsg storeAct loadAct buildAct
attribute [local go_sem high] run_store_complex eqC

theorem IsD.noAct {w : World} {B t : Nat} {s : Dt} (h : IsD w B t s) {q k : Nat} (hq : Tag w q 59) (hk : s.blk t k) : k ≠ q := by
  intro e
  subst e
  rcases hk with e | ⟨m, hm, e | e⟩ | ⟨f, hf, e⟩
  · exact h.wno e (by decide) (by decide) (by decide) hq
  · exact (Tag.own (h.each m hm).1.es e).two (by decide) hq
  · exact (Tag.own (h.each m hm).1.ks e).two (by decide) hq
  · exact (Tag.own (h.eachF f hf).1 e).two (by decide) hq
theorem Dt.len (s : Dt) : s.say.fr.length = s.fs.length ∧ s.say.held.length = s.hs.length := ⟨List.length_map _, List.length_map _⟩
/-- what Take leaves -/
def TakeRD (w : World) (B t : Nat) (s : Dt) (x : Pm) (e : Ending) (w' : World) : Prop := ∃ v l, e = .returned v ∧ Acts w' w.heap.size v l ∧ l.map Am.c = (s.say.take x).2 ∧ ∃ s', SD w w' B t s s' ∧ s'.say = (s.say.take x).1
/-- acts of a call behind the acts that are there -/
theorem td_app {w w' w1 : World} {B t : Nat} {s s1 s2 : Dt} {vA v2 : Value} {l l2 : List Am} (h0 : SD w w' B t s s1) (hA : Acts w' w.heap.size vA l) (hst : SD w' w1 B t s1 s2) (h2 : Acts w1 w'.heap.size v2 l2) (hl : l.length + l2.length ≤ 1000000) :
    ∃ v3 W3, (∀ ty, (Builtin.append_ #[41, 41] ty #[vA, v2]).run Try.prog w1 = .ok v3 W3) ∧ Acts W3 w.heap.size v3 (l ++ l2) ∧ SD w W3 B t s s2 := by
  have a1 : Acts w1 w.heap.size vA l := hA.only hst.only (fun q e => ⟨h0.is.wno e (by decide) (by decide) (by decide), h0.is.wno e (by decide) (by decide) (by decide)⟩) (fun q e => h0.is.wno e (by decide) (by decide) (by decide))
  have st := h0.trans hst
  obtain ⟨v3, W3, hr, hac, hon, -⟩ := acts_append a1 (h2.down h0.only.size) st.only.size hl
  refine ⟨v3, W3, hr, hac, st.is.moved fun k hk => hon.block k (st.is.lt hk).2 fun e => st.is.noAct (Tag.own a1.row e) hk rfl, ⟨hon.os.trans st.only.os, hon.tape.trans st.only.tape, hon.output.trans st.only.output, Nat.le_trans st.only.size hon.size, fun k hk hn => ?_⟩, st.nwr, st.nblk⟩
  exact (hon.block k (Nat.lt_of_lt_of_le hk st.only.size) fun e => by have := (World.ownsRow.lt a1.row k e).1; omega).trans (st.only.block k hk hn)
/-- ahead of the switch -/
structure TdS (w w' : World) (B t : Nat) (s s1 : Dt) (x : Hm) (vA : Value) (l : List Am) : Prop where
  st : SD w w' B t s s1
  box : w'.heap[w.heap.size]? = some (.cells x.arr 45 (0, 0))
  ls : Lists w' 0 x
  mkk : Mk x.m.re x.m.im s1.e x.m.num
  acts : Acts w' w.heap.size vA l
  said : s.say.take x.m = ((s1.say.meet x.m).1.settle.1, l.map Am.c ++ ((s1.say.meet x.m).2 ++ (s1.say.meet x.m).1.settle.2))
  due : s1.say.due = none
  pot : s1.fs.length + s1.hs.length ≤ s.fs.length + s.hs.length
  few : l.length ≤ 1
/-- behind the switch -/
structure TdM (w w' : World) (B t : Nat) (s s2 : Dt) (m0 : Pm) (vA : Value) (l : List Am) : Prop where
  st : SD w w' B t s s2
  acts : Acts w' w.heap.size vA l
  said : s.say.take m0 = (s2.say.settle.1, l.map Am.c ++ s2.say.settle.2)
  pot : s2.fs.length + s2.hs.length ≤ s.fs.length + s.hs.length + 1
  few : l.length + s2.hs.length ≤ 20
theorem td_same {w w' : World} {B t : Nat} {s : Dt} {x : Hm} (h : IsD w B t s) (hb : Below w.heap.size w w') (hbx : w'.heap[w.heap.size]? = some (.cells x.arr 45 (0, 0))) (hL : Lists w' 0 x) (hm : Mk x.m.re x.m.im x.m.ep x.m.num) (hc : s.say.counts x.m = true) (hle : x.m.ep = s.e) (hd : s.say.due = none) : TdS w w' B t s s x (.slice none 0 0) [] := by
  refine ⟨SD.stay h hb, hbx, hL, by rw [← hle]; exact hm, Acts.nil _ _, ?_, hd, Nat.le_refl _, by simp⟩
  have hn : ¬ s.say.e < x.m.ep := by show ¬ s.e < _; omega
  have hb : s.say.begun x.m = s.say := by unfold Ts.begun; rw [if_neg hn]
  have hbA : s.say.begunA x.m = [] := by unfold Ts.begunA; rw [if_neg hn]
  unfold Ts.take
  rw [if_pos hc, hb, hbA]; rfl
theorem td_new {w V V4 W3 : World} {B t : Nat} {s : Dt} {x : Hm} {v3 : Value} (h : IsD w B t s) (hb : Below w.heap.size w V) (hbx : V.heap[w.heap.size]? = some (.cells x.arr 45 (0, 0))) (hL : Lists V 0 x) (hm : Mk x.m.re x.m.im x.m.ep x.m.num) (hc : s.say.counts x.m = true) (hlt : s.e < x.m.ep)
    (hd4 : V4.heap[t]? = some (.cells ({ s with e := x.m.ep, n := 0, hv := .slice none 0 0, hs := [], fv := .slice none 0 0, fs := [] } : Dt).arr 71 (0, 0))) (ho : Only (· = t) V V4)
    (hac : Acts W3 w.heap.size v3 ([] ++ [plainAm allA rfl rfl])) (hon : Only (fun k => (Value.slice none 0 0).ownBlock = some k) (V4.alloc (.cells (plainAm allA rfl rfl).arr 59)) W3) :
    TdS w W3 B t s { s with e := x.m.ep, n := 0, hv := .slice none 0 0, hs := [], fv := .slice none 0 0, fs := [] } x v3 ([] ++ [plainAm allA rfl rfl]) := by
  have o3 : Below V4.heap.size V4 W3 := by
    have b1 := below_alloc V4 (.cells (plainAm allA rfl rfl).arr 59)
    exact hon.below b1 b1.size (fun k hk => by cases hk)
  have hV := h.below hb
  have is4 : IsD V4 B t { s with e := x.m.ep, n := 0, hv := .slice none 0 0, hs := [], fv := .slice none 0 0, fs := [] } :=
    ⟨hd4, h.bt, World.ownsRow_nil _ _ _ _, (fun m hm => (by cases hm)), World.ownsRow_nil _ _ _ _, (fun f hf => (by cases hf)), hm.e0, hm.e1, Int.le_refl _, (show (0 : Int) ≤ 1099511627776 by decide), h.ask0, Nat.zero_le _, h.l8⟩
  have blk4 : ∀ k, ({ s with e := x.m.ep, n := 0, hv := .slice none 0 0, hs := [], fv := .slice none 0 0, fs := [] } : Dt).blk t k → k = t := by
    rintro k ((e | e | e) | ⟨m, hm, -⟩ | ⟨f, hf, -⟩)
    · exact e
    · cases e
    · cases e
    · cases hm
    · cases hf
  have st4 : SD V V4 B t s { s with e := x.m.ep, n := 0, hv := .slice none 0 0, hs := [], fv := .slice none 0 0, fs := [] } :=
    ⟨is4, ho.mono fun k e => .inl e, fun k hk => .inl (.inl (blk4 k (.inl hk))), fun k hk => .inl (.inl (.inl (blk4 k hk)))⟩
  have hne : w.heap.size ≠ t := by have := h.tt.lt; omega
  have bx4 : V4.heap[w.heap.size]? = some (.cells x.arr 45 (0, 0)) := (ho.block _ (Array.getElem?_eq_some_iff.1 hbx).1 hne).trans hbx
  have ls4 : Lists V4 0 x := hL.only ho fun q e => by
    rw [show q = t from e]
    exact ⟨hV.tt.two (by decide), hV.tt.two (by decide)⟩
  refine ⟨(st4.from hb).on o3, hkeep bx4 o3, ls4.below o3, hm, hac, ?_, due_nil rfl, Nat.zero_le _, by simp⟩
  have hn : s.say.e < x.m.ep := hlt
  have hbg : s.say.begun x.m = ({ s with e := x.m.ep, n := 0, hv := .slice none 0 0, hs := [], fv := .slice none 0 0, fs := [] } : Dt).say := by
    unfold Ts.begun
    rw [if_pos hn]; rfl
  have hbA : s.say.begunA x.m = [allA] := by
    unfold Ts.begunA
    rw [if_pos hn]
  unfold Ts.take
  rw [if_pos hc, hbg, hbA]; rfl
theorem td_ret {w w' : World} {B t : Nat} {s s1 : Dt} {x : Hm} {vA : Value} {l : List Am} (h : TdS w w' B t s s1 x vA l) (hm : s1.say.meet x.m = (s1.say, [])) {w2 : World} (hb : Below w'.heap.size w' w2) : TakeRD w B t s x.m (.returned vA) w2 := by
  have hs := h.said
  rw [hm] at hs
  simp only [Ts.settle_none h.due, List.append_nil] at hs
  exact ⟨vA, l, rfl, h.acts.below hb, by rw [hs], s1, h.st.on hb, by rw [hs]⟩
theorem td_pot {w w' : World} {B t : Nat} {s s1 s2 : Dt} {x : Hm} {vA : Value} {l : List Am} (h : TdS w w' B t s s1 x vA l) (hs2 : s2.say = (s1.say.meet x.m).1) : s2.fs.length + s2.hs.length ≤ s.fs.length + s.hs.length + 1 := by
  have h1 := (meet_fr s1.say x.m).2
  rw [← hs2, s2.len.1, s2.len.2, s1.len.1, s1.len.2] at h1
  have := h.pot
  omega
theorem td_meet {w w' w1 : World} {B t : Nat} {s s1 s2 : Dt} {x : Hm} {vA v2 : Value} {l l2 : List Am} (h : TdS w w' B t s s1 x vA l) (hst : SD w' w1 B t s1 s2) (h2 : Acts w1 w'.heap.size v2 l2) (hc2 : l2.map Am.c = (s1.say.meet x.m).2) (hs2 : s2.say = (s1.say.meet x.m).1) :
    ∃ v3 W3, (∀ ty, (Builtin.append_ #[41, 41] ty #[vA, v2]).run Try.prog w1 = .ok v3 W3) ∧ TdM w W3 B t s s2 x.m v3 (l ++ l2) := by
  have hl2 : l2.length ≤ 1 := by
    have := congrArg List.length hc2
    rw [List.length_map] at this
    rw [this]; exact meet_few _ _
  have few := h.few
  obtain ⟨v3, W3, hr, hac, st3⟩ := td_app h.st h.acts hst h2 (by omega)
  refine ⟨v3, W3, hr, st3, hac, ?_, td_pot h hs2, ?_⟩
  · rw [h.said, hs2, List.map_append, hc2, List.append_assoc]
  · have := st3.is.lh
    have := st3.is.l8
    rw [List.length_append]; omega
theorem td_hold {w w' w1 : World} {B t : Nat} {s s1 s2 : Dt} {x : Hm} {vA : Value} {l : List Am} (h : TdS w w' B t s s1 x vA l) (hst : SD w' w1 B t s1 s2) (hm : s1.say.meet x.m = (s2.say, [])) : TdM w w1 B t s s2 x.m vA l := by
  have hs := h.said
  rw [hm] at hs
  have st := h.st.trans hst
  refine ⟨st, h.acts.only hst.only (fun q e => ⟨h.st.is.wno e (by decide) (by decide) (by decide), h.st.is.wno e (by decide) (by decide) (by decide)⟩) (fun q e => h.st.is.wno e (by decide) (by decide) (by decide)), hs, td_pot h (by rw [hm]), ?_⟩
  have := st.is.lh
  have := st.is.l8
  have := h.few
  omega
theorem td_next {w w' w1 : World} {B t : Nat} {s s2 s3 : Dt} {m0 : Pm} {vA v2 : Value} {l l2 : List Am} {i : Nat} {z : Hm} (h : TdM w w' B t s s2 m0 vA l) (hz : s2.hs[i]? = some z) (hd : s2.say.due = some i) (hst : SD w' w1 B t s2 s3) (h2 : Acts w1 w'.heap.size v2 l2) (hc2 : l2.map Am.c = ((s2.say.without i).meet z.m).2) (hs3 : s3.say = ((s2.say.without i).meet z.m).1) :
    ∃ v3 W3, (∀ ty, (Builtin.append_ #[41, 41] ty #[vA, v2]).run Try.prog w1 = .ok v3 W3) ∧ TdM w W3 B t s s3 m0 v3 (l ++ l2) ∧ s3.hs.length < s2.hs.length := by
  have hl2 : l2.length ≤ 1 := by
    have := congrArg List.length hc2
    rw [List.length_map] at this
    rw [this]; exact meet_few _ _
  have few := h.few
  have hmp : s2.say.held[i]? = some z.m := by
    show (s2.hs.map Hm.m)[i]? = _
    rw [List.getElem?_map, hz]; rfl
  obtain ⟨v3, W3, hr, hac, st3⟩ := td_app h.st h.acts hst h2 (by omega)
  have hp := due_pot hd hmp
  rw [← hs3, s3.len.1, s3.len.2, s2.len.1, s2.len.2] at hp
  have pot := h.pot
  refine ⟨v3, W3, hr, ⟨st3, hac, ?_, by omega, ?_⟩, by omega⟩
  · rw [h.said, Ts.settle_some hd hmp, hs3, List.map_append, hc2, List.append_assoc]
  · rw [List.length_append]; omega
theorem td_done {w w' w2 : World} {B t : Nat} {s s2 : Dt} {m0 : Pm} {vA : Value} {l : List Am} (h : TdM w w' B t s s2 m0 vA l) (hd : s2.say.due = none) (hb : Below w'.heap.size w' w2) : TakeRD w B t s m0 (.returned vA) w2 := by
  have hs := h.said
  rw [Ts.settle_none hd, List.append_nil] at hs
  exact ⟨vA, l, rfl, h.acts.below hb, by rw [hs], s2, h.st.on hb, by rw [hs]⟩
/-- what the switch does, plainly -/
theorem dmeet_a {s : Dt} {x : Hm} (hk : x.m.kind = 2) (_ : 0 ≤ s.seq) (hq : s.seq = 0 ∨ x.m.seq ≠ s.seq) : s.say.meet x.m = (s.say, []) := by
  unfold Ts.meet
  rw [if_pos hk, if_neg]
  intro hc
  have := of_decide_eq_true (p := 0 < x.m.seq ∧ x.m.seq = s.seq) hc
  omega
theorem dmeet_b {s : Dt} {x : Hm} (hk : x.m.kind = 2) (_ : 0 ≤ s.seq) (hq : s.seq ≠ 0) (hq2 : x.m.seq = s.seq) : s.say.meet x.m = if x.m.num ≤ s.n then (s.say.used x.m, [s.say.usedA x.m]) else (s.say.holds x.m, []) := by
  unfold Ts.meet
  rw [if_pos hk, if_pos (show s.say.asks x.m.seq = true from decide_eq_true (show 0 < x.m.seq ∧ x.m.seq = s.seq by omega))]
  by_cases hn : x.m.num ≤ s.n
  · rw [ahead_0 hn, if_pos rfl, if_pos hn]
  · rw [ahead_pos hn, if_neg (by omega), if_neg hn]
theorem dmeet_d {s : Dt} {x : Hm} (hk : x.m.kind ≠ 2) (hn : x.m.num ≤ s.n) : s.say.meet x.m = (s.say, []) := by
  unfold Ts.meet
  rw [if_neg hk, ahead_0 hn, if_pos rfl]
theorem dmeet_e {s : Dt} {x : Hm} (hk : x.m.kind ≠ 2) (hn : ¬ x.m.num ≤ s.n) (h3 : 2 ≤ x.m.kind ∧ x.m.kind ≤ 4) : s.say.meet x.m = if x.m.kind = 4 ∨ x.m.num = s.n + 1 then (s.say.apply x.m, [actOf x.m]) else (s.say.holds x.m, []) := by
  unfold Ts.meet
  rw [if_neg hk, ahead_pos hn, if_neg (by omega)]
  by_cases h4 : x.m.kind = 4 ∨ x.m.num = s.n + 1
  · rw [if_pos h4, if_pos]
    rcases h4 with h4 | h4
    · exact .inl h4
    · by_cases h5 : x.m.kind = 4
      · exact .inl h5
      · exact .inr (by omega)
  · rw [if_neg h4, if_neg]
    omega
end
section
open Go.RowKit Go.Shelf
attribute [local go_sem ↓ high] loadMsg storeMsg buildMsg storeAct loadAct buildAct
attribute [local go_sem high] run_store_complex eqC

set_option maxRecDepth 100000 in
set_option maxHeartbeats 16000000 in
theorem take_noD (t B : Nat) (s : Dt) (x : Hm) (w : World) (h : IsD w B t s) (hc : s.say.counts x.m = false) : Calls Try.prog 14 #[.pointer (some ⟨t, 0, none⟩), .agg x.arr] w fun e w' => e = .returned (.slice none 0 0) ∧ Below w.heap.size w w' := by
  obtain ⟨W1, hW1⟩ : ∃ W1, w.alloc (.cells x.arr 45) = W1 := ⟨_, rfl⟩
  have b1 := boxB hW1
  have i1 := h.below b1.2
  obtain ⟨g1, hg1⟩ : ∃ g, w.heap.size = g := ⟨_, rfl⟩
  rw [hg1] at b1
  obtain ⟨d0, d1, -, d3, -, -, -, -, -, -⟩ := i1.cells
  have m0 : W1.cell? ⟨g1, 0, none⟩ = some (.int .i64 x.m.kind) := cell_of b1.1 0
  have m1 : W1.cell? ⟨g1, 1, none⟩ = some (.int .i64 x.m.client) := cell_of b1.1 1
  have m2 : W1.cell? ⟨g1, 2, none⟩ = some (.int .i64 x.m.life) := cell_of b1.1 2
  have m4 : W1.cell? ⟨g1, 4, none⟩ = some (.complex .f64 x.m.re x.m.im) := cell_of b1.1 4
  have HB : Hid (Below g1 w W1) := b1.2
  have HP : Calls Try.prog 34 #[.complex .f64 x.m.re x.m.im] W1 fun e w' => e = .returned (.tuple #[.int .i64 (if goodB x.m.re x.m.im then part x.m.re else 0), .int .i64 (if goodB x.m.re x.m.im then part x.m.im else 0), .bool (goodB x.m.re x.m.im)]) ∧ W1 = w' := (parts_any x.m.re x.m.im W1).mono fun e w' hq => ⟨hq.1, hq.2.symm⟩
  have hcc : ¬ ((2 ≤ x.m.kind ∧ x.m.kind ≤ 4) ∧ x.m.client = s.client ∧ x.m.life = s.life ∧ goodB x.m.re x.m.im = true ∧ s.e ≤ (if goodB x.m.re x.m.im then part x.m.re else 0)) := by
    rintro ⟨k1, k2, k3, k4, k5⟩
    rw [if_pos k4] at k5
    have : s.say.counts x.m = true := by
      unfold Ts.counts
      rw [decide_eq_true k1, decide_eq_true (show x.m.client = s.say.client from k2), decide_eq_true (show x.m.life = s.say.life from k3), k4, decide_eq_true (show s.say.e ≤ x.m.ep from k5)]; rfl
    rw [hc] at this; cases this
  obtain ⟨ep, hep⟩ : ∃ y, (if goodB x.m.re x.m.im then part x.m.re else 0) = y := ⟨_, rfl⟩
  obtain ⟨nu, hnu⟩ : ∃ y, (if goodB x.m.re x.m.im then part x.m.im else 0) = y := ⟨_, rfl⟩
  obtain ⟨gb, hgb⟩ : ∃ y, goodB x.m.re x.m.im = y := ⟨_, rfl⟩
  rw [hep] at hcc
  rw [hep, hnu] at HP
  rw [hgb] at HP hcc
  obtain ⟨kd, hkd⟩ : ∃ y, x.m.kind = y := ⟨_, rfl⟩
  obtain ⟨cl, hcl⟩ : ∃ y, x.m.client = y := ⟨_, rfl⟩
  obtain ⟨lf, hlf⟩ : ∃ y, x.m.life = y := ⟨_, rfl⟩
  obtain ⟨sc, hsc⟩ : ∃ y, s.client = y := ⟨_, rfl⟩
  obtain ⟨sl, hsl⟩ : ∃ y, s.life = y := ⟨_, rfl⟩
  obtain ⟨se, hse⟩ : ∃ y, s.e = y := ⟨_, rfl⟩
  rw [hkd] at m0 hcc
  rw [hcl] at m1 hcc
  rw [hlf] at m2 hcc
  rw [hsc] at d0 hcc
  rw [hsl] at d1 hcc
  rw [hse] at d3 hcc
  have HP2 : Hid (Calls Try.prog 34 #[.complex .f64 x.m.re x.m.im] W1 fun e w' => e = .returned (.tuple #[.int .i64 ep, .int .i64 nu, .bool gb]) ∧ W1 = w') := HP
  obtain ⟨X, hX⟩ : ∃ X, x.arr = X := ⟨_, rfl⟩
  rw [hX] at hW1
  rw [hX]
  have HC : Hid (¬ ((2 ≤ kd ∧ kd ≤ 4) ∧ cl = sc ∧ lf = sl ∧ gb = true ∧ se ≤ ep)) := hcc
  clear h hc b1 i1 hX hep hnu hgb hkd hcl hlf hsc hsl hse HP hcc
  go_enter Try.func14, Try.ntmps14
  go_upto_region 2 with (go_at_call 34; refine HP2.out.mono ?_; rintro e w' ⟨rfl, rfl⟩)
  have HE2 : Hid (∀ nq, Below w.heap.size w (W1.drewN nq)) := fun nq => by rw [hg1]; exact below_drewN HB.out nq
  have HE : Hid (∀ nq, Below g1 w (W1.drewN nq)) := fun nq => below_drewN HB.out nq
  by_cases k1 : kd < 2
  · go_quiet (fail)
    go_wp2
    go_ret
    first | exact ⟨rfl, HE.out _⟩ | exact ⟨rfl, HE2.out _⟩
  · by_cases k2 : kd > 4
    · go_quiet (fail)
      go_wp2
      go_ret
      first | exact ⟨rfl, HE.out _⟩ | exact ⟨rfl, HE2.out _⟩
    · by_cases k3 : cl = sc
      · have k3b : (cl != sc) = false := by simp [k3]
        by_cases k4 : lf = sl
        · have k4b : (lf != sl) = false := by simp [k4]
          cases gb with
          | false =>
            go_quiet (fail)
            go_wp2
            go_ret
            first | exact ⟨rfl, HE.out _⟩ | exact ⟨rfl, HE2.out _⟩
          | true =>
            have k6 : ep < se := by
              rcases Int.lt_or_le ep se with h6 | h6
              · exact h6
              · exact absurd ⟨⟨by omega, by omega⟩, k3, k4, rfl, h6⟩ HC.out
            clear k3 k4
            go_quiet (fail)
            go_wp2
            go_ret
            first | exact ⟨rfl, HE.out _⟩ | exact ⟨rfl, HE2.out _⟩
        · have k4b : (lf != sl) = true := by simp [k4]
          clear k3 k4
          go_quiet (fail)
          go_wp2
          go_ret
          first | exact ⟨rfl, HE.out _⟩ | exact ⟨rfl, HE2.out _⟩
      · have k3b : (cl != sc) = true := by simp [k3]
        clear k3
        go_quiet (fail)
        go_wp2
        go_ret
        first | exact ⟨rfl, HE.out _⟩ | exact ⟨rfl, HE2.out _⟩
end
end Go.Proofs.Ytpmcecenhgppbaa
