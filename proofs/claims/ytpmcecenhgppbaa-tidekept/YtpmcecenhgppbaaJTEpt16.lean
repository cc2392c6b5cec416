/- Take: what it leaves, plainly. -/
import Derived.Test.YtpmcecenhgppbaaJTEpt15
import Derived.ScopeJumps
namespace Go.Proofs.Ytpmcecenhgppbaa
section
open Go.RowKit Go.Shelf

/-- as Q; by a goto to the label 0: J, at a lesser number -/
def JumpG (J : Nat → Act → World → Prop) (M : Nat) (Q : Exit → Act → World → Prop) : Exit → Act → World → Prop
  | .goto l, a, w => l = 0 ∧ ∃ n, n < M ∧ J n a w
  | e, a, w => Q e a w
theorem JumpG.ret {J : Nat → Act → World → Prop} {M : Nat} {Q : Exit → Act → World → Prop} {a : Act} {w : World} (h : Q .ret a w) : JumpG J M Q .ret a w := h
theorem wp_skip_seq {P : Program} {a : Act} {w : World} {Q : Exit → Act → World → Prop} {X : Code} (h : X.wp P Q a w) : (Code.skip.seq X).wp P Q a w := by
  apply wp_seq
  apply wp_skip
  exact h
theorem wp_scope_one {P : Program} {a : Act} {w : World} {Q : Exit → Act → World → Prop} {c r0 : Code} (J : Nat → Act → World → Prop)
    (h0 : findLabel c 0 = some (Code.skip.seq r0)) (q0 : ∀ M n a w, J n a w → n ≤ M → r0.wp P (JumpG J M Q) a w)
    (first : (∀ M n a w, J n a w → n ≤ M → r0.wp P (JumpG J M Q) a w) → ∃ M, c.wp P (JumpG J M Q) a w) : (Code.scope c).wp P Q a w := by
  obtain ⟨M0, first⟩ := first q0
  intro b k cs
  have hg : gotoIn 0 (.inScope c :: k) = some (.code (Code.skip.seq r0) :: .inScope c :: k) := by simp [gotoIn, h0]
  have key : ∀ n a w, J n a w → ∃ e a' w', Q e a' w' ∧ Arrives P (lone (b.at a (.code (Code.skip.seq r0) :: .inScope c :: k)) cs w) b k cs e a' w' := by
    intro n
    induction n using Nat.strongRecOn with
    | _ n ih =>
      intro a w hJ
      obtain ⟨e, a₁, w₁, hq, harr⟩ := wp_skip_seq (q0 n n a w hJ (Nat.le_refl _)) b (.inScope c :: k) cs
      cases e with
      | normal => exact ⟨.normal, a₁, w₁, hq, Steps.trans harr (.one step_inScope)⟩
      | exit id => exact ⟨.exit id, a₁, w₁, hq, fun k' hk => harr k' (by simp [exitTo, hk])⟩
      | goto l' =>
        obtain ⟨rfl, n', hlt, hJ'⟩ := hq
        obtain ⟨e₂, a₂, w₂, hq₂, harr₂⟩ := ih n' hlt a₁ w₁ hJ'
        exact ⟨e₂, a₂, w₂, hq₂, .of_steps (harr _ hg) harr₂⟩
      | ret => exact ⟨_, a₁, w₁, hq, harr⟩
      | panic ch => exact ⟨_, a₁, w₁, hq, harr⟩
      | outgrown => exact ⟨_, a₁, w₁, hq, harr⟩
  obtain ⟨e, a₁, w₁, hq, harr⟩ := first b (.inScope c :: k) cs
  cases e with
  | normal => exact ⟨.normal, a₁, w₁, hq, .head step_scope (Steps.trans harr (.one step_inScope))⟩
  | exit id => exact ⟨.exit id, a₁, w₁, hq, fun k' hk => .head step_scope (harr k' (by simp [exitTo, hk]))⟩
  | goto l' =>
    obtain ⟨rfl, n', hlt, hJ'⟩ := hq
    obtain ⟨e₂, a₂, w₂, hq₂, harr₂⟩ := key n' a₁ w₁ hJ'
    exact ⟨e₂, a₂, w₂, hq₂, .of_steps (.head step_scope (harr _ hg)) harr₂⟩
  | ret => exact ⟨_, a₁, w₁, hq, .of_steps (.one step_scope) harr⟩
  | panic ch => exact ⟨_, a₁, w₁, hq, .of_steps (.one step_scope) harr⟩
  | outgrown => exact ⟨_, a₁, w₁, hq, .of_steps (.one step_scope) harr⟩
/-- append, by what the builtin does -/
theorem wpList_append_run {P : Program} {w : World} {ops : Array Oper} {rest : List Oper} {o : Oper} {a : Act} {Q : Exit → Act → World → Prop} (hgd : o.guard = none) (s x : Operand) (t : TypeId)
    (ho : o.op = .call { callee := .builtin .append, args := #[s, x], argTypes := #[t, t] }) (v xv r : Value) (W : World) (hs : a.eval s = v) (hx : a.eval x = xv) (hr : ∀ ty, (Builtin.append_ #[t, t] ty #[v, xv]).run P w = .ok r W)
    (h : wpList P ops Q rest (a.put o.dst r) W) : wpList P ops Q (o :: rest) a w := by
  refine wpList_plain hgd fun K hK => ?_
  unfold Oper.wp execOp
  simp only [ho, resolve, invoke, builtin, Sem.run_bind, Sem.run_pure, Result.andThen_ok, List.map_toArray, List.map_cons, List.map_nil, hs, hx, hr]
  exact hK _ _ h
/-- acts behind acts -/
theorem acts_append {w : World} {B : Nat} {v v2 : Value} {l l2 : List Am} (h : Acts w B v l) (h2 : Acts w B v2 l2) (hB : B ≤ w.heap.size) (hl : l.length + l2.length ≤ 1000000) :
    ∃ v3 W, (∀ ty, (Builtin.append_ #[41, 41] ty #[v, v2]).run Try.prog w = .ok v3 W) ∧ Acts W B v3 (l ++ l2) ∧ Only (fun k => v.ownBlock = some k) w W ∧ (v3.ownBlock = v.ownBlock ∨ v3.ownBlock = some w.heap.size) := by
  obtain ⟨i1, hi1, hw0, hw1, hw2⟩ := info_parts Try.infoAc
  have hr2 := h2.row
  rcases h2.row.2 with ⟨rfl, e2⟩ | ⟨g, cap, cur, rfl, _⟩
  · obtain rfl := List.length_eq_zero_iff.1 e2
    refine ⟨v, w, fun ty => run_append_owned_none (P := Try.prog) (w := w) B 41 ty 59 i1 7 Try.underlying41 hi1 v l.length (ac l) h.row, by rw [List.append_nil]; exact h, Only.refl _ _, .inl rfl⟩
  · obtain ⟨hc, _⟩ := owns_cells hr2
    have key : ∀ ty, ∃ v' w', (Builtin.append_ #[41, 41] ty #[v, .slice (some ⟨g, 0, none⟩) l2.length cap]).run Try.prog w = .ok v' w' ∧ w'.ownsRow B 59 7 v' (l.length + l2.length) (ac l ++ ac l2) ∧ w.grownBy w' v.ownBlock ∧ (v'.ownBlock = v.ownBlock ∨ v'.ownBlock = some w.heap.size) := fun ty => by
      obtain ⟨v', w', a1, a2, a3, _, a5⟩ := run_append_own_at (P := Try.prog) w B 41 ty 59 i1 _ 7 64 Try.underlying41 hi1 hw0 hw1 hw2 rfl (by decide) v l.length (ac l) h.row ⟨g, 0, none⟩ l2.length cap (ac l2) (ac_len l2) (fun j u hu => by rw [add_plain', Nat.zero_add]; exact hc j u hu) (ac_one l2) (by unfold maxLen; omega) (by omega) hB
      exact ⟨v', w', a1, a2, a3, a5⟩
    obtain ⟨v', W, a1, a2, a3, a5⟩ := key 0
    have hO := only_grown a3
    refine ⟨v', W, fun ty => ?_, ⟨?_, fun a ha => ?_⟩, hO, a5⟩
    · have : (Builtin.append_ #[41, 41] ty #[v, .slice (some ⟨g, 0, none⟩) l2.length cap]).run Try.prog w = (Builtin.append_ #[41, 41] 0 #[v, .slice (some ⟨g, 0, none⟩) l2.length cap]).run Try.prog w := rfl
      rw [this]; exact a1
    · show World.ownsRow _ _ _ _ _ _ _
      rw [List.length_append, ac_app]; exact a2
    · have hn : ∀ q, v.ownBlock = some q → ¬ Tag w q 57 ∧ ¬ Tag w q 53 := fun q e => ⟨(Tag.own h.row e).two (by decide), (Tag.own h.row e).two (by decide)⟩
      rcases List.mem_append.1 ha with ha | ha
      · exact (h.each a ha).only hO hn
      · exact (h2.each a ha).only hO hn
/-- the acts' lists are none of the tide's blocks -/
def Afar (l : List Am) (t : Nat) (s : Td) : Prop := ∀ a ∈ l, ∀ k, a.ve.ownBlock = some k ∨ a.vk.ownBlock = some k → ¬ s.blk t k
theorem Afar.nil (t : Nat) (s : Td) : Afar [] t s := fun a ha => by cases ha
/-- what stands when a message is met -/
structure TkS (w w' : World) (B t : Nat) (s s1 : Td) (m0 : Pm) (x : Hm) (vA : Value) (l : List Am) (n : Nat) : Prop where
  st : ST w w' B t s s1
  nb : ∀ k, s1.blk t k → k ≠ w.heap.size
  box : w'.heap[w.heap.size]? = some (.cells x.arr 45 (0, 0))
  ls : Lists w' 0 x
  mk1 : Mk x.m.re x.m.im (part s1.a) x.m.num
  kind : 2 ≤ x.m.kind ∧ x.m.kind ≤ 4
  acts : Acts w' w.heap.size vA l
  said : s.say.take m0 = ((s1.say.meet x.m).1.settle.1, l.map Am.c ++ ((s1.say.meet x.m).2 ++ (s1.say.meet x.m).1.settle.2))
  len : (s1.say.meet x.m).1.held.length ≤ n
  few : l.length + n ≤ 200
  afar : Afar l t s1
/-- behind meet and its acts -/
structure TkM (w w' : World) (B t : Nat) (s s2 : Td) (m0 : Pm) (vA : Value) (l : List Am) (n : Nat) (X : Array Value) : Prop where
  st : ST w w' B t s s2
  nb : ∀ k, s2.blk t k → k ≠ w.heap.size
  box : w'.heap[w.heap.size]? = some (.cells X 45 (0, 0))
  acts : Acts w' w.heap.size vA l
  said : s.say.take m0 = (s2.say.settle.1, l.map Am.c ++ s2.say.settle.2)
  len : s2.say.held.length ≤ n
  few : l.length + n ≤ 201
  afar : Afar l t s2
theorem meet_few (s : Ts) (m : Pm) : (s.meet m).2.length ≤ 1 := by
  unfold Ts.meet
  split
  · split
    · split <;> simp
    · simp
  · split
    · simp
    · split <;> simp
theorem map_erase {α β : Type} (f : α → β) (l : List α) (i : Nat) : (l.eraseIdx i).map f = (l.map f).eraseIdx i := by
  rw [List.eraseIdx_eq_take_drop_succ, List.eraseIdx_eq_take_drop_succ, List.map_append, List.map_take, List.map_drop]
theorem tk_meet {w w' w1 : World} {B t : Nat} {s s1 s2 : Td} {m0 : Pm} {x : Hm} {vA v2 : Value} {l l2 : List Am} {n : Nat} (h : TkS w w' B t s s1 m0 x vA l n)
    (ha : Acts w1 w'.heap.size v2 l2) (hc : l2.map Am.c = (s1.say.meet x.m).2) (hst : ST w' w1 B t s1 s2) (hs2 : s2.say = (s1.say.meet x.m).1) (hh : l2 = [] ∨ s2.hs = s1.hs) :
    Acts w1 w.heap.size vA l ∧ Acts w1 w.heap.size v2 l2 ∧ w.heap.size ≤ w1.heap.size ∧ l.length + l2.length ≤ 1000000 ∧
    ∀ v3 W3, Acts W3 w.heap.size v3 (l ++ l2) → Only (fun k => vA.ownBlock = some k) w1 W3 → TkM w W3 B t s s2 m0 v3 (l ++ l2) n x.arr := by
  have hsb : w.heap.size < w'.heap.size := (Array.getElem?_eq_some_iff.1 h.box).1
  have hsw : w.heap.size ≤ w'.heap.size := Nat.le_of_lt hsb
  have a1 : Acts w1 w.heap.size vA l := h.acts.only hst.only (fun q e => ⟨h.st.is.wno e (by decide) (by decide), h.st.is.wno e (by decide) (by decide)⟩) (fun q e => h.st.is.wno e (by decide) (by decide))
  have hl2 : l2.length ≤ 1 := by
    have := congrArg List.length hc
    rw [List.length_map] at this
    rw [this]; exact meet_few _ _
  have hbx : w1.heap[w.heap.size]? = some (.cells x.arr 45 (0, 0)) := (hst.only.block _ (Array.getElem?_eq_some_iff.1 h.box).1 (fun e => h.nb _ (.inl e) rfl)).trans h.box
  have s12 := h.st.trans hst
  have few := h.few
  have ap : Afar (l ++ l2) t s2 := fun a hal k e hb => by
    rcases List.mem_append.1 hal with hal | hal
    · have hk : k < w'.heap.size := by
        rcases e with e | e
        · exact (World.ownsRow.lt (h.acts.each a hal).es k e).2
        · exact (World.ownsRow.lt (h.acts.each a hal).ks k e).2
      rcases hst.nblk k hb with q | q
      · exact h.afar a hal k e q
      · omega
    · have hk : w'.heap.size ≤ k := by
        rcases e with e | e
        · exact (World.ownsRow.lt (ha.each a hal).es k e).1
        · exact (World.ownsRow.lt (ha.each a hal).ks k e).1
      rcases hh with rfl | hh
      · cases hal
      · rcases hb with hw | ⟨z, hz, e2⟩
        · rcases e with e | e
          · exact hst.is.wno hw (by decide) (by decide) (Tag.own (ha.each a hal).es e)
          · exact hst.is.wno hw (by decide) (by decide) (Tag.own (ha.each a hal).ks e)
        · rw [hh] at hz
          rcases e2 with e2 | e2
          · have := (World.ownsRow.lt (h.st.is.each z hz).1.es k e2).2; omega
          · have := (World.ownsRow.lt (h.st.is.each z hz).1.ks k e2).2; omega
  refine ⟨a1, ha.down hsw, Nat.le_trans hsw hst.only.size, by omega, fun v3 W3 h3 ho => ?_⟩
  have hno : ∀ q, vA.ownBlock = some q → Tag w1 q 59 := fun q e => Tag.own a1.row e
  have hge : ∀ q, vA.ownBlock = some q → w.heap.size < q := fun q e => by
    have := (World.ownsRow.lt a1.row q e).1
    rcases Nat.lt_or_ge w.heap.size q with hh | hh
    · exact hh
    · have : q = w.heap.size := by omega
      subst this
      exact absurd (⟨_, _, hbx⟩ : Tag w1 _ 45) ((hno _ e).two (by decide))
  have nb2 : ∀ k, s2.blk t k → k ≠ w.heap.size := fun k hk => by
    rcases hst.nblk k hk with e | e
    · exact h.nb k e
    · omega
  refine ⟨⟨s12.is.moved fun k hk => ho.block k (s12.is.lt hk).2 fun e => s12.is.noAct (hno k e) k hk rfl, ⟨ho.os.trans s12.only.os, ho.tape.trans s12.only.tape, ho.output.trans s12.only.output, Nat.le_trans s12.only.size ho.size, fun k hk hn => ?_⟩, s12.nwr, s12.nblk⟩, nb2, ?_, h3, ?_, ?_, ?_, ap⟩
  · have e1 := s12.only.block k hk hn
    refine (ho.block k (Nat.lt_of_lt_of_le hk s12.only.size) fun e => ?_).trans e1
    have := hge k e
    omega
  · exact (ho.block _ (Array.getElem?_eq_some_iff.1 hbx).1 (fun e => by have := hge _ e; omega)).trans hbx
  · rw [h.said, hs2, List.map_append, hc, List.append_assoc]
  · rw [hs2]; exact h.len
  · rw [List.length_append]; omega
/-- a held message is let go, and is met next -/
theorem tk_next {w w4 W5 w6 : World} {B t : Nat} {s s2 : Td} {m0 : Pm} {vA : Value} {l : List Am} {n : Nat} {X : Array Value} (h0 : IsT w B t s) (h : TkM w w4 B t s s2 m0 vA l n X) {i g cap : Nat} {y : Hm} (hd : s2.say.due = some i) (hy : s2.hs[i]? = some y) (hv : s2.hv = .slice (some ⟨g, 0, none⟩) s2.hs.length cap)
    (hW5 : w4.setRow w.heap.size y.arr = W5) :
    (W5.ownsRow B 45 16 (.slice (some ⟨g, 0, none⟩) s2.hs.length cap) s2.hs.length (mc s2.hs)) ∧ (W5.cell? ⟨t, 8, none⟩ = some s2.hv) ∧
    (RowM w6 B (.slice (some ⟨g, 0, none⟩) (s2.hs.length - 1) cap) (s2.hs.eraseIdx i) → Only (· = g) W5 w6 → (w6.cell? ⟨t, 8, none⟩ = some s2.hv ∧ ∀ j, w6.frozen? ⟨t, j, none⟩ = false) ∧
      ∃ s3 n', n' < n ∧ TkS w (w6.setCell ⟨t, 8, none⟩ (.slice (some ⟨g, 0, none⟩) (s2.hs.length - 1) cap)) B t s s3 m0 y vA l n') := by
  have o5 : Only (· = w.heap.size) w4 W5 := by rw [← hW5]; exact onlyR _ _ _
  have is4 := h.st.is
  have nb := h.nb
  have is5 : IsT W5 B t s2 := is4.moved fun k hk => o5.block k (is4.lt hk).2 (nb k hk)
  have hbx5 : W5.heap[w.heap.size]? = some (.cells y.arr 45 (0, 0)) := by rw [← hW5]; exact setRow_heap _ _ _ _ _ _ h.box
  have hym : y ∈ s2.hs := List.mem_of_getElem? hy
  have hlt : i < s2.hs.length := (List.getElem?_eq_some_iff.1 hy).1
  have acts5 : Acts W5 w.heap.size vA l := h.acts.only o5 (fun q (e : q = w.heap.size) => by rw [e]; exact ⟨Tag.two (⟨_, _, h.box⟩ : Tag w4 _ 45) (by decide), Tag.two (⟨_, _, h.box⟩ : Tag w4 _ 45) (by decide)⟩) (fun q (e : q = w.heap.size) => by rw [e]; exact Tag.two (⟨_, _, h.box⟩ : Tag w4 _ 45) (by decide))
  have hg5 : Tag W5 g 45 := is5.th (by rw [hv]; rfl)
  refine ⟨?_, is5.cells.2.2.2.2.2.2.2.2.1, fun hr6 o6 => ?_⟩
  · have := is5.held
    rw [hv] at this; exact this
  · have gb : g ≠ w.heap.size := nb g (.inl (.inr (.inl (by rw [hv]; rfl))))
    have gt : g ≠ t := fun e => by rw [e] at hg5; exact is5.tt.two (by decide) hg5
    have hd6 : w6.heap[t]? = some (.cells s2.arr 68 (0, 0)) := (o6.block t is5.tt.lt (fun e => gt e.symm)).trans is5.head
    have c6 : w6.cell? ⟨t, 8, none⟩ = some s2.hv := by rw [cell_of hd6]; rfl
    refine ⟨⟨c6, free_of hd6⟩, { s2 with hv := .slice (some ⟨g, 0, none⟩) (s2.hs.length - 1) cap, hs := s2.hs.eraseIdx i }, s2.hs.length - 1, ?_, ?_⟩
    · have := h.len
      have e : s2.say.held.length = s2.hs.length := by simp [Td.say]
      omega
    obtain ⟨W7, hW7⟩ : ∃ W7, w6.setCell ⟨t, 8, none⟩ (.slice (some ⟨g, 0, none⟩) (s2.hs.length - 1) cap) = W7 := ⟨_, rfl⟩
    rw [hW7]
    have o7 : Only (· = t) w6 W7 := by rw [← hW7]; exact only1 _ t _ _
    have tt6 : Tag w6 t 68 := ⟨_, _, hd6⟩
    have hg6 : Tag w6 g 45 := by
      have : (Value.slice (some ⟨g, 0, none⟩) (s2.hs.length - 1) cap).ownBlock = some g := rfl
      exact Tag.own hr6 this
    have two : Only (fun k => k = g ∨ k = t) W5 W7 := (o6.mono fun k e => .inl e).trans (o7.mono fun k e => .inr e)
    have no2 : ∀ q, (q = g ∨ q = t) → ∀ ty, 45 ≠ ty → 68 ≠ ty → ¬ Tag W5 q ty := fun q e ty h1 h2 => by
      rcases e with rfl | rfl
      · exact hg5.two h1
      · exact is5.tt.two h2
    have lists : ∀ z ∈ s2.hs, Lists W7 B z := fun z hz => (is5.each z hz).1.only two fun q e => ⟨no2 q e _ (by decide) (by decide), no2 q e _ (by decide) (by decide)⟩
    have hsay : ({ s2 with hv := .slice (some ⟨g, 0, none⟩) (s2.hs.length - 1) cap, hs := s2.hs.eraseIdx i } : Td).say = s2.say.without i := by
      unfold Td.say Ts.without
      rw [map_erase]
    have hmp : s2.say.held[i]? = some y.m := by
      show (s2.hs.map Hm.m)[i]? = _
      rw [List.getElem?_map, hy]; rfl
    have is7 : IsT W7 B t { s2 with hv := .slice (some ⟨g, 0, none⟩) (s2.hs.length - 1) cap, hs := s2.hs.eraseIdx i } := by
      refine ⟨?_, is5.bt, is5.mkk, ?_, fun z hz => ⟨lists z (List.mem_of_mem_eraseIdx hz), (is5.each z (List.mem_of_mem_eraseIdx hz)).2⟩, ?_, is5.isf, is5.frn, is5.ask0, ?_, is5.l8⟩
      · rw [← hW7]
        have := heap_set hd6 8 (.slice (some ⟨g, 0, none⟩) (s2.hs.length - 1) cap)
        simpa [Td.arr] using this
      · exact owns_moved hr6 fun k e => o7.block k (Tag.own hr6 e).lt fun (e' : k = t) => by
          have := Tag.own hr6 e
          rw [e'] at this; exact tt6.two (by decide) this
      · refine is5.map.moved fun k e => two.block k (is5.map.some' e).1.lt fun e' => ?_
        have hm := (is5.map.some' e).1
        rcases e' with rfl | rfl
        · exact hm.no hg5
        · exact hm.no is5.tt
      · rw [List.length_eraseIdx_of_lt hlt]
        have := is5.lh
        show s2.hs.length - 1 ≤ s2.hold
        omega
    have st5 : ST w W5 B t s s2 := by
      refine ⟨is5, ⟨o5.os.trans h.st.only.os, o5.tape.trans h.st.only.tape, o5.output.trans h.st.only.output, Nat.le_trans h.st.only.size o5.size, fun k hk hn => ?_⟩, h.st.nwr, h.st.nblk⟩
      exact (o5.block k (Nat.lt_of_lt_of_le hk h.st.only.size) (fun (e : k = w.heap.size) => by omega)).trans (h.st.only.block k hk hn)
    have st7 : ST W5 W7 B t s2 { s2 with hv := .slice (some ⟨g, 0, none⟩) (s2.hs.length - 1) cap, hs := s2.hs.eraseIdx i } := by
      refine ⟨is7, two.mono (fun k e => by
        rcases e with rfl | rfl
        · exact .inr (.inl (by rw [hv]; rfl))
        · exact .inl rfl), ?_, ?_⟩
      · rintro k (e | e | e)
        · exact .inl (.inl e)
        · exact .inl (.inr (.inl (by rw [hv]; exact e)))
        · exact .inl (.inr (.inr e))
      · rintro k ((e | e | e) | ⟨z, hz, e⟩)
        · exact .inl (.inl (.inl e))
        · exact .inl (.inl (.inr (.inl (by rw [hv]; exact e))))
        · exact .inl (.inl (.inr (.inr e)))
        · exact .inl (.inr ⟨z, List.mem_of_mem_eraseIdx hz, e⟩)
    obtain ⟨m', hm', hdue⟩ := Ts.due_some hd
    rw [hmp] at hm'
    cases hm'
    have hmeet := meet_due (i := i) hdue
    have gd := (is5.each y hym).2
    have nb7 : ∀ k, ({ s2 with hv := .slice (some ⟨g, 0, none⟩) (s2.hs.length - 1) cap, hs := s2.hs.eraseIdx i } : Td).blk t k → k ≠ w.heap.size := fun k hk => by
      rcases st7.nblk k hk with e | e
      · exact nb k e
      · have := (Array.getElem?_eq_some_iff.1 hbx5).1; omega
    have ap7 : Afar l t { s2 with hv := .slice (some ⟨g, 0, none⟩) (s2.hs.length - 1) cap, hs := s2.hs.eraseIdx i } := fun a hal k e hb => by
      have hk : k < W5.heap.size := by
        rcases e with e | e
        · exact (World.ownsRow.lt (acts5.each a hal).es k e).2
        · exact (World.ownsRow.lt (acts5.each a hal).ks k e).2
      rcases st7.nblk k hb with q | q
      · exact h.afar a hal k e q
      · omega
    refine ⟨st5.trans st7, nb7, ?_, ?_, gd.mkk, ?_, ?_, ?_, ?_, ?_, ap7⟩
    · exact (two.block _ (Array.getElem?_eq_some_iff.1 hbx5).1 (fun e => by
        rcases e with e | e
        · exact gb e.symm
        · have := h0.tt.lt; omega)).trans hbx5
    · exact (lists y hym).down (Nat.zero_le _)
    · rcases gd.kind with e | e <;> omega
    · exact acts5.only two (fun q e => ⟨no2 q e _ (by decide) (by decide), no2 q e _ (by decide) (by decide)⟩) (fun q e => no2 q e _ (by decide) (by decide))
    · rw [h.said, Ts.settle_some hd hmp, hsay]
    · rw [hsay, hmeet.1, List.length_eraseIdx_of_lt (by have := (List.getElem?_eq_some_iff.1 hmp).1; exact this)]
      have e : s2.say.held.length = s2.hs.length := by simp [Td.say]
      omega
    · have := h.few
      have := h.len
      have e : s2.say.held.length = s2.hs.length := by simp [Td.say]
      omega
end
end Go.Proofs.Ytpmcecenhgppbaa
