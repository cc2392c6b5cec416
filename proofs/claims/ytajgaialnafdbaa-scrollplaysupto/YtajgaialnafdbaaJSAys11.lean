/- Reading a half, plainly; lists of records in memory; a scope with three labels. -/
import Derived.Test.YtajgaialnafdbaaJSAys10
import Derived.ScopeJumps
import Derived.WalkMore
namespace Go.Proofs.Ytajgaialnafdbaa
section
open Go.RowKit

/-- a record that is being read: so many pieces of it -/
structure Part (G : Nat) (bs : List (List Int)) (n u k c : Nat) (p : List Int) : Prop where
  z : k = 0 → p = [] ∧ c = 0
  y : 0 < k → k < c ∧ c ≤ 8 ∧ (∃ b0, bs[u]? = some b0 ∧ gB b0 9 = c) ∧ rdP G n c 0 (bs.drop u) = (rdP G n c k (bs.drop (u + k))).map (p ++ ·)
  len : p.length ≤ 53 * k
theorem Part.start (G : Nat) (bs : List (List Int)) (n u : Nat) : Part G bs n u 0 0 [] := ⟨fun _ => ⟨rfl, rfl⟩, fun h => absurd h (by decide), Nat.le_refl _⟩
def cnt (k c : Nat) (b : List Int) : Nat := if k = 0 then gB b 9 else c
theorem rdOne_head {G n u : Nat} {bs : List (List Int)} {b0 : List Int} (h : bs[u]? = some b0) : rdOne G n (bs.drop u) = (rdP G n (gB b0 9) 0 (bs.drop u)).map fun p => (p, gB b0 9) := by
  have hu : u < bs.length := (List.getElem?_eq_some_iff.1 h).1
  have e : bs.drop u = b0 :: bs.drop (u + 1) := by rw [List.drop_eq_getElem_cons hu, (List.getElem?_eq_some_iff.1 h).2]
  rw [e]; rfl
theorem rdOne_none {G n u : Nat} {bs : List (List Int)} (h : bs[u]? = none) : rdOne G n (bs.drop u) = none := by
  rw [List.drop_eq_nil_of_le (List.getElem?_eq_none_iff.1 h)]; rfl
theorem Part.stop {G : Nat} {bs : List (List Int)} {n u k c : Nat} {p : List Int} (h : Part G bs n u k c p) (hb : bs[u + k]? = none) : rdOne G n (bs.drop u) = none := by
  by_cases hk : k = 0
  · subst hk; exact rdOne_none hb
  · obtain ⟨_, _, ⟨b0, h0, hc⟩, e⟩ := h.y (by omega)
    rw [rdOne_head h0, hc, e, List.drop_eq_nil_of_le (List.getElem?_eq_none_iff.1 hb)]; rfl
theorem map_nil_app (o : Option (List Int)) : o.map (([] : List Int) ++ ·) = o := by cases o <;> rfl
theorem Part.all {G : Nat} {bs : List (List Int)} {n u k c : Nat} {p b : List Int} (h : Part G bs n u k c p) (hb : bs[u + k]? = some b) : (∃ b0, bs[u]? = some b0 ∧ gB b0 9 = cnt k c b) ∧ rdP G n (cnt k c b) 0 (bs.drop u) = (rdP G n (cnt k c b) k (b :: bs.drop (u + k + 1))).map (p ++ ·) := by
  have hu : u + k < bs.length := (List.getElem?_eq_some_iff.1 hb).1
  have e : bs.drop (u + k) = b :: bs.drop (u + k + 1) := by rw [List.drop_eq_getElem_cons hu, (List.getElem?_eq_some_iff.1 hb).2]
  by_cases hk : k = 0
  · subst hk
    obtain ⟨rfl, rfl⟩ := h.z rfl
    have hc : cnt 0 0 b = gB b 9 := if_pos rfl
    rw [hc, map_nil_app]
    exact ⟨⟨b, hb, rfl⟩, by rw [← e]; rfl⟩
  · have hc : cnt k c b = c := if_neg hk
    obtain ⟨_, _, h0, h1⟩ := h.y (by omega)
    rw [hc, ← e]
    exact ⟨h0, h1⟩
theorem Part.none {G : Nat} {bs : List (List Int)} {n u k c : Nat} {p b : List Int} (h : Part G bs n u k c p) (hb : bs[u + k]? = some b) (hp : pcIn G n k (cnt k c b) b = []) : rdOne G n (bs.drop u) = none := by
  obtain ⟨⟨b0, h0, hc⟩, e⟩ := h.all hb
  rw [rdOne_head h0, hc, e]
  unfold rdP
  rw [if_pos hp]; rfl
theorem pcIn_c {g r k c : Nat} {b : List Int} (h : pcIn g r k c b ≠ []) : 1 ≤ c ∧ c ≤ 8 := by
  unfold pcIn at h
  split at h
  · rename_i e; exact ⟨e.1, e.2.1⟩
  · exact absurd rfl h
theorem Part.lt {G : Nat} {bs : List (List Int)} {n u k c : Nat} {p b : List Int} (h : Part G bs n u k c p) (hp : pcIn G n k (cnt k c b) b ≠ []) : k < cnt k c b := by
  have := pcIn_c hp
  by_cases hk : k = 0
  · omega
  · have hc : cnt k c b = c := if_neg hk
    have := (h.y (by omega)).1
    omega
theorem Part.more {G : Nat} {bs : List (List Int)} {n u k c : Nat} {p b : List Int} (h : Part G bs n u k c p) (hb : bs[u + k]? = some b) (hp : pcIn G n k (cnt k c b) b ≠ []) (hk : k + 1 < cnt k c b) : Part G bs n u (k + 1) (cnt k c b) (p ++ pcIn G n k (cnt k c b) b) := by
  obtain ⟨h0, e⟩ := h.all hb
  refine ⟨fun h => by omega, fun _ => ⟨hk, (pcIn_c hp).2, h0, ?_⟩, ?_⟩
  · rw [e, ← Nat.add_assoc]
    have e2 : rdP G n (cnt k c b) k (b :: bs.drop (u + k + 1)) = (rdP G n (cnt k c b) (k + 1) (bs.drop (u + k + 1))).map (pcIn G n k (cnt k c b) b ++ ·) := by
      conv => lhs; unfold rdP
      rw [if_neg hp, if_pos hk]
    rw [e2]
    cases rdP G n (cnt k c b) (k + 1) (bs.drop (u + k + 1)) with
    | none => rfl
    | some q => simp
  · have := pcIn_len (g := G) (r := n) (k := k) (c := cnt k c b) (b := b)
    have := h.len
    rw [List.length_append]; omega
theorem Part.done {G : Nat} {bs : List (List Int)} {n u k c : Nat} {p b : List Int} (h : Part G bs n u k c p) (hb : bs[u + k]? = some b) (hp : pcIn G n k (cnt k c b) b ≠ []) (hk : ¬ k + 1 < cnt k c b) : rdOne G n (bs.drop u) = some (p ++ pcIn G n k (cnt k c b) b, cnt k c b) ∧ cnt k c b = k + 1 := by
  obtain ⟨⟨b0, h0, hc⟩, e⟩ := h.all hb
  have := h.lt hp
  refine ⟨?_, by omega⟩
  rw [rdOne_head h0, hc, e]
  unfold rdP
  rw [if_neg hp, if_neg hk]; rfl

/-- a list of rows of bytes of the call's own: their blocks below m, one from another -/
structure Els (w : World) (base m : Nat) (vs : List Value) (R : List (List Int)) : Prop where
  len : vs.length = R.length
  own : ∀ (i : Nat) (x : Value) (l : List Int), vs[i]? = some x → R[i]? = some l → OwnB w base x l
  lt : ∀ (i : Nat) (x : Value) (k : Nat), vs[i]? = some x → x.ownBlock = some k → k < m
  ne : ∀ (i j : Nat) (x y : Value) (k : Nat), i < j → vs[i]? = some x → vs[j]? = some y → y.ownBlock = some k → x.ownBlock ≠ some k
def OwnR (w : World) (base m : Nat) (v : Value) (R : List (List Int)) : Prop := ∃ vs, w.ownsRow base 22 1 v R.length vs ∧ Els w base m vs R
theorem OwnR.nil (w : World) (base m : Nat) : OwnR w base m (.slice none 0 0) [] := ⟨[], World.ownsRow_nil _ _ _ _, ⟨rfl, (fun _ _ _ h => by simp at h), (fun _ _ _ h => by simp at h), (fun _ _ _ _ _ _ h => by simp at h)⟩⟩
theorem OwnR.moved {w w' : World} {base m : Nat} {v : Value} {R : List (List Int)} (h : OwnR w base m v R) (h1 : ∀ k, v.ownBlock = some k → w'.heap[k]? = w.heap[k]?) (h2 : ∀ k, k < m → Tag w k 5 → w'.heap[k]? = w.heap[k]?) : OwnR w' base m v R := by
  obtain ⟨vs, hr, he⟩ := h
  exact ⟨vs, owns_moved hr h1, ⟨he.len, fun i x l hx hl => (he.own i x l hx hl).moved fun k hk => h2 k (he.lt i x k hx hk) ((he.own i x l hx hl).tag hk), he.lt, he.ne⟩⟩
theorem OwnR.up {w : World} {base m m' : Nat} {v : Value} {R : List (List Int)} (h : OwnR w base m v R) (hm : m ≤ m') : OwnR w base m' v R := by
  obtain ⟨vs, hr, he⟩ := h
  exact ⟨vs, hr, ⟨he.len, he.own, fun i x k hx hk => Nat.lt_of_lt_of_le (he.lt i x k hx hk) hm, he.ne⟩⟩
theorem OwnR.tag {w : World} {base m : Nat} {v : Value} {R : List (List Int)} (h : OwnR w base m v R) {k : Nat} (hk : v.ownBlock = some k) : Tag w k 22 := by
  obtain ⟨vs, hr, _⟩ := h
  exact Tag.own hr hk
theorem OwnR.at {w : World} {base m : Nat} {v : Value} {R : List (List Int)} (h : OwnR w base m v R) {k : Nat} (hk : v.ownBlock = some k) : base ≤ k ∧ k < w.heap.size := by
  obtain ⟨vs, hr, _⟩ := h
  exact World.ownsRow.lt hr k hk
theorem OwnR.below {w w' : World} {base m : Nat} {v : Value} {R : List (List Int)} (h : OwnR w base m v R) (hb : Below w.heap.size w w') : OwnR w' base m v R :=
  h.moved (fun k hk => hb.block k (h.at hk).2) (fun k _ ht => hb.block k ht.lt)
theorem OwnR.snoc {w w' : World} {base m m' : Nat} {v' x : Value} {R : List (List Int)} {vs : List Value} {l : List Int} (he : Els w base m vs R) (hx : OwnB w m x l) (hbm : base ≤ m) (hm : ∀ k, x.ownBlock = some k → k < m') (hmm : m ≤ m') (hr : w'.ownsRow base 22 1 v' (R.length + 1) (vs ++ [x])) (hk : ∀ k, Tag w k 5 → w'.heap[k]? = w.heap[k]?) : OwnR w' base m' v' (R ++ [l]) := by
  refine ⟨vs ++ [x], by rw [List.length_append, List.length_singleton]; exact hr, ⟨by rw [List.length_append, List.length_append, he.len]; rfl, ?_, ?_, ?_⟩⟩
  · intro i y q hy hq
    rw [List.getElem?_append] at hy hq
    rw [he.len] at hy
    split at hy
    · rename_i hi
      rw [if_pos hi] at hq
      exact (he.own i y q hy hq).moved fun k hk' => hk k ((he.own i y q hy hq).tag hk')
    · rename_i hi
      rw [if_neg hi] at hq
      have : i - R.length = 0 := by
        have := (List.getElem?_eq_some_iff.1 hy).1
        simp at this; omega
      rw [this] at hy hq
      cases hy; cases hq
      exact (hx.moved fun k hk' => hk k (hx.tag hk')).le hbm
  · intro i y k hy hk'
    rw [List.getElem?_append] at hy
    split at hy
    · exact Nat.lt_of_lt_of_le (he.lt i y k hy hk') hmm
    · have : i - vs.length = 0 := by
        have := (List.getElem?_eq_some_iff.1 hy).1
        simp at this; omega
      rw [this] at hy
      cases hy
      exact hm k hk'
  · intro i j y z k hij hy hz hzk
    rw [List.getElem?_append] at hy hz
    have hi : i < vs.length := by
      split at hy
      · assumption
      · have := (List.getElem?_eq_some_iff.1 hy).1
        have hj : j < vs.length + 1 := by
          split at hz
          · omega
          · have := (List.getElem?_eq_some_iff.1 hz).1; simp at this; omega
        omega
    rw [if_pos hi] at hy
    split at hz
    · exact he.ne i j y z k hij hy hz hzk
    · have : j - vs.length = 0 := by
        have := (List.getElem?_eq_some_iff.1 hz).1
        simp at this; omega
      rw [this] at hz
      cases hz
      intro e
      have := he.lt i y k hy e
      have := (hx.at k hzk).1
      omega

/-- as Q; by a goto to one of the first three labels: J, at a lesser number -/
def JumpM (J : Nat → Nat → Act → World → Prop) (M : Nat) (Q : Exit → Act → World → Prop) : Exit → Act → World → Prop
  | .goto l, a, w => l < 3 ∧ ∃ n, n < M ∧ J l n a w
  | e, a, w => Q e a w
theorem JumpM.ret {J : Nat → Nat → Act → World → Prop} {M : Nat} {Q : Exit → Act → World → Prop} {a : Act} {w : World} (h : Q .ret a w) : JumpM J M Q .ret a w := h
theorem JumpM.goto {J : Nat → Nat → Act → World → Prop} {M : Nat} {Q : Exit → Act → World → Prop} {l : Nat} {a : Act} {w : World} (hl : l < 3) (n : Nat) (hn : n < M) (h : J l n a w) : JumpM J M Q (.goto l) a w := ⟨hl, n, hn, h⟩
theorem wp_label_seq {P : Program} {a : Act} {w : World} {Q : Exit → Act → World → Prop} {l : Nat} {X : Code} (h : X.wp P Q a w) : ((Code.label l).seq X).wp P Q a w := by
  apply wp_seq
  apply wp_label
  exact h
theorem wp_skip_seq {P : Program} {a : Act} {w : World} {Q : Exit → Act → World → Prop} {X : Code} (h : X.wp P Q a w) : (Code.skip.seq X).wp P Q a w := by
  apply wp_seq
  apply wp_skip
  exact h
theorem wp_scope_three {P : Program} {a : Act} {w : World} {Q : Exit → Act → World → Prop} {c r0 r1 r2 : Code} (J : Nat → Nat → Act → World → Prop)
    (h0 : findLabel c 0 = some (Code.skip.seq r0)) (h1 : findLabel c 1 = some (Code.skip.seq r1)) (h2 : findLabel c 2 = some (Code.skip.seq r2))
    (p1 : ∀ M n a w, J 1 n a w → r1.wp P (JumpM J M Q) a w)
    (p2 : ∀ M n a w, J 2 n a w → n ≤ M → r2.wp P (JumpM J M Q) a w)
    (p0 : (∀ M n a w, J 2 n a w → n ≤ M → r2.wp P (JumpM J M Q) a w) → ∀ M n a w, J 0 n a w → n ≤ M → r0.wp P (JumpM J M Q) a w)
    (first : (∀ M n a w, J 0 n a w → n ≤ M → r0.wp P (JumpM J M Q) a w) → ∃ M, c.wp P (JumpM J M Q) a w) : (Code.scope c).wp P Q a w := by
  have q0 := p0 p2
  obtain ⟨M0, first⟩ := first q0
  have pass : ∀ l n a w, l < 3 → J l n a w → ∃ r, findLabel c l = some r ∧ r.wp P (JumpM J n Q) a w := by
    intro l n a w hl hJ
    match l, hl, hJ with
    | 0, _, hJ => exact ⟨_, h0, wp_skip_seq (q0 n n a w hJ (Nat.le_refl _))⟩
    | 1, _, hJ => exact ⟨_, h1, wp_skip_seq (p1 n n a w hJ)⟩
    | 2, _, hJ => exact ⟨_, h2, wp_skip_seq (p2 n n a w hJ (Nat.le_refl _))⟩
  intro b k cs
  have key : ∀ n l a w, l < 3 → J l n a w → ∃ r, findLabel c l = some r ∧ ∃ e a' w', Q e a' w' ∧ Arrives P (lone (b.at a (.code r :: .inScope c :: k)) cs w) b k cs e a' w' := by
    intro n
    induction n using Nat.strongRecOn with
    | _ n ih =>
      intro l a w hl hJ
      obtain ⟨r, hr, hp⟩ := pass l n a w hl hJ
      refine ⟨r, hr, ?_⟩
      obtain ⟨e, a₁, w₁, hq, harr⟩ := hp b (.inScope c :: k) cs
      cases e with
      | normal => exact ⟨.normal, a₁, w₁, hq, Steps.trans harr (.one step_inScope)⟩
      | exit id => exact ⟨.exit id, a₁, w₁, hq, fun k' hk => harr k' (by simp [exitTo, hk])⟩
      | goto l' =>
        obtain ⟨hl', n', hlt, hJ'⟩ := hq
        obtain ⟨r', hr', e₂, a₂, w₂, hq₂, harr₂⟩ := ih n' hlt l' a₁ w₁ hl' hJ'
        have hg : gotoIn l' (.inScope c :: k) = some (.code r' :: .inScope c :: k) := by simp [gotoIn, hr']
        exact ⟨e₂, a₂, w₂, hq₂, .of_steps (harr _ hg) harr₂⟩
      | ret => exact ⟨_, a₁, w₁, hq, harr⟩
      | panic ch => exact ⟨_, a₁, w₁, hq, harr⟩
      | outgrown => exact ⟨_, a₁, w₁, hq, harr⟩
  obtain ⟨e, a₁, w₁, hq, harr⟩ := first b (.inScope c :: k) cs
  cases e with
  | normal => exact ⟨.normal, a₁, w₁, hq, .head step_scope (Steps.trans harr (.one step_inScope))⟩
  | exit id => exact ⟨.exit id, a₁, w₁, hq, fun k' hk => .head step_scope (harr k' (by simp [exitTo, hk]))⟩
  | goto l' =>
    obtain ⟨hl', n', hlt, hJ'⟩ := hq
    obtain ⟨r', hr', e₂, a₂, w₂, hq₂, harr₂⟩ := key n' l' a₁ w₁ hl' hJ'
    have hg : gotoIn l' (.inScope c :: k) = some (.code r' :: .inScope c :: k) := by simp [gotoIn, hr']
    exact ⟨e₂, a₂, w₂, hq₂, .of_steps (.head step_scope (harr _ hg)) harr₂⟩
  | ret => exact ⟨_, a₁, w₁, hq, .of_steps (.one step_scope) harr⟩
  | panic ch => exact ⟨_, a₁, w₁, hq, .of_steps (.one step_scope) harr⟩
  | outgrown => exact ⟨_, a₁, w₁, hq, .of_steps (.one step_scope) harr⟩
end
end Go.Proofs.Ytajgaialnafdbaa
