/- Two trees side by side. -/
import Derived.Test.YtjelggpkeogebaaJTIes19
import Derived.Test.YtjelggpkeogebaaJTIes07
import Derived.Lib.AppendZeros
namespace Go.Proofs.Ytjelggpkeogebaa
section
open Go.RowKit

structure Pair (w0 w : World) (t : Nat) (s : Tr) (k : Int) (u : Nat) (r : Tr) (k' : Int) : Prop where
  one : Law w0 w t s k
  two : Law w0 w u r k'
  ne : t ≠ u
  off : ∀ q, s.v.ownBlock = some q → r.v.ownBlock ≠ some q
theorem Pair.symm {w0 w : World} {t u : Nat} {s r : Tr} {k k' : Int} (h : Pair w0 w t s k u r k') : Pair w0 w u r k' t s k := ⟨h.two, h.one, fun e => h.ne e.symm, fun q hq e => h.off q e hq⟩
theorem Pair.below {w0 w w' : World} {t u : Nat} {s r : Tr} {k k' : Int} (h : Pair w0 w t s k u r k') (hb : Below w.heap.size w w') : Pair w0 w' t s k u r k' := ⟨h.one.below hb, h.two.below hb, h.ne, h.off⟩
/-- a mutation of the first tree: the second is as it was, and what is told lies beside both -/
structure Did2 (w0 w' : World) (t : Nat) (s s' : Tr) (k : Int) (u : Nat) (r : Tr) (k' : Int) (o : Opn) (v kv : Value) : Prop where
  pair : Pair w0 w' t s' (k + 1) u r k'
  step : Step Mn s s' o
  told : Lst w0.heap.size w' s' v (toldE Mn s o)
  told2 : Lst w0.heap.size w' r v (toldE Mn s o)
  keys : RowK w' w0.heap.size kv (toldK Mn s o)
theorem Pair.did {w0 w w' : World} {t u : Nat} {s r : Tr} {k k' : Int} {o : Opn} {e : Ending} (h : Pair w0 w t s k u r k') (ha : AppR Mn t s o w w' e) : ∃ v kv s', e = .returned (.tuple #[v, kv, .int .i64 (doesE Mn s o)]) ∧ Did2 w0 w' t s s' k u r k' o v kv ∧ PS w w' t s s' := by
  obtain ⟨v, kv, s', he, hps, hst, hr, hk, hoff⟩ := ha
  have hl := h.one.step hps hst
  have hu : w'.heap[u]? = w.heap[u]? := hps.keep h.two.own.is.tt.lt (fun e => h.ne e.symm) (fun e => (h.one.own.is.tv e).ne h.two.own.is.tt (by decide) rfl)
  have hv : ∀ q, r.v.ownBlock = some q → w'.heap[q]? = w.heap[q]? := fun q hq => hps.keep (h.two.own.is.tv hq).lt ((h.two.own.is.tv hq).ne h.one.own.is.tt (by decide)) (fun e => h.off q e hq)
  have h2 : Law w0 w' u r k' := ⟨⟨h.two.own.is.moved hu hv, h.two.own.t0, h.two.own.v0⟩, hl.bel, h.two.good⟩
  refine ⟨v, kv, s', he, ⟨⟨hl, h2, h.ne, fun q hq e => ?_⟩, hst, ⟨owns_le hr h.one.bel.size, hoff⟩, ⟨owns_le hr h.one.bel.size, fun q hq e => ?_⟩, owns_le hk h.one.bel.size⟩, hps⟩
  · rcases hps.v with hv' | hv'
    · exact h.off q (by rw [← hv']; exact hq) e
    · have := hv' q hq; have := (h.two.own.is.tv e).lt; omega
  · have := (World.ownsRow.lt hr q hq).1; have := (h.two.own.is.tv e).lt; omega
theorem toldE_alike {s r : Tr} (h : Alike s r) (o : Opn) : toldE Mn s o = toldE Mn r o := by unfold toldE; rw [doesE_eq Mn h.es, tellL_eq h]
theorem toldK_alike {s r : Tr} (h : Alike s r) (o : Opn) : toldK Mn s o = toldK Mn r o := by unfold toldK; rw [doesE_eq Mn h.es]
theorem Step.both {s r s' r' : Tr} {o : Opn} (h : Alike s r) (h1 : Step Mn s s' o) (h2 : Step Mn r r' o) : Alike s' r' := h1.alike.trans ((stepT_alike Mn h o).trans h2.alike.symm)
end
section
open Go.RowKit

theorem next_p (t : Nat) (s : Tr) (w : World) (h : IsP w t s) : Calls Try.prog 18 #[.pointer (some ⟨t, 0, none⟩)] w fun e w' => e = .returned (.int .i64 s.next) ∧ w' = w := by
  obtain ⟨c0, c1, c2, _⟩ := h.cells
  clear h
  go_enter Try.func18, Try.ntmps18
  go_wp2
  go_ret
  exact ⟨rfl, rfl⟩
end
section
open Go.RowKit Go.Lib
attribute [local go_sem high] eqK' neqK' eqE neqE eqN neqN guardK guardE guardN

theorem Try.infoOp : (Try.prog.info? 38).map (fun i => (i.zero, i.size, i.bytes)) = some (some (.agg #[.int .i64 0, .int .i64 0, .string ⟨#[]⟩, .int .i64 0, .string ⟨#[]⟩, .int .i64 0, .string ⟨#[]⟩]), 7, 80) := by kernel_rfl
def Opn.vals (o : Opn) : List Value := [.int .i64 o.kind, .int .i64 o.dir, .string o.nm, .int .i64 o.dst, .string o.new, .int .i64 o.mode, .string o.tg]
def oc (l : List Opn) : List Value := l.flatMap Opn.vals
theorem oc_len (l : List Opn) : (oc l).length = l.length * 7 := by
  unfold oc
  induction l with
  | nil => rfl
  | cons a l ih => rw [List.flatMap_cons, List.length_append, ih, List.length_cons]; simp [Opn.vals]; omega
theorem oc_app (a b : List Opn) : oc (a ++ b) = oc a ++ oc b := by unfold oc; rw [List.flatMap_append]
theorem oc_get (l : List Opn) (i j : Nat) (o : Opn) (h : l[i]? = some o) (hj : j < 7) : (oc l)[i * 7 + j]? = o.vals[j]? := by
  induction l generalizing i with
  | nil => simp at h
  | cons a l ih =>
    have e1 : oc (a :: l) = a.vals ++ oc l := rfl
    have hv : ∀ x : Opn, x.vals.length = 7 := fun _ => rfl
    cases i with
    | zero =>
      simp at h
      subst h
      rw [e1, List.getElem?_append_left (by rw [hv]; omega), Nat.zero_mul, Nat.zero_add]
    | succ i =>
      rw [e1, List.getElem?_append_right (by rw [hv]; omega), hv, show (i + 1) * 7 + j - 7 = i * 7 + j by omega]
      exact ih i (by simpa using h)
theorem oc_one (l : List Opn) : ∀ u ∈ oc l, u.oneCell' = true := by
  intro u hu
  obtain ⟨p, hp, hu⟩ := List.mem_flatMap.1 hu
  simp only [Opn.vals, List.mem_cons, List.not_mem_nil, or_false] at hu
  rcases hu with rfl | rfl | rfl | rfl | rfl | rfl | rfl <;> rfl
theorem RowOps.src {w : World} {ad : Addr} {ops : List Opn} (h : RowOps w (some ad) ops) : ∀ j u, (oc ops)[j]? = some u → w.cell? (ad.add j) = some u := by
  intro j u hu
  rcases h with h | ⟨b, off, e, hb, hc⟩
  · subst h; simp [oc] at hu
  · cases e
    have hj : j < ops.length * 7 := by have := (List.getElem?_eq_some_iff.1 hu).1; rw [oc_len] at this; exact this
    obtain ⟨p, hp⟩ : ∃ p, ops[j / 7]? = some p := ⟨_, List.getElem?_eq_getElem (by omega)⟩
    have hg := oc_get ops (j / 7) (j % 7) p hp (by omega)
    rw [show j / 7 * 7 + j % 7 = j by omega, hu] at hg
    have hcc := hc (j / 7) p hp
    rw [add_plain', show off + j = off + j / 7 * 7 + j % 7 by omega]
    have h7 : j % 7 = 0 ∨ j % 7 = 1 ∨ j % 7 = 2 ∨ j % 7 = 3 ∨ j % 7 = 4 ∨ j % 7 = 5 ∨ j % 7 = 6 := by omega
    rcases h7 with e | e | e | e | e | e | e <;> rw [e] at hg ⊢ <;> simp [Opn.vals] at hg <;> subst hg
    · exact hcc.c0
    · exact hcc.c1
    · exact hcc.c2
    · exact hcc.c3
    · exact hcc.c4
    · exact hcc.c5
    · exact hcc.c6
def OwnO (w : World) (B : Nat) (v : Value) (ops : List Opn) : Prop := w.ownsRow B 38 7 v ops.length (oc ops)
theorem OwnO.form {w : World} {B : Nat} {v : Value} {ops : List Opn} (h : OwnO w B v ops) : ∃ a cap, v = .slice a ops.length cap ∧ RowOps w a ops := by
  obtain ⟨a, cap, e⟩ := owns_len h
  refine ⟨a, cap, e, ?_⟩
  rcases h.2 with ⟨e1, e2⟩ | ⟨g, cap', cur, e1, hg, hh, _⟩
  · exact .inl (List.length_eq_zero_iff.1 e2)
  · rw [e1] at e
    cases e
    have h' : w.ownsRow B 38 7 (.slice (some ⟨g, 0, none⟩) ops.length cap) ops.length (oc ops) := by rw [← e1]; exact h
    obtain ⟨hc, -, -, -, -, hlt⟩ := owns_cells h'
    refine .inr ⟨g, 0, rfl, hlt, fun i p hp => ?_⟩
    have k : ∀ j v, j < 7 → p.vals[j]? = some v → w.cell? ⟨g, 0 + i * 7 + j, none⟩ = some v := fun j v hj hv => by
      rw [show 0 + i * 7 + j = i * 7 + j by omega]
      exact hc _ _ (by rw [oc_get ops i j p hp hj]; exact hv)
    exact ⟨k 0 _ (by decide) rfl, k 1 _ (by decide) rfl, k 2 _ (by decide) rfl, k 3 _ (by decide) rfl, k 4 _ (by decide) rfl, k 5 _ (by decide) rfl, k 6 _ (by decide) rfl⟩
theorem run_append_owned_no {P : Program} {w : World} (base : Nat) (t ty e : TypeId) (i : TypeInfo) (size : Nat) (ht : P.underlying t = some (.slice e)) (hi : P.info? e = some i) (c : Nat)
    (v : Value) (n : Nat) (xs : List Value) (hown : w.ownsRow base e size v n xs) :
    (Builtin.append_ #[t, t] ty #[v, .slice none 0 c]).run P w = .ok v w := by
  rcases hown.2 with ⟨rfl, rfl⟩ | ⟨g, cap, cur, rfl, _, _, hnc, _⟩
  · simp [Builtin.append_, run_underlying ht, sizeOf, typeInfo, hi, Builtin.lenOf, Builtin.firstCells]
  · simp [Builtin.append_, run_underlying ht, sizeOf, typeInfo, hi, Builtin.lenOf, Builtin.firstCells, hnc, storeCells]
set_option maxRecDepth 20000 in
set_option maxHeartbeats 4000000 in
theorem copyO_any (a : Option Addr) (cap : Nat) (ops : List Opn) (w : World) (h : RowOps w a ops) (hl : ops.length ≤ 1048576) :
    Calls Try.prog 19 #[.slice a ops.length cap] w fun e w' => ∃ v', e = .returned v' ∧ OwnO w' w.heap.size v' ops ∧ Below w.heap.size w w' := by
  obtain ⟨i1, hi1, hw0, hw1, hw2⟩ := info_parts Try.infoOp
  cases a with
  | none =>
    have he : ops = [] := by
      rcases h with h | ⟨b, off, e, _⟩
      · exact h
      · cases e
    subst he
    clear h
    go_enter Try.func19, Try.ntmps19
    go_wp2
    go_ret
    exact ⟨_, rfl, World.ownsRow_nil _ _ _ _, Below.refl _ _⟩
  | some ad =>
    have HC : Hid (∀ j u, (oc ops)[j]? = some u → w.cell? (ad.add j) = some u) := h.src
    obtain ⟨n, hn⟩ : ∃ n, ops.length = n := ⟨_, rfl⟩
    have HN : Hid (ops.length = n ∧ (oc ops).length = n * 7) := ⟨hn, by rw [oc_len, hn]⟩
    rw [hn] at hl ⊢
    clear h hn
    go_enter Try.func19, Try.ntmps19
    go_wp2_with (at_builtin; refine wpList_append_own _ rfl _ _ 23 rfl w.heap.size 38 i1 _ 7 80 Try.underlying23 hi1 hw0 hw1 hw2 rfl (by decide) _ 0 [] rfl (World.ownsRow_nil _ _ _ _) ad n cap (oc ops) rfl HN.out.2 HC.out (oc_one ops) (by unfold maxLen; omega) (by omega) (Nat.le_refl _) ?_; intro v' w1 hown hgrow hxx; clear hxx; obtain ⟨av, cv, hv⟩ := owns_len hown; subst hv)
    go_ret
    refine ⟨_, rfl, ?_, below_grown hgrow⟩
    rw [Nat.zero_add, List.nil_append] at hown
    show World.ownsRow _ _ _ _ _ _ _
    rw [HN.out.1]; exact hown
/-- a copy of the program's tree -/
def CopR (w : World) (s : Tr) (w' : World) (e : Ending) : Prop := ∃ u r, e = .returned (.pointer (some ⟨u, 0, none⟩)) ∧ Own5 w.heap.size w' u r ∧ Alike s r ∧ Below w.heap.size w w'
theorem two_keepC {W0 W W' : World} {t : Nat} {a b : Value} (h : W.cell? ⟨t, 1, none⟩ = some a ∧ W.cell? ⟨t, 2, none⟩ = some b ∧ Below W0.heap.size W0 W) (hb : Below W.heap.size W W') : W'.cell? ⟨t, 1, none⟩ = some a ∧ W'.cell? ⟨t, 2, none⟩ = some b ∧ Below W0.heap.size W0 W' :=
  ⟨(hb.cell (cellLt h.1)).trans h.1, (hb.cell (cellLt h.2.1)).trans h.2.1, chainB h.2.2 hb⟩
set_option maxRecDepth 20000 in
set_option maxHeartbeats 8000000 in
theorem copy_p (t : Nat) (s : Tr) (w : World) (h : IsP w t s) : Calls Try.prog 15 #[.pointer (some ⟨t, 0, none⟩)] w fun e w' => CopR w s w' e := by
  have H : Hid (IsP w t s) := h
  obtain ⟨_, c1, c2, _⟩ := h.cells
  have k0 : w.drew.cell? ⟨t, 1, none⟩ = some (.int .i64 s.vers) ∧ w.drew.cell? ⟨t, 2, none⟩ = some (.int .i64 s.next) ∧ Below w.heap.size w w.drew := ⟨c1, c2, (Below.refl _ _).drew⟩
  have HD : Hid (∀ W, Below w.heap.size w W → Calls Try.prog 16 #[.pointer (some ⟨t, 0, none⟩)] W fun e w' => ∃ a c, e = .returned (.slice a s.es.length c) ∧ Row7 w' W.heap.size (.slice a s.es.length c) s.es ∧ Below W.heap.size W w') := fun W hb => (dump_p t s W (H.out.below hb)).mono fun e w' ⟨v', he, hr, hb⟩ => by
    obtain ⟨a, c, rfl⟩ := owns_len hr
    exact ⟨a, c, he, hr, hb⟩
  obtain ⟨n, hn⟩ : ∃ n, s.es.length = n := ⟨_, rfl⟩
  rw [hn] at HD
  have HN : Hid (s.es.length = n) := hn
  clear h hn
  go_enter Try.func15, Try.ntmps15
  go_upto_region 1 with fail
  go_region_held3 (fun w' => w'.cell? ⟨t, 1, none⟩ = some (.int .i64 s.vers) ∧ w'.cell? ⟨t, 2, none⟩ = some (.int .i64 s.next) ∧ Below w.heap.size w w')
    (first | (with_reducible exact k0) | (with_reducible exact hK) | exact two_keepC hK (below_alloc _ _))
    (first | (go_at_call 16; refine (HD.out _ k0.2.2).mono ?_; rintro x w4 ⟨a4, c4, rfl, hr4, hb4⟩; have hK := two_keepC k0 hb4))
  have hB : Below w4.heap.size w4 (w4.alloc (.cells #[.slice a4 n c4, .int .i64 s.vers, .int .i64 s.next] 58)) := below_alloc _ _
  have hO : Own5 w.heap.size (w4.alloc (.cells #[.slice a4 n c4, .int .i64 s.vers, .int .i64 s.next] 58)) w4.heap.size ⟨.slice a4 n c4, s.es, s.vers, s.next⟩ :=
    ⟨⟨heap_new _ _, owns_le (hr4.below hB) (Nat.zero_le _), H.out.lim⟩, hK.2.2.size, fun q hq => (World.ownsRow.lt hr4 q hq).1⟩
  have HO : Hid (Own5 w.heap.size (w4.alloc (.cells #[.slice a4 n c4, .int .i64 s.vers, .int .i64 s.next] 58)) w4.heap.size ⟨.slice a4 n c4, s.es, s.vers, s.next⟩ ∧ Below w.heap.size w (w4.alloc (.cells #[.slice a4 n c4, .int .i64 s.vers, .int .i64 s.next] 58))) := ⟨hO, chainB hK.2.2 hB⟩
  clear hB hO
  go_wp2
  go_ret
  exact ⟨_, _, rfl, HO.out.1, ⟨rfl, rfl, rfl⟩, HO.out.2⟩

/-- three trees side by side -/
structure Trio (w0 w : World) (t : Nat) (s : Tr) (k : Int) (u : Nat) (r : Tr) (k' : Int) (c : Nat) (z : Tr) (k'' : Int) : Prop where
  tu : Pair w0 w t s k u r k'
  tc : Pair w0 w t s k c z k''
  uc : Pair w0 w u r k' c z k''
theorem Trio.below {w0 w w' : World} {t u c : Nat} {s r z : Tr} {k k' k'' : Int} (h : Trio w0 w t s k u r k' c z k'') (hb : Below w.heap.size w w') : Trio w0 w' t s k u r k' c z k'' := ⟨h.tu.below hb, h.tc.below hb, h.uc.below hb⟩
theorem Trio.turn {w0 w : World} {t u c : Nat} {s r z : Tr} {k k' k'' : Int} (h : Trio w0 w t s k u r k' c z k'') : Trio w0 w u r k' c z k'' t s k := ⟨h.uc, h.tu.symm, h.tc.symm⟩
theorem Pair.did1 {w0 w w' : World} {t u : Nat} {s r s' : Tr} {k k' : Int} {o : Opn} {v kv : Value} (h : Pair w0 w t s k u r k') (hps : PS w w' t s s') (hst : Step Mn s s' o) (hr : Row7 w' w.heap.size v (toldE Mn s o)) (hk : RowK w' w.heap.size kv (toldK Mn s o)) (hoff : ∀ q, v.ownBlock = some q → s'.v.ownBlock ≠ some q) : Did2 w0 w' t s s' k u r k' o v kv := by
  have hl := h.one.step hps hst
  have hu : w'.heap[u]? = w.heap[u]? := hps.keep h.two.own.is.tt.lt (fun e => h.ne e.symm) (fun e => (h.one.own.is.tv e).ne h.two.own.is.tt (by decide) rfl)
  have hv : ∀ q, r.v.ownBlock = some q → w'.heap[q]? = w.heap[q]? := fun q hq => hps.keep (h.two.own.is.tv hq).lt ((h.two.own.is.tv hq).ne h.one.own.is.tt (by decide)) (fun e => h.off q e hq)
  have h2 : Law w0 w' u r k' := ⟨⟨h.two.own.is.moved hu hv, h.two.own.t0, h.two.own.v0⟩, hl.bel, h.two.good⟩
  refine ⟨⟨hl, h2, h.ne, fun q hq e => ?_⟩, hst, ⟨owns_le hr h.one.bel.size, hoff⟩, ⟨owns_le hr h.one.bel.size, fun q hq e => ?_⟩, owns_le hk h.one.bel.size⟩
  · rcases hps.v with hv' | hv'
    · exact h.off q (by rw [← hv']; exact hq) e
    · have := hv' q hq; have := (h.two.own.is.tv e).lt; omega
  · have := (World.ownsRow.lt hr q hq).1; have := (h.two.own.is.tv e).lt; omega
/-- a mutation of the first one -/
theorem Trio.did {w0 w w' : World} {t u c : Nat} {s r z : Tr} {k k' k'' : Int} {o : Opn} {e : Ending} (h : Trio w0 w t s k u r k' c z k'') (ha : AppR Mn t s o w w' e) : ∃ v kv s', e = .returned (.tuple #[v, kv, .int .i64 (doesE Mn s o)]) ∧ Trio w0 w' t s' (k + 1) u r k' c z k'' ∧ Step Mn s s' o ∧ Lst w0.heap.size w' r v (toldE Mn s o) := by
  obtain ⟨v, kv, s', he, hps, hst, hr, hk, hoff⟩ := ha
  have d1 := h.tu.did1 hps hst hr hk hoff
  have d2 := h.tc.did1 hps hst hr hk hoff
  exact ⟨v, kv, s', he, ⟨d1.pair, d2.pair, ⟨d1.pair.two, d2.pair.two, h.uc.ne, h.uc.off⟩⟩, hst, d1.told2⟩
/-- a list that is told stays while another tree is turned -/
theorem Lst.stays {B : Nat} {w w' : World} {t : Nat} {s s' : Tr} {v : Value} {es : List En} (h : Lst B w s v es) (hi : IsP w t s) (k : PS w w' t s s') : Row7 w' B v es :=
  owns_moved h.row fun q hq => k.keep (Tag.own h.row hq).lt ((Tag.own h.row hq).ne hi.tt (by decide)) (h.off q hq)
/-- a new tree beside two, three -/
theorem Law.of2 {w0 w w' : World} {u : Nat} {r : Tr} {k : Int} (hb0 : Below w0.heap.size w0 w) (ho : Own5 w.heap.size w' u r) (hb : Below w.heap.size w w') (hg : Good Mn r k) : Law w0 w' u r k :=
  ⟨⟨ho.is, Nat.le_trans hb0.size ho.t0, fun q hq => Nat.le_trans hb0.size (ho.v0 q hq)⟩, chainB hb0 hb, hg⟩
theorem Law.beside {w0 w w' : World} {t u : Nat} {s r : Tr} {k k' : Int} (h : Law w0 w t s k) (ho : Own5 w.heap.size w' u r) (hb : Below w.heap.size w w') (hg : Good Mn r k') : Pair w0 w' t s k u r k' :=
  ⟨h.below hb, Law.of2 h.bel ho hb hg, by have := h.own.is.tt.lt; have := ho.t0; omega, fun q hq e => by have := (h.own.is.tv hq).lt; have := ho.v0 q e; omega⟩
theorem Pair.beside {w0 w w' : World} {t u c : Nat} {s r z : Tr} {k k' k'' : Int} (h : Pair w0 w t s k u r k') (ho : Own5 w.heap.size w' c z) (hb : Below w.heap.size w w') (hg : Good Mn z k'') : Trio w0 w' t s k u r k' c z k'' :=
  ⟨h.below hb, h.one.beside ho hb hg, h.two.beside ho hb hg⟩
end
end Go.Proofs.Ytjelggpkeogebaa
