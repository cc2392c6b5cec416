/- The document's walk: what a step leaves in memory. -/
import Derived.Test.YtmndnjgbbpkidaaGreatJWLks36
namespace Go.Proofs.YtmndnjgbbpkidaaGreat
section
open Go.RowKit

theorem inBlk_is {g o n c b : Nat} (h : InBlk (.slice (some ⟨g, o, none⟩) n c) b) : b = g := by
  obtain ⟨o', n', c', e⟩ := h
  injection e with e1 _ _
  injection e1 with e1
  injection e1 with e1 _ _
  exact e1.symm
theorem inBlk_to {g o n c o' n' c' b : Nat} (h : InBlk (.slice (some ⟨g, o, none⟩) n c) b) : InBlk (.slice (some ⟨g, o', none⟩) n' c') b := by
  rw [inBlk_is h]; exact ⟨_, _, _, rfl⟩
theorem WayR.pre {w : World} {gW nW cW m : Nat} {l l' : List Nd} (h : WayR w (.slice (some ⟨gW, 0, none⟩) nW cW) l) (hp : l' <+: l) (hm : l'.length = m) : WayR w (.slice (some ⟨gW, 0, none⟩) m cW) l' := by
  obtain ⟨g, c, e, hc, hr⟩ := h
  injection e with e1 e2 e3
  injection e1 with e1
  injection e1 with e1 _ _
  subst e1 e3
  obtain ⟨t, rfl⟩ := hp
  refine ⟨gW, cW, by rw [hm], by rw [List.length_append] at hc; omega, fun j u hu => hr j u ?_⟩
  rw [nc_app, List.getElem?_append_left (List.getElem?_eq_some_iff.1 hu).1]
  exact hu
theorem WayR.get {w : World} {gW nW cW i : Nat} {l : List Nd} {x : Nd} (h : WayR w (.slice (some ⟨gW, 0, none⟩) nW cW) l) (hi : l[i]? = some x) : Cells4 w gW (i * 4) x := by
  obtain ⟨g, c, e, hc, hr⟩ := h
  injection e with e1 e2 e3
  injection e1 with e1
  injection e1 with e1 _ _
  subst e1
  exact ⟨hr _ _ (nc_get l i 0 x hi (by omega)), hr _ _ (nc_get l i 1 x hi (by omega)), hr _ _ (nc_get l i 2 x hi (by omega)), hr _ _ (nc_get l i 3 x hi (by omega))⟩
theorem WayR.cap {w : World} {gW nW cW : Nat} {l : List Nd} (h : WayR w (.slice (some ⟨gW, 0, none⟩) nW cW) l) : nW ≤ cW := by
  obtain ⟨g, c, e, hc, hr⟩ := h
  injection e with e1 e2 e3
  omega
theorem WayR.all {w : World} {gW nW cW : Nat} {l : List Nd} (h : WayR w (.slice (some ⟨gW, 0, none⟩) nW cW) l) : ∀ (j : Nat) u, (nc l)[j]? = some u → w.cell? ((⟨gW, 0, none⟩ : Addr).add j) = some u := by
  obtain ⟨g, c, e, hc, hr⟩ := h
  injection e with e1 e2 e3
  injection e1 with e1
  injection e1 with e1 _ _
  subst e1
  intro j u hu
  rw [add_plain', Nat.zero_add]
  exact hr j u hu
theorem upW_pre (l : List Nd) : upW l <+: l := by
  unfold upW
  split
  · exact List.dropLast_prefix l
  · exact List.prefix_refl l
theorem upW_len (l : List Nd) : (upW l).length = if 1 < l.length then l.length - 1 else l.length := by
  unfold upW
  split
  · exact List.length_dropLast
  · rfl
/-- behind the look: the entry's box too -/
structure De (w W : World) (kc : Array Value) (gA : Nat) (lv wv uv : Value) (L : List ByteArray) (way : List Nd) (pl : Nd) (used : List Ky) (gE : Nat) (e : En) : Prop where
  m : Dm w W kc gA lv wv uv L way pl used
  ent : W.heap[gE]? = some (.cells e.vals.toArray 52 (0, 0))
  hE : gA < gE
  uE : uv.ownBlock ≠ some gE
section
variable {w wr W : World} {kc : Array Value} {gA gE : Nat} {lv wv uv : Value} {L : List ByteArray} {way : List Nd} {pl : Nd} {used : List Ky} {e : En}
/-- the key is told -/
theorem De.use (h : De w wr kc gA lv wv uv L way pl used gE e) {uv' : Value} {used' : List Ky} (hr : RowK W (gA + 1) uv' used') (hO : Only (fun k => uv.ownBlock = some k) wr W) (hn : uv'.ownBlock = uv.ownBlock ∨ ∀ b, uv'.ownBlock = some b → wr.heap.size ≤ b) : De w W kc gA lv wv uv' L way pl used' gE e := by
  have hl : gE < wr.heap.size := (Array.getElem?_eq_some_iff.1 h.ent).1
  have hn2 : ∀ b, uv'.ownBlock = some b → uv.ownBlock = some b ∨ wr.heap.size ≤ b := fun b hb => by
    rcases hn with e' | h'
    · exact .inl (e' ▸ hb)
    · exact .inr (h' b hb)
  refine ⟨h.m.use hr hO hn2, (hO.block gE hl h.uE).trans h.ent, h.hE, fun hb => ?_⟩
  rcases hn2 _ hb with h' | h'
  · exact h.uE h'
  · omega
theorem De.on (h : De w wr kc gA lv wv uv L way pl used gE e) (hb : Below wr.heap.size wr W) : De w W kc gA lv wv uv L way pl used gE e :=
  ⟨h.m.on hb, hkeep h.ent hb, h.hE, h.uE⟩
theorem De.cells (h : De w wr kc gA lv wv uv L way pl used gE e) : wr.cell? ⟨gE, 2, none⟩ = some (.bool e.neg) ∧ wr.cell? ⟨gE, 4, none⟩ = some (.int .i64 e.kind) ∧ wr.cell? ⟨gE, 6, none⟩ = some (.string e.tg) ∧ (ndLd (.pointer (some ⟨gE, 3, none⟩))).run Tryz.prog wr = .ok (.agg #[.int .i64 e.id, .int .i64 e.kind, .int .i64 e.mode, .string e.tg]) wr := by
  have c := cells7_of h.ent
  have c2 := c.c2
  have c4 := c.c4
  have c6 := c.c6
  have n := ndLd_at c.node
  simp only [Nat.zero_add] at c2 c4 c6 n
  exact ⟨c2, c4, c6, n⟩
/-- the store of where it stands -/
theorem Dm.at_st (h : Dm w wr kc gA lv wv uv L way pl used) (n : Nd) : (ndSt (.pointer (some ⟨gA, 0, none⟩)) (.agg #[.int .i64 n.id, .int .i64 n.kind, .int .i64 n.mode, .string n.tg])).run Tryz.prog wr = .ok () (wr.setRow gA n.vals.toArray) :=
  ndSt_of (n := n) h.box rfl rfl
end
/-- a way that goes on, in memory that is new: the way first -/
theorem way_app {X : World} {gW nW cW : Nat} {way : List Nd} (n : Nd) (h : WayR X (.slice (some ⟨gW, 0, none⟩) nW cW) way) (hn : way.length = nW) (hl : nW ≤ 1100500) :
    ∃ aA cA XA aB cB ZB, (∀ ty, (Builtin.append_ #[86, 86] ty #[.slice none 0 0, .slice (some ⟨gW, 0, none⟩) nW cW]).run Tryz.prog X = .ok (.slice aA nW cA) XA) ∧ (∀ ty, (Builtin.append_ #[86, 86] ty #[.slice aA nW cA, .slice (some ⟨XA.heap.size, 0, none⟩) 1 1]).run Tryz.prog (XA.alloc (.cells n.vals.toArray 32)) = .ok (.slice (some ⟨aB, 0, none⟩) (nW + 1) cB) ZB) ∧ WayR ZB (.slice (some ⟨aB, 0, none⟩) (nW + 1) cB) (way ++ [n]) ∧ X.heap.size ≤ aB ∧ aB < ZB.heap.size ∧ Below X.heap.size X XA ∧ Below X.heap.size X ZB := by
  obtain ⟨v, XA, r1, row1, o1, -⟩ := appN (w := X) (B := X.heap.size) (v := .slice none 0 0) (l := []) (l2 := way) (ad := ⟨gW, 0, none⟩) (c := cW) (World.ownsRow_nil _ _ _ _) h.all (Nat.le_refl _) (by simp only [List.length_nil]; omega)
  rw [List.nil_append] at row1
  obtain ⟨aA, cA, rfl⟩ := owns_len row1
  have bA : Below X.heap.size X XA := Only.below (Below.refl _ _) o1 (Nat.le_refl _) fun b hb => by simp [Value.ownBlock] at hb
  obtain ⟨a6, N6, c6, Z, r6, row6, o6, -⟩ := keep_node n row1 bA.size (by omega)
  have bZ : Below X.heap.size X Z := o6.below bA bA.size fun b hb => (World.ownsRow.lt row1 b hb).1
  obtain ⟨hw, hi⟩ := wayOf row6 (by simp)
  have hw0 := hw
  obtain ⟨g, c, e, -, -⟩ := hw0
  injection e with e1 e2 e3
  rw [List.length_append, hn] at e2
  subst e1
  have e2' : N6 = nW + 1 := e2
  subst e2'
  rw [hn] at r1 r6
  have hg := hi g ⟨_, _, _, rfl⟩
  exact ⟨aA, cA, XA, g, c6, Z, r1, r6, hw, hg.1, hg.2, bA, bZ⟩
/-- the one more first -/
theorem way_app2 {X : World} {gW nW cW : Nat} {way : List Nd} (n : Nd) (h : WayR X (.slice (some ⟨gW, 0, none⟩) nW cW) way) (hn : way.length = nW) (hl : nW ≤ 1100500) :
    ∃ aA cA XA aB cB ZB, (∀ ty, (Builtin.append_ #[86, 86] ty #[.slice none 0 0, .slice (some ⟨gW, 0, none⟩) nW cW]).run Tryz.prog (X.alloc (.cells n.vals.toArray 32)).drew = .ok (.slice aA nW cA) XA) ∧ (∀ ty, (Builtin.append_ #[86, 86] ty #[.slice aA nW cA, .slice (some ⟨X.heap.size, 0, none⟩) 1 1]).run Tryz.prog XA = .ok (.slice (some ⟨aB, 0, none⟩) (nW + 1) cB) ZB) ∧ WayR ZB (.slice (some ⟨aB, 0, none⟩) (nW + 1) cB) (way ++ [n]) ∧ X.heap.size ≤ aB ∧ aB < ZB.heap.size ∧ Below X.heap.size X XA ∧ Below X.heap.size X ZB := by
  have bY : Below X.heap.size X (X.alloc (.cells n.vals.toArray 32)).drew := below_drewN (below_alloc _ _) 1
  have hall : ∀ (j : Nat) u, (nc way)[j]? = some u → (X.alloc (.cells n.vals.toArray 32)).drew.cell? ((⟨gW, 0, none⟩ : Addr).add j) = some u := fun j u hu => by
    have := h.all j u hu
    exact (bY.cell (cellLt this)).trans this
  obtain ⟨v, XA, r1, row1, o1, -⟩ := appN (w := (X.alloc (.cells n.vals.toArray 32)).drew) (B := X.heap.size) (v := .slice none 0 0) (l := []) (l2 := way) (ad := ⟨gW, 0, none⟩) (c := cW) (World.ownsRow_nil _ _ _ _) hall bY.size (by simp only [List.length_nil]; omega)
  rw [List.nil_append] at row1
  obtain ⟨aA, cA, rfl⟩ := owns_len row1
  have bA : Below (X.alloc (.cells n.vals.toArray 32)).drew.heap.size (X.alloc (.cells n.vals.toArray 32)).drew XA := Only.below (Below.refl _ _) o1 (Nat.le_refl _) fun b hb => by simp [Value.ownBlock] at hb
  have bXA := chainB bY bA
  obtain ⟨v2, Z, r6, row6, o6, -⟩ := appN (w := XA) (B := X.heap.size) (v := .slice aA way.length cA) (l := way) (l2 := [n]) (ad := ⟨X.heap.size, 0, none⟩) (c := 1) row1 (by
    intro j u hu
    have e1 : nc [n] = n.vals := by simp [nc]
    rw [e1] at hu
    have := one_atG (w := X) (t := 32) j u hu
    exact (bA.cell (cellLt this)).trans this) bXA.size (by simp only [List.length_cons, List.length_nil]; omega)
  have bZ : Below X.heap.size X Z := o6.below bXA bXA.size fun b hb => (World.ownsRow.lt row1 b hb).1
  obtain ⟨hw, hi⟩ := wayOf row6 (by simp)
  have hw0 := hw
  obtain ⟨g, c, e, -, -⟩ := hw0
  subst e
  rw [List.length_append, hn] at hw r6 hi
  rw [hn] at r1
  have hg := hi g ⟨_, _, _, rfl⟩
  exact ⟨aA, cA, XA, g, c, Z, r1, r6, hw, hg.1, hg.2, bXA, bZ⟩
end
end Go.Proofs.YtmndnjgbbpkidaaGreat
