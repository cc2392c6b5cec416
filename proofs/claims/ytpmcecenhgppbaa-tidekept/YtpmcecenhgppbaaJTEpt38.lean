/- Lists of the same acts are the same, as the laws hold them. -/
import Derived.Test.YtpmcecenhgppbaaJTEpt21
import Derived.Test.YtpmcecenhgppbaaJTEpt37
namespace Go.Proofs.Ytpmcecenhgppbaa
section
open Go.RowKit Go.Shelf
attribute [local go_sem ↓ high] loadMsg storeMsg buildMsg storeAct loadAct buildAct
attribute [local go_sem high] run_store_complex eqC

theorem acl_few {w : World} {B : Nat} {a : Am} (h : ActL w B a) : a.c.es.length ≤ 140737488351232 ∧ a.c.ks.length ≤ 140737488351232 := by
  have h1 := h.le
  have h2 := h.lk
  unfold LB at h1 h2
  omega
/-- a whole act copied into a box of its own -/
theorem act_box (w1 : World) (X : Array Value) (hs : X.size = 7) (h1 : X.all (·.oneCell') = true) : ∃ V2, (actSt (.pointer (some ⟨w1.heap.size, 0, none⟩)) (.agg X)).run Try.prog (w1.alloc (.cells #[.bool false, .bool false, .bool false, .bool false, .slice none 0 0, .int .i64 0, .slice none 0 0] 59)) = .ok () V2 ∧ V2.heap[w1.heap.size]? = some (.cells X 59 (0, 0)) ∧ Below w1.heap.size w1 V2 := by
  obtain ⟨W1, hW1⟩ : ∃ W1, w1.alloc (.cells #[.bool false, .bool false, .bool false, .bool false, .slice none 0 0, .int .i64 0, .slice none 0 0] 59) = W1 := ⟨_, rfl⟩
  have b := boxB hW1
  rw [hW1]
  have o2 : Only (· = w1.heap.size) W1 (W1.setRow w1.heap.size X) := onlyR _ _ _
  exact ⟨_, actSt_of b.1 rfl hs h1 rfl, setRow_heap _ _ _ _ _ _ b.1, o2.below b.2 b.2.size (fun k hk => by rw [hk]; exact Nat.le_refl _)⟩
set_option maxHeartbeats 8000000 in
set_option maxRecDepth 100000 in
theorem sameActs_yes (v v2 : Value) (l l2 : List Am) (w : World) (B B2 : Nat) (h : Acts w B v l) (h2 : Acts w B2 v2 l2) (hm : l.map Am.c = l2.map Am.c) (hl : l.length ≤ 1000) :
    Calls Try.prog 11 #[v, v2] w fun e w' => e = .returned (.bool true) ∧ Below w.heap.size w w' := by
  obtain ⟨a, c, rfl⟩ := owns_len h.row
  obtain ⟨a2, c2, rfl⟩ := owns_len h2.row
  have hle : l2.length = l.length := by have := congrArg List.length hm; simpa using this.symm
  obtain ⟨n, hn⟩ : ∃ n, l.length = n := ⟨_, rfl⟩
  have HH : Hid (Acts w B (.slice a n c) l ∧ Acts w B2 (.slice a2 n c2) l2 ∧ l.map Am.c = l2.map Am.c ∧ l.length = n ∧ l2.length = n) := ⟨by rw [← hn]; exact h, by rw [← hn, ← hle]; exact h2, hm, hn, by omega⟩
  rw [hle, hn]
  rw [hn] at hl
  clear h h2 hm hle hn
  go_enter Try.func11, Try.ntmps11
  go_wp2
  go_loopw [5] (fun s5 wr => ∃ k : Nat, k ≤ n ∧ s5 = .int .i64 k ∧ Hid (Below w.heap.size w wr)) (fun s5 _ => n - (intOf s5).toNat)
  case atStart => exact ⟨0, Nat.zero_le _, rfl, Below.refl _ _⟩
  case round =>
    obtain ⟨k, hk, rfl, HB⟩ := hrel
    by_cases hlt : k < n
    · have hlz : (k : Int) < (n : Int) := by omega
      obtain ⟨y, hy⟩ : ∃ y, l[k]? = some y := ⟨_, List.getElem?_eq_getElem (by rw [HH.out.2.2.2.1]; exact hlt)⟩
      obtain ⟨z, hz⟩ : ∃ z, l2[k]? = some z := ⟨_, List.getElem?_eq_getElem (by rw [HH.out.2.2.2.2]; exact hlt)⟩
      have hyz : y.c = z.c := by
        have := congrArg (fun x => x[k]?) HH.out.2.2.1
        simp only [List.getElem?_map, hy, hz, Option.map_some] at this
        exact Option.some.inj this
      have h1 := HH.out.1.below HB.out
      have h2 := HH.out.2.1.below HB.out
      have hLy := h1.each y (List.mem_of_getElem? hy)
      have hLz := h2.each z (List.mem_of_getElem? hz)
      obtain ⟨gy, rfl, -, -, -, q1⟩ := owns_act h1.row hy
      obtain ⟨gz, rfl, -, -, hgz, q2⟩ := owns_act h2.row hz
      have ly := actLd_at q1 y.size
      obtain ⟨V2, sy, hx2, hb2⟩ := act_box wr y.arr y.size y.one
      have lz : (actLd (.pointer (some ⟨gz, k * 7, none⟩))).run Try.prog V2 = .ok (.agg z.arr) V2 := actLd_at (fun j u hu => (hb2.cell (p := ⟨gz, k * 7 + j, none⟩) hgz).trans (q2 j u hu)) z.size
      obtain ⟨V4, sz, hx4, hb4⟩ := act_box V2 z.arr z.size z.one
      have hb24 := chainB hb2 hb4
      have hfy := acl_few hLy
      have hfz := acl_few hLz
      have hky := (hLy.ks.below hb24)
      have hey := (hLy.es.below hb24)
      have hkz := (hLz.ks.below hb24)
      have hez := (hLz.es.below hb24)
      have hxy := hkeep hx2 hb4
      obtain ⟨⟨ca, cg, cr, cw, ks, er, es⟩, ak, ck, ae, ce⟩ := y
      obtain ⟨c', ak2, ck2, ae2, ce2⟩ := z
      obtain rfl : (⟨ca, cg, cr, cw, ks, er, es⟩ : Ac) = c' := hyz
      obtain ⟨gx, hgx⟩ : ∃ g, wr.heap.size = g := ⟨_, rfl⟩
      obtain ⟨gx2, hgx2⟩ : ∃ g, V2.heap.size = g := ⟨_, rfl⟩
      have HBX : Hid (V4.heap[gx]? = some (.cells #[.bool ca, .bool cg, .bool cr, .bool cw, .slice ak ks.length ck, .int .i64 er, .slice ae es.length ce] 59 (0, 0)) ∧ V4.heap[gx2]? = some (.cells #[.bool ca, .bool cg, .bool cr, .bool cw, .slice ak2 ks.length ck2, .int .i64 er, .slice ae2 es.length ce2] 59 (0, 0))) := ⟨by rw [← hgx]; exact hxy, by rw [← hgx2]; exact hx4⟩
      have HF : Hid (Below wr.heap.size wr V4) := hb24
      have HSk : Hid (∀ W3, Below V4.heap.size V4 W3 → Calls Try.prog 23 #[.slice ak ks.length ck, .slice ak2 ks.length ck2] W3 fun e w' => e = .returned (.bool true) ∧ Below W3.heap.size W3 w') := fun W3 h3 => by
        have := sameK_big _ _ ks ks _ _ W3 (hky.below h3) (hkz.below h3) hfy.2 hfz.2
        rw [(sameKs_iff ks ks).2 rfl] at this
        exact this
      have HSe : Hid (∀ W3, Below V4.heap.size V4 W3 → Calls Try.prog 24 #[.slice ae es.length ce, .slice ae2 es.length ce2] W3 fun e w' => e = .returned (.bool true) ∧ Below W3.heap.size W3 w') := fun W3 h3 => by
        have := sameE_big _ _ es es _ _ W3 (hey.below h3) (hez.below h3) hfy.1 hfz.1
        rw [(sameEs_iff es es).2 rfl] at this
        exact this
      have x0 := cell_of HBX.out.1 0
      have x1 := cell_of HBX.out.1 1
      have x2 := cell_of HBX.out.1 2
      have x3 := cell_of HBX.out.1 3
      have x4 := cell_of HBX.out.1 4
      have x5 := cell_of HBX.out.1 5
      have x6 := cell_of HBX.out.1 6
      have y0 := cell_of HBX.out.2 0
      have y1 := cell_of HBX.out.2 1
      have y2 := cell_of HBX.out.2 2
      have y3 := cell_of HBX.out.2 3
      have y4 := cell_of HBX.out.2 4
      have y5 := cell_of HBX.out.2 5
      have y6 := cell_of HBX.out.2 6
      simp at x0 x1 x2 x3 x4 x5 x6 y0 y1 y2 y3 y4 y5 y6
      rw [hgx] at sy
      rw [hgx2] at sz
      obtain ⟨Y, hY⟩ : ∃ Y, (Am.arr ⟨⟨ca, cg, cr, cw, ks, er, es⟩, ak, ck, ae, ce⟩) = Y := ⟨_, rfl⟩
      obtain ⟨Z, hZ⟩ : ∃ Z, (Am.arr ⟨⟨ca, cg, cr, cw, ks, er, es⟩, ak2, ck2, ae2, ce2⟩) = Z := ⟨_, rfl⟩
      rw [hY] at ly sy
      rw [hZ] at lz sz
      clear hy hz h1 h2 hLy hLz hgz q1 q2 hx2 hb2 hx4 hb4 hb24 hfy hfz hky hey hkz hez hxy hY hZ
      go_wp2_with (first
        | (go_at_call 23; refine (HSk.out _ (Below.refl _ _)).mono ?_; rintro e w1 ⟨rfl, hb1⟩; have p6 := cell_of (hkeep HBX.out.1 hb1) 6; have q6 := cell_of (hkeep HBX.out.2 hb1) 6; simp at p6 q6)
        | (go_at_call 24; refine (HSe.out _ hb1).mono ?_; rintro e w2 ⟨rfl, hb2⟩))
      exact ⟨⟨k + 1, by omega, by simp, chainB HB.out (chainB HF.out (chainB hb1 hb2))⟩, by simp [intOf]; omega⟩
    · have hlz : ¬ (k : Int) < (n : Int) := by omega
      go_wp2
      go_ret
      exact ⟨rfl, HB.out⟩
end
section
open Go.RowKit Go.Shelf

theorem IsD.down {w : World} {B B' t : Nat} {s : Dt} (h : IsD w B t s) (hb : B' ≤ B) : IsD w B' t s :=
  ⟨h.head, Nat.le_trans hb h.bt, owns_le h.held hb, fun m hm => ⟨(h.each m hm).1.down hb, (h.each m hm).2⟩, owns_le h.fresh hb, fun f hf => ⟨owns_le (h.eachF f hf).1 hb, (h.eachF f hf).2⟩, h.e0, h.e1, h.n0, h.n1, h.ask0, h.lh, h.l8⟩
/-- what a call on the document's tide leaves alone -/
structure Kd (w w' : World) : Prop where
  size : w.heap.size ≤ w'.heap.size
  tag : ∀ k ty, Tag w k ty → 71 ≠ ty → 45 ≠ ty → 100 ≠ ty → w'.heap[k]? = w.heap[k]?
theorem SD.kd {w w' : World} {B t : Nat} {s s' : Dt} (h : SD w w' B t s s') (hs : IsD w B t s) : Kd w w' := ⟨h.only.size, fun k _ ht h1 h2 h3 => h.only.block k ht.lt fun e => hs.wno e h1 h2 h3 ht⟩
theorem Kd.rowK {w w' : World} (h : Kd w w') {B : Nat} {v : Value} {l : List Ky} (k : RowK w B v l) : RowK w' B v l := owns_moved k fun q e => h.tag q _ (Tag.own k e) (by decide) (by decide) (by decide)
theorem Kd.rowE {w w' : World} (h : Kd w w') {B : Nat} {v : Value} {l : List En} (k : Row7 w B v l) : Row7 w' B v l := owns_moved k fun q e => h.tag q _ (Tag.own k e) (by decide) (by decide) (by decide)
theorem Kd.acts {w w' : World} (h : Kd w w') {B : Nat} {v : Value} {l : List Am} (k : Acts w B v l) : Acts w' B v l :=
  ⟨owns_moved k.row fun q e => h.tag q _ (Tag.own k.row e) (by decide) (by decide) (by decide), fun a ha => ⟨h.rowK (k.each a ha).ks, h.rowE (k.each a ha).es, (k.each a ha).le, (k.each a ha).lk⟩⟩
/-- both tides, their blocks apart -/
structure Pr (w0 w : World) (t u : Nat) (Sa Sb : Ts) : Prop where
  ex : ∃ s d, IsT w w0.heap.size t s ∧ s.say = Sa ∧ IsD w w0.heap.size u d ∧ d.say = Sb ∧ ∀ k, s.blk t k → ¬ d.blk u k
  bel : Below w0.heap.size w0 w
theorem Pr.below {w0 w w' : World} {t u : Nat} {Sa Sb : Ts} (h : Pr w0 w t u Sa Sb) (hb : Below w.heap.size w w') : Pr w0 w' t u Sa Sb := by
  obtain ⟨s, d, h1, h2, h3, h4, h5⟩ := h.ex
  exact ⟨⟨s, d, h1.below hb, h2, h3.below hb, h4, h5⟩, chainB h.bel hb⟩
theorem Pr.p {w0 w w' : World} {t u : Nat} {Sa Sb S' : Ts} (h : Pr w0 w t u Sa Sb) {s s' : Td} {d : Dt} (h1 : IsT w w0.heap.size t s) (h3 : IsD w w0.heap.size u d) (h4 : d.say = Sb) (h5 : ∀ k, s.blk t k → ¬ d.blk u k) (k : ST w w' w0.heap.size t s s') (he : s'.say = S') : Pr w0 w' t u S' Sb ∧ Kt (fun _ => False) w w' := by
  refine ⟨⟨⟨s', d, k.is, he, h3.moved fun q hq => k.only.block q (h3.lt hq).2 fun e => h5 q (.inl e) hq, h4, fun q hq hd => ?_⟩, k.only.below h.bel h.bel.size fun q hq => (h1.wlt hq).1⟩, ⟨k.only.size, fun q ty ht e1 e2 => k.only.block q ht.lt fun hw => h1.wno hw e1 e2 ht, fun q hq => hq.elim⟩⟩
  rcases k.nblk q hq with e | e
  · exact h5 q e hd
  · have := (h3.lt hd).2; omega
theorem Pr.d {w0 w w' : World} {t u : Nat} {Sa Sb S' : Ts} (h : Pr w0 w t u Sa Sb) {s : Td} {d d' : Dt} (h1 : IsT w w0.heap.size t s) (h2 : s.say = Sa) (h3 : IsD w w0.heap.size u d) (h5 : ∀ k, s.blk t k → ¬ d.blk u k) (k : SD w w' w0.heap.size u d d') (he : d'.say = S') : Pr w0 w' t u Sa S' ∧ Kd w w' := by
  refine ⟨⟨⟨s, d', h1.moved fun q hq => k.only.block q (h1.lt hq).2 fun e => h5 q hq (.inl e), h2, k.is, he, fun q hq hd => ?_⟩, k.only.below h.bel h.bel.size fun q hq => (h3.wlt hq).1⟩, k.kd h3⟩
  rcases k.nblk q hd with e | e
  · exact h5 q hq e
  · have := (h1.lt hq).2; omega
def PTake (w0 w : World) (t u : Nat) (Sa Sb : Ts) (m : Pm) (e : Ending) (w' : World) : Prop := ∃ v l, e = .returned v ∧ Acts w' w.heap.size v l ∧ l.map Am.c = (Sa.take m).2 ∧ Pr w0 w' t u (Sa.take m).1 Sb ∧ Kt (fun _ => False) w w'
theorem Pr.take_p {w0 w : World} {t u : Nat} {Sa Sb : Ts} (h : Pr w0 w t u Sa Sb) (x : Hm) (hL : Lists w 0 x) : Calls Try.prog 12 #[.pointer (some ⟨t, 0, none⟩), .agg x.arr] w fun e w' => PTake w0 w t u Sa Sb x.m e w' := by
  obtain ⟨s, d, h1, h2, h3, h4, h5⟩ := h.ex
  refine (Go.Proofs.Ytpmcecenhgppbaa.take_p t w0.heap.size s x w h1 h.bel.size hL).mono ?_
  rintro e w' ⟨v, l, rfl, ha, hc, s', hst, hsay, -⟩
  rw [h2] at hc hsay
  obtain ⟨a, b⟩ := h.p h1 h3 h4 h5 hst hsay
  exact ⟨v, l, rfl, ha, hc, a, b⟩
def DTake (w0 w : World) (t u : Nat) (Sa Sb : Ts) (m : Pm) (e : Ending) (w' : World) : Prop := ∃ v l, e = .returned v ∧ Acts w' w.heap.size v l ∧ l.map Am.c = (Sb.take m).2 ∧ Pr w0 w' t u Sa (Sb.take m).1 ∧ Kd w w'
theorem Pr.take_d {w0 w : World} {t u : Nat} {Sa Sb : Ts} (h : Pr w0 w t u Sa Sb) (x : Hm) (hL : Lists w 0 x) (hd : Sb.due = none) (hf : (Sb.fr.length + Sb.held.length + 1) * 56 ≤ 140737488351232) : Calls Try.prog 14 #[.pointer (some ⟨u, 0, none⟩), .agg x.arr] w fun e w' => DTake w0 w t u Sa Sb x.m e w' := by
  obtain ⟨s, d, h1, h2, h3, h4, h5⟩ := h.ex
  subst h4
  rw [d.len.1, d.len.2] at hf
  refine (Go.Proofs.Ytpmcecenhgppbaa.take_d u w0.heap.size d x w h3 hL hd hf).mono ?_
  rintro e w' ⟨v, l, rfl, ha, hc, s', hst, hsay⟩
  obtain ⟨a, b⟩ := h.d h1 h2 h3 h5 hst hsay
  exact ⟨v, l, rfl, ha, hc, a, b⟩
theorem Pr.ask_p {w0 w : World} {t u : Nat} {Sa Sb : Ts} (h : Pr w0 w t u Sa Sb) (q : Int) : Calls Try.prog 9 #[.pointer (some ⟨t, 0, none⟩), .int .i64 q] w fun e w' => e = .returned (.tuple #[]) ∧ Pr w0 w' t u (Sa.ask q) Sb ∧ Kt (fun _ => False) w w' := by
  obtain ⟨s, d, h1, h2, h3, h4, h5⟩ := h.ex
  refine (Go.Proofs.Ytpmcecenhgppbaa.ask_p t w0.heap.size s q w h1).mono ?_
  rintro e w' ⟨rfl, s', hst, hsay⟩
  rw [h2] at hsay
  exact ⟨rfl, h.p h1 h3 h4 h5 hst hsay⟩
theorem Pr.ask_d {w0 w : World} {t u : Nat} {Sa Sb : Ts} (h : Pr w0 w t u Sa Sb) (q : Int) : Calls Try.prog 10 #[.pointer (some ⟨u, 0, none⟩), .int .i64 q] w fun e w' => e = .returned (.tuple #[]) ∧ Pr w0 w' t u Sa (Sb.ask q) ∧ Kd w w' := by
  obtain ⟨s, d, h1, h2, h3, h4, h5⟩ := h.ex
  refine (Go.Proofs.Ytpmcecenhgppbaa.ask_d u w0.heap.size d q w h3).mono ?_
  rintro e w' ⟨rfl, s', hst, hsay, -⟩
  rw [h4] at hsay
  exact ⟨rfl, h.d h1 h2 h3 h5 hst hsay⟩
/-- both made, one behind the other -/
theorem pr_new {w0 w1 w2 : World} {s : Td} {d : Dt} {S : Ts} (h1 : IsT w1 w0.heap.size w0.heap.size s) (e1 : s.say = S) (b1 : Below w0.heap.size w0 w1) (h2 : IsD w2 w1.heap.size w1.heap.size d) (e2 : d.say = S) (b2 : Below w1.heap.size w1 w2) : Pr w0 w2 w0.heap.size w1.heap.size S S :=
  ⟨⟨s, d, h1.below b2, e1, h2.down b1.size, e2, fun k hk hd => by have := (h1.lt hk).2; have := (h2.lt hd).1; omega⟩, chainB b1 b2⟩
end
section
open Go.RowKit Go.Shelf

/-- what a call on either tide leaves alone -/
structure Kf (F : Nat → Prop) (w w' : World) : Prop where
  size : w.heap.size ≤ w'.heap.size
  tag : ∀ k ty, Tag w k ty → 68 ≠ ty → 71 ≠ ty → 45 ≠ ty → 100 ≠ ty → w'.heap[k]? = w.heap[k]?
  mine : ∀ k, F k → k < w.heap.size → w'.heap[k]? = w.heap[k]?
theorem Kf.of {F : Nat → Prop} {w w' : World} (h : Below w.heap.size w w') : Kf F w w' := ⟨h.size, fun k _ ht _ _ _ _ => h.block k ht.lt, fun k _ hk => h.block k hk⟩
theorem Kf.trans {F : Nat → Prop} {a b c : World} (h : Kf F a b) (k : Kf F b c) : Kf F a c :=
  ⟨Nat.le_trans h.size k.size, fun q ty ht h1 h2 h3 h4 => (k.tag q ty (ht.moved (h.tag q ty ht h1 h2 h3 h4)) h1 h2 h3 h4).trans (h.tag q ty ht h1 h2 h3 h4), fun q hq hl => (k.mine q hq (Nat.lt_of_lt_of_le hl h.size)).trans (h.mine q hq hl)⟩
theorem Kf.less {F G : Nat → Prop} {w w' : World} (h : Kf F w w') (hg : ∀ k, G k → F k) : Kf G w w' := ⟨h.size, h.tag, fun k hk => h.mine k (hg k hk)⟩
theorem Kf.rowK {F : Nat → Prop} {w w' : World} (h : Kf F w w') {B : Nat} {v : Value} {l : List Ky} (k : RowK w B v l) : RowK w' B v l := owns_moved k fun q e => h.tag q _ (Tag.own k e) (by decide) (by decide) (by decide) (by decide)
theorem Kf.rowE {F : Nat → Prop} {w w' : World} (h : Kf F w w') {B : Nat} {v : Value} {l : List En} (k : Row7 w B v l) : Row7 w' B v l := owns_moved k fun q e => h.tag q _ (Tag.own k e) (by decide) (by decide) (by decide) (by decide)
theorem Kf.lists {F : Nat → Prop} {w w' : World} (h : Kf F w w') {B : Nat} {x : Hm} (k : Lists w B x) : Lists w' B x := ⟨h.rowE k.es, h.rowK k.ks, k.le, k.lk⟩
theorem Kf.acts {F : Nat → Prop} {w w' : World} (h : Kf F w w') {B : Nat} {v : Value} {l : List Am} (k : Acts w B v l) : Acts w' B v l :=
  ⟨owns_moved k.row fun q e => h.tag q _ (Tag.own k.row e) (by decide) (by decide) (by decide) (by decide), fun a ha => ⟨h.rowK (k.each a ha).ks, h.rowE (k.each a ha).es, (k.each a ha).le, (k.each a ha).lk⟩⟩
structure Pf (w0 w : World) (t u : Nat) (Sa Sb : Ts) (F : Nat → Prop) : Prop where
  ex : ∃ s d, IsT w w0.heap.size t s ∧ s.say = Sa ∧ IsD w w0.heap.size u d ∧ d.say = Sb ∧ (∀ k, s.blk t k → ¬ d.blk u k) ∧ ∀ k, F k → ¬ s.blk t k ∧ ¬ d.blk u k
  bel : Below w0.heap.size w0 w
  flt : ∀ k, F k → k < w.heap.size
theorem Pf.pr {w0 w : World} {t u : Nat} {Sa Sb : Ts} {F : Nat → Prop} (h : Pf w0 w t u Sa Sb F) : Pr w0 w t u Sa Sb := by
  obtain ⟨s, d, h1, h2, h3, h4, h5, -⟩ := h.ex
  exact ⟨⟨s, d, h1, h2, h3, h4, h5⟩, h.bel⟩
theorem Pr.pf {w0 w : World} {t u : Nat} {Sa Sb : Ts} (h : Pr w0 w t u Sa Sb) : Pf w0 w t u Sa Sb (fun _ => False) := by
  obtain ⟨s, d, h1, h2, h3, h4, h5⟩ := h.ex
  exact ⟨⟨s, d, h1, h2, h3, h4, h5, fun k hk => hk.elim⟩, h.bel, fun k hk => hk.elim⟩
theorem Pf.below {w0 w w' : World} {t u : Nat} {Sa Sb : Ts} {F : Nat → Prop} (h : Pf w0 w t u Sa Sb F) (hb : Below w.heap.size w w') : Pf w0 w' t u Sa Sb F := by
  obtain ⟨s, d, h1, h2, h3, h4, h5, h6⟩ := h.ex
  exact ⟨⟨s, d, h1.below hb, h2, h3.below hb, h4, h5, h6⟩, chainB h.bel hb, fun k hk => Nat.lt_of_lt_of_le (h.flt k hk) hb.size⟩
theorem Pf.less {w0 w : World} {t u : Nat} {Sa Sb : Ts} {F G : Nat → Prop} (h : Pf w0 w t u Sa Sb F) (hg : ∀ k, G k → F k) : Pf w0 w t u Sa Sb G := by
  obtain ⟨s, d, h1, h2, h3, h4, h5, h6⟩ := h.ex
  exact ⟨⟨s, d, h1, h2, h3, h4, h5, fun k hk => h6 k (hg k hk)⟩, h.bel, fun k hk => h.flt k (hg k hk)⟩
/-- what has been made since may be the law's -/
theorem Pf.add {w0 w w' : World} {t u : Nat} {Sa Sb : Ts} {F : Nat → Prop} (h : Pf w0 w t u Sa Sb F) (hb : Below w.heap.size w w') : Pf w0 w' t u Sa Sb (fun k => F k ∨ (w.heap.size ≤ k ∧ k < w'.heap.size)) := by
  obtain ⟨s, d, h1, h2, h3, h4, h5, h6⟩ := h.ex
  refine ⟨⟨s, d, h1.below hb, h2, h3.below hb, h4, h5, fun k hk => ?_⟩, chainB h.bel hb, fun k hk => ?_⟩
  · rcases hk with hk | hk
    · exact h6 k hk
    · exact ⟨fun e => by have := (h1.lt e).2; omega, fun e => by have := (h3.lt e).2; omega⟩
  · rcases hk with hk | hk
    · exact Nat.lt_of_lt_of_le (h.flt k hk) hb.size
    · exact hk.2
/-- a store into what is the law's -/
theorem Pf.mine {w0 w w' : World} {t u : Nat} {Sa Sb : Ts} {F G : Nat → Prop} (h : Pf w0 w t u Sa Sb F) (ho : Only G w w') (hG : ∀ k, G k → F k ∧ w0.heap.size ≤ k) : Pf w0 w' t u Sa Sb F := by
  obtain ⟨s, d, h1, h2, h3, h4, h5, h6⟩ := h.ex
  exact ⟨⟨s, d, h1.moved fun k hk => ho.block k (h1.lt hk).2 fun g => (h6 k (hG k g).1).1 hk, h2, h3.moved fun k hk => ho.block k (h3.lt hk).2 fun g => (h6 k (hG k g).1).2 hk, h4, h5, h6⟩, ho.below h.bel h.bel.size fun k hk => (hG k hk).2, fun k hk => Nat.lt_of_lt_of_le (h.flt k hk) ho.size⟩
theorem Pf.p {w0 w w' : World} {t u : Nat} {Sa Sb S' : Ts} {F : Nat → Prop} (h : Pf w0 w t u Sa Sb F) {s s' : Td} {d : Dt} (h1 : IsT w w0.heap.size t s) (h3 : IsD w w0.heap.size u d) (h4 : d.say = Sb) (h5 : ∀ k, s.blk t k → ¬ d.blk u k) (h6 : ∀ k, F k → ¬ s.blk t k ∧ ¬ d.blk u k) (k : ST w w' w0.heap.size t s s') (he : s'.say = S') : Pf w0 w' t u S' Sb F ∧ Kf F w w' := by
  refine ⟨⟨⟨s', d, k.is, he, h3.moved fun q hq => k.only.block q (h3.lt hq).2 fun e => h5 q (.inl e) hq, h4, fun q hq hd => ?_, fun q hq => ⟨fun e => ?_, (h6 q hq).2⟩⟩, k.only.below h.bel h.bel.size fun q hq => (h1.wlt hq).1, fun q hq => Nat.lt_of_lt_of_le (h.flt q hq) k.only.size⟩, ⟨k.only.size, fun q ty ht e1 _ e2 _ => k.only.block q ht.lt fun hw => h1.wno hw e1 e2 ht, fun q hq hl => k.only.block q hl fun hw => (h6 q hq).1 (.inl hw)⟩⟩
  · rcases k.nblk q hq with e | e
    · exact h5 q e hd
    · have := (h3.lt hd).2; omega
  · rcases k.nblk q e with e | e
    · exact (h6 q hq).1 e
    · have := h.flt q hq; omega
theorem Pf.d {w0 w w' : World} {t u : Nat} {Sa Sb S' : Ts} {F : Nat → Prop} (h : Pf w0 w t u Sa Sb F) {s : Td} {d d' : Dt} (h1 : IsT w w0.heap.size t s) (h2 : s.say = Sa) (h3 : IsD w w0.heap.size u d) (h5 : ∀ k, s.blk t k → ¬ d.blk u k) (h6 : ∀ k, F k → ¬ s.blk t k ∧ ¬ d.blk u k) (k : SD w w' w0.heap.size u d d') (he : d'.say = S') : Pf w0 w' t u Sa S' F ∧ Kf F w w' := by
  refine ⟨⟨⟨s, d', h1.moved fun q hq => k.only.block q (h1.lt hq).2 fun e => h5 q hq (.inl e), h2, k.is, he, fun q hq hd => ?_, fun q hq => ⟨(h6 q hq).1, fun e => ?_⟩⟩, k.only.below h.bel h.bel.size fun q hq => (h3.wlt hq).1, fun q hq => Nat.lt_of_lt_of_le (h.flt q hq) k.only.size⟩, ⟨k.only.size, fun q ty ht _ e1 e2 e3 => k.only.block q ht.lt fun hw => h3.wno hw e1 e2 e3 ht, fun q hq hl => k.only.block q hl fun hw => (h6 q hq).2 (.inl hw)⟩⟩
  · rcases k.nblk q hd with e | e
    · exact h5 q hq e
    · have := (h1.lt hq).2; omega
  · rcases k.nblk q e with e | e
    · exact (h6 q hq).2 e
    · have := h.flt q hq; omega
def AtB (l : List Am) (k : Nat) : Prop := ∃ a ∈ l, a.ve.ownBlock = some k ∨ a.vk.ownBlock = some k
def PfP (w0 w : World) (t u : Nat) (Sa Sb : Ts) (F : Nat → Prop) (m : Pm) (e : Ending) (w' : World) : Prop := ∃ v l, e = .returned v ∧ Acts w' w.heap.size v l ∧ l.map Am.c = (Sa.take m).2 ∧ Pf w0 w' t u (Sa.take m).1 Sb (fun k => F k ∨ AtB l k) ∧ Kf F w w'
theorem Pf.take_p {w0 w : World} {t u : Nat} {Sa Sb : Ts} {F : Nat → Prop} (h : Pf w0 w t u Sa Sb F) (x : Hm) (hL : Lists w 0 x) : Calls Try.prog 12 #[.pointer (some ⟨t, 0, none⟩), .agg x.arr] w fun e w' => PfP w0 w t u Sa Sb F x.m e w' := by
  obtain ⟨s, d, h1, h2, h3, h4, h5, h6⟩ := h.ex
  refine (Go.Proofs.Ytpmcecenhgppbaa.take_p t w0.heap.size s x w h1 h.bel.size hL).mono ?_
  rintro e w' ⟨v, l, rfl, ha, hc, s', hst, hsay, haf⟩
  rw [h2] at hc hsay
  obtain ⟨a, b⟩ := h.p h1 h3 h4 h5 h6 hst hsay
  have hin : ∀ k, AtB l k → w.heap.size ≤ k ∧ k < w'.heap.size := fun k hk => by
    obtain ⟨y, hy, e | e⟩ := hk
    · exact World.ownsRow.lt (ha.each y hy).es k e
    · exact World.ownsRow.lt (ha.each y hy).ks k e
  refine ⟨v, l, rfl, ha, hc, ⟨⟨s', d, hst.is, hsay, h3.moved fun q hq => hst.only.block q (h3.lt hq).2 fun e => h5 q (.inl e) hq, h4, fun q hq hd => ?_, fun k hk => ?_⟩, a.bel, fun k hk => ?_⟩, b⟩
  · rcases hst.nblk q hq with e | e
    · exact h5 q e hd
    · have := (h3.lt hd).2; omega
  · rcases hk with hk | hk
    · refine ⟨fun e => ?_, (h6 k hk).2⟩
      rcases hst.nblk k e with e | e
      · exact (h6 k hk).1 e
      · have := h.flt k hk; omega
    · refine ⟨fun e => ?_, fun e => by have := (h3.lt e).2; have := (hin k hk).1; omega⟩
      obtain ⟨y, hy, e2⟩ := hk
      exact haf y hy k e2 e
  · rcases hk with hk | hk
    · exact a.flt k hk
    · exact (hin k hk).2
def PfD (w0 w : World) (t u : Nat) (Sa Sb : Ts) (F : Nat → Prop) (m : Pm) (e : Ending) (w' : World) : Prop := ∃ v l, e = .returned v ∧ Acts w' w.heap.size v l ∧ l.map Am.c = (Sb.take m).2 ∧ Pf w0 w' t u Sa (Sb.take m).1 F ∧ Kf F w w'
theorem Pf.take_d {w0 w : World} {t u : Nat} {Sa Sb : Ts} {F : Nat → Prop} (h : Pf w0 w t u Sa Sb F) (x : Hm) (hL : Lists w 0 x) (hd : Sb.due = none) (hf : (Sb.fr.length + Sb.held.length + 1) * 56 ≤ 140737488351232) : Calls Try.prog 14 #[.pointer (some ⟨u, 0, none⟩), .agg x.arr] w fun e w' => PfD w0 w t u Sa Sb F x.m e w' := by
  obtain ⟨s, d, h1, h2, h3, h4, h5, h6⟩ := h.ex
  subst h4
  rw [d.len.1, d.len.2] at hf
  refine (Go.Proofs.Ytpmcecenhgppbaa.take_d u w0.heap.size d x w h3 hL hd hf).mono ?_
  rintro e w' ⟨v, l, rfl, ha, hc, s', hst, hsay⟩
  obtain ⟨a, b⟩ := h.d h1 h2 h3 h5 h6 hst hsay
  exact ⟨v, l, rfl, ha, hc, a, b⟩
theorem Pf.ask_p {w0 w : World} {t u : Nat} {Sa Sb : Ts} {F : Nat → Prop} (h : Pf w0 w t u Sa Sb F) (q : Int) : Calls Try.prog 9 #[.pointer (some ⟨t, 0, none⟩), .int .i64 q] w fun e w' => e = .returned (.tuple #[]) ∧ Pf w0 w' t u (Sa.ask q) Sb F ∧ Kf F w w' := by
  obtain ⟨s, d, h1, h2, h3, h4, h5, h6⟩ := h.ex
  refine (Go.Proofs.Ytpmcecenhgppbaa.ask_p t w0.heap.size s q w h1).mono ?_
  rintro e w' ⟨rfl, s', hst, hsay⟩
  rw [h2] at hsay
  exact ⟨rfl, h.p h1 h3 h4 h5 h6 hst hsay⟩
theorem Pf.ask_d {w0 w : World} {t u : Nat} {Sa Sb : Ts} {F : Nat → Prop} (h : Pf w0 w t u Sa Sb F) (q : Int) : Calls Try.prog 10 #[.pointer (some ⟨u, 0, none⟩), .int .i64 q] w fun e w' => e = .returned (.tuple #[]) ∧ Pf w0 w' t u Sa (Sb.ask q) F ∧ Kf F w w' := by
  obtain ⟨s, d, h1, h2, h3, h4, h5, h6⟩ := h.ex
  refine (Go.Proofs.Ytpmcecenhgppbaa.ask_d u w0.heap.size d q w h3).mono ?_
  rintro e w' ⟨rfl, s', hst, hsay, -⟩
  rw [h4] at hsay
  exact ⟨rfl, h.d h1 h2 h3 h5 h6 hst hsay⟩
end
end Go.Proofs.Ytpmcecenhgppbaa
