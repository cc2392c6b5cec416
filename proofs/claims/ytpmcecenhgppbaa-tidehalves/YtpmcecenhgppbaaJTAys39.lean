/- Lists of the same acts are the same, as the laws hold them. -/
import Derived.Test.YtpmcecenhgppbaaJTAys22
import Derived.Test.YtpmcecenhgppbaaJTAys38
import Derived.Deep.RegionHeld3
namespace Go.Proofs.Ytpmcecenhgppbaa
section
open Go.RowKit Go.Shelf
attribute [local go_sem ↓ high] loadMsg storeMsg buildMsg storeAct loadAct buildAct
attribute [local go_sem high] run_store_complex eqC

theorem acl_few {w : World} {B : Nat} {a : Am} (h : ActL w B a) : a.c.es.length ≤ 140737488351232 ∧ a.c.ks.length ≤ 140737488351232 := by
  have h1 := h.le
  have h2 := h.lk
  unfold LB at h1 h2
  omega
/-- a whole act copied into a box of its own -/
theorem act_box (w1 : World) (X : Array Value) (hs : X.size = 7) (h1 : X.all (·.oneCell') = true) : ∃ V2, (actSt (.pointer (some ⟨w1.heap.size, 0, none⟩)) (.agg X)).run Try.prog (w1.alloc (.cells #[.bool false, .bool false, .bool false, .bool false, .slice none 0 0, .int .i64 0, .slice none 0 0] 59)) = .ok () V2 ∧ V2.heap[w1.heap.size]? = some (.cells X 59 (0, 0)) ∧ Below w1.heap.size w1 V2 := by
  obtain ⟨W1, hW1⟩ : ∃ W1, w1.alloc (.cells #[.bool false, .bool false, .bool false, .bool false, .slice none 0 0, .int .i64 0, .slice none 0 0] 59) = W1 := ⟨_, rfl⟩
  have b := boxB hW1
  rw [hW1]
  have o2 : Only (· = w1.heap.size) W1 (W1.setRow w1.heap.size X) := onlyR _ _ _
  exact ⟨_, actSt_of b.1 rfl hs h1 rfl, setRow_heap _ _ _ _ _ _ b.1, o2.below b.2 b.2.size (fun k hk => by rw [hk]; exact Nat.le_refl _)⟩
set_option maxHeartbeats 8000000 in
set_option maxRecDepth 100000 in
theorem sameActs_yes (v v2 : Value) (l l2 : List Am) (w : World) (B B2 : Nat) (h : Acts w B v l) (h2 : Acts w B2 v2 l2) (hm : l.map Am.c = l2.map Am.c) (hl : l.length ≤ 1000) :
    Calls Try.prog 11 #[v, v2] w fun e w' => e = .returned (.bool true) ∧ Below w.heap.size w w' := by
  obtain ⟨a, c, rfl⟩ := owns_len h.row
  obtain ⟨a2, c2, rfl⟩ := owns_len h2.row
  have hle : l2.length = l.length := by have := congrArg List.length hm; simpa using this.symm
  obtain ⟨n, hn⟩ : ∃ n, l.length = n := ⟨_, rfl⟩
  have HH : Hid (Acts w B (.slice a n c) l ∧ Acts w B2 (.slice a2 n c2) l2 ∧ l.map Am.c = l2.map Am.c ∧ l.length = n ∧ l2.length = n) := ⟨by rw [← hn]; exact h, by rw [← hn, ← hle]; exact h2, hm, hn, by omega⟩
  rw [hle, hn]
  rw [hn] at hl
  clear h h2 hm hle hn
  go_enter Try.func11, Try.ntmps11
  go_wp2
  go_loopw [5] (fun s5 wr => ∃ k : Nat, k ≤ n ∧ s5 = .int .i64 k ∧ Hid (Below w.heap.size w wr)) (fun s5 _ => n - (intOf s5).toNat)
  case atStart => exact ⟨0, Nat.zero_le _, rfl, Below.refl _ _⟩
  case round =>
    obtain ⟨k, hk, rfl, HB⟩ := hrel
    by_cases hlt : k < n
    · have hlz : (k : Int) < (n : Int) := by omega
      obtain ⟨y, hy⟩ : ∃ y, l[k]? = some y := ⟨_, List.getElem?_eq_getElem (by rw [HH.out.2.2.2.1]; exact hlt)⟩
      obtain ⟨z, hz⟩ : ∃ z, l2[k]? = some z := ⟨_, List.getElem?_eq_getElem (by rw [HH.out.2.2.2.2]; exact hlt)⟩
      have hyz : y.c = z.c := by
        have := congrArg (fun x => x[k]?) HH.out.2.2.1
        simp only [List.getElem?_map, hy, hz, Option.map_some] at this
        exact Option.some.inj this
      have h1 := HH.out.1.below HB.out
      have h2 := HH.out.2.1.below HB.out
      have hLy := h1.each y (List.mem_of_getElem? hy)
      have hLz := h2.each z (List.mem_of_getElem? hz)
      obtain ⟨gy, rfl, -, -, -, q1⟩ := owns_act h1.row hy
      obtain ⟨gz, rfl, -, -, hgz, q2⟩ := owns_act h2.row hz
      have ly := actLd_at q1 y.size
      obtain ⟨V2, sy, hx2, hb2⟩ := act_box wr y.arr y.size y.one
      have lz : (actLd (.pointer (some ⟨gz, k * 7, none⟩))).run Try.prog V2 = .ok (.agg z.arr) V2 := actLd_at (fun j u hu => (hb2.cell (p := ⟨gz, k * 7 + j, none⟩) hgz).trans (q2 j u hu)) z.size
      obtain ⟨V4, sz, hx4, hb4⟩ := act_box V2 z.arr z.size z.one
      have hb24 := chainB hb2 hb4
      have hfy := acl_few hLy
      have hfz := acl_few hLz
      have hky := (hLy.ks.below hb24)
      have hey := (hLy.es.below hb24)
      have hkz := (hLz.ks.below hb24)
      have hez := (hLz.es.below hb24)
      have hxy := hkeep hx2 hb4
      obtain ⟨⟨ca, cg, cr, cw, ks, er, es⟩, ak, ck, ae, ce⟩ := y
      obtain ⟨c', ak2, ck2, ae2, ce2⟩ := z
      obtain rfl : (⟨ca, cg, cr, cw, ks, er, es⟩ : Ac) = c' := hyz
      obtain ⟨gx, hgx⟩ : ∃ g, wr.heap.size = g := ⟨_, rfl⟩
      obtain ⟨gx2, hgx2⟩ : ∃ g, V2.heap.size = g := ⟨_, rfl⟩
      have HBX : Hid (V4.heap[gx]? = some (.cells #[.bool ca, .bool cg, .bool cr, .bool cw, .slice ak ks.length ck, .int .i64 er, .slice ae es.length ce] 59 (0, 0)) ∧ V4.heap[gx2]? = some (.cells #[.bool ca, .bool cg, .bool cr, .bool cw, .slice ak2 ks.length ck2, .int .i64 er, .slice ae2 es.length ce2] 59 (0, 0))) := ⟨by rw [← hgx]; exact hxy, by rw [← hgx2]; exact hx4⟩
      have HF : Hid (Below wr.heap.size wr V4) := hb24
      have HSk : Hid (∀ W3, Below V4.heap.size V4 W3 → Calls Try.prog 23 #[.slice ak ks.length ck, .slice ak2 ks.length ck2] W3 fun e w' => e = .returned (.bool true) ∧ Below W3.heap.size W3 w') := fun W3 h3 => by
        have := sameK_big _ _ ks ks _ _ W3 (hky.below h3) (hkz.below h3) hfy.2 hfz.2
        rw [(sameKs_iff ks ks).2 rfl] at this
        exact this
      have HSe : Hid (∀ W3, Below V4.heap.size V4 W3 → Calls Try.prog 24 #[.slice ae es.length ce, .slice ae2 es.length ce2] W3 fun e w' => e = .returned (.bool true) ∧ Below W3.heap.size W3 w') := fun W3 h3 => by
        have := sameE_big _ _ es es _ _ W3 (hey.below h3) (hez.below h3) hfy.1 hfz.1
        rw [(sameEs_iff es es).2 rfl] at this
        exact this
      have x0 := cell_of HBX.out.1 0
      have x1 := cell_of HBX.out.1 1
      have x2 := cell_of HBX.out.1 2
      have x3 := cell_of HBX.out.1 3
      have x4 := cell_of HBX.out.1 4
      have x5 := cell_of HBX.out.1 5
      have x6 := cell_of HBX.out.1 6
      have y0 := cell_of HBX.out.2 0
      have y1 := cell_of HBX.out.2 1
      have y2 := cell_of HBX.out.2 2
      have y3 := cell_of HBX.out.2 3
      have y4 := cell_of HBX.out.2 4
      have y5 := cell_of HBX.out.2 5
      have y6 := cell_of HBX.out.2 6
      simp at x0 x1 x2 x3 x4 x5 x6 y0 y1 y2 y3 y4 y5 y6
      rw [hgx] at sy
      rw [hgx2] at sz
      obtain ⟨Y, hY⟩ : ∃ Y, (Am.arr ⟨⟨ca, cg, cr, cw, ks, er, es⟩, ak, ck, ae, ce⟩) = Y := ⟨_, rfl⟩
      obtain ⟨Z, hZ⟩ : ∃ Z, (Am.arr ⟨⟨ca, cg, cr, cw, ks, er, es⟩, ak2, ck2, ae2, ce2⟩) = Z := ⟨_, rfl⟩
      rw [hY] at ly sy
      rw [hZ] at lz sz
      clear hy hz h1 h2 hLy hLz hgz q1 q2 hx2 hb2 hx4 hb4 hb24 hfy hfz hky hey hkz hez hxy hY hZ
      go_wp2_with (first
        | (go_at_call 23; refine (HSk.out _ (Below.refl _ _)).mono ?_; rintro e w1 ⟨rfl, hb1⟩; have p6 := cell_of (hkeep HBX.out.1 hb1) 6; have q6 := cell_of (hkeep HBX.out.2 hb1) 6; simp at p6 q6)
        | (go_at_call 24; refine (HSe.out _ hb1).mono ?_; rintro e w2 ⟨rfl, hb2⟩))
      exact ⟨⟨k + 1, by omega, by simp, chainB HB.out (chainB HF.out (chainB hb1 hb2))⟩, by simp [intOf]; omega⟩
    · have hlz : ¬ (k : Int) < (n : Int) := by omega
      go_wp2
      go_ret
      exact ⟨rfl, HB.out⟩
end
section
open Go.RowKit Go.Shelf

theorem IsD.down {w : World} {B B' t : Nat} {s : Dt} (h : IsD w B t s) (hb : B' ≤ B) : IsD w B' t s :=
  ⟨h.head, Nat.le_trans hb h.bt, owns_le h.held hb, fun m hm => ⟨(h.each m hm).1.down hb, (h.each m hm).2⟩, owns_le h.fresh hb, fun f hf => ⟨owns_le (h.eachF f hf).1 hb, (h.eachF f hf).2⟩, h.e0, h.e1, h.n0, h.n1, h.ask0, h.lh, h.l8⟩
/-- what a call on the document's tide leaves alone -/
structure Kd (w w' : World) : Prop where
  size : w.heap.size ≤ w'.heap.size
  tag : ∀ k ty, Tag w k ty → 71 ≠ ty → 45 ≠ ty → 100 ≠ ty → w'.heap[k]? = w.heap[k]?
theorem SD.kd {w w' : World} {B t : Nat} {s s' : Dt} (h : SD w w' B t s s') (hs : IsD w B t s) : Kd w w' := ⟨h.only.size, fun k _ ht h1 h2 h3 => h.only.block k ht.lt fun e => hs.wno e h1 h2 h3 ht⟩
theorem Kd.rowK {w w' : World} (h : Kd w w') {B : Nat} {v : Value} {l : List Ky} (k : RowK w B v l) : RowK w' B v l := owns_moved k fun q e => h.tag q _ (Tag.own k e) (by decide) (by decide) (by decide)
theorem Kd.rowE {w w' : World} (h : Kd w w') {B : Nat} {v : Value} {l : List En} (k : Row7 w B v l) : Row7 w' B v l := owns_moved k fun q e => h.tag q _ (Tag.own k e) (by decide) (by decide) (by decide)
theorem Kd.acts {w w' : World} (h : Kd w w') {B : Nat} {v : Value} {l : List Am} (k : Acts w B v l) : Acts w' B v l :=
  ⟨owns_moved k.row fun q e => h.tag q _ (Tag.own k.row e) (by decide) (by decide) (by decide), fun a ha => ⟨h.rowK (k.each a ha).ks, h.rowE (k.each a ha).es, (k.each a ha).le, (k.each a ha).lk⟩⟩
/-- both tides, their blocks apart -/
structure Pr (w0 w : World) (t u : Nat) (Sa Sb : Ts) : Prop where
  ex : ∃ s d, IsT w w0.heap.size t s ∧ s.say = Sa ∧ IsD w w0.heap.size u d ∧ d.say = Sb ∧ ∀ k, s.blk t k → ¬ d.blk u k
  bel : Below w0.heap.size w0 w
theorem Pr.below {w0 w w' : World} {t u : Nat} {Sa Sb : Ts} (h : Pr w0 w t u Sa Sb) (hb : Below w.heap.size w w') : Pr w0 w' t u Sa Sb := by
  obtain ⟨s, d, h1, h2, h3, h4, h5⟩ := h.ex
  exact ⟨⟨s, d, h1.below hb, h2, h3.below hb, h4, h5⟩, chainB h.bel hb⟩
theorem Pr.p {w0 w w' : World} {t u : Nat} {Sa Sb S' : Ts} (h : Pr w0 w t u Sa Sb) {s s' : Td} {d : Dt} (h1 : IsT w w0.heap.size t s) (h3 : IsD w w0.heap.size u d) (h4 : d.say = Sb) (h5 : ∀ k, s.blk t k → ¬ d.blk u k) (k : ST w w' w0.heap.size t s s') (he : s'.say = S') : Pr w0 w' t u S' Sb ∧ Kt (fun _ => False) w w' := by
  refine ⟨⟨⟨s', d, k.is, he, h3.moved fun q hq => k.only.block q (h3.lt hq).2 fun e => h5 q (.inl e) hq, h4, fun q hq hd => ?_⟩, k.only.below h.bel h.bel.size fun q hq => (h1.wlt hq).1⟩, ⟨k.only.size, fun q ty ht e1 e2 => k.only.block q ht.lt fun hw => h1.wno hw e1 e2 ht, fun q hq => hq.elim⟩⟩
  rcases k.nblk q hq with e | e
  · exact h5 q e hd
  · have := (h3.lt hd).2; omega
theorem Pr.d {w0 w w' : World} {t u : Nat} {Sa Sb S' : Ts} (h : Pr w0 w t u Sa Sb) {s : Td} {d d' : Dt} (h1 : IsT w w0.heap.size t s) (h2 : s.say = Sa) (h3 : IsD w w0.heap.size u d) (h5 : ∀ k, s.blk t k → ¬ d.blk u k) (k : SD w w' w0.heap.size u d d') (he : d'.say = S') : Pr w0 w' t u Sa S' ∧ Kd w w' := by
  refine ⟨⟨⟨s, d', h1.moved fun q hq => k.only.block q (h1.lt hq).2 fun e => h5 q hq (.inl e), h2, k.is, he, fun q hq hd => ?_⟩, k.only.below h.bel h.bel.size fun q hq => (h3.wlt hq).1⟩, k.kd h3⟩
  rcases k.nblk q hd with e | e
  · exact h5 q hq e
  · have := (h1.lt hq).2; omega
def PTake (w0 w : World) (t u : Nat) (Sa Sb : Ts) (m : Pm) (e : Ending) (w' : World) : Prop := ∃ v l, e = .returned v ∧ Acts w' w.heap.size v l ∧ l.map Am.c = (Sa.take m).2 ∧ Pr w0 w' t u (Sa.take m).1 Sb ∧ Kt (fun _ => False) w w'
theorem Pr.take_p {w0 w : World} {t u : Nat} {Sa Sb : Ts} (h : Pr w0 w t u Sa Sb) (x : Hm) (hL : Lists w 0 x) : Calls Try.prog 12 #[.pointer (some ⟨t, 0, none⟩), .agg x.arr] w fun e w' => PTake w0 w t u Sa Sb x.m e w' := by
  obtain ⟨s, d, h1, h2, h3, h4, h5⟩ := h.ex
  refine (Go.Proofs.Ytpmcecenhgppbaa.take_p t w0.heap.size s x w h1 h.bel.size hL).mono ?_
  rintro e w' ⟨v, l, rfl, ha, hc, s', hst, hsay⟩
  rw [h2] at hc hsay
  obtain ⟨a, b⟩ := h.p h1 h3 h4 h5 hst hsay
  exact ⟨v, l, rfl, ha, hc, a, b⟩
def DTake (w0 w : World) (t u : Nat) (Sa Sb : Ts) (m : Pm) (e : Ending) (w' : World) : Prop := ∃ v l, e = .returned v ∧ Acts w' w.heap.size v l ∧ l.map Am.c = (Sb.take m).2 ∧ Pr w0 w' t u Sa (Sb.take m).1 ∧ Kd w w'
theorem Pr.take_d {w0 w : World} {t u : Nat} {Sa Sb : Ts} (h : Pr w0 w t u Sa Sb) (x : Hm) (hL : Lists w 0 x) (hd : Sb.due = none) (hf : (Sb.fr.length + Sb.held.length + 1) * 56 ≤ 140737488351232) : Calls Try.prog 14 #[.pointer (some ⟨u, 0, none⟩), .agg x.arr] w fun e w' => DTake w0 w t u Sa Sb x.m e w' := by
  obtain ⟨s, d, h1, h2, h3, h4, h5⟩ := h.ex
  subst h4
  rw [d.len.1, d.len.2] at hf
  refine (Go.Proofs.Ytpmcecenhgppbaa.take_d u w0.heap.size d x w h3 hL hd hf).mono ?_
  rintro e w' ⟨v, l, rfl, ha, hc, s', hst, hsay⟩
  obtain ⟨a, b⟩ := h.d h1 h2 h3 h5 hst hsay
  exact ⟨v, l, rfl, ha, hc, a, b⟩
theorem Pr.ask_p {w0 w : World} {t u : Nat} {Sa Sb : Ts} (h : Pr w0 w t u Sa Sb) (q : Int) : Calls Try.prog 9 #[.pointer (some ⟨t, 0, none⟩), .int .i64 q] w fun e w' => e = .returned (.tuple #[]) ∧ Pr w0 w' t u (Sa.ask q) Sb ∧ Kt (fun _ => False) w w' := by
  obtain ⟨s, d, h1, h2, h3, h4, h5⟩ := h.ex
  refine (Go.Proofs.Ytpmcecenhgppbaa.ask_p t w0.heap.size s q w h1).mono ?_
  rintro e w' ⟨rfl, s', hst, hsay⟩
  rw [h2] at hsay
  exact ⟨rfl, h.p h1 h3 h4 h5 hst hsay⟩
theorem Pr.ask_d {w0 w : World} {t u : Nat} {Sa Sb : Ts} (h : Pr w0 w t u Sa Sb) (q : Int) : Calls Try.prog 10 #[.pointer (some ⟨u, 0, none⟩), .int .i64 q] w fun e w' => e = .returned (.tuple #[]) ∧ Pr w0 w' t u Sa (Sb.ask q) ∧ Kd w w' := by
  obtain ⟨s, d, h1, h2, h3, h4, h5⟩ := h.ex
  refine (Go.Proofs.Ytpmcecenhgppbaa.ask_d u w0.heap.size d q w h3).mono ?_
  rintro e w' ⟨rfl, s', hst, hsay, -⟩
  rw [h4] at hsay
  exact ⟨rfl, h.d h1 h2 h3 h5 hst hsay⟩
/-- both made, one behind the other -/
theorem pr_new {w0 w1 w2 : World} {s : Td} {d : Dt} {S : Ts} (h1 : IsT w1 w0.heap.size w0.heap.size s) (e1 : s.say = S) (b1 : Below w0.heap.size w0 w1) (h2 : IsD w2 w1.heap.size w1.heap.size d) (e2 : d.say = S) (b2 : Below w1.heap.size w1 w2) : Pr w0 w2 w0.heap.size w1.heap.size S S :=
  ⟨⟨s, d, h1.below b2, e1, h2.down b1.size, e2, fun k hk hd => by have := (h1.lt hk).2; have := (h2.lt hd).1; omega⟩, chainB b1 b2⟩
end
section
open Go.RowKit Go.Shelf
attribute [local go_sem ↓ high] loadMsg storeMsg buildMsg storeAct loadAct buildAct
attribute [local go_sem high] run_store_complex eqC

set_option maxHeartbeats 8000000 in
set_option maxRecDepth 100000 in
theorem like_yes {w0 w : World} {t u : Nat} {S : Ts} (h : Pr w0 w t u S S) : Calls Try.prog 15 #[.pointer (some ⟨t, 0, none⟩), .pointer (some ⟨u, 0, none⟩)] w fun e w' => e = .returned (.bool true) ∧ Below w.heap.size w w' := by
  obtain ⟨s, d, h1, h2, h3, h4, -⟩ := h.ex
  have he : part s.a = d.e := congrArg Ts.e (h2.trans h4.symm)
  have hn : part s.b = d.n := congrArg Ts.n (h2.trans h4.symm)
  have hv : s.say.ver = d.ver := congrArg Ts.ver (h2.trans h4.symm)
  have hq : s.say.asked = d.seq := congrArg Ts.asked (h2.trans h4.symm)
  have hh : s.hs.map Hm.m = d.hs.map Hm.m := congrArg Ts.held (h2.trans h4.symm)
  have hm1 := h1.mkk
  rw [he, hn] at hm1
  have hm2 : Mk (floatOfInt .f64 d.e) (floatOfInt .f64 d.n) d.e d.n := Mk.of h3.e0 h3.e1 h3.n0 h3.n1
  have f1 : Op.floatEq .f64 s.a (floatOfInt .f64 d.e) = true := by rw [floatEq_whole hm1.ha hm2.ha]; simp
  have f2 : Op.floatEq .f64 s.b (floatOfInt .f64 d.n) = true := by rw [floatEq_whole hm1.hb hm2.hb]; simp
  obtain ⟨xa, hxa⟩ : ∃ y, s.a = y := ⟨_, rfl⟩
  obtain ⟨xb, hxb⟩ : ∃ y, s.b = y := ⟨_, rfl⟩
  obtain ⟨ya, hya⟩ : ∃ y, floatOfInt .f64 d.e = y := ⟨_, rfl⟩
  obtain ⟨yb, hyb⟩ : ∃ y, floatOfInt .f64 d.n = y := ⟨_, rfl⟩
  obtain ⟨vr, hvr⟩ : ∃ y, d.ver = y := ⟨_, rfl⟩
  obtain ⟨sq, hsq⟩ : ∃ y, d.seq = y := ⟨_, rfl⟩
  obtain ⟨a7, q7, hhv⟩ := owns_len h3.held
  obtain ⟨nn, hnn⟩ : ∃ y, d.hs.length = y := ⟨_, rfl⟩
  rw [hnn] at hhv
  rw [hxa, hya] at f1
  rw [hxb, hyb] at f2
  have HMp : Hid (∀ V, Below w.heap.size w V → Calls Try.prog 19 #[.pointer (some ⟨t, 0, none⟩)] V fun e w' => e = .returned (.complex .f64 xa xb) ∧ V = w') := fun V hV => by
    rw [← hxa, ← hxb]
    refine (mark_p t _ s V (h1.below hV)).mono ?_
    rintro e w' ⟨rfl, rfl⟩
    exact ⟨rfl, rfl⟩
  have HMd : Hid (∀ V, Below w.heap.size w V → Calls Try.prog 39 #[.pointer (some ⟨u, 0, none⟩)] V fun e w' => e = .returned (.complex .f64 ya yb) ∧ Below V.heap.size V w') := fun V hV => by
    rw [← hya, ← hyb]
    exact mark_d u _ d V (h3.below hV)
  have HVp : Hid (∀ V, Below w.heap.size w V → Calls Try.prog 20 #[.pointer (some ⟨t, 0, none⟩)] V fun e w' => e = .returned (.int .i64 vr) ∧ V = w') := fun V hV => by
    refine (version_p t _ s V (h1.below hV)).mono ?_
    rintro e w' ⟨rfl, rfl⟩
    exact ⟨by rw [← hvr, ← hv]; rfl, rfl⟩
  have HQp : Hid (∀ V, Below w.heap.size w V → Calls Try.prog 40 #[.pointer (some ⟨t, 0, none⟩)] V fun e w' => e = .returned (.int .i64 sq) ∧ V = w') := fun V hV => by
    refine (asked_p t _ s V (h1.below hV)).mono ?_
    rintro e w' ⟨rfl, rfl⟩
    exact ⟨by rw [← hsq, ← hq]; rfl, rfl⟩
  have HHp : Hid (∀ V, Below w.heap.size w V → Calls Try.prog 17 #[.pointer (some ⟨t, 0, none⟩)] V fun e w' => ∃ v l, e = .returned v ∧ Below V.heap.size V w' ∧ ∀ W, Below w'.heap.size w' W → Calls Try.prog 41 #[v, .slice a7 nn q7] W fun e w'' => e = .returned (.bool true) ∧ Below W.heap.size W w'') := fun V hV => by
    refine (held_p t _ s V (h1.below hV)).mono ?_
    rintro e w' ⟨v, l, rfl, ha, hb, hc⟩
    refine ⟨v, l, rfl, hc, fun W hW => ?_⟩
    have i3 := (h3.below (chainB hV (chainB hc hW)))
    have hms : Msgs W w0.heap.size (.slice a7 nn q7) d.hs := ⟨by rw [← hhv]; exact i3.held, fun z hz => (i3.each z hz).1⟩
    refine sameMsgs_yes v _ l d.hs W _ _ (ha.below hW) hms (hb.trans hh) (fun z hz => ?_) ?_
    · have : z.m ∈ s.hs.map Hm.m := by rw [← hb]; exact List.mem_map.2 ⟨z, hz, rfl⟩
      obtain ⟨y, hy, e⟩ := List.mem_map.1 this
      rw [← e]
      exact ⟨_, _, (h1.each y hy).2.mkk⟩
    · have e1 := congrArg List.length hb
      rw [List.length_map, List.length_map] at e1
      have := h1.lh
      have := h1.l8
      omega
  have HK : Hid (∀ V, Below w.heap.size w V → V.cell? ⟨u, 5, none⟩ = some (.int .i64 vr) ∧ V.cell? ⟨u, 6, none⟩ = some (.int .i64 sq) ∧ V.cell? ⟨u, 7, none⟩ = some (.slice a7 nn q7)) := fun V hV => by
    have i3 := h3.below hV
    obtain ⟨-, -, -, -, -, c5, c6, c7, -, -⟩ := i3.cells
    exact ⟨by rw [c5, hvr], by rw [c6, hsq], by rw [c7, hhv]⟩
  have kS := HK.out w.drew (Below.refl _ _).drew
  clear h h1 h2 h3 h4 he hn hv hq hh hm1 hm2 hxa hxb hya hyb hvr hsq hhv hnn
  go_enter Try.func15, Try.ntmps15
  go_upto_region 1 with fail
  go_region_held3 (fun V => V.cell? ⟨u, 5, none⟩ = some (.int .i64 vr) ∧ V.cell? ⟨u, 6, none⟩ = some (.int .i64 sq) ∧ V.cell? ⟨u, 7, none⟩ = some (.slice a7 nn q7))
    (with_reducible first | exact kV | exact kU | exact kT | exact kS)
    (first
      | (go_at_call 19; refine (HMp.out _ (Below.refl _ _).drew).mono ?_; rintro e w' ⟨rfl, rfl⟩)
      | (go_at_call 39; refine (HMd.out _ (Below.refl _ _).drew).mono ?_; rintro e w4 ⟨rfl, hb4⟩; have HB4 : Hid (Below w.heap.size w w4) := undrew hb4; have kT := HK.out w4 HB4.out; clear hb4)
      | (go_at_call 20; refine (HVp.out _ HB4.out).mono ?_; rintro e w' ⟨rfl, rfl⟩)
      | (go_at_call 40; refine (HQp.out _ HB4.out).mono ?_; rintro e w' ⟨rfl, rfl⟩)
      | (go_at_call 17; refine (HHp.out _ HB4.out).mono ?_; rintro e w6 ⟨v6, l6, rfl, hb6, hsm⟩; have HSm : Hid _ := hsm; have HB6 : Hid (Below w.heap.size w w6) := chainB HB4.out hb6; have kU := HK.out w6 HB6.out; clear hb6 hsm)
      | (go_at_call 41; refine (HSm.out _ (Below.refl _ _)).mono ?_; rintro e w8 ⟨rfl, hb8⟩; have HB8 : Hid (Below w.heap.size w w8) := chainB HB6.out hb8; have kV := HK.out w8 HB8.out; clear hb8))
  clear kS
  go_wp2
  go_ret
  exact ⟨rfl, HB8.out⟩
end
end Go.Proofs.Ytpmcecenhgppbaa
