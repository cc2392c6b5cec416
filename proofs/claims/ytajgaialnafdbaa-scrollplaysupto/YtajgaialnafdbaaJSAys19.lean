/- The contract of the document's Write. -/
import Derived.Test.YtajgaialnafdbaaJSAys18
import Derived.Deep.RegionLaw
import Derived.Deep.CutRange
namespace Go.Proofs.Ytajgaialnafdbaa
section
open Go.RowKit

theorem Try.infoW : (Try.prog.info? 92).map (fun i => (i.zero, i.size, i.bytes)) = some (some (.agg #[.int .i64 0, .slice none 0 0]), 2, 32) := by kernel_rfl

def Rf.rwE (R : Rf) (i : Int) (n : Nat) : Int := if 0 ≤ i ∧ i < R.n then (if n = 64 then (if R.lit then (if R.fz = 0 then 21 else 0) else 21) else 1) else 20
/-- behind a good write -/
structure Rf.Wrote (R R' : Rf) (i : Nat) (l : List Int) : Prop where
  n : R'.n = R.n
  lit : R'.lit = R.lit
  fz : R'.fz = if 0 < R.fz then R.fz - 1 else R.fz
  did : ∃ v, R'.did = R.did ++ [(i, v, l)]

theorem rwrite_20 (r : Nat) (R : Rf) (i : Int) (a : Option Addr) (n cap : Nat) (w : World) (h : IsRf w r R) (hi : ¬ (0 ≤ i ∧ i < R.n)) :
    Calls Try.prog 28 #[.pointer (some ⟨r, 0, none⟩), .int .i64 i, .slice a n cap] w fun e w' => e = .returned (.int .i64 20) ∧ w' = w := by
  obtain ⟨c0, _⟩ := h.cells
  clear h
  by_cases h0 : i < 0
  · have hd : decide (i < 0) = true := decide_eq_true h0
    go_enter Try.func28, Try.ntmps28
    go_wp2
    go_ret
    exact ⟨rfl, rfl⟩
  · have hd : decide (i < 0) = false := decide_eq_false h0
    have hd2 : decide ((R.n : Int) ≤ i) = true := decide_eq_true (by omega)
    go_enter Try.func28, Try.ntmps28
    go_wp2
    go_ret
    exact ⟨rfl, rfl⟩
theorem rwrite_1 (r : Nat) (R : Rf) (i : Int) (a : Option Addr) (n cap : Nat) (w : World) (h : IsRf w r R) (hi : 0 ≤ i ∧ i < R.n) (hn : n ≠ 64) :
    Calls Try.prog 28 #[.pointer (some ⟨r, 0, none⟩), .int .i64 i, .slice a n cap] w fun e w' => e = .returned (.int .i64 1) ∧ w' = w := by
  obtain ⟨c0, _⟩ := h.cells
  have hd : decide (i < 0) = false := decide_eq_false (by omega)
  have hd2 : decide ((R.n : Int) ≤ i) = false := decide_eq_false (by omega)
  have hn' : ((n : Int) != 64) = true := by rw [bne_iff_ne]; omega
  clear h
  go_enter Try.func28, Try.ntmps28
  go_wp2
  go_ret
  exact ⟨rfl, rfl⟩
theorem rwrite_21 (r : Nat) (R : Rf) (i : Int) (a : Option Addr) (cap : Nat) (w : World) (h : IsRf w r R) (hi : 0 ≤ i ∧ i < R.n) (hl : R.lit = false) :
    Calls Try.prog 28 #[.pointer (some ⟨r, 0, none⟩), .int .i64 i, .slice a 64 cap] w fun e w' => e = .returned (.int .i64 21) ∧ w' = w := by
  obtain ⟨c0, _, c2, _⟩ := h.cells
  rw [hl] at c2
  have hd : decide (i < 0) = false := decide_eq_false (by omega)
  have hd2 : decide ((R.n : Int) ≤ i) = false := decide_eq_false (by omega)
  clear h
  go_enter Try.func28, Try.ntmps28
  go_wp2
  go_ret
  exact ⟨rfl, rfl⟩
theorem rwrite_22 (r : Nat) (R : Rf) (i : Int) (a : Option Addr) (cap : Nat) (w : World) (h : IsRf w r R) (hi : 0 ≤ i ∧ i < R.n) (hl : R.lit = true) (hz : R.fz = 0) :
    Calls Try.prog 28 #[.pointer (some ⟨r, 0, none⟩), .int .i64 i, .slice a 64 cap] w fun e w' => e = .returned (.int .i64 21) ∧ IsRf w' r R.cut ∧ Only (· = r) w w' := by
  obtain ⟨c0, _, c2, c3, hf⟩ := h.cells
  rw [hl] at c2
  rw [hz] at c3
  have hd : decide (i < 0) = false := decide_eq_false (by omega)
  have hd2 : decide ((R.n : Int) ≤ i) = false := decide_eq_false (by omega)
  have H : Hid (IsRf w r R) := h
  clear h hl hz
  go_enter Try.func28, Try.ntmps28
  go_wp2
  go_ret
  exact ⟨rfl, (H.out.lit false).fz (-1), (only1 _ r 2 _).trans (only1 _ r 3 _)⟩

theorem ub_src {w : World} {k : Nat} {l : List Int} (hc : ∀ j x, l[j]? = some x → w.cell? ⟨k, j, none⟩ = some (.int .u8 x)) : ∀ j u, (ub l)[j]? = some u → w.cell? ((⟨k, 0, none⟩ : Addr).add j) = some u := by
  intro j u hu
  rw [add_plain', Nat.zero_add]
  rw [ub_get] at hu
  cases hx : l[j]? with
  | none => rw [hx] at hu; cases hu
  | some x => rw [hx] at hu; cases hu; exact hc j x hx

/-- behind the bytes' copy -/
theorem rmid {W X w1 : World} {r : Nat} {R1 : Rf} {V v1 : Value} {l : List Int} (hl : l.length = 64) (h : IsRf W r R1) (hV : R1.v = V) (hown : w1.ownsRow X.heap.size 5 1 v1 (0 + 64) ([] ++ ub l)) (hgrow : W.drew.grownBy w1 (Value.slice none 0 0).ownBlock) :
    ∃ g1 cap1, v1 = .slice (some ⟨g1, 0, none⟩) 64 cap1 ∧ OwnB w1 0 v1 l ∧ Below W.heap.size W w1 ∧ (w1.cell? ⟨r, 1, none⟩ = some V ∧ w1.frozen? ⟨r, 1, none⟩ = false ∧ w1.ownsRow 0 92 2 V R1.did.length (wcells R1.did)) ∧ r < w1.heap.size := by
  have b1 : Below W.heap.size W w1 := ⟨hgrow.os, hgrow.tape, hgrow.output, hgrow.size, fun k hk => hgrow.block k hk (by simp [Value.ownBlock])⟩
  have h1 := h.below b1
  rw [Nat.zero_add, List.nil_append] at hown
  have ho : OwnB w1 X.heap.size v1 l := by unfold OwnB; rw [hl]; exact hown
  obtain ⟨_, c1, _, _, hf⟩ := h1.cells
  rcases ho.form with ⟨_, e⟩ | ⟨g, cap, e, _⟩
  · rw [e] at hl; simp at hl
  · rw [hl] at e
    subst e
    exact ⟨g, cap, rfl, ho.le (Nat.zero_le _), b1, ⟨by rw [← hV]; exact c1, hf 1, by rw [← hV]; exact h1.row⟩, h1.tr.lt⟩
/-- behind the list's append -/
theorem rend {W w1 w2 : World} {r : Nat} {R1 : Rf} {V v1 v2 : Value} {l : List Int} {o : Obj} (hl : l.length = 64) (h : IsRf W r R1) (hV : R1.v = V) (b1 : Below W.heap.size W w1) (ho1 : OwnB w1 0 v1 l) (i : Nat)
    (hown : w2.ownsRow 0 92 2 v2 (R1.did.length + 1) (wcells R1.did ++ [.int .i64 i, v1])) (hgrow : (w1.alloc o).grownBy w2 V.ownBlock) (hat : v2.ownBlock = V.ownBlock ∨ v2.ownBlock = some (w1.alloc o).heap.size) :
    w2.cell? ⟨r, 1, none⟩ = some V ∧ w2.frozen? ⟨r, 1, none⟩ = false ∧ Hid (IsRf (w2.setCell ⟨r, 1, none⟩ v2) r { R1 with v := v2, did := R1.did ++ [(i, v1, l)] } ∧ Only (fun x => x = r ∨ R1.v.ownBlock = some x) W (w2.setCell ⟨r, 1, none⟩ v2) ∧ (v2.ownBlock = R1.v.ownBlock ∨ ∀ q, v2.ownBlock = some q → W.heap.size ≤ q)) := by
  subst hV
  have h1 := h.below b1
  have hO : Only (fun q => R1.v.ownBlock = some q) w1 w2 :=
    ⟨hgrow.os, hgrow.tape, hgrow.output, Nat.le_trans (by simp) hgrow.size, fun k hk hn => (hgrow.block k (by simp; omega) (fun e => hn e.symm)).trans (Below.heap_alloc _ _ _ hk)⟩
  have hr : w2.heap[r]? = w1.heap[r]? := hO.block r h1.tr.lt (fun e => h1.tr.ne (h1.tv e) (by decide) rfl)
  have h8 : ∀ k, Tag w1 k 5 → w2.heap[k]? = w1.heap[k]? := fun k hk => hO.block k hk.lt (fun e => hk.ne (h1.tv e) (by decide) rfl)
  have hh := hr.trans h1.head
  refine ⟨by rw [cell_of hh]; rfl, free_of hh 1, ⟨(heap_set hh 1 v2).trans rfl, ?_, ?_⟩, ?_, ?_⟩
  · have hne : ∀ k, v2.ownBlock = some k → k ≠ r := by
      rintro k hk rfl
      have t1 : Tag w2 k 92 := Tag.own hown hk
      exact t1.ne (⟨_, _, hh⟩ : Tag w2 k 85) (by decide) rfl
    show (w2.setCell _ _).ownsRow 0 _ 2 v2 (R1.did ++ [(i, v1, l)]).length (wcells (R1.did ++ [(i, v1, l)]))
    rw [List.length_append, show wcells (R1.did ++ [(i, v1, l)]) = wcells R1.did ++ [.int .i64 i, v1] by unfold wcells; rw [List.flatMap_append]; rfl]
    exact owns_moved hown fun k hk => heap_set_ne (hne k hk)
  · intro p hp
    rcases List.mem_append.1 hp with hp | hp
    · refine ⟨((h1.each p hp).1.moved fun k hk => ?_), (h1.each p hp).2⟩
      have t := (h1.each p hp).1.tag hk
      exact (heap_set_ne (t.ne h1.tr (by decide))).trans (h8 k t)
    · obtain rfl := List.mem_singleton.1 hp
      refine ⟨ho1.moved fun k hk => ?_, hl⟩
      have t := ho1.tag hk
      exact (heap_set_ne (t.ne h1.tr (by decide))).trans (h8 k t)
  · have hO1 : Only (fun x => x = r ∨ R1.v.ownBlock = some x) w1 (w2.setCell ⟨r, 1, none⟩ v2) := (hO.mono fun _ e => .inr e).trans ((only1 w2 r 1 v2).mono fun _ e => .inl e)
    exact (Only.of b1).trans hO1
  · rcases hat with e | e
    · exact .inl e
    · refine .inr fun q hq => ?_
      rw [e] at hq
      have := b1.size
      simp at hq; omega

theorem rfin {w W w' : World} {r i N : Nat} {R R1 : Rf} {Z : Int} {v1 v2 : Value} {l : List Int} (hZ : R.fz = Z ∧ R.n = N ∧ R.lit = true) (hX : IsRf W r R1 ∧ R1.v = R.v ∧ R1.did = R.did ∧ R1.n = N ∧ R1.lit = true ∧ R1.fz = (if 0 < Z then Z - 1 else Z) ∧ Only (· = r) w W)
    (hE : IsRf w' r { R1 with v := v2, did := R1.did ++ [(i, v1, l)] } ∧ Only (fun x => x = r ∨ R1.v.ownBlock = some x) W w' ∧ (v2.ownBlock = R1.v.ownBlock ∨ ∀ q, v2.ownBlock = some q → W.heap.size ≤ q)) :
    ∃ R', IsRf w' r R' ∧ R.Wrote R' i l ∧ Only (fun x => x = r ∨ R.v.ownBlock = some x) w w' ∧ (R'.v.ownBlock = R.v.ownBlock ∨ ∀ q, R'.v.ownBlock = some q → w.heap.size ≤ q) := by
  obtain ⟨_, x2, x3, x4, x5, x6, x7⟩ := hX
  obtain ⟨e1, e2, e3⟩ := hE
  rw [x2] at e2 e3
  refine ⟨_, e1, ⟨x4.trans hZ.2.1.symm, x5.trans hZ.2.2.symm, ?_, v1, by show R1.did ++ _ = _; rw [x3]⟩, (x7.mono fun _ h => .inl h).trans e2, ?_⟩
  · show R1.fz = _; rw [x6, hZ.1]
  · rcases e3 with e | e
    · exact .inl e
    · exact .inr fun q hq => Nat.le_trans x7.size (e q hq)

set_option maxRecDepth 20000 in
set_option maxHeartbeats 4000000 in
theorem rwrite_ok (r : Nat) (R : Rf) (i : Nat) (k cap : Nat) (l : List Int) (w : World) (h : IsRf w r R) (hi : i < R.n) (_ : R.n ≤ 1024) (hl : R.lit = true) (hz : R.fz ≠ 0) (hz2 : -1 ≤ R.fz ∧ R.fz ≤ 9223372036854775807) (hll : l.length = 64)
    (hc : ∀ j x, l[j]? = some x → w.cell? ⟨k, j, none⟩ = some (.int .u8 x)) (hk : Tag w k 5) (hbig : (R.did.length + 1) * 32 ≤ 140737488355328) :
    Calls Try.prog 28 #[.pointer (some ⟨r, 0, none⟩), .int .i64 i, .slice (some ⟨k, 0, none⟩) 64 cap] w fun e w' => e = .returned (.int .i64 0) ∧ ∃ R', IsRf w' r R' ∧ R.Wrote R' i l ∧ Only (fun x => x = r ∨ R.v.ownBlock = some x) w w' ∧ (R'.v.ownBlock = R.v.ownBlock ∨ ∀ q, R'.v.ownBlock = some q → w.heap.size ≤ q) := by
  obtain ⟨c0, c1, c2, c3, hf⟩ := h.cells
  obtain ⟨i0, hi0, hu0, hu1, hu2⟩ := info_parts Try.infoU
  obtain ⟨i1, hi1, hw0, hw1, hw2⟩ := info_parts Try.infoW
  rw [hl] at c2
  have hd : decide ((i : Int) < 0) = false := decide_eq_false (by omega)
  have hd2 : decide ((R.n : Int) ≤ (i : Int)) = false := decide_eq_false (by omega)
  have hlt := h.tr.lt
  have H : Hid (IsRf w r R) := h
  obtain ⟨Z, hZ⟩ : ∃ Z, R.fz = Z := ⟨_, rfl⟩
  obtain ⟨N, hN⟩ : ∃ N, R.n = N := ⟨_, rfl⟩
  rw [hZ] at hz hz2 c3
  rw [hN] at hi c0 hd2
  have HZ : Hid (R.fz = Z ∧ R.n = N ∧ R.lit = true) := ⟨hZ, hN, hl⟩
  have hzb : (Z == 0) = false := by simpa using hz
  have HL : Hid (l.length = 64) := hll
  clear h hl hZ hN hll
  go_enter Try.func28, Try.ntmps28
  by_cases hpos : 0 < Z
  · go_upto_region 13 with fail
    obtain ⟨W, hW⟩ : ∃ W, w.setCell ⟨r, 3, none⟩ (.int .i64 (Z - 1)) = W := ⟨_, rfl⟩
    have HW : Hid (∃ R1, IsRf W r R1 ∧ R1.v = R.v ∧ R1.did = R.did ∧ R1.n = N ∧ R1.lit = true ∧ R1.fz = (if 0 < Z then Z - 1 else Z) ∧ Only (· = r) w W) := by
      rw [← hW]
      exact ⟨_, H.out.fz (Z - 1), rfl, rfl, HZ.out.2.1, HZ.out.2.2, (if_pos hpos).symm, only1 _ r 3 _⟩
    rw [hW]
    clear hW
    obtain ⟨R1, h1, hv1, hd1, hn1, hl1, hz1, hO1⟩ := HW.out
    obtain ⟨k0, k1, k2, k3, kf⟩ := h1.cells
    have kf1 := kf 1
    have hsrc : ∀ j u, (ub l)[j]? = some u → W.cell? ((⟨k, 0, none⟩ : Addr).add j) = some u := ub_src (fun j x hx => (World.cell?_of_block (hO1.block k hk.lt (hk.ne H.out.tr (by decide)))).trans (hc j x hx))
    have HX : Hid (IsRf W r R1 ∧ R1.v = R.v ∧ R1.did = R.did ∧ R1.n = N ∧ R1.lit = true ∧ R1.fz = (if 0 < Z then Z - 1 else Z) ∧ Only (· = r) w W) := ⟨h1, hv1, hd1, hn1, hl1, hz1, hO1⟩
    have HS : Hid (∀ j u, (ub l)[j]? = some u → W.cell? ((⟨k, 0, none⟩ : Addr).add j) = some u) := hsrc
    have hlW : r < W.heap.size := h1.tr.lt
    obtain ⟨V, hV⟩ : ∃ V, R1.v = V := ⟨_, rfl⟩
    rw [hV] at k1
    have HV : Hid (R1.v = V) := hV
    have hlen : R1.did.length ≤ R.did.length := by rw [hd1]; exact Nat.le_refl _
    clear h1 hv1 hd1 hn1 hl1 hz1 hO1 k0 k2 k3 kf hsrc c0 c1 c2 c3 hf HW hc hk hV
    go_region_law (first
      | (refine step_append_own_at rfl (.const (.slice none 0 0)) (.tmp 55) 22 rfl W.heap.size 5 i0 (.int .u8 0) 1 1 Try.underlying22 hi0 hu0 hu1 hu2 rfl (by decide) _ 0 [] rfl (World.ownsRow_nil _ _ _ _) ⟨k, 0, none⟩ 64 cap (ub l) (by first | (simp [Act.eval]; done) | (simp [Act.eval, Act.put]; done)) (by rw [ub_len, HL.out]) (by exact HS.out) (ub_one l) (by decide) (by decide) (Nat.le_refl _) ?_; intro v1 w1 hown1 hgrow1 _; obtain ⟨g1, cap1, rfl, ho1, b1, e1, e2⟩ := rmid HL.out HX.out.1 HV.out hown1 hgrow1; clear hown1 hgrow1)
      | (refine step_append_own_at rfl (.tmp 53) (.tmp 58) 83 rfl 0 92 i1 (.agg #[.int .i64 0, .slice none 0 0]) 2 32 Try.underlying83 hi1 hw0 hw1 hw2 rfl (by decide) V R1.did.length (wcells R1.did) (by first | (simp [Act.eval]; done) | (simp [Act.eval, Act.put]; done)) (World.ownsRow.alloc (by exact e1.2.2) _) ⟨w1.heap.size, 0, none⟩ 1 1 [.int .i64 i, .slice (some ⟨g1, 0, none⟩) 64 cap1] (by first | (simp [Act.eval]; done) | (simp [Act.eval, Act.put]; done)) rfl (two_at _ _ _ _) two_one (by unfold maxLen; omega) (by omega) (Nat.zero_le _) ?_; intro v2 w2 hown2 hgrow2 hat2; obtain ⟨g2, c2, rfl⟩ := owns_form hown2; obtain ⟨m1, m2, HE⟩ := rend HL.out HX.out.1 HV.out b1 ho1 i hown2 hgrow2 hat2; clear hown2 hgrow2 hat2 e1 e2))
    all_goals
      have hE := rfin HZ.out HX.out HE.out
      clear HE m1 m2
      go_wp2
      go_ret
      exact ⟨rfl, hE⟩
  · go_upto_region 13 with fail
    have HW : Hid (∃ R1, IsRf w r R1 ∧ R1.v = R.v ∧ R1.did = R.did ∧ R1.n = N ∧ R1.lit = true ∧ R1.fz = (if 0 < Z then Z - 1 else Z) ∧ Only (· = r) w w) :=
      ⟨_, H.out, rfl, rfl, HZ.out.2.1, HZ.out.2.2, HZ.out.1.trans (if_neg (by omega)).symm, Only.refl _ _⟩
    obtain ⟨R1, h1, hv1, hd1, hn1, hl1, hz1, hO1⟩ := HW.out
    obtain ⟨k0, k1, k2, k3, kf⟩ := h1.cells
    have kf1 := kf 1
    have hsrc : ∀ j u, (ub l)[j]? = some u → w.cell? ((⟨k, 0, none⟩ : Addr).add j) = some u := ub_src (fun j x hx => (World.cell?_of_block (hO1.block k hk.lt (hk.ne H.out.tr (by decide)))).trans (hc j x hx))
    have HX : Hid (IsRf w r R1 ∧ R1.v = R.v ∧ R1.did = R.did ∧ R1.n = N ∧ R1.lit = true ∧ R1.fz = (if 0 < Z then Z - 1 else Z) ∧ Only (· = r) w w) := ⟨h1, hv1, hd1, hn1, hl1, hz1, hO1⟩
    have HS : Hid (∀ j u, (ub l)[j]? = some u → w.cell? ((⟨k, 0, none⟩ : Addr).add j) = some u) := hsrc
    have hlW : r < w.heap.size := h1.tr.lt
    obtain ⟨V, hV⟩ : ∃ V, R1.v = V := ⟨_, rfl⟩
    rw [hV] at k1
    have HV : Hid (R1.v = V) := hV
    have hlen : R1.did.length ≤ R.did.length := by rw [hd1]; exact Nat.le_refl _
    clear h1 hv1 hd1 hn1 hl1 hz1 hO1 k0 k2 k3 kf hsrc c0 c1 c2 c3 hf HW hc hk hV
    go_region_law (first
      | (refine step_append_own_at rfl (.const (.slice none 0 0)) (.tmp 55) 22 rfl w.heap.size 5 i0 (.int .u8 0) 1 1 Try.underlying22 hi0 hu0 hu1 hu2 rfl (by decide) _ 0 [] rfl (World.ownsRow_nil _ _ _ _) ⟨k, 0, none⟩ 64 cap (ub l) (by first | (simp [Act.eval]; done) | (simp [Act.eval, Act.put]; done)) (by rw [ub_len, HL.out]) (by exact HS.out) (ub_one l) (by decide) (by decide) (Nat.le_refl _) ?_; intro v1 w1 hown1 hgrow1 _; obtain ⟨g1, cap1, rfl, ho1, b1, e1, e2⟩ := rmid HL.out HX.out.1 HV.out hown1 hgrow1; clear hown1 hgrow1)
      | (refine step_append_own_at rfl (.tmp 53) (.tmp 58) 83 rfl 0 92 i1 (.agg #[.int .i64 0, .slice none 0 0]) 2 32 Try.underlying83 hi1 hw0 hw1 hw2 rfl (by decide) V R1.did.length (wcells R1.did) (by first | (simp [Act.eval]; done) | (simp [Act.eval, Act.put]; done)) (World.ownsRow.alloc (by exact e1.2.2) _) ⟨w1.heap.size, 0, none⟩ 1 1 [.int .i64 i, .slice (some ⟨g1, 0, none⟩) 64 cap1] (by first | (simp [Act.eval]; done) | (simp [Act.eval, Act.put]; done)) rfl (two_at _ _ _ _) two_one (by unfold maxLen; omega) (by omega) (Nat.zero_le _) ?_; intro v2 w2 hown2 hgrow2 hat2; obtain ⟨g2, c2, rfl⟩ := owns_form hown2; obtain ⟨m1, m2, HE⟩ := rend HL.out HX.out.1 HV.out b1 ho1 i hown2 hgrow2 hat2; clear hown2 hgrow2 hat2 e1 e2))
    all_goals
      have hE := rfin HZ.out HX.out HE.out
      clear HE m1 m2
      go_wp2
      go_ret
      exact ⟨rfl, hE⟩

/-- the document's Write, whole -/
def Rf.After (R R' : Rf) (i : Int) (l : List Int) : Prop :=
  if 0 ≤ i ∧ i < R.n ∧ l.length = 64 ∧ R.lit = true then (if R.fz = 0 then R' = R.cut else R.Wrote R' i.toNat l) else R' = R
theorem rwrite_any (r : Nat) (R : Rf) (i : Int) (v : Value) (l : List Int) (base : Nat) (w : World) (h : IsRf w r R) (hv : OwnB w base v l) (hn : R.n ≤ 1024) (hz2 : -1 ≤ R.fz ∧ R.fz ≤ 9223372036854775807) (hbig : (R.did.length + 1) * 32 ≤ 140737488355328) :
    Calls Try.prog 28 #[.pointer (some ⟨r, 0, none⟩), .int .i64 i, v] w fun e w' => e = .returned (.int .i64 (R.rwE i l.length)) ∧ ∃ R', IsRf w' r R' ∧ R.After R' i l ∧ Only (fun x => x = r ∨ R.v.ownBlock = some x) w w' ∧ (R'.v.ownBlock = R.v.ownBlock ∨ ∀ q, R'.v.ownBlock = some q → w.heap.size ≤ q) := by
  obtain ⟨a, cap, rfl⟩ : ∃ a cap, v = .slice a l.length cap := by
    rcases hv.form with ⟨rfl, rfl⟩ | ⟨g', cap, rfl, _⟩
    · exact ⟨_, _, rfl⟩
    · exact ⟨_, _, rfl⟩
  unfold Rf.rwE
  by_cases hi : 0 ≤ i ∧ i < R.n
  · rw [if_pos hi]
    by_cases hl : l.length = 64
    · rw [if_pos hl]
      by_cases ho : R.lit = true
      · rw [if_pos ho]
        by_cases hz : R.fz = 0
        · rw [if_pos hz, hl]
          refine (rwrite_22 r R i a cap w h hi ho hz).mono ?_
          rintro e w' ⟨rfl, hR, hO⟩
          exact ⟨rfl, _, hR, by unfold Rf.After; rw [if_pos ⟨hi.1, hi.2, hl, ho⟩, if_pos hz], hO.mono fun _ h => .inl h, .inl rfl⟩
        · rw [if_neg hz, hl]
          obtain ⟨m, rfl⟩ := Int.eq_ofNat_of_zero_le hi.1
          rcases hv.form with ⟨_, e'⟩ | ⟨k, cap', e, _, _, _, hc, _⟩
          · rw [e'] at hl; simp at hl
          · cases e
            refine (rwrite_ok r R m k cap l w h (by omega) hn ho hz hz2 hl hc (hv.tag rfl) hbig).mono ?_
            rintro e w' ⟨rfl, R', h1, h2, h3⟩
            exact ⟨rfl, R', h1, by unfold Rf.After; rw [if_pos ⟨hi.1, hi.2, hl, ho⟩, if_neg hz, Int.toNat_natCast]; exact h2, h3⟩
      · rw [if_neg ho, hl]
        refine (rwrite_21 r R i a cap w h hi (Bool.eq_false_iff.2 ho)).mono ?_
        rintro e w' ⟨rfl, rfl⟩
        exact ⟨rfl, R, h, by unfold Rf.After; rw [if_neg (fun e => ho e.2.2.2)], Only.refl _ _, .inl rfl⟩
    · rw [if_neg hl]
      refine (rwrite_1 r R i a _ cap w h hi hl).mono ?_
      rintro e w' ⟨rfl, rfl⟩
      exact ⟨rfl, R, h, by unfold Rf.After; rw [if_neg (fun e => hl e.2.2.1)], Only.refl _ _, .inl rfl⟩
  · rw [if_neg hi]
    refine (rwrite_20 r R i a _ cap w h hi).mono ?_
    rintro e w' ⟨rfl, rfl⟩
    exact ⟨rfl, R, h, by unfold Rf.After; rw [if_neg (fun e => hi ⟨e.1, e.2.1⟩)], Only.refl _ _, .inl rfl⟩
end
end Go.Proofs.Ytajgaialnafdbaa
