/- The document's walk: Walk. -/
import Derived.Test.YtmndnjgbbpkidaaGreatJWLks38
import Derived.Test.YtmndnjgbbpkidaaGreatJWLks32
import Derived.Test.YtmndnjgbbpkidaaGreatJWLks13
import Derived.Test.YtmndnjgbbpkidaaGreatJWLks02
namespace Go.Proofs.YtmndnjgbbpkidaaGreat
section
open Go.RowKit
attribute [local go_sem ↓ high] loadEn storeEn loadNd storeNd storeOu buildNd

set_option maxRecDepth 100000 in
set_option maxHeartbeats 8000000 in
theorem rwalk_d (B q : Nat) (kc : Kc) (s : Cs) (es : List En) (fv : Value) (w : World) (h : IsK w B q kc s) (hf : RdE w fv es) (hl : s.L.length ≤ 1400000000000) (hlw : s.W.length ≤ 1400000000000) (path : ByteArray) (fol : Bool) (links : Int) (O : Ou) (hO : walkO (knF (firstsL es) s) path fol links = O) :
    Calls Tryz.prog 9 #[.agg #[.pointer (some ⟨q, 0, none⟩), fv, .pointer none], .string path, .bool fol, .int .i64 links] w fun r w' => OutR w O r w' := by
  obtain ⟨W1, hW1⟩ : ∃ W, w.alloc (.cells #[.pointer (some ⟨q, 0, none⟩), fv, .pointer none] 41) = W := ⟨_, rfl⟩
  obtain ⟨W2, hW2⟩ : ∃ W, W1.alloc (.cells zeroes9 35) = W := ⟨_, rfl⟩
  have b1 := boxO hW1
  have b2 := boxO hW2
  have e1 : w.heap.size + 1 = W1.heap.size := b1.2.2.symm
  obtain ⟨E, hE⟩ : ∃ E, cutE path (rootB path) = E := ⟨_, rfl⟩
  obtain ⟨D, hD⟩ : ∃ D, cutD path (rootB path) = D := ⟨_, rfl⟩
  obtain ⟨L, hL⟩ : ∃ L, cutL path (rootB path) = L := ⟨_, rfl⟩
  obtain ⟨k, hk⟩ : ∃ k, L.length = k := ⟨_, rfl⟩
  have hk97 : k ≤ 97 := by rw [← hk, ← hL]; exact cutL_len _ _
  have HSp : Hid (Calls Tryz.prog 34 #[.string path] W2 fun r w' => ∃ a cc, r = .returned (.tuple #[.slice a k cc, .bool D, .int .i64 E]) ∧ Own w' W2.heap.size (.slice a k cc) L ∧ Below W2.heap.size W2 w') := by
    refine (rsplit_any path W2).mono ?_
    rintro r w' ⟨vv, rfl, ho, hb⟩
    rw [hE, hD]
    rw [hL] at ho
    obtain ⟨a, cc, rfl⟩ := owns_len ho
    rw [hk] at ho ⊢
    exact ⟨a, cc, rfl, ho, hb⟩
  have HX : Hid (∀ W, Below W2.heap.size W2 W → W.cell? ⟨w.heap.size, 0, none⟩ = some (.pointer (some ⟨q, 0, none⟩)) ∧ W.cell? ⟨w.heap.size, 1, none⟩ = some fv ∧ W.cell? ⟨w.heap.size, 2, none⟩ = some (.pointer none)) := fun W hb => by
    have hh := hkeep (hkeep b1.1 b2.2.1) hb
    exact ⟨by rw [cell_of hh]; rfl, by rw [cell_of hh]; rfl, by rw [cell_of hh]; rfl⟩
  have HB1 : Hid (Below w.heap.size w W1) := b1.2.1
  by_cases hE0 : E = 0
  · subst hE0
    have hO2 : stepsO (knF (firstsL es) s) L D fol links = O := by rw [← hO]; unfold walkO; rw [if_pos hE, hL, hD]
    have HSt : Hid (∀ w2 a cc, Own w2 W2.heap.size (.slice a k cc) L → Below W2.heap.size W2 w2 → Calls Tryz.prog 15 #[.agg #[.pointer (some ⟨q, 0, none⟩), fv, .pointer none], .slice a k cc, .bool D, .bool fol, .int .i64 links] w2 fun r w' => LaidR W1 O r w') := fun w2 a cc ho hb => by
      have hbb := chainB (chainB b1.2.1 b2.2.1) hb
      obtain ⟨a', c', ea, hrow⟩ := Own.row ho
      injection ea with ea1 ea2 ea3
      subst ea1
      have := rsteps_d B q kc s es fv w2 (h.below hbb) (hf.below hbb) hl hlw a cc L hrow (by omega) D fol links O hO2
      rw [hk] at this
      refine this.mono ?_
      rintro r w' ⟨uv, rfl, hr, hb'⟩
      exact laid_of b2.1 b2.2.1 (chainB hb hb') hr (by have := hb.size; have := b2.2.2; omega)
    clear h hf b1 b2 hE hD hL hk hO hO2 hl hlw
    go_enter Tryz.func9, Tryz.ntmps9
    go_wp2_with (first
      | (go_at_call 15; refine (HSt.out _ _ _ H2.out.1 H2.out.2).mono ?_; rintro r w4 ⟨a6, m6, c6, Z, rfl, st, hz⟩; have H5 : Hid (Z.heap[W1.heap.size]? = some (.cells (ouVals O (.slice a6 m6 c6)).toArray 35 (0, 0)) ∧ RowK Z W1.heap.size (.slice a6 m6 c6) O.used ∧ Below W1.heap.size W1 Z) := hz; clear hz)
      | (go_at_call 34; refine HSp.out.mono ?_; rintro r w2 ⟨a, cc, rfl, ho, hb⟩; have H2 : Hid (Own w2 W2.heap.size (.slice a k cc) L ∧ Below W2.heap.size W2 w2) := ⟨ho, hb⟩; obtain ⟨z0, z1, z2⟩ := HX.out w2 hb; clear ho hb))
    (try simp only [Exit.inBlock, Exit.then])
    refine bodyPost_ret (ret_out rfl _ _ W1.heap.size rfl H5.out.1) rfl ?_
    exact ⟨_, rfl, RowK.le H5.out.2.1 (by omega), chainB HB1.out H5.out.2.2⟩
  · have hO2 : O = ⟨false, zeroKy, E, zeroNd, []⟩ := by rw [← hO]; unfold walkO; rw [if_neg (by rw [hE]; exact hE0), hE]
    have HLd : Hid (∀ w2, Below W2.heap.size W2 w2 → ∃ Z, (ouSt (.pointer (some ⟨W1.heap.size, 0, none⟩)) (.agg #[.bool false, .int .i64 0, .string ⟨#[]⟩, .int .i64 E, .int .i64 0, .int .i64 0, .int .i64 0, .string ⟨#[]⟩, .slice none 0 0])).run Tryz.prog w2 = .ok () Z ∧ Z.heap[W1.heap.size]? = some (.cells (ouVals O (.slice none 0 0)).toArray 35 (0, 0)) ∧ Below W1.heap.size W1 Z) := fun w2 hb => by
      have h1 := hkeep b2.1 hb
      have hOn : Only (· = W1.heap.size) w2 (w2.setRow W1.heap.size (ouVals O (.slice none 0 0)).toArray) := onlyR _ _ _
      refine ⟨_, ?_, setRow_heap _ _ _ _ _ _ h1, hOn.below (chainB b2.2.1 hb) (chainB b2.2.1 hb).size fun b hb => by omega⟩
      rw [hO2]
      exact ouSt_of (o := ⟨false, zeroKy, E, zeroNd, []⟩) (a := none) (n := 0) (c := 0) h1 rfl rfl
    have hEb : (E != 0) = true := by simpa using hE0
    have HU : Hid (O.used = []) := by
      show O.used = []
      rw [hO2]
    clear h hf b1 b2 hE hD hL hk hO hO2 hl hlw hE0
    go_enter Tryz.func9, Tryz.ntmps9
    go_wp2_with (go_at_call 34; refine HSp.out.mono ?_; rintro r w2 ⟨a, cc, rfl, ho, hb⟩; obtain ⟨Z, st, hz⟩ := HLd.out w2 hb; have H5 : Hid (Z.heap[W1.heap.size]? = some (.cells (ouVals O (.slice none 0 0)).toArray 35 (0, 0)) ∧ Below W1.heap.size W1 Z) := hz; clear ho hb hz)
    (try simp only [Exit.inBlock, Exit.then])
    refine bodyPost_ret (ret_out rfl _ _ W1.heap.size rfl H5.out.1) rfl ?_
    refine ⟨_, rfl, ?_, chainB HB1.out H5.out.2⟩
    rw [HU.out]
    exact World.ownsRow_nil _ _ _ _
end
section
open Go.RowKit
attribute [local go_sem ↓ high] loadEn storeEn loadNd storeNd storeOu buildNd
attribute [local go_sem high] eqK neqK guardK

theorem box9 (w : World) (o : Ou) (a : Option Addr) (n c : Nat) : (ouSt (.pointer (some ⟨w.heap.size, 0, none⟩)) (ouAgg o (.slice a n c))).run Tryz.prog (w.alloc (.cells #[.bool false, .int .i64 0, .string ⟨#[]⟩, .int .i64 0, .int .i64 0, .int .i64 0, .int .i64 0, .string ⟨#[]⟩, .slice none 0 0] 35)) = .ok () (w.alloc (.cells (ouVals o (.slice a n c)).toArray 35)) :=
  ouSt_of (heap_new _ _) rfl (alloc_setRow w _ _ _)
theorem ouCells {w : World} {g : Nat} {o : Ou} {uv : Value} (h : w.heap[g]? = some (.cells (ouVals o uv).toArray 35 (0, 0))) : w.cell? ⟨g, 0, none⟩ = some (.bool o.need) ∧ w.cell? ⟨g, 1, none⟩ = some (.int .i64 o.key.d) ∧ w.cell? ⟨g, 2, none⟩ = some (.string o.key.nm) ∧ w.cell? ⟨g, 3, none⟩ = some (.int .i64 o.err) ∧ w.cell? ⟨g, 4, none⟩ = some (.int .i64 o.node.id) ∧ w.cell? ⟨g, 8, none⟩ = some uv :=
  ⟨by rw [cell_of h]; rfl, by rw [cell_of h]; rfl, by rw [cell_of h]; rfl, by rw [cell_of h]; rfl, by rw [cell_of h]; rfl, by rw [cell_of h]; rfl⟩
def eBx : En := ⟨1, ⟨#[98]⟩, false, 3, 2, 0, ⟨#[]⟩⟩
theorem awk1 : putS Cs.clear eBx = ⟨[eBx], []⟩ := by
  unfold putS
  rw [if_neg (by decide)]
  rfl
def oA : Ou := ⟨false, zeroKy, 0, ⟨3, 2, 0, ⟨#[]⟩⟩, [⟨1, ⟨#[98]⟩⟩]⟩
def oB : Ou := ⟨true, ⟨1, ⟨#[120]⟩⟩, 0, zeroNd, []⟩
theorem awk2 : walkO (knC ⟨[eBx], []⟩) ⟨#[47, 98]⟩ true 3 = oA := by kernel_rfl
theorem awk3 : walkO (knC ⟨[eBx], []⟩) ⟨#[47, 120]⟩ true 3 = oB := by kernel_rfl
set_option maxRecDepth 100000 in
set_option maxHeartbeats 8000000 in
theorem awake14_p (w : World) : Calls Tryz.prog 12 #[] w fun x w' => x = .returned (.bool true) ∧ Below w.heap.size w w' := by
  have HN : Hid (Calls Tryz.prog 18 #[] w fun x w' => ∃ p, x = .returned (.pointer (some ⟨p, 0, none⟩)) ∧ Ldc w w w' p Cs.clear 0 (fun _ => False)) := ld_new w w _ (Below.refl _ _) (fun k hk => hk.elim)
  have HP : Hid (∀ W p, Ld w W p Cs.clear 0 (fun _ => False) → Calls Tryz.prog 20 #[.pointer (some ⟨p, 0, none⟩), .agg #[.int .i64 1, .string ⟨#[98]⟩, .bool false, .int .i64 3, .int .i64 2, .int .i64 0, .string ⟨#[]⟩]] W fun x w' => x = .returned (.int .i64 0) ∧ Ld w w' p ⟨[eBx], []⟩ 1 (fun _ => False)) := fun W p h => by
    refine (ld_put h eBx (by omega)).mono ?_
    rintro x w' ⟨rfl, hc⟩
    rw [awk1] at hc
    exact ⟨rfl, hc.ld⟩
  have HWk : Hid (∀ W p pa o, walkO (knC ⟨[eBx], []⟩) pa true 3 = o → Ld w W p ⟨[eBx], []⟩ 1 (fun _ => False) → Calls Tryz.prog 7 #[.pointer (some ⟨p, 0, none⟩), .slice none 0 0, .string pa, .bool true, .int .i64 3] W fun r w' => ∃ a c, r = .returned (ouAgg o (.slice a o.used.length c)) ∧ Below W.heap.size W w') := fun W p pa o ho h => by
    refine (ld_walk h pa true 3).mono ?_
    rintro r w' ⟨uv, rfl, hr, hb⟩
    rw [ho] at hr ⊢
    obtain ⟨a, c, rfl⟩ := owns_len hr
    exact ⟨a, c, rfl, hb⟩
  have bx := box9
  go_enter Tryz.func12, Tryz.ntmps12
  go_wp2_with (first
    | (go_at_call 7; first
      | (refine (HWk.out _ _ ⟨#[47, 120]⟩ oB awk3 (H3.out.1)).mono ?_; rintro r w4 ⟨a4, c4, rfl, hb⟩; obtain ⟨V4, hV4⟩ : ∃ V, w4.alloc (.cells (ouVals oB (.slice a4 oB.used.length c4)).toArray 35) = V := ⟨_, rfl⟩; have bV4 := boxO hV4; obtain ⟨z0, z1, z2, -, -, -⟩ := ouCells bV4.1; obtain ⟨-, -, -, -, y4, y8⟩ := ouCells (hkeep (hkeep H3.out.2 hb) bV4.2.1); have H4 : Hid (Below w.heap.size w V4) := chainB H3.out.1.below (chainB hb bV4.2.1); clear hb bV4)
      | (refine (HWk.out _ _ ⟨#[47, 98]⟩ oA awk2 H2.out).mono ?_; rintro r w3 ⟨a3, c3, rfl, hb⟩; obtain ⟨V3, hV3⟩ : ∃ V, w3.alloc (.cells (ouVals oA (.slice a3 oA.used.length c3)).toArray 35) = V := ⟨_, rfl⟩; have bV3 := boxO hV3; have H3 : Hid (Ld w V3 p ⟨[eBx], []⟩ 1 (fun _ => False) ∧ V3.heap[w3.heap.size]? = some (.cells (ouVals oA (.slice a3 oA.used.length c3)).toArray 35 (0, 0))) := ⟨H2.out.on' (chainB hb bV3.2.1), bV3.1⟩; clear hb bV3))
    | (go_at_call 20; refine (HP.out _ _ H1.out).mono ?_; rintro r w2 ⟨rfl, hl⟩; have H2 : Hid (Ld w w2 p ⟨[eBx], []⟩ 1 (fun _ => False)) := hl; clear hl)
    | (go_at_call 18; refine HN.out.mono ?_; rintro r w1 ⟨p, rfl, hl⟩; have H1 : Hid (Ld w w1 p Cs.clear 0 (fun _ => False)) := hl.ld; clear hl))
  go_ret
  exact ⟨rfl, H4.out⟩
/-- the letters of the chain -/
def abcB : ByteArray := ⟨#[97, 98, 99, 100, 101, 102, 103, 104, 105, 106, 107, 108, 109]⟩
def slB (i : Nat) : ByteArray := abcB.extract i (i + 1)
def chE (i : Nat) : En := ⟨1, slB i, false, 2 + i, 3, 0, slB (i + 1)⟩
def endE (k : Nat) : En := ⟨1, slB k, false, 99, 2, 5, ⟨#[]⟩⟩
def selfB : ByteArray := ⟨#[115, 101, 108, 102]⟩
def selfE : En := ⟨1, selfB, false, 98, 3, 0, selfB⟩
def chS : Nat → Cs
  | 0 => Cs.clear
  | k + 1 => putS (chS k) (chE k)
def allS (k : Nat) : Cs := putS (putS (chS k) (endE k)) selfE
def goP (kn : Ky → Option En) (path : ByteArray) (fol : Bool) (l : Nat) : Ou :=
  if cutE path (rootB path) = 0 then goW kn fol l (cutL path (rootB path)) (startW (cutD path (rootB path))) else ⟨false, zeroKy, cutE path (rootB path), zeroNd, []⟩
theorem walk_go (kn : Ky → Option En) (path : ByteArray) (fol : Bool) (links : Int) : walkO kn path fol links = goP kn path fol (linksN links) := rfl
def okB (k l : Nat) : Bool :=
  let o := goP (knC (allS k)) ⟨#[47, 97]⟩ true l
  let x := goP (knC (allS k)) ⟨#[47, 115, 101, 108, 102]⟩ true l
  let y := goP (knC (allS k)) ⟨#[47, 115, 101, 108, 102]⟩ false l
  decide (x.err = 49) && decide (x.used.length = l + 1) && decide (y.node.id = 98) && decide (y.err = 0) && (if l < k then decide (o.err = 49) && decide (o.used.length = l + 1) else decide (o.err = 0) && decide (o.node = ⟨99, 2, 5, ⟨#[]⟩⟩) && decide (o.used.length = k + 1))
theorem okB_all : ((List.range 12).all fun k => (List.range 9).all fun l => okB k l) = true := by kernel_rfl
end
section
/-- all that an outcome hangs on is known alike -/
def Alk (kn kn' : Ky → Option En) (o : Ou) : Prop := (∀ k ∈ o.used, kn' k = kn k) ∧ (o.need = true → kn' o.key = kn o.key)
theorem fin_used (s : Ws) : s.fin.used = s.used := by
  unfold Ws.fin
  split <;> rfl
theorem goI_used (kn : Ky → Option En) (fol : Bool) (m : ByteArray → List ByteArray → Ws → Ou) (hm : ∀ tg rest s, ∀ k ∈ s.used, k ∈ (m tg rest s).used) : ∀ (steps : List ByteArray) (s : Ws), ∀ k ∈ s.used, k ∈ (goI kn fol m steps s).used
  | [], s, k, hk => by rw [goI, fin_used]; exact hk
  | x :: rest, s, k, hk => by
    rw [goI]
    split
    · exact hk
    split
    · exact goI_used kn fol m hm rest s k hk
    split
    · exact goI_used kn fol m hm rest s.up k hk
    split
    · exact hk
    · have hk' : k ∈ (s.use ⟨s.here.id, x⟩).used := List.mem_append.2 (.inl hk)
      split
      · exact hk'
      split
      · exact hm _ _ _ k hk'
      · exact goI_used kn fol m hm rest _ k hk'
theorem goI_same (kn kn' : Ky → Option En) (fol : Bool) (m m' : ByteArray → List ByteArray → Ws → Ou) (hm : ∀ tg rest s, ∀ k ∈ s.used, k ∈ (m tg rest s).used) (hs : ∀ tg rest s, Alk kn kn' (m tg rest s) → m' tg rest s = m tg rest s) : ∀ (steps : List ByteArray) (s : Ws), Alk kn kn' (goI kn fol m steps s) → goI kn' fol m' steps s = goI kn fol m steps s
  | [], s, _ => by rw [goI, goI]
  | x :: rest, s, h => by
    rw [goI] at h ⊢
    rw [goI]
    by_cases h1 : s.inD = false
    · rw [if_pos h1, if_pos h1]
    rw [if_neg h1] at h ⊢
    rw [if_neg h1]
    by_cases h2 : x = dot1
    · rw [if_pos h2] at h ⊢
      rw [if_pos h2]
      exact goI_same kn kn' fol m m' hm hs rest s h
    rw [if_neg h2] at h ⊢
    rw [if_neg h2]
    by_cases h3 : x = dot2
    · rw [if_pos h3] at h ⊢
      rw [if_pos h3]
      exact goI_same kn kn' fol m m' hm hs rest s.up h
    rw [if_neg h3] at h ⊢
    rw [if_neg h3]
    cases hk : kn ⟨s.here.id, x⟩ with
    | none =>
      rw [hk] at h
      have hk' : kn' ⟨s.here.id, x⟩ = none := (h.2 rfl).trans hk
      rw [hk']
    | some e =>
      rw [hk] at h
      simp only at h ⊢
      have hin : ∀ o : Ou, (∀ k ∈ (s.use ⟨s.here.id, x⟩).used, k ∈ o.used) → Alk kn kn' o → kn' ⟨s.here.id, x⟩ = some e := fun o ho ha => (ha.1 _ (ho _ (List.mem_append.2 (.inr (List.mem_singleton.2 rfl))))).trans hk
      by_cases h4 : e.neg = true
      · rw [if_pos h4] at h ⊢
        rw [hin _ (fun k hk => hk) h]
        simp only
        rw [if_pos h4]
      rw [if_neg h4] at h ⊢
      by_cases h5 : meetsB fol s e.nd rest = true
      · rw [if_pos h5] at h ⊢
        rw [hin _ (hm _ _ _) h]
        simp only
        rw [if_neg h4, if_pos h5]
        exact hs _ _ _ h
      · rw [if_neg h5] at h ⊢
        rw [hin _ (goI_used kn fol m hm rest ((s.use ⟨s.here.id, x⟩).go e.nd)) h]
        simp only
        rw [if_neg h4, if_neg h5]
        exact goI_same kn kn' fol m m' hm hs rest _ h
theorem metW_used (g : List ByteArray → Ws → Ou) (hg : ∀ steps s, ∀ k ∈ s.used, k ∈ (g steps s).used) (tg : ByteArray) (rest : List ByteArray) (s : Ws) : ∀ k ∈ s.used, k ∈ (metW g tg rest s).used := by
  intro k hk
  unfold metW
  split
  · exact hg _ _ k hk
  · exact hk
theorem goW_used (kn : Ky → Option En) (fol : Bool) : ∀ (l : Nat) (steps : List ByteArray) (s : Ws), ∀ k ∈ s.used, k ∈ (goW kn fol l steps s).used
  | 0, steps, s => goI_used kn fol _ (fun _ _ _ _ hk => hk) steps s
  | l + 1, steps, s => goI_used kn fol _ (fun tg rest s => metW_used _ (goW_used kn fol l) tg rest s) steps s
theorem goW_same (kn kn' : Ky → Option En) (fol : Bool) : ∀ (l : Nat) (steps : List ByteArray) (s : Ws), Alk kn kn' (goW kn fol l steps s) → goW kn' fol l steps s = goW kn fol l steps s
  | 0, steps, s, h => goI_same kn kn' fol _ _ (fun _ _ _ _ hk => hk) (fun _ _ _ _ => rfl) steps s h
  | l + 1, steps, s, h => goI_same kn kn' fol _ _ (fun tg rest s => metW_used _ (goW_used kn fol l) tg rest s) (fun tg rest s h => by
    unfold metW at h ⊢
    split at h
    · rename_i hE
      rw [if_pos hE, if_pos hE]
      exact goW_same kn kn' fol l _ _ h
    · rename_i hE
      rw [if_neg hE, if_neg hE]) steps s h
/-- a walk over what is known alike -/
theorem walkO_same {kn kn' : Ky → Option En} {path : ByteArray} {fol : Bool} {links : Int} (h : Alk kn kn' (walkO kn path fol links)) : walkO kn' path fol links = walkO kn path fol links := by
  unfold walkO at h ⊢
  split at h
  · rename_i hE
    rw [if_pos hE, if_pos hE]
    exact goW_same kn kn' fol _ _ _ h
  · rename_i hE
    rw [if_neg hE, if_neg hE]
theorem knC_put {s : Cs} {e : En} {k : Ky} (hk : k ≠ e.key) : knC (putS s e) k = knC s k := by
  unfold putS
  split
  · rfl
  · have hg : getL (s.put e).L k = getL s.L k := by
      unfold Cs.put getL outL
      simp only
      have hne : hasK k e = false := hasK_no.2 fun hc => hk (by
        obtain ⟨k1, k2⟩ := k
        obtain ⟨h1, h2⟩ := hc
        simp only at h1 h2
        unfold En.key
        rw [h1, h2])
      rw [List.find?_append, List.find?_filter]
      have : (s.L.find? fun a => decide ((!hasK e.key a) = true ∧ hasK k a = true)) = s.L.find? (hasK k) := by
        congr 1
        funext a
        cases ha : hasK k a with
        | false => simp
        | true =>
          have h1 := hasK_iff.1 ha
          have h2 : hasK e.key a = false := hasK_no.2 fun hc => hk (by
            obtain ⟨k1, k2⟩ := k
            simp only at h1
            have e1 : a.d = e.d := hc.1
            have e2 : a.nm = e.nm := hc.2
            unfold En.key
            rw [← e1, ← e2, h1.1, h1.2])
          simp [h2]
      rw [this]
      cases s.L.find? (hasK k) with
      | some x => rfl
      | none => simp [hne]
    unfold knC
    rw [hg]
    rfl
theorem knF_one {s : Cs} {e : En} {k : Ky} (hk : k ≠ e.key) : knF (firstsL [e]) s k = knC s k := by
  have : fget (firstsL [e]) k = none := by
    show fget [(e.key, e)] k = none
    unfold fget
    have : sameKy k e.key = false := by
      cases hq : sameKy k e.key with
      | false => rfl
      | true => exact absurd ((sameKy_iff _ _).1 hq) hk
    simp [this]
  unfold knF
  rw [this]
end
section
open Go.RowKit
attribute [local go_sem high] eqK neqK eqE neqE eqN neqN guardK guardE guardN

/-- are two lists the same -/
def sameKs : List Ky → List Ky → Bool
  | [], [] => true
  | a :: l, b :: m => (decide (a.d = b.d) && decide (a.nm = b.nm)) && sameKs l m
  | _, _ => false
theorem sameKs_iff : ∀ (l m : List Ky), sameKs l m = true ↔ l = m
  | [], [] => by simp [sameKs]
  | [], b :: m => by simp [sameKs]
  | a :: l, [] => by simp [sameKs]
  | a :: l, b :: m => by
    rw [sameKs, Bool.and_eq_true, sameKs_iff l m]
    obtain ⟨a1, a2⟩ := a
    obtain ⟨b1, b2⟩ := b
    simp
theorem sameKs_no {l m : List Ky} (h : ¬ l = m) : sameKs l m = false := by
  cases k : sameKs l m with
  | false => rfl
  | true => exact absurd ((sameKs_iff l m).1 k) h
set_option maxHeartbeats 4000000 in
theorem sameK_any (v v' : Value) (l l' : List Ky) (base base' : Nat) (w : World) (h : RowK w base v l) (h' : RowK w base' v' l') (hl : l.length ≤ 1000000000) (hl' : l'.length ≤ 1000000000) :
    Calls Tryz.prog 35 #[v, v'] w fun e w' => e = .returned (.bool (sameKs l l')) ∧ Below w.heap.size w w' := by
  obtain ⟨a, cap, rfl⟩ := owns_len h
  obtain ⟨a', cap', rfl⟩ := owns_len h'
  by_cases hn : l.length = l'.length
  · obtain ⟨n, hn1⟩ : ∃ n, l.length = n := ⟨_, rfl⟩
    have hn2 : l'.length = n := by omega
    rw [hn1] at hl
    have HC : Hid (RowK w base (.slice a n cap) l ∧ RowK w base' (.slice a' n cap') l' ∧ l.length = n ∧ l'.length = n) := ⟨by rw [← hn1]; exact h, by rw [← hn2]; exact h', hn1, hn2⟩
    rw [hn1, hn2]
    clear h h' hn hn1 hn2 hl'
    go_enter Tryz.func35, Tryz.ntmps35
    go_wp2
    go_loopw [5] (fun i wr => ∃ k : Nat, k ≤ n ∧ i = .int .i64 k ∧ l.take k = l'.take k ∧ Below w.heap.size w wr) (fun i _ => n - (intOf i).toNat)
    case atStart => exact ⟨0, Nat.zero_le _, rfl, rfl, Below.refl _ _⟩
    case round =>
      obtain ⟨k, hk, rfl, ht, hb⟩ := hrel
      by_cases hlt : k < n
      · obtain ⟨e, he⟩ : ∃ x, l[k]? = some x := ⟨_, List.getElem?_eq_getElem (by rw [HC.out.2.2.1]; exact hlt)⟩
        obtain ⟨f, hf⟩ : ∃ x, l'[k]? = some x := ⟨_, List.getElem?_eq_getElem (by rw [HC.out.2.2.2]; exact hlt)⟩
        obtain ⟨g, rfl, -, -, x0, x1, -⟩ := (HC.out.1.below hb).key he
        obtain ⟨g', rfl, -, -, y0, y1, -⟩ := (HC.out.2.1.below hb).key hf
        have hki : (k : Int) < (n : Int) := by omega
        by_cases hxx : e = f
        · have HT : Hid (l.take (k + 1) = l'.take (k + 1)) := take_snocK ht he (hxx ▸ hf)
          subst hxx
          clear he hf ht
          go_upto_region 6 with fail
          go_quiet (fail)
          go_wp2
          exact ⟨⟨k + 1, by omega, by simp, HT.out, below_drewN hb _⟩, by simp [intOf]; omega⟩
        · have HE : Hid (sameKs l l' = false) := sameKs_no (by rintro rfl; rw [he] at hf; exact hxx (Option.some.inj hf))
          have hne : decide (e.d = f.d ∧ e.nm = f.nm) = false := decide_eq_false (fun h => hxx (by cases e; cases f; simp only at h; rw [h.1, h.2]))
          clear he hf ht hxx
          go_upto_region 6 with fail
          go_quiet (fail)
          go_wp2
          go_ret
          exact ⟨by rw [HE.out]; rfl, below_drewN hb _⟩
      · have hkl : k = n := by omega
        subst hkl
        have HE : Hid (sameKs l l' = true) := (sameKs_iff l l').2 (take_eqK ht HC.out.2.2.1.symm HC.out.2.2.2.symm)
        clear ht
        go_wp2
        go_ret
        exact ⟨by rw [HE.out]; rfl, hb⟩
  · have HE : Hid (sameKs l l' = false) := sameKs_no (by rintro rfl; exact hn rfl)
    have hne : ((l.length : Int) != (l'.length : Int)) = true := by simp; omega
    clear h h'
    go_enter Tryz.func35, Tryz.ntmps35
    go_wp2
    go_ret
    exact ⟨by rw [HE.out]; rfl, Below.refl _ _⟩
end
end Go.Proofs.YtmndnjgbbpkidaaGreat
