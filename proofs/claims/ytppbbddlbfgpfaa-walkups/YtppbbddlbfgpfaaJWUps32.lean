/- Steps and Walk. -/
import Derived.Test.YtppbbddlbfgpfaaJWUps31
import Derived.Test.YtppbbddlbfgpfaaJWUps25
import Derived.Test.YtppbbddlbfgpfaaJWUps24
namespace Go.Proofs.Ytppbbddlbfgpfaa
section
open Go.RowKit
attribute [local go_sem ↓ high] loadEn storeEn loadNd storeNd storeOu buildNd

def HomR (w0 w w' : World) (P : Pw) (dir : Bool) (l : Nat) : Prop := ∃ wv, IsW w0 w' P wv (.slice none 0 0) ⟨[rootN], [], dir⟩ l (fun b => b < w.heap.size ∧ b ≠ P.t) ∧ (∀ b, b < w.heap.size ∧ b ≠ P.t → w'.heap[b]? = w.heap[b]?) ∧ w.heap.size ≤ w'.heap.size
set_option maxRecDepth 20000 in
set_option maxHeartbeats 2000000 in
theorem home0_p {w0 w : World} {P : Pw} {dir : Bool} {l : Nat} (hh : w.heap[P.t]? = some (.cells #[.slice (some ⟨P.gs, 0, none⟩) 2 2, .slice none 0 0, .slice none 0 0, .bool dir, .bool P.fol, .int .i64 l] 85 (0, 0)))
    (src : w.heap[P.gs]? = some (.cells #[.iface 79 (.map (some P.g)), .iface 82 (.agg #[.pointer (some ⟨P.p, 0, none⟩)])] 121 (0, 0)))
    (fr : FAt w P.g P.fl) (ca : IsC w P.p P.c) (say : Says P.c P.cs) (cb : ∀ b, P.c.blk P.p b → b < P.g) (lt : P.g < P.gs ∧ P.gs < P.t) (base : w0.heap.size ≤ P.g) (below : Below w0.heap.size w0 w) :
    Calls Try.prog 30 #[.pointer (some ⟨P.t, 0, none⟩)] w fun r w' => r = .returned (.tuple #[]) ∧ HomR w0 w w' P dir l := by
  have ht : P.t < w.heap.size := (Array.getElem?_eq_some_iff.1 hh).1
  obtain ⟨W1, hW1⟩ : ∃ W, w.alloc (.cells rootN.vals.toArray 31) = W := ⟨_, rfl⟩
  have b1 := boxO hW1
  obtain ⟨W2, hW2⟩ : ∃ W, W1.setCell ⟨P.t, 1, none⟩ (.slice (some ⟨w.heap.size, 0, none⟩) 1 1) = W := ⟨_, rfl⟩
  have hO : Only (· = P.t) W1 W2 := by rw [← hW2]; exact only1 _ _ _ _
  have hk : ∀ b, b < w.heap.size → b ≠ P.t → W2.heap[b]? = w.heap[b]? := fun b hb hne => (hO.block b (by omega) hne).trans (b1.2.1.block b hb)
  have h1 := hkeep hh b1.2.1
  have HK : Hid ((∀ b, b < w.heap.size ∧ b ≠ P.t → W2.heap[b]? = w.heap[b]?) ∧ w.heap.size ≤ W2.heap.size) := ⟨fun b hb => hk b hb.1 hb.2, by have := hO.size; omega⟩
  have HE : Hid (IsW w0 W2 P (.slice (some ⟨w.heap.size, 0, none⟩) 1 1) (.slice none 0 0) ⟨[rootN], [], dir⟩ l (fun b => b < w.heap.size ∧ b ≠ P.t)) := by
    have hgs : P.gs < w.heap.size := (Array.getElem?_eq_some_iff.1 src).1
    refine ⟨by rw [← hW2]; exact setCell_heap h1, (hk _ hgs (by omega)).trans src, fr.moved (hk _ fr.lt (by omega)), ca.moved fun b hb => hk b (ca.lt hb) (by have := cb b hb; omega), say, ?_, World.ownsRow_nil _ _ _ _, (fun b hb e => by cases e), cb, lt, base, by simp, ?_, fun b hb => ⟨?_, hb.2, fun e => ?_, (fun e => by cases e)⟩⟩
    · have hr : W2.heap[w.heap.size]? = some (.cells rootN.vals.toArray 31 (0, 0)) := (hO.block _ (by omega) (by omega)).trans b1.1
      exact ⟨rfl, .inr ⟨w.heap.size, 1, rootN.vals.toArray, rfl, by omega, hr, Nat.le_refl 1, by unfold maxLen; omega, rfl, by simp [nc, Nd.vals]⟩⟩
    · exact hO.below (chainB below b1.2.1) (chainB below b1.2.1).size fun b hb => by omega
    · have := hO.size; omega
    · cases e; exact absurd hb.1 (Nat.lt_irrefl _)
  have on1 : (ndOne #[(0, .agg #[.int .i64 1, .int .i64 1, .int .i64 0, .string ⟨#[]⟩])]).run Try.prog w = .ok (.slice (some ⟨w.heap.size, 0, none⟩) 1 1) W1 := by rw [← hW1]; exact ndOne_of rootN w
  have c1 : W1.cell? ⟨P.t, 1, none⟩ = some (.slice none 0 0) := by rw [cell_of h1]; rfl
  have fz := free_of h1
  clear hh src fr ca say cb lt base below ht b1 hO hk h1 hW1
  go_enter Try.func30, Try.ntmps30
  go_wp2
  go_end0
  exact ⟨rfl, _, HE.out, HK.out⟩
theorem RowK.le {w : World} {base base' : Nat} {v : Value} {l : List Ky} (h : RowK w base v l) (hb : base' ≤ base) : RowK w base' v l := by
  refine ⟨h.1, ?_⟩
  rcases h.2 with h2 | ⟨g, cap, cur, hv, hg, hh, r⟩
  · exact .inl h2
  · exact .inr ⟨g, cap, cur, hv, by omega, hh, r⟩
/-- what Steps and Walk leave -/
def OutR (w : World) (O : Ou) (r : Ending) (w' : World) : Prop := ∃ uv, r = .returned (ouAgg O uv) ∧ RowK w' w.heap.size uv O.used ∧ Below w.heap.size w w'
/-- an outcome laid into the box of the caller -/
def LaidR (w : World) (O : Ou) (r : Ending) (w' : World) : Prop := ∃ a6 m6 c6 Z, r = .returned (ouAgg O (.slice a6 m6 c6)) ∧ (ouSt (.pointer (some ⟨w.heap.size, 0, none⟩)) (ouAgg O (.slice a6 m6 c6))).run Try.prog w' = .ok () Z ∧ Z.heap[w.heap.size]? = some (.cells (ouVals O (.slice a6 m6 c6)).toArray 34 (0, 0)) ∧ RowK Z w.heap.size (.slice a6 m6 c6) O.used ∧ Below w.heap.size w Z
theorem laid_of {w W1 w' : World} {O : Ou} {base : Nat} {uv : Value} (b1 : W1.heap[w.heap.size]? = some (.cells zeroes9 34 (0, 0))) (bw : Below w.heap.size w W1) (hb : Below W1.heap.size W1 w') (hr : RowK w' base uv O.used) (hbase : w.heap.size < base) : LaidR w O (.returned (ouAgg O uv)) w' := by
  obtain ⟨a6, c6, rfl⟩ := owns_len hr
  have h1 := hkeep b1 hb
  obtain ⟨Z, hZ⟩ : ∃ Z, w'.setRow w.heap.size (ouVals O (.slice a6 O.used.length c6)).toArray = Z := ⟨_, rfl⟩
  have hO : Only (· = w.heap.size) w' Z := by rw [← hZ]; exact onlyR _ _ _
  refine ⟨a6, _, c6, Z, rfl, ouSt_of h1 rfl hZ, by rw [← hZ]; exact setRow_heap _ _ _ _ _ _ h1, ?_, hO.below (chainB bw hb) (chainB bw hb).size fun b hb => by omega⟩
  exact RowK.le (owns_moved hr fun b hb => hO.block b (World.ownsRow.lt hr b hb).2 (by have := (World.ownsRow.lt hr b hb).1; omega)) (by omega)
theorem linksN_le (l : Int) : linksN l ≤ 8 := by unfold linksN; omega
set_option maxRecDepth 100000 in
set_option maxHeartbeats 8000000 in
theorem steps_p (p : Nat) (c : Pc) (cs : Cs) (v : Value) (es : List En) (aS : Option Addr) (nS cS : Nat) (steps : List ByteArray) (dir fol : Bool) (links : Int) (w : World) (h : IsC w p c) (hs : Says c cs) (he : RdE w v es) (hr : RowS w aS steps) (hlen : steps.length = nS) (hcap : nS ≤ cS) (hn : nS ≤ 999999990000) (ha : ∀ b o, aS = some ⟨b, o, none⟩ → b < w.heap.size) :
    Calls Try.prog 15 #[.pointer (some ⟨p, 0, none⟩), v, .slice aS nS cS, .bool dir, .bool fol, .int .i64 links] w fun r w' => OutR w (stepsO (knF (firstsL es) cs) steps dir fol links) r w' := by
  obtain ⟨W1, hW1⟩ : ∃ W, w.alloc (.cells zeroes9 34) = W := ⟨_, rfl⟩
  have b1 := boxO hW1
  obtain ⟨l, hl⟩ : ∃ l, linksN links = l := ⟨_, rfl⟩
  have hl8 : l ≤ 8 := by rw [← hl]; exact linksN_le links
  have HF : Hid (Calls Try.prog 29 #[v] W1 fun r w' => ∃ g, r = .returned (.map (some g)) ∧ FAt w' g (firstsL es) ∧ W1.heap.size ≤ g ∧ Below W1.heap.size W1 w') := firsts_p v es W1 (he.below b1.2.1)
  have hll : min (max links 0) 8 = (l : Int) := by rw [← hl]; unfold linksN; omega
  obtain ⟨O, hO⟩ : ∃ O, stepsO (knF (firstsL es) cs) steps dir fol links = O := ⟨_, rfl⟩
  have HW : Hid (∀ w2 V1 V2 g, Below W1.heap.size W1 w2 → FAt w2 g (firstsL es) → W1.heap.size ≤ g → w2.alloc (.cells #[.iface 79 (.map (some g)), .iface 82 (.agg #[.pointer (some ⟨p, 0, none⟩)])] 121) = V1 → V1.alloc (.cells #[.slice (some ⟨w2.heap.size, 0, none⟩) 2 2, .slice none 0 0, .slice none 0 0, .bool dir, .bool fol, .int .i64 l] 85) = V2 →
      Calls Try.prog 30 #[.pointer (some ⟨V1.heap.size, 0, none⟩)] V2 fun r w' => r = .returned (.tuple #[]) ∧ Calls Try.prog 31 #[.pointer (some ⟨V1.heap.size, 0, none⟩), .slice aS nS cS] w' fun r w'' => LaidR w O r w'') := fun w2 V1 V2 g hb hf hg e1 e2 => by
    have bV1 := boxO e1
    have bV2 := boxO e2
    have hbb := chainB hb (chainB bV1.2.1 bV2.2.1)
    have hcl : ∀ b, c.blk p b → b < w.heap.size := fun b hb' => h.lt hb'
    have hgl := hf.lt
    have hz : w.heap.size < V1.heap.size := by have := hb.size; have := b1.2.2; have := bV1.2.2; omega
    refine (home0_p (w0 := W1) (w := V2) (P := ⟨p, V1.heap.size, w2.heap.size, g, firstsL es, c, cs, fol⟩) (dir := dir) (l := l) bV2.1 (hkeep bV1.1 bV2.2.1) ((hf.below bV1.2.1).below bV2.2.1) ((h.below b1.2.1).below hbb) hs (fun b hb' => by have := hcl b hb'; have := b1.2.2; show b < g; omega) ⟨hgl, by show w2.heap.size < V1.heap.size; have := bV1.2.2; omega⟩ hg hbb).mono ?_
    rintro r w' ⟨rfl, wv, hI, hk, hsz⟩
    refine ⟨rfl, ?_⟩
    have hF : ∀ b o, aS = some ⟨b, o, none⟩ → b < V2.heap.size ∧ b ≠ V1.heap.size := fun b o ea => by
      have := ha b o ea
      have := bV2.2.2
      exact ⟨by omega, by omega⟩
    have hrow : RowS w' aS steps := rowS_kept ((hr.below b1.2.1).below hbb) hsz fun b o ea => hk b (hF b o ea)
    refine (walkM_p aS nS cS steps hI hrow hlen hcap hF (by show [rootN].length + nS + 97 * l ≤ _; simp only [List.length_cons, List.length_nil]; omega) (by show ([] : List Ky).length + nS + 97 * l ≤ _; simp only [List.length_nil]; omega) hl8).mono ?_
    rintro r w'' ⟨uv, rfl, hr6, hb6⟩
    have hOO : goW (knF (firstsL es) cs) fol l steps ⟨[rootN], [], dir⟩ = O := by rw [← hO]; unfold stepsO startW; rw [hl]
    show LaidR w O (.returned (ouAgg (goW (knF (firstsL es) cs) fol l steps ⟨[rootN], [], dir⟩) uv)) w''
    have hr7 : RowK w'' (V1.heap.size + 1) uv (goW (knF (firstsL es) cs) fol l steps ⟨[rootN], [], dir⟩).used := hr6
    rw [hOO] at hr7 ⊢
    exact laid_of b1.1 b1.2.1 hb6 hr7 (by omega)
  rw [hO]
  have e1 : w.heap.size + 1 = W1.heap.size := b1.2.2.symm
  clear h hs he hr hlen hcap hn ha b1 hl hl8 hO
  go_enter Try.func15, Try.ntmps15
  go_wp2_with (first
    | (go_at_call 31; refine H4.out.mono ?_; rintro r w4 ⟨a6, m6, c6, Z, rfl, st, hz⟩; have H5 : Hid (Z.heap[w.heap.size]? = some (.cells (ouVals O (.slice a6 m6 c6)).toArray 34 (0, 0)) ∧ RowK Z w.heap.size (.slice a6 m6 c6) O.used ∧ Below w.heap.size w Z) := hz; clear hz)
    | (go_at_call 30; refine (H3.out _ (by omega)).mono ?_; rintro r w3 ⟨rfl, hc⟩; have H4 : Hid (Calls Try.prog 31 #[.pointer (some ⟨V1.heap.size, 0, none⟩), .slice aS nS cS] w3 fun r w'' => LaidR w O r w'') := hc; clear hc)
    | (go_at_call 29; refine HF.out.mono ?_; rintro r w2 ⟨g, rfl, hf, hg, hb⟩; obtain ⟨V1, hV1⟩ : ∃ V, w2.alloc (.cells #[.iface 79 (.map (some g)), .iface 82 (.agg #[.pointer (some ⟨p, 0, none⟩)])] 121) = V := ⟨_, rfl⟩; have H3 : Hid (∀ z, z = (l : Int) → Calls Try.prog 30 #[.pointer (some ⟨V1.heap.size, 0, none⟩)] (V1.alloc (.cells #[.slice (some ⟨w2.heap.size, 0, none⟩) 2 2, .slice none 0 0, .slice none 0 0, .bool dir, .bool fol, .int .i64 z] 85)) fun r w' => r = .returned (.tuple #[]) ∧ Calls Try.prog 31 #[.pointer (some ⟨V1.heap.size, 0, none⟩), .slice aS nS cS] w' fun r w'' => LaidR w O r w'') := (fun z hz => by subst hz; exact HW.out w2 V1 _ g hb hf hg hV1 rfl); have eV : w2.heap.size + 1 = V1.heap.size := (boxO hV1).2.2.symm; clear hb hf hg))
  all_goals (
    (try simp only [Exit.inBlock, Exit.then])
    refine bodyPost_ret (ret_out rfl _ _ w.heap.size rfl H5.out.1) rfl ?_
    exact ⟨_, rfl, H5.out.2⟩)
set_option maxRecDepth 100000 in
set_option maxHeartbeats 8000000 in
theorem walk_p (p : Nat) (c : Pc) (cs : Cs) (v : Value) (es : List En) (path : ByteArray) (fol : Bool) (links : Int) (w : World) (h : IsC w p c) (hs : Says c cs) (he : RdE w v es) :
    Calls Try.prog 8 #[.pointer (some ⟨p, 0, none⟩), v, .string path, .bool fol, .int .i64 links] w fun r w' => OutR w (walkO (knF (firstsL es) cs) path fol links) r w' := by
  obtain ⟨W1, hW1⟩ : ∃ W, w.alloc (.cells zeroes9 34) = W := ⟨_, rfl⟩
  have b1 := boxO hW1
  obtain ⟨E, hE⟩ : ∃ E, cutE path (rootB path) = E := ⟨_, rfl⟩
  obtain ⟨D, hD⟩ : ∃ D, cutD path (rootB path) = D := ⟨_, rfl⟩
  obtain ⟨L, hL⟩ : ∃ L, cutL path (rootB path) = L := ⟨_, rfl⟩
  obtain ⟨k, hk⟩ : ∃ k, L.length = k := ⟨_, rfl⟩
  have hk97 : k ≤ 97 := by rw [← hk, ← hL]; exact cutL_len _ _
  have HSp : Hid (Calls Try.prog 9 #[.string path] W1 fun r w' => ∃ a cc, r = .returned (.tuple #[.slice a k cc, .bool D, .int .i64 E]) ∧ Own w' W1.heap.size (.slice a k cc) L ∧ Below W1.heap.size W1 w') := by
    refine (split_any path W1).mono ?_
    rintro r w' ⟨vv, rfl, ho, hb⟩
    rw [hE, hD]
    rw [hL] at ho
    obtain ⟨a, cc, rfl⟩ := owns_len ho
    rw [hk] at ho ⊢
    exact ⟨a, cc, rfl, ho, hb⟩
  by_cases hE0 : E = 0
  · subst hE0
    obtain ⟨O, hO⟩ : ∃ O, stepsO (knF (firstsL es) cs) L D fol links = O := ⟨_, rfl⟩
    have hw : walkO (knF (firstsL es) cs) path fol links = O := by unfold walkO; rw [if_pos hE, hL, hD, hO]
    have HSt : Hid (∀ w2 a cc, Own w2 W1.heap.size (.slice a k cc) L → Below W1.heap.size W1 w2 → Calls Try.prog 15 #[.pointer (some ⟨p, 0, none⟩), v, .slice a k cc, .bool D, .bool fol, .int .i64 links] w2 fun r w' => LaidR w O r w') := fun w2 a cc ho hb => by
      have hbb := chainB b1.2.1 hb
      obtain ⟨a', c', ea, hrow⟩ := Own.row ho
      injection ea with ea1 ea2 ea3
      subst ea1
      refine (steps_p p c cs v es a k cc L D fol links w2 (h.below hbb) hs (he.below hbb) hrow hk (by rw [← hk]; exact Own.lim ho) (by omega) (fun b o eb => by subst eb; exact (World.ownsRow.lt ho b rfl).2)).mono ?_
      rintro r w' ⟨uv, rfl, hr, hb'⟩
      rw [hO] at hr ⊢
      exact laid_of b1.1 b1.2.1 (chainB hb hb') hr (by have := hb.size; have := b1.2.2; omega)
    rw [hw]
    have e1 : w.heap.size + 1 = W1.heap.size := b1.2.2.symm
    clear h hs he b1 hE hD hL hk hO hw
    go_enter Try.func8, Try.ntmps8
    go_wp2_with (first
      | (go_at_call 15; refine (HSt.out _ _ _ H2.out.1 H2.out.2).mono ?_; rintro r w4 ⟨a6, m6, c6, Z, rfl, st, hz⟩; have H5 : Hid (Z.heap[w.heap.size]? = some (.cells (ouVals O (.slice a6 m6 c6)).toArray 34 (0, 0)) ∧ RowK Z w.heap.size (.slice a6 m6 c6) O.used ∧ Below w.heap.size w Z) := hz; clear hz)
      | (go_at_call 9; refine HSp.out.mono ?_; rintro r w2 ⟨a, cc, rfl, ho, hb⟩; have H2 : Hid (Own w2 W1.heap.size (.slice a k cc) L ∧ Below W1.heap.size W1 w2) := ⟨ho, hb⟩; clear ho hb))
    (try simp only [Exit.inBlock, Exit.then])
    refine bodyPost_ret (ret_out rfl _ _ w.heap.size rfl H5.out.1) rfl ?_
    exact ⟨_, rfl, H5.out.2⟩
  · have hw : walkO (knF (firstsL es) cs) path fol links = ⟨false, zeroKy, E, zeroNd, []⟩ := by unfold walkO; rw [if_neg (by rw [hE]; exact hE0), hE]
    rw [hw]
    have HLd : Hid (∀ w2, Below W1.heap.size W1 w2 → ∃ Z, (ouSt (.pointer (some ⟨w.heap.size, 0, none⟩)) (.agg #[.bool false, .int .i64 0, .string ⟨#[]⟩, .int .i64 E, .int .i64 0, .int .i64 0, .int .i64 0, .string ⟨#[]⟩, .slice none 0 0])).run Try.prog w2 = .ok () Z ∧ Z.heap[w.heap.size]? = some (.cells (ouVals ⟨false, zeroKy, E, zeroNd, []⟩ (.slice none 0 0)).toArray 34 (0, 0)) ∧ Below w.heap.size w Z) := fun w2 hb => by
      have h1 := hkeep b1.1 hb
      have hO : Only (· = w.heap.size) w2 (w2.setRow w.heap.size (ouVals ⟨false, zeroKy, E, zeroNd, []⟩ (.slice none 0 0)).toArray) := onlyR _ _ _
      exact ⟨_, ouSt_of (o := ⟨false, zeroKy, E, zeroNd, []⟩) (a := none) (n := 0) (c := 0) h1 rfl rfl, setRow_heap _ _ _ _ _ _ h1, hO.below (chainB b1.2.1 hb) (chainB b1.2.1 hb).size fun b hb => by omega⟩
    have hEb : (E != 0) = true := by simpa using hE0
    have e1 : w.heap.size + 1 = W1.heap.size := b1.2.2.symm
    clear h hs he b1 hE hD hL hk hw hE0
    go_enter Try.func8, Try.ntmps8
    go_wp2_with (go_at_call 9; refine HSp.out.mono ?_; rintro r w2 ⟨a, cc, rfl, ho, hb⟩; obtain ⟨Z, st, hz⟩ := HLd.out w2 hb; have H5 : Hid (Z.heap[w.heap.size]? = some (.cells (ouVals ⟨false, zeroKy, E, zeroNd, []⟩ (.slice none 0 0)).toArray 34 (0, 0)) ∧ Below w.heap.size w Z) := hz; clear ho hb hz)
    (try simp only [Exit.inBlock, Exit.then])
    refine bodyPost_ret (ret_out rfl _ _ w.heap.size rfl H5.out.1) rfl ?_
    exact ⟨_, rfl, World.ownsRow_nil _ _ _ _, H5.out.2⟩
theorem knF_nil (s : Cs) : knF (firstsL []) s = knC s := rfl
/-- a law walks over its cache, with nothing fresh -/
theorem ld_walk {w0 wr : World} {p : Nat} {s : Cs} {n : Nat} {F : Nat → Prop} (h : Ld w0 wr p s n F) (path : ByteArray) (fol : Bool) (links : Int) :
    Calls Try.prog 8 #[.pointer (some ⟨p, 0, none⟩), .slice none 0 0, .string path, .bool fol, .int .i64 links] wr fun r w' => OutR wr (walkO (knC s) path fol links) r w' := by
  obtain ⟨c, h1, h2, h3, h4⟩ := h.ex
  rw [← knF_nil]
  exact walk_p p c s _ [] path fol links wr h1 h2 (RdE.nil wr)
end
section
open Go.RowKit
attribute [local go_sem ↓ high] loadEn storeEn loadNd storeNd storeOu buildNd
attribute [local go_sem high] eqK neqK guardK

theorem box9 (w : World) (o : Ou) (a : Option Addr) (n c : Nat) : (ouSt (.pointer (some ⟨w.heap.size, 0, none⟩)) (ouAgg o (.slice a n c))).run Try.prog (w.alloc (.cells #[.bool false, .int .i64 0, .string ⟨#[]⟩, .int .i64 0, .int .i64 0, .int .i64 0, .int .i64 0, .string ⟨#[]⟩, .slice none 0 0] 34)) = .ok () (w.alloc (.cells (ouVals o (.slice a n c)).toArray 34)) :=
  ouSt_of (heap_new _ _) rfl (alloc_setRow w _ _ _)
theorem ouCells {w : World} {g : Nat} {o : Ou} {uv : Value} (h : w.heap[g]? = some (.cells (ouVals o uv).toArray 34 (0, 0))) : w.cell? ⟨g, 0, none⟩ = some (.bool o.need) ∧ w.cell? ⟨g, 1, none⟩ = some (.int .i64 o.key.d) ∧ w.cell? ⟨g, 2, none⟩ = some (.string o.key.nm) ∧ w.cell? ⟨g, 3, none⟩ = some (.int .i64 o.err) ∧ w.cell? ⟨g, 4, none⟩ = some (.int .i64 o.node.id) ∧ w.cell? ⟨g, 8, none⟩ = some uv :=
  ⟨by rw [cell_of h]; rfl, by rw [cell_of h]; rfl, by rw [cell_of h]; rfl, by rw [cell_of h]; rfl, by rw [cell_of h]; rfl, by rw [cell_of h]; rfl⟩
def eBx : En := ⟨1, ⟨#[98]⟩, false, 3, 2, 0, ⟨#[]⟩⟩
theorem awk1 : putS Cs.clear eBx = ⟨[eBx], []⟩ := by
  unfold putS
  rw [if_neg (by decide)]
  rfl
def oA : Ou := ⟨false, zeroKy, 0, ⟨3, 2, 0, ⟨#[]⟩⟩, [⟨1, ⟨#[98]⟩⟩]⟩
def oB : Ou := ⟨true, ⟨1, ⟨#[120]⟩⟩, 0, zeroNd, []⟩
theorem awk2 : walkO (knC ⟨[eBx], []⟩) ⟨#[47, 98]⟩ true 3 = oA := by kernel_rfl
theorem awk3 : walkO (knC ⟨[eBx], []⟩) ⟨#[47, 120]⟩ true 3 = oB := by kernel_rfl
set_option maxRecDepth 100000 in
set_option maxHeartbeats 8000000 in
theorem awake14_p (w : World) : Calls Try.prog 10 #[] w fun x w' => x = .returned (.bool true) ∧ Below w.heap.size w w' := by
  have HN : Hid (Calls Try.prog 12 #[] w fun x w' => ∃ p, x = .returned (.pointer (some ⟨p, 0, none⟩)) ∧ Ldc w w w' p Cs.clear 0 (fun _ => False)) := ld_new w w _ (Below.refl _ _) (fun k hk => hk.elim)
  have HP : Hid (∀ W p, Ld w W p Cs.clear 0 (fun _ => False) → Calls Try.prog 14 #[.pointer (some ⟨p, 0, none⟩), .agg #[.int .i64 1, .string ⟨#[98]⟩, .bool false, .int .i64 3, .int .i64 2, .int .i64 0, .string ⟨#[]⟩]] W fun x w' => x = .returned (.int .i64 0) ∧ Ld w w' p ⟨[eBx], []⟩ 1 (fun _ => False)) := fun W p h => by
    refine (ld_put h eBx (by omega)).mono ?_
    rintro x w' ⟨rfl, hc⟩
    rw [awk1] at hc
    exact ⟨rfl, hc.ld⟩
  have HWk : Hid (∀ W p pa o, walkO (knC ⟨[eBx], []⟩) pa true 3 = o → Ld w W p ⟨[eBx], []⟩ 1 (fun _ => False) → Calls Try.prog 8 #[.pointer (some ⟨p, 0, none⟩), .slice none 0 0, .string pa, .bool true, .int .i64 3] W fun r w' => ∃ a c, r = .returned (ouAgg o (.slice a o.used.length c)) ∧ Below W.heap.size W w') := fun W p pa o ho h => by
    refine (ld_walk h pa true 3).mono ?_
    rintro r w' ⟨uv, rfl, hr, hb⟩
    rw [ho] at hr ⊢
    obtain ⟨a, c, rfl⟩ := owns_len hr
    exact ⟨a, c, rfl, hb⟩
  have bx := box9
  go_enter Try.func10, Try.ntmps10
  go_wp2_with (first
    | (go_at_call 8; first
      | (refine (HWk.out _ _ ⟨#[47, 120]⟩ oB awk3 (H3.out.1)).mono ?_; rintro r w4 ⟨a4, c4, rfl, hb⟩; obtain ⟨V4, hV4⟩ : ∃ V, w4.alloc (.cells (ouVals oB (.slice a4 oB.used.length c4)).toArray 34) = V := ⟨_, rfl⟩; have bV4 := boxO hV4; obtain ⟨z0, z1, z2, -, -, -⟩ := ouCells bV4.1; obtain ⟨-, -, -, -, y4, y8⟩ := ouCells (hkeep (hkeep H3.out.2 hb) bV4.2.1); have H4 : Hid (Below w.heap.size w V4) := chainB H3.out.1.below (chainB hb bV4.2.1); clear hb bV4)
      | (refine (HWk.out _ _ ⟨#[47, 98]⟩ oA awk2 H2.out).mono ?_; rintro r w3 ⟨a3, c3, rfl, hb⟩; obtain ⟨V3, hV3⟩ : ∃ V, w3.alloc (.cells (ouVals oA (.slice a3 oA.used.length c3)).toArray 34) = V := ⟨_, rfl⟩; have bV3 := boxO hV3; have H3 : Hid (Ld w V3 p ⟨[eBx], []⟩ 1 (fun _ => False) ∧ V3.heap[w3.heap.size]? = some (.cells (ouVals oA (.slice a3 oA.used.length c3)).toArray 34 (0, 0))) := ⟨H2.out.on' (chainB hb bV3.2.1), bV3.1⟩; clear hb bV3))
    | (go_at_call 14; refine (HP.out _ _ H1.out).mono ?_; rintro r w2 ⟨rfl, hl⟩; have H2 : Hid (Ld w w2 p ⟨[eBx], []⟩ 1 (fun _ => False)) := hl; clear hl)
    | (go_at_call 12; refine HN.out.mono ?_; rintro r w1 ⟨p, rfl, hl⟩; have H1 : Hid (Ld w w1 p Cs.clear 0 (fun _ => False)) := hl.ld; clear hl))
  go_ret
  exact ⟨rfl, H4.out⟩
/-- the letters of the chain -/
def abcB : ByteArray := ⟨#[97, 98, 99, 100, 101, 102, 103, 104, 105, 106, 107, 108, 109]⟩
def slB (i : Nat) : ByteArray := abcB.extract i (i + 1)
def chE (i : Nat) : En := ⟨1, slB i, false, 2 + i, 3, 0, slB (i + 1)⟩
def endE (k : Nat) : En := ⟨1, slB k, false, 99, 2, 5, ⟨#[]⟩⟩
def selfB : ByteArray := ⟨#[115, 101, 108, 102]⟩
def selfE : En := ⟨1, selfB, false, 98, 3, 0, selfB⟩
def chS : Nat → Cs
  | 0 => Cs.clear
  | k + 1 => putS (chS k) (chE k)
def allS (k : Nat) : Cs := putS (putS (chS k) (endE k)) selfE
def goP (kn : Ky → Option En) (path : ByteArray) (fol : Bool) (l : Nat) : Ou :=
  if cutE path (rootB path) = 0 then goW kn fol l (cutL path (rootB path)) (startW (cutD path (rootB path))) else ⟨false, zeroKy, cutE path (rootB path), zeroNd, []⟩
theorem walk_go (kn : Ky → Option En) (path : ByteArray) (fol : Bool) (links : Int) : walkO kn path fol links = goP kn path fol (linksN links) := rfl
def okB (k l : Nat) : Bool :=
  let o := goP (knC (allS k)) ⟨#[47, 97]⟩ true l
  let x := goP (knC (allS k)) ⟨#[47, 115, 101, 108, 102]⟩ true l
  let y := goP (knC (allS k)) ⟨#[47, 115, 101, 108, 102]⟩ false l
  decide (x.err = 49) && decide (x.used.length = l + 1) && decide (y.node.id = 98) && decide (y.err = 0) && (if l < k then decide (o.err = 49) && decide (o.used.length = l + 1) else decide (o.err = 0) && decide (o.node = ⟨99, 2, 5, ⟨#[]⟩⟩) && decide (o.used.length = k + 1))
theorem okB_all : ((List.range 12).all fun k => (List.range 9).all fun l => okB k l) = true := by kernel_rfl
end
end Go.Proofs.Ytppbbddlbfgpfaa
