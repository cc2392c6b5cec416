/- What the two sources tell of a key. -/
import Derived.Test.YtmndnjgbbpkidaaGreatJWLks25
import Derived.Test.YtmndnjgbbpkidaaGreatJWLks11
namespace Go.Proofs.YtmndnjgbbpkidaaGreat
section
open Go.RowKit
attribute [local go_sem ↓ high] loadEn storeEn

set_option maxHeartbeats 2000000 in
theorem tellF_p (g : Nat) (fl : Fl) (k : Ky) (w : World) (h : FAt w g fl) : Calls Tryz.prog 141 #[.map (some g), .agg #[.int .i64 k.d, .string k.nm]] w fun r w' => r = .returned (.tuple #[((fget fl k).getD zeroEn).agg, .bool (fget fl k).isSome]) ∧ Below w.heap.size w w' := by
  obtain ⟨W1, hW1⟩ : ∃ W, w.alloc (.cells #[.int .i64 k.d, .string k.nm] 29) = W := ⟨_, rfl⟩
  have b1 := boxO hW1
  obtain ⟨W2, hW2⟩ : ∃ W, W1.alloc (.cells zeroes7 52) = W := ⟨_, rfl⟩
  have b2 := boxO hW2
  obtain ⟨x, hx⟩ : ∃ x, (fget fl k).getD zeroEn = x := ⟨_, rfl⟩
  obtain ⟨b, hb⟩ : ∃ x, (fget fl k).isSome = x := ⟨_, rfl⟩
  rw [hx, hb]
  obtain ⟨W3, hW3⟩ : ∃ W, W2.alloc (.cells x.vals.toArray 52) = W := ⟨_, rfl⟩
  have b3 := boxO hW3
  obtain ⟨W4, hW4⟩ : ∃ W, W3.setRow W1.heap.size x.vals.toArray = W := ⟨_, rfl⟩
  have z3 : W3.heap[W1.heap.size]? = some (.cells zeroes7 52 (0, 0)) := (b3.2.1.block _ (by omega)).trans b2.1
  have HR : Hid (W4.heap[W1.heap.size]? = some (.cells x.vals.toArray 52 (0, 0))) := by rw [← hW4]; exact setRow_heap _ _ _ _ _ _ z3
  have HB : Hid (Below w.heap.size w W4) := by
    have e1 := chainB (chainB b1.2.1 b2.2.1) b3.2.1
    rw [← hW4]
    exact (onlyR _ _ _).below e1 e1.size fun k e => by omega
  have kk := hkeep b1.1 b2.2.1
  have k0 : W2.cell? ⟨w.heap.size, 0, none⟩ = some (.int .i64 k.d) := by rw [cell_of kk]; rfl
  have k1 : W2.cell? ⟨w.heap.size, 1, none⟩ = some (.string k.nm) := by rw [cell_of kk]; rfl
  have lk := lookF k W2 g fl ((h.below b1.2.1).below b2.2.1)
  rw [hx, hb] at lk
  have lk2 : (Instr.lookup 81 (.map (some g)) (.agg #[.int .i64 k.d, .string k.nm]) true).run Tryz.prog W2 = .ok (.tuple #[x.agg, .bool b]) W2 := lk
  have l1 : (enLd (.pointer (some ⟨W2.heap.size, 0, none⟩))).run Tryz.prog W3 = .ok x.agg W3 := enLd_at (cells7_of b3.1)
  have s1 : (enSt (.pointer (some ⟨W1.heap.size, 0, none⟩)) x.agg).run Tryz.prog W3 = .ok () W4 := enSt_of z3 rfl hW4
  have bx := box7
  have e1 : w.heap.size + 1 = W1.heap.size := b1.2.2.symm
  have e2 : W1.heap.size + 1 = W2.heap.size := b2.2.2.symm
  clear h hx hb b1 b2 b3 hW4 z3 kk lk
  go_enter Tryz.func141, Tryz.ntmps141
  go_wp2
  (try simp only [Exit.inBlock, Exit.then])
  refine bodyPost_ret (ret_entry2 rfl _ _ W1.heap.size rfl HR.out) rfl ?_
  exact ⟨rfl, HB.out⟩
set_option maxHeartbeats 4000000 in
theorem tellC_p (p : Nat) (c : Pc) (s : Cs) (k : Ky) (w : World) (h : IsC w p c) (hs : Says c s) : Calls Tryz.prog 142 #[.agg #[.pointer (some ⟨p, 0, none⟩)], .agg #[.int .i64 k.d, .string k.nm]] w fun r w' => r = .returned (.tuple #[((knC s k).getD zeroEn).agg, .bool (knC s k).isSome]) ∧ Below w.heap.size w w' := by
  obtain ⟨W0, hW0⟩ : ∃ W, w.alloc (.cells #[.pointer (some ⟨p, 0, none⟩)] 84) = W := ⟨_, rfl⟩
  have b0 := boxO hW0
  obtain ⟨W1, hW1⟩ : ∃ W, W0.alloc (.cells #[.int .i64 k.d, .string k.nm] 29) = W := ⟨_, rfl⟩
  have b1 := boxO hW1
  obtain ⟨W2, hW2⟩ : ∃ W, W1.alloc (.cells zeroes7 52) = W := ⟨_, rfl⟩
  have b2 := boxO hW2
  have hb2 := chainB (chainB b0.2.1 b1.2.1) b2.2.1
  have HB2 : Hid (Below w.heap.size w W2) := hb2
  have h2 := h.below hb2
  have HS : Hid (∀ W, Below W2.heap.size W2 W → W.cell? ⟨w.heap.size, 0, none⟩ = some (.pointer (some ⟨p, 0, none⟩)) ∧ W.cell? ⟨W0.heap.size, 0, none⟩ = some (.int .i64 k.d) ∧ W.cell? ⟨W0.heap.size, 1, none⟩ = some (.string k.nm) ∧ W.heap[W1.heap.size]? = some (.cells zeroes7 52 (0, 0))) := fun W hW => by
    have q0 := hkeep (hkeep (hkeep b0.1 b1.2.1) b2.2.1) hW
    have q1 := hkeep (hkeep b1.1 b2.2.1) hW
    exact ⟨by rw [cell_of q0]; rfl, by rw [cell_of q1]; rfl, by rw [cell_of q1]; rfl, hkeep b2.1 hW⟩
  obtain ⟨p0, p1, p2, -⟩ := HS.out W2 (Below.refl _ _)
  have HG : Hid (Calls Tryz.prog 40 #[.pointer (some ⟨p, 0, none⟩), .agg #[.int .i64 k.d, .string k.nm]] W2 fun x w' => x = .returned (.tuple #[((getL s.L k).getD zeroEn).agg, .bool (getL s.L k).isSome]) ∧ Below W2.heap.size W2 w') := get_s p c s k W2 h2 hs
  have HW : Hid (∀ W, Below W2.heap.size W2 W → Calls Tryz.prog 44 #[.pointer (some ⟨p, 0, none⟩), .int .i64 k.d] W fun x w' => x = .returned (.bool (decide (k.d ∈ s.W))) ∧ Below W.heap.size W w') := fun W hW => by
    refine (whole_p p c k.d W (h2.below hW)).mono ?_
    rintro x w' ⟨rfl, hb⟩
    exact ⟨by rw [hs.whole], hb⟩
  have HT : Hid (∀ W (x : En), Below W2.heap.size W2 W → ∃ Z, (enSt (.pointer (some ⟨W1.heap.size, 0, none⟩)) x.agg).run Tryz.prog W = .ok () Z ∧ Z.heap[W1.heap.size]? = some (.cells x.vals.toArray 52 (0, 0)) ∧ Below w.heap.size w Z) := fun W x hW => by
    have z := (HS.out W hW).2.2.2
    have e1 := chainB hb2 hW
    exact ⟨_, enSt_of z rfl rfl, setRow_heap _ _ _ _ _ _ z, (onlyR _ _ _).below e1 e1.size fun k e => by have := b1.2.2; have := b0.2.2; omega⟩
  have bx := box7
  have e0 : w.heap.size + 1 = W0.heap.size := b0.2.2.symm
  have e1 : W0.heap.size + 1 = W1.heap.size := b1.2.2.symm
  have e2 : W1.heap.size + 1 = W2.heap.size := b2.2.2.symm
  clear h hs h2 b0 b1 b2 hb2
  unfold knC
  cases hg : getL s.L k with
  | some x =>
    rw [hg] at HG
    simp only [Option.getD_some, Option.isSome_some]
    clear hg
    go_enter Tryz.func142, Tryz.ntmps142
    go_wp2_with (go_at_call 40; refine HG.out.mono ?_; rintro r W3 ⟨rfl, hb⟩; obtain ⟨V, hV⟩ : ∃ V, W3.alloc (.cells x.vals.toArray 52) = V := ⟨_, rfl⟩; have bV := boxO hV; have lV := enLd_at (cells7_of bV.1); obtain ⟨Z, st, HZ⟩ := HT.out V x (chainB hb bV.2.1); have HZ' : Hid (Z.heap[W1.heap.size]? = some (.cells x.vals.toArray 52 (0, 0)) ∧ Below w.heap.size w Z) := HZ; clear hb bV HZ)
    (try simp only [Exit.inBlock, Exit.then])
    refine bodyPost_ret (ret_entry2 rfl _ _ W1.heap.size rfl HZ'.out.1) rfl ?_
    exact ⟨rfl, HZ'.out.2⟩
  | none =>
    rw [hg] at HG
    simp only [Option.getD_none, Option.isSome_none] at HG
    by_cases hd : k.d ∈ s.W
    · rw [decide_eq_true hd] at HW
      rw [if_pos hd]
      simp only [Option.getD_some, Option.isSome_some]
      clear hg hd
      go_enter Tryz.func142, Tryz.ntmps142
      go_wp2_with (first
        | (go_at_call 44; refine (HW.out _ HV.out).mono ?_; rintro r W4 ⟨rfl, hb⟩; obtain ⟨-, r1, r2, -⟩ := HS.out W4 (chainB HV.out hb); obtain ⟨Z, st, HZ⟩ := HT.out W4 (negK k) (chainB HV.out hb); have st2 : (enSt (.pointer (some ⟨W1.heap.size, 0, none⟩)) (.agg #[.int .i64 k.d, .string k.nm, .bool true, .int .i64 0, .int .i64 0, .int .i64 0, .string ⟨#[]⟩])).run Tryz.prog W4 = .ok () Z := st; have HZ' : Hid (Z.heap[W1.heap.size]? = some (.cells (negK k).vals.toArray 52 (0, 0)) ∧ Below w.heap.size w Z) := HZ; clear hb HZ st)
        | (go_at_call 40; refine HG.out.mono ?_; rintro r W3 ⟨rfl, hb⟩; obtain ⟨V, hV⟩ : ∃ V, W3.alloc (.cells zeroEn.vals.toArray 52) = V := ⟨_, rfl⟩; have bV := boxO hV; have HV : Hid (Below W2.heap.size W2 V) := chainB hb bV.2.1; obtain ⟨q0, q1, q2, -⟩ := HS.out V HV.out; clear hb bV))
      (try simp only [Exit.inBlock, Exit.then])
      refine bodyPost_ret (ret_entry2 rfl _ _ W1.heap.size rfl HZ'.out.1) rfl ?_
      exact ⟨rfl, HZ'.out.2⟩
    · rw [decide_eq_false hd] at HW
      rw [if_neg hd]
      simp only [Option.getD_none, Option.isSome_none]
      clear hg hd
      go_enter Tryz.func142, Tryz.ntmps142
      go_wp2_with (first
        | (go_at_call 44; refine (HW.out _ HV.out).mono ?_; rintro r W4 ⟨rfl, hb⟩; obtain ⟨Z, st, HZ⟩ := HT.out W4 zeroEn (chainB HV.out hb); have st2 : (enSt (.pointer (some ⟨W1.heap.size, 0, none⟩)) (.agg #[.int .i64 0, .string ⟨#[]⟩, .bool false, .int .i64 0, .int .i64 0, .int .i64 0, .string ⟨#[]⟩])).run Tryz.prog W4 = .ok () Z := st; have HZ' : Hid (Z.heap[W1.heap.size]? = some (.cells zeroEn.vals.toArray 52 (0, 0)) ∧ Below w.heap.size w Z) := HZ; clear hb HZ st)
        | (go_at_call 40; refine HG.out.mono ?_; rintro r W3 ⟨rfl, hb⟩; obtain ⟨V, hV⟩ : ∃ V, W3.alloc (.cells zeroEn.vals.toArray 52) = V := ⟨_, rfl⟩; have bV := boxO hV; have HV : Hid (Below W2.heap.size W2 V) := chainB hb bV.2.1; obtain ⟨q0, q1, q2, -⟩ := HS.out V HV.out; clear hb bV))
      (try simp only [Exit.inBlock, Exit.then])
      refine bodyPost_ret (ret_entry2 rfl _ _ W1.heap.size rfl HZ'.out.1) rfl ?_
      exact ⟨rfl, HZ'.out.2⟩
end
section
open Go.RowKit

theorem ndVals_one (n : Nd) : ∀ v ∈ n.vals, v.oneCell' = true := by
  intro v hv
  simp [Nd.vals] at hv
  rcases hv with rfl | rfl | rfl | rfl <;> rfl
structure Cells4 (w : World) (g o : Nat) (n : Nd) : Prop where
  c0 : w.cell? ⟨g, o, none⟩ = some (.int .i64 n.id)
  c1 : w.cell? ⟨g, o + 1, none⟩ = some (.int .i64 n.kind)
  c2 : w.cell? ⟨g, o + 2, none⟩ = some (.int .i64 n.mode)
  c3 : w.cell? ⟨g, o + 3, none⟩ = some (.string n.tg)
theorem Cells4.below {w w' : World} {g o : Nat} {n : Nd} (h : Cells4 w g o n) (hb : Below w.heap.size w w') : Cells4 w' g o n :=
  ⟨(hb.cell (cellLt h.c0)).trans h.c0, (hb.cell (cellLt h.c1)).trans h.c1, (hb.cell (cellLt h.c2)).trans h.c2, (hb.cell (cellLt h.c3)).trans h.c3⟩
theorem cells4_of {w : World} {g : Nat} {t : TypeId} {n : Nd} (h : w.heap[g]? = some (.cells n.vals.toArray t (0, 0))) : Cells4 w g 0 n :=
  ⟨by rw [cell_of h]; rfl, by rw [cell_of h]; rfl, by rw [cell_of h]; rfl, by rw [cell_of h]; rfl⟩
/-- the node of an entry -/
theorem Cells7.node {w : World} {g o : Nat} {e : En} (h : Cells7 w g o e) : Cells4 w g (o + 3) e.nd := ⟨h.c3, h.c4, h.c5, h.c6⟩
theorem Tryz.infoNd : (Tryz.prog.info? 32).map (fun i => (i.zero, i.size, i.bytes)) = some (some zeroNd.agg, 4, 40) := by kernel_rfl
theorem Tryz.sizeNd : (Tryz.prog.info? 32).map (·.size) = some 4 := by kernel_rfl
def ndLd (v : Value) : Sem Value := Instr.loadAt 32 v
theorem loadNd (v : Value) : Instr.loadAt 32 v = ndLd v := rfl
theorem ndLd_at {w : World} {g o : Nat} {n : Nd} (h : Cells4 w g o n) : (ndLd (.pointer (some ⟨g, o, none⟩))).run Tryz.prog w = .ok n.agg w := by
  have := run_loadAt_mid (P := Tryz.prog) w g o 32 n.vals _ (fun j v hv => by
    have hj : j < 4 := (List.getElem?_eq_some_iff.1 hv).1
    have : j = 0 ∨ j = 1 ∨ j = 2 ∨ j = 3 := by omega
    rcases this with rfl | rfl | rfl | rfl <;> (simp [Nd.vals] at hv; subst hv; first | exact h.c0 | exact h.c1 | exact h.c2 | exact h.c3)) Tryz.underlying32 rfl Tryz.sizeNd
  exact this
attribute [irreducible] ndLd
def ndSt (a v : Value) : Sem Unit := Instr.storeAt 32 a v
theorem storeNd (a v : Value) : Instr.storeAt 32 a v = ndSt a v := rfl
theorem ndSt_of {w W : World} {g : Nat} {old : Array Value} {t : TypeId} {n : Nd} (h : w.heap[g]? = some (.cells old t (0, 0))) (ho : old.size = 4) (hW : w.setRow g n.vals.toArray = W) : (ndSt (.pointer (some ⟨g, 0, none⟩)) n.agg).run Tryz.prog w = .ok () W := by
  subst hW
  have h1 : n.vals.toArray.all (·.oneCell') = true := by rw [Array.all_eq_true']; intro v hv; exact ndVals_one n v (by simpa using hv)
  have := run_storeVar_row w g t 32 old n.vals.toArray h Tryz.sizeNd (by rw [ho]; rfl) h1
  unfold ndSt Instr.storeAt Instr.sureAddr
  simp only [show n.agg = .agg n.vals.toArray from rfl]
  simpa using this
attribute [irreducible] ndSt
abbrev zeroes4 : Array Value := #[.int .i64 0, .int .i64 0, .int .i64 0, .string ⟨#[]⟩]
theorem box4 (w : World) (n : Nd) : (ndSt (.pointer (some ⟨w.heap.size, 0, none⟩)) n.agg).run Tryz.prog (w.alloc (.cells #[.int .i64 0, .int .i64 0, .int .i64 0, .string ⟨#[]⟩] 32)) = .ok () (w.alloc (.cells n.vals.toArray 32)) :=
  ndSt_of (heap_new _ _) rfl (alloc_setRow w _ _ _)
theorem ret_node {fn : Func} {p : Tmp} (h : fn.results = #[.cell p 32]) (tmps : Array Value) (w : World) (g : Nat) {t : TypeId} {n : Nd} {fr : Nat × Nat} (hp : tmps.getD p undef = .pointer (some ⟨g, 0, none⟩)) (hg : w.heap[g]? = some (.cells n.vals.toArray t fr)) :
    (results fn tmps).run Tryz.prog w = .ok n.agg w :=
  results_cell_row h tmps w g t _ fr _ hp hg Tryz.underlying32 rfl Tryz.sizeNd
/-- outcomes: uv is the list of used keys -/
def ouVals (o : Ou) (uv : Value) : List Value := [.bool o.need, .int .i64 o.key.d, .string o.key.nm, .int .i64 o.err, .int .i64 o.node.id, .int .i64 o.node.kind, .int .i64 o.node.mode, .string o.node.tg, uv]
def ouAgg (o : Ou) (uv : Value) : Value := .agg #[.bool o.need, .int .i64 o.key.d, .string o.key.nm, .int .i64 o.err, .int .i64 o.node.id, .int .i64 o.node.kind, .int .i64 o.node.mode, .string o.node.tg, uv]
theorem Tryz.sizeOu : (Tryz.prog.info? 35).map (·.size) = some 9 := by kernel_rfl
abbrev zeroes9 : Array Value := #[.bool false, .int .i64 0, .string ⟨#[]⟩, .int .i64 0, .int .i64 0, .int .i64 0, .int .i64 0, .string ⟨#[]⟩, .slice none 0 0]
def ouSt (a v : Value) : Sem Unit := Instr.storeAt 35 a v
theorem storeOu (a v : Value) : Instr.storeAt 35 a v = ouSt a v := rfl
theorem ouSt_of {w W : World} {g : Nat} {old : Array Value} {t : TypeId} {o : Ou} {a : Option Addr} {n c : Nat} (h : w.heap[g]? = some (.cells old t (0, 0))) (ho : old.size = 9) (hW : w.setRow g (ouVals o (.slice a n c)).toArray = W) : (ouSt (.pointer (some ⟨g, 0, none⟩)) (ouAgg o (.slice a n c))).run Tryz.prog w = .ok () W := by
  subst hW
  have h1 : (ouVals o (.slice a n c)).toArray.all (·.oneCell') = true := by
    rw [Array.all_eq_true']
    intro v hv
    simp [ouVals] at hv
    rcases hv with rfl | rfl | rfl | rfl | rfl | rfl | rfl | rfl | rfl <;> rfl
  have := run_storeVar_row w g t 35 old (ouVals o (.slice a n c)).toArray h Tryz.sizeOu (by rw [ho]; rfl) h1
  unfold ouSt Instr.storeAt Instr.sureAddr
  simp only [show ouAgg o (.slice a n c) = .agg (ouVals o (.slice a n c)).toArray from rfl]
  simpa using this
attribute [irreducible] ouSt
theorem ret_out {fn : Func} {p : Tmp} (h : fn.results = #[.cell p 35]) (tmps : Array Value) (w : World) (g : Nat) {t : TypeId} {o : Ou} {uv : Value} {fr : Nat × Nat} (hp : tmps.getD p undef = .pointer (some ⟨g, 0, none⟩)) (hg : w.heap[g]? = some (.cells (ouVals o uv).toArray t fr)) :
    (results fn tmps).run Tryz.prog w = .ok (ouAgg o uv) w :=
  results_cell_row h tmps w g t _ fr _ hp hg Tryz.underlying35 rfl Tryz.sizeOu
/-- a list of nodes in memory -/
def nc (l : List Nd) : List Value := l.flatMap Nd.vals
theorem nc_len (l : List Nd) : (nc l).length = l.length * 4 := by
  unfold nc
  induction l with
  | nil => rfl
  | cons x l ih => rw [List.flatMap_cons, List.length_append, ih, show x.vals.length = 4 from rfl, List.length_cons]; omega
theorem nc_app (a b : List Nd) : nc (a ++ b) = nc a ++ nc b := by unfold nc; rw [List.flatMap_append]
theorem nc_get (l : List Nd) (i j : Nat) (x : Nd) (h : l[i]? = some x) (hj : j < 4) : (nc l)[i * 4 + j]? = x.vals[j]? := by
  induction l generalizing i with
  | nil => simp at h
  | cons y l ih =>
    unfold nc at *
    rw [List.flatMap_cons]
    cases i with
    | zero =>
      simp at h; subst h
      rw [List.getElem?_append_left (by show 0 * 4 + j < 4; omega)]; simp
    | succ i =>
      rw [List.getElem?_append_right (by show 4 ≤ _; omega), show y.vals.length = 4 from rfl]
      rw [show (i + 1) * 4 + j - 4 = i * 4 + j by omega]
      exact ih i (by simpa using h)
theorem nc_one (l : List Nd) : ∀ u ∈ nc l, u.oneCell' = true := by
  intro u hu
  obtain ⟨x, _, hx⟩ := List.mem_flatMap.1 hu
  exact ndVals_one x u hx
def RowN (w : World) (base : Nat) (v : Value) (l : List Nd) : Prop := w.ownsRow base 32 4 v l.length (nc l)
theorem RowN.below {w w' : World} {base : Nat} {v : Value} {l : List Nd} (h : RowN w base v l) (hb : Below w.heap.size w w') : RowN w' base v l := owns_below h hb
theorem RowN.get {w : World} {base n cap i : Nat} {a : Option Addr} {l : List Nd} {x : Nd} (h : RowN w base (.slice a n cap) l) (hi : l[i]? = some x) : ∃ g, a = some ⟨g, 0, none⟩ ∧ n = l.length ∧ n ≤ cap ∧ base ≤ g ∧ g < w.heap.size ∧ Cells4 w g (i * 4) x := by
  have hlt : i < l.length := (List.getElem?_eq_some_iff.1 hi).1
  have h2 := h.2
  rcases h2 with ⟨h1, h3⟩ | ⟨g, cap', cur, hv, hB, hw, hc, hm, hs, ht⟩
  · omega
  · injection hv with e1 e2 e3
    subst e1 e2 e3
    obtain ⟨N, hN⟩ : ∃ N, l.length = N + 1 := ⟨l.length - 1, by omega⟩
    unfold RowN at h
    rw [hN] at h
    obtain ⟨hcc, hf, _, _, hb, hg⟩ := owns_cells h
    exact ⟨g, rfl, rfl, by omega, hB, (Array.getElem?_eq_some_iff.1 hw).1, ⟨hcc _ _ (nc_get l i 0 x hi (by omega)), hcc _ _ (nc_get l i 1 x hi (by omega)), hcc _ _ (nc_get l i 2 x hi (by omega)), hcc _ _ (nc_get l i 3 x hi (by omega))⟩⟩
theorem appN {w : World} {B : Nat} {v : Value} {l l2 : List Nd} {ad : Addr} {c : Nat} (h : RowN w B v l) (h2 : ∀ j u, (nc l2)[j]? = some u → w.cell? (ad.add j) = some u) (hB : B ≤ w.heap.size) (hl : (l.length + l2.length) * 40 ≤ 140737488355328) :
    ∃ v3 W, (∀ ty, (Builtin.append_ #[86, 86] ty #[v, .slice (some ad) l2.length c]).run Tryz.prog w = .ok v3 W) ∧ RowN W B v3 (l ++ l2) ∧ Only (fun k => v.ownBlock = some k) w W ∧ (v3.ownBlock = v.ownBlock ∨ v3.ownBlock = some w.heap.size) := by
  obtain ⟨i1, hi1, hw0, hw1, hw2⟩ := info_parts Tryz.infoNd
  obtain ⟨v', W, a1, a2, a3, _, a5⟩ := run_append_own_at (P := Tryz.prog) w B 86 0 32 i1 _ 4 40 Tryz.underlying86 hi1 hw0 hw1 hw2 rfl (by decide) v l.length (nc l) h ad l2.length c (nc l2) (nc_len l2) h2 (nc_one l2) (by unfold maxLen; omega) hl hB
  refine ⟨v', W, fun ty => ?_, ?_, only_grown a3, a5⟩
  · have : (Builtin.append_ #[86, 86] ty #[v, .slice (some ad) l2.length c]).run Tryz.prog w = (Builtin.append_ #[86, 86] 0 #[v, .slice (some ad) l2.length c]).run Tryz.prog w := rfl
    rw [this]; exact a1
  · show World.ownsRow _ _ _ _ _ _ _
    rw [List.length_append, nc_app]; exact a2
/-- a list of one node, made, shut -/
def ndOne (ps : Array (Nat × Value)) : Sem Value := Instr.buildSlice 86 1 ps
theorem buildNd (ps : Array (Nat × Value)) : Instr.buildSlice 86 1 ps = ndOne ps := rfl
theorem ndOne_of (x : Nd) (w : World) : (ndOne #[(0, x.agg)]).run Tryz.prog w = .ok (.slice (some ⟨w.heap.size, 0, none⟩) 1 1) (w.alloc (.cells (x.vals).toArray 32)) := by
  unfold ndOne Instr.buildSlice
  simp [run_underlying Tryz.underlying86, Tryz.sizeOf32, Tryz.zeroValue32, Instr.fill, Value.cells, newRow, Nd.agg, Nd.vals]
  rw [show Array.range 4 = #[0, 1, 2, 3] from rfl]
  simp
attribute [irreducible] ndOne
theorem keep_node {X : World} {B : Nat} {v : Value} {l : List Nd} (x : Nd) (h : RowN X B v l) (hB : B ≤ X.heap.size) (hl : l.length + 1 ≤ 1500000000000) : ∃ a6 N6 c6 Z, (∀ ty, (Builtin.append_ #[86, 86] ty #[v, .slice (some ⟨X.heap.size, 0, none⟩) 1 1]).run Tryz.prog (X.alloc (.cells x.vals.toArray 32)) = .ok (.slice a6 N6 c6) Z) ∧ RowN Z B (.slice a6 N6 c6) (l ++ [x]) ∧ Only (fun b => v.ownBlock = some b) X Z ∧ ((Value.slice a6 N6 c6).ownBlock = v.ownBlock ∨ ∀ b, (Value.slice a6 N6 c6).ownBlock = some b → X.heap.size ≤ b) := by
  have bY := below_alloc X (.cells x.vals.toArray 32)
  obtain ⟨v6, Z, r6, row6, o6, p6⟩ := appN (w := X.alloc (.cells x.vals.toArray 32)) (B := B) (v := v) (l := l) (l2 := [x]) (ad := ⟨X.heap.size, 0, none⟩) (c := 1) (owns_below h bY) (by
    have : nc [x] = x.vals := by simp [nc]
    rw [this]
    exact one_atG (w := X)) (Nat.le_trans hB bY.size) (by simp only [List.length_cons, List.length_nil]; omega)
  obtain ⟨a6, c6, hv6⟩ := owns_len row6
  subst hv6
  refine ⟨a6, _, c6, Z, r6, row6, (Only.of bY).trans o6, p6.imp id fun h b hb => ?_⟩
  rw [h] at hb
  cases hb
  exact bY.size
theorem keep_ky {X : World} {B : Nat} {v : Value} {l : List Ky} (k : Ky) (h : RowK X B v l) (hB : B ≤ X.heap.size) (hl : l.length + 1 ≤ 1500000000000) : ∃ a6 N6 c6 Z, (∀ ty, (Builtin.append_ #[33, 33] ty #[v, .slice (some ⟨X.heap.size, 0, none⟩) 1 1]).run Tryz.prog (X.alloc (.cells #[.int .i64 k.d, .string k.nm] 29)) = .ok (.slice a6 N6 c6) Z) ∧ RowK Z B (.slice a6 N6 c6) (l ++ [k]) ∧ Only (fun b => v.ownBlock = some b) X Z ∧ ((Value.slice a6 N6 c6).ownBlock = v.ownBlock ∨ ∀ b, (Value.slice a6 N6 c6).ownBlock = some b → X.heap.size ≤ b) := by
  have bY := below_alloc X (.cells #[.int .i64 k.d, .string k.nm] 29)
  obtain ⟨v6, Z, r6, row6, o6, p6⟩ := appK (w := X.alloc (.cells #[.int .i64 k.d, .string k.nm] 29)) (B := B) (v := v) (l := l) (l2 := [k]) (ad := ⟨X.heap.size, 0, none⟩) (c := 1) (owns_below h bY) (by
    have : kc [k] = [.int .i64 k.d, .string k.nm] := by simp [kc]
    rw [this]
    exact one_atG (w := X) (cs := [.int .i64 k.d, .string k.nm])) (Nat.le_trans hB bY.size) (by simp only [List.length_cons, List.length_nil]; omega)
  obtain ⟨a6, c6, hv6⟩ := owns_len row6
  subst hv6
  refine ⟨a6, _, c6, Z, r6, row6, (Only.of bY).trans o6, p6.imp id fun h b hb => ?_⟩
  rw [h] at hb
  cases hb
  exact bY.size
end
end Go.Proofs.YtmndnjgbbpkidaaGreat
