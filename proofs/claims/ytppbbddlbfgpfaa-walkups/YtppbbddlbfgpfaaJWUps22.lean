/- Whole entries loaded and stored, shut; Get. -/
import Derived.Test.YtppbbddlbfgpfaaJWUps21
namespace Go.Proofs.Ytppbbddlbfgpfaa
section
open Go.RowKit

theorem size_of {t : TypeId} {n : Nat} (h : (Try.prog.info? t).map (·.size) = some n) (w : World) : (sizeOf t).run Try.prog w = .ok n w := by
  cases hq : Try.prog.info? t with
  | none => rw [hq] at h; cases h
  | some i =>
    rw [hq] at h
    have e : i.size = n := by simpa using h
    simp [sizeOf, typeInfo, hq, e]
theorem Try.sizeCa : (Try.prog.info? 77).map (·.size) = some 8 := by kernel_rfl
def cvals (x : En × Nat) : List Value := x.1.vals ++ [.int .i64 x.2]
theorem cvals_one (x : En × Nat) : ∀ v ∈ cvals x, v.oneCell' = true := by
  intro v hv
  simp [cvals, En.vals] at hv
  rcases hv with rfl | rfl | rfl | rfl | rfl | rfl | rfl | rfl <;> rfl
theorem enVals_one (e : En) : ∀ v ∈ e.vals, v.oneCell' = true := by
  intro v hv
  simp [En.vals] at hv
  rcases hv with rfl | rfl | rfl | rfl | rfl | rfl | rfl <;> rfl
/-- a whole entry loaded, stored -/
def enLd (v : Value) : Sem Value := Instr.loadAt 42 v
theorem loadEn (v : Value) : Instr.loadAt 42 v = enLd v := rfl
theorem enLd_at {w : World} {g o : Nat} {e : En} (h : Cells7 w g o e) : (enLd (.pointer (some ⟨g, o, none⟩))).run Try.prog w = .ok e.agg w := by
  have := run_loadAt_mid (P := Try.prog) w g o 42 e.vals _ (fun j v hv => by
    have hj : j < 7 := (List.getElem?_eq_some_iff.1 hv).1
    have : j = 0 ∨ j = 1 ∨ j = 2 ∨ j = 3 ∨ j = 4 ∨ j = 5 ∨ j = 6 := by omega
    rcases this with rfl | rfl | rfl | rfl | rfl | rfl | rfl <;> (simp [En.vals] at hv; subst hv; first | exact h.c0 | exact h.c1 | exact h.c2 | exact h.c3 | exact h.c4 | exact h.c5 | exact h.c6)) Try.underlying42 rfl Try.sizeE
  exact this
attribute [irreducible] enLd
def enSt (a v : Value) : Sem Unit := Instr.storeAt 42 a v
theorem storeEn (a v : Value) : Instr.storeAt 42 a v = enSt a v := rfl
theorem enSt_of {w W : World} {g : Nat} {old : Array Value} {t : TypeId} {e : En} (h : w.heap[g]? = some (.cells old t (0, 0))) (ho : old.size = 7) (hW : w.setRow g e.vals.toArray = W) : (enSt (.pointer (some ⟨g, 0, none⟩)) e.agg).run Try.prog w = .ok () W := by
  subst hW
  have h1 : e.vals.toArray.all (·.oneCell') = true := by rw [Array.all_eq_true']; intro v hv; exact enVals_one e v (by simpa using hv)
  have := run_storeVar_row w g t 42 old e.vals.toArray h Try.sizeE (by rw [ho]; rfl) h1
  unfold enSt Instr.storeAt Instr.sureAddr
  simp only [show e.agg = .agg e.vals.toArray from rfl]
  simpa using this
attribute [irreducible] enSt
def caLd (v : Value) : Sem Value := Instr.loadAt 77 v
theorem loadCa (v : Value) : Instr.loadAt 77 v = caLd v := rfl
theorem caLd_at {w : World} {g o : Nat} {x : En × Nat} (h : Cells7 w g o x.1) (h7 : w.cell? ⟨g, o + 7, none⟩ = some (.int .i64 x.2)) : (caLd (.pointer (some ⟨g, o, none⟩))).run Try.prog w = .ok (mvC x) w := by
  have := run_loadAt_mid (P := Try.prog) w g o 77 (cvals x) _ (fun j v hv => by
    have hj : j < 8 := (List.getElem?_eq_some_iff.1 hv).1
    have : j = 0 ∨ j = 1 ∨ j = 2 ∨ j = 3 ∨ j = 4 ∨ j = 5 ∨ j = 6 ∨ j = 7 := by omega
    rcases this with rfl | rfl | rfl | rfl | rfl | rfl | rfl | rfl <;> (simp [cvals, En.vals] at hv; subst hv; first | exact h.c0 | exact h.c1 | exact h.c2 | exact h.c3 | exact h.c4 | exact h.c5 | exact h.c6 | exact h7)) Try.underlying77 rfl Try.sizeCa
  exact this
attribute [irreducible] caLd
def caSt (a v : Value) : Sem Unit := Instr.storeAt 77 a v
theorem storeCa (a v : Value) : Instr.storeAt 77 a v = caSt a v := rfl
theorem caSt_of {w W : World} {g : Nat} {old : Array Value} {t : TypeId} {x : En × Nat} (h : w.heap[g]? = some (.cells old t (0, 0))) (ho : old.size = 8) (hW : w.setRow g (cvals x).toArray = W) : (caSt (.pointer (some ⟨g, 0, none⟩)) (mvC x)).run Try.prog w = .ok () W := by
  subst hW
  have h1 : (cvals x).toArray.all (·.oneCell') = true := by rw [Array.all_eq_true']; intro v hv; exact cvals_one x v (by simpa using hv)
  have := run_storeVar_row w g t 77 old (cvals x).toArray h Try.sizeCa (by rw [ho]; rfl) h1
  unfold caSt Instr.storeAt Instr.sureAddr
  simp only [show mvC x = .agg (cvals x).toArray from rfl]
  simpa using this
attribute [irreducible] caSt
theorem cells7_c {w : World} {g : Nat} {t : TypeId} {x : En × Nat} (h : w.heap[g]? = some (.cells (cvals x).toArray t (0, 0))) : Cells7 w g 0 x.1 ∧ w.cell? ⟨g, 7, none⟩ = some (.int .i64 x.2) :=
  ⟨⟨by rw [cell_of h]; rfl, by rw [cell_of h]; rfl, by rw [cell_of h]; rfl, by rw [cell_of h]; rfl, by rw [cell_of h]; rfl, by rw [cell_of h]; rfl, by rw [cell_of h]; rfl⟩, by rw [cell_of h]; rfl⟩
attribute [local go_sem ↓ high] loadEn storeEn loadCa storeCa

abbrev zeroes7 : Array Value := #[.int .i64 0, .string ⟨#[]⟩, .bool false, .int .i64 0, .int .i64 0, .int .i64 0, .string ⟨#[]⟩]
abbrev zeroes8 : Array Value := #[.int .i64 0, .string ⟨#[]⟩, .bool false, .int .i64 0, .int .i64 0, .int .i64 0, .string ⟨#[]⟩, .int .i64 0]
set_option maxHeartbeats 2000000 in
theorem get_p (p : Nat) (c : Pc) (k : Ky) (w : World) (h : IsC w p c) : Calls Try.prog 114 #[.pointer (some ⟨p, 0, none⟩), .agg #[.int .i64 k.d, .string k.nm]] w fun x w' => x = .returned (.tuple #[((mget (inn c.om k.d) k.nm).getD (zeroEn, 0)).1.agg, .bool (mget (inn c.om k.d) k.nm).isSome]) ∧ Below w.heap.size w w' := by
  obtain ⟨W1, hW1⟩ : ∃ W, w.alloc (.cells #[.int .i64 k.d, .string k.nm] 28) = W := ⟨_, rfl⟩
  have b1 := boxO hW1
  obtain ⟨W2, hW2⟩ : ∃ W, W1.alloc (.cells zeroes7 42) = W := ⟨_, rfl⟩
  have b2 := boxO hW2
  obtain ⟨W3, hW3⟩ : ∃ W, W2.alloc (.cells zeroes8 77) = W := ⟨_, rfl⟩
  have b3 := boxO hW3
  have h2 := (h.below b1.2.1).below b2.2.1
  obtain ⟨x, hx⟩ : ∃ x, (mget (inn c.om k.d) k.nm).getD (zeroEn, 0) = x := ⟨_, rfl⟩
  obtain ⟨b, hb⟩ : ∃ x, (mget (inn c.om k.d) k.nm).isSome = x := ⟨_, rfl⟩
  rw [hx, hb]
  obtain ⟨W4, hW4⟩ : ∃ W, W3.drew.setRow W2.heap.size (cvals x).toArray = W := ⟨_, rfl⟩
  have b4 : W4.heap[W2.heap.size]? = some (.cells (cvals x).toArray 77 (0, 0)) := by
    rw [← hW4]; exact setRow_heap _ _ _ _ _ _ b3.1
  have o4 : Only (· = W2.heap.size) W3 W4 := by rw [← hW4]; exact (Only.refl _ W3).drew.trans (onlyR _ _ _)
  obtain ⟨W5, hW5⟩ : ∃ W, W4.setRow W1.heap.size x.1.vals.toArray = W := ⟨_, rfl⟩
  have z4 : W4.heap[W1.heap.size]? = some (.cells zeroes7 42 (0, 0)) := (o4.block _ (by omega) (by omega)).trans ((b3.2.1.block _ (by omega)).trans b2.1)
  have b5 : W5.heap[W1.heap.size]? = some (.cells x.1.vals.toArray 42 (0, 0)) := by rw [← hW5]; exact setRow_heap _ _ _ _ _ _ z4
  have s1 : (caSt (.pointer (some ⟨W2.heap.size, 0, none⟩)) (mvC x)).run Try.prog W3.drew = .ok () W4 := caSt_of b3.1 rfl hW4
  have l1 : (enLd (.pointer (some ⟨W2.heap.size, 0, none⟩))).run Try.prog W4 = .ok x.1.agg W4 := enLd_at (cells7_c b4).1
  have s2 : (enSt (.pointer (some ⟨W1.heap.size, 0, none⟩)) x.1.agg).run Try.prog W4 = .ok () W5 := enSt_of z4 rfl hW5
  obtain ⟨gd, hgd⟩ : ∃ x, c.dir k.d = x := ⟨_, rfl⟩
  have kS : ∀ W, Below W2.heap.size W2 W → W.cell? ⟨p, 0, none⟩ = some (.map (some c.g0)) ∧ W.cell? ⟨w.heap.size, 0, none⟩ = some (.int .i64 k.d) ∧ W.cell? ⟨w.heap.size, 1, none⟩ = some (.string k.nm) ∧ (Instr.lookup 71 (.map (some c.g0)) (.int .i64 k.d) false).run Try.prog W = .ok (.map gd) W ∧ (Instr.lookup 75 (.map gd) (.string k.nm) true).run Try.prog W = .ok (.tuple #[mvC x, .bool b]) W := fun W hW => by
    have l1 := (h2.below hW).look k.d
    have l2 := (h2.below hW).look2 k.d k.nm
    rw [hgd] at l1 l2
    rw [hx, hb] at l2
    have bb := hkeep (hkeep b1.1 b2.2.1) hW
    exact ⟨(h2.below hW).cells.1, by rw [cell_of bb]; rfl, by rw [cell_of bb]; rfl, l1, l2⟩
  have HB : Hid (Below w.heap.size w W5) := by
    have e1 := chainB (chainB b1.2.1 b2.2.1) b3.2.1
    refine Only.below (S := fun k => k = W2.heap.size ∨ k = W1.heap.size) e1 ((o4.mono fun k e => .inl e).trans ?_) e1.size (fun k e => by rcases e with e | e <;> omega)
    rw [← hW5]
    exact (onlyR _ _ _).mono fun k e => .inr e
  have k0 := kS W2 (Below.refl _ _)
  have k1 := kS W2.drew (below_drewN (Below.refl _ W2) 1)
  have k2 := kS W3.drew (below_drewN b3.2.1 1)
  have k4 : W4.cell? ⟨p, 0, none⟩ = some (.map (some c.g0)) ∧ W4.cell? ⟨w.heap.size, 0, none⟩ = some (.int .i64 k.d) ∧ W4.cell? ⟨w.heap.size, 1, none⟩ = some (.string k.nm) ∧ (Instr.lookup 71 (.map (some c.g0)) (.int .i64 k.d) false).run Try.prog W4 = .ok (.map gd) W4 ∧ (Instr.lookup 75 (.map gd) (.string k.nm) true).run Try.prog W4 = .ok (.tuple #[mvC x, .bool b]) W4 := kS W4 (o4.below b3.2.1 b3.2.1.size (fun k e => by omega))
  have HR : Hid (W5.heap[W1.heap.size]? = some (.cells x.1.vals.toArray 42 (0, 0))) := b5
  have e1 : w.heap.size + 1 = W1.heap.size := b1.2.2.symm
  have e2 : W1.heap.size + 1 = W2.heap.size := b2.2.2.symm
  clear h h2 hx hb b1 b2 b3 b4 b5 hgd kS o4 z4 hW4 hW5
  go_enter Try.func114, Try.ntmps114
  go_upto_region 1 with fail
  go_region_held3 (fun W => W.cell? ⟨p, 0, none⟩ = some (.map (some c.g0)) ∧ W.cell? ⟨w.heap.size, 0, none⟩ = some (.int .i64 k.d) ∧ W.cell? ⟨w.heap.size, 1, none⟩ = some (.string k.nm) ∧ (Instr.lookup 71 (.map (some c.g0)) (.int .i64 k.d) false).run Try.prog W = .ok (.map gd) W ∧ (Instr.lookup 75 (.map gd) (.string k.nm) true).run Try.prog W = .ok (.tuple #[mvC x, .bool b]) W)
    (with_reducible first | exact k1 | exact k2 | exact k4)
    (fail)
  all_goals (go_wp2; (try simp only [Exit.inBlock, Exit.then]); refine bodyPost_ret (ret_entry2 rfl _ _ W1.heap.size rfl HR.out) rfl ?_; exact ⟨rfl, HB.out⟩)
end
section
open Go.RowKit

/-- a cached entry built, shut -/
def caBd (ps : Array (Nat × Value)) : Sem Value := Instr.build 77 ps
theorem buildCa (ps : Array (Nat × Value)) : Instr.build 77 ps = caBd ps := rfl
theorem caBd_of (e : En) (u : Nat) (w : World) : (caBd #[(0, e.agg), (1, .int .i64 u)]).run Try.prog w = .ok (mvC (e, u)) w := by
  unfold caBd Instr.build
  simp [run_underlying Try.underlying77, Try.sizeOf42, Try.sizeOf3, Try.zeroValue77, Instr.fill, Value.cells, En.agg, mvC]
attribute [irreducible] caBd
theorem eqMN (w : World) (a : Option Nat) : (binOp .eql 75 (.map a) (.map none)).run Try.prog w = .ok (.bool a.isNone) w := by
  have h : (Op.equalIn Op.maxDepth 75 (.map a) (.map none)).run Try.prog w = .ok a.isNone w := by
    show (Op.equalIn (9999 + 1) 75 (.map a) (.map none)).run Try.prog w = _
    unfold Op.equalIn
    cases a <;> simp [run_underlying Try.underlying75]
  simp [binOp, Op.equal, h]
attribute [local go_sem ↓ high] loadEn storeEn loadCa storeCa buildCa
attribute [local go_sem high] eqMN

set_option maxHeartbeats 2000000 in
theorem put_bad (p : Nat) (e : En) (w : World) (he : e.nm = nob) : Calls Try.prog 14 #[.pointer (some ⟨p, 0, none⟩), e.agg] w fun x w' => x = .returned (.int .i64 1) ∧ Below w.heap.size w w' := by
  obtain ⟨d, nm, neg, id, kd, mo, tg⟩ := e
  simp only at he
  subst he
  unfold nob En.agg
  simp only
  go_enter Try.func14, Try.ntmps14
  go_wp2
  go_ret
  exact ⟨rfl, below_alloc _ _⟩
theorem IsC.dirO {w : World} {p : Nat} {c : Pc} {A B : Pm} {d : Int} {g : Nat} {l : List (ByteArray × En × Nat)} (h : IsC w p c) (ho : c.om = A ++ (d, g, l) :: B) : c.dir d = some g ∧ PmOk (A ++ (d, g, l) :: B) ∧ inn c.om d = l := by
  have ok := h.ok
  rw [ho] at ok
  refine ⟨?_, ok, by rw [ho]; exact inn_some ok.lA.1⟩
  unfold Pc.dir om2
  rw [ho, List.map_append, List.map_cons]
  exact mget_some fun x hx => by obtain ⟨y, hy, rfl⟩ := List.mem_map.1 hx; exact ok.lA.1 y hy
theorem nob_list : nob.toList = [] := by rw [ByteArray.toList_eq]; rfl
/-- what is read ahead of the store -/
def PutS (p b g0 U g : Nat) (e : En) (W : World) : Prop := W.cell? ⟨p, 0, none⟩ = some (.map (some g0)) ∧ W.cell? ⟨p, 2, none⟩ = some (.int .i64 (U : Int)) ∧ W.cell? ⟨b, 0, none⟩ = some (.int .i64 e.d) ∧ W.cell? ⟨b, 1, none⟩ = some (.string e.nm) ∧ (enLd (.pointer (some ⟨b, 0, none⟩))).run Try.prog W = .ok e.agg W ∧ (Instr.lookup 71 (.map (some g0)) (.int .i64 e.d) false).run Try.prog W = .ok (.map (some g)) W ∧ (caBd #[(0, e.agg), (1, .int .i64 (U : Int))]).run Try.prog W = .ok (mvC (e, U)) W
theorem putS_of {W : World} {p b : Nat} {c : Pc} {A B : Pm} {g : Nat} {l : List (ByteArray × En × Nat)} {e : En} (h : IsC W p c) (ho : c.om = A ++ (e.d, g, l) :: B) (hb : Cells7 W b 0 e) : PutS p b c.g0 c.uses g e W := by
  obtain ⟨c0, -, c2, -⟩ := h.cells
  have l1 := h.look e.d
  rw [(h.dirO ho).1] at l1
  exact ⟨c0, c2, hb.c0, hb.c1, enLd_at hb, l1, caBd_of e c.uses W⟩
theorem Cells7.moved {w w' : World} {g o : Nat} {e : En} (h : Cells7 w g o e) (hb : w'.heap[g]? = w.heap[g]?) : Cells7 w' g o e :=
  ⟨(World.cell?_of_block hb).trans h.c0, (World.cell?_of_block hb).trans h.c1, (World.cell?_of_block hb).trans h.c2, (World.cell?_of_block hb).trans h.c3, (World.cell?_of_block hb).trans h.c4, (World.cell?_of_block hb).trans h.c5, (World.cell?_of_block hb).trans h.c6⟩
theorem put_mid {W1 V : World} {p b nq U : Nat} {c : Pc} {A B : Pm} {g : Nat} {l : List (ByteArray × En × Nat)} {e : En} (h1 : IsC W1 p c) (bx : Cells7 W1 b 0 e) (pw : p ≠ b) (gw : b ≠ g) (ho : c.om = A ++ (e.d, g, l) :: B) (hV : (W1.drewN nq).setCell ⟨p, 2, none⟩ (.int .i64 (U : Int)) = V) :
    ∃ V2, (Instr.mapUpdate 75 (.map (some g)) (.string e.nm) (mvC (e, U))).run Try.prog V.drew = .ok () V2 ∧ Hid (Aft W1 V2 p c ⟨c.g0, c.g1, A ++ (e.d, g, mput l e.nm (e, U)) :: B, c.wl, U⟩) ∧ PutS p b c.g0 U g e V.drew ∧ PutS p b c.g0 U g e V2 := by
  have hd := h1.drewN nq
  have hc := hd.count U
  rw [hV] at hc
  have bd : Below W1.heap.size W1 (W1.drewN nq) := below_drewN (Below.refl _ _) nq
  have bx1 : Cells7 V b 0 e := by
    refine (bx.below bd).moved (hc.2.block _ ?_ (fun e => pw e.symm))
    have := cellLt (bx.below bd).c0
    exact this
  have hi : IsC V.drew p { c with uses := U } := hc.1.drewN 1
  have ho' : ({ c with uses := U } : Pc).om = A ++ (e.d, g, l) :: B := ho
  have hg : (e.d, g, l) ∈ c.om := by rw [ho]; simp
  obtain ⟨-, ok, -⟩ := h1.dirO ho
  obtain ⟨V2, hr, hm, hO, -⟩ := storeM kS undI V.drew g l (hi.inner _ hg) e.nm (e, U)
  have a2 := hi.setI ho' hm hO (mput_keys ok.l.1 _ _) (fun q hq => by
    rcases mem_mput ok.l.1 hq with rfl | hq
    · exact ⟨rfl, rfl⟩
    · exact ok.l.2 q hq)
  have a1 : Aft (W1.drewN nq) V p c { c with uses := U } := ⟨hc.1, hc.2.mono fun k e => .inl e, fun k hk => .inl hk⟩
  refine ⟨V2, hr, (Aft.pre h1 bd a1).trans (Aft.pre hc.1 (below_drewN (Below.refl _ V) 1) a2), putS_of (c := { c with uses := U }) hi ho' (bx1.below (below_drewN (Below.refl _ V) 1)), ?_⟩
  refine putS_of (c := { c with om := A ++ (e.d, g, mput l e.nm (e, U)) :: B, uses := U }) a2.is rfl ((bx1.below (below_drewN (Below.refl _ V) 1)).moved (hO.block _ (cellLt (bx1.below (below_drewN (Below.refl _ V) 1)).c0) gw))
set_option maxHeartbeats 2000000 in
theorem put_old (p : Nat) (c : Pc) (A B : Pm) (g : Nat) (l : List (ByteArray × En × Nat)) (e : En) (w : World) (h : IsC w p c) (he : e.nm ≠ nob) (ho : c.om = A ++ (e.d, g, l) :: B) (hu : c.uses < 4611686018427387904) : Calls Try.prog 14 #[.pointer (some ⟨p, 0, none⟩), e.agg] w fun x w' => x = .returned (.int .i64 0) ∧ Aft w w' p c ⟨c.g0, c.g1, A ++ (e.d, g, mput l e.nm (e, c.uses + 1)) :: B, c.wl, c.uses + 1⟩ := by
  obtain ⟨hdir, hok, hinn⟩ := h.dirO ho
  obtain ⟨W1, hW1⟩ : ∃ W, w.alloc (.cells #[.int .i64 e.d, .string e.nm, .bool e.neg, .int .i64 e.id, .int .i64 e.kind, .int .i64 e.mode, .string e.tg] 42) = W := ⟨_, rfl⟩
  have b1 := boxO hW1
  have h1 := h.below b1.2.1
  obtain ⟨c0, -, c2, cf⟩ := h1.cells
  have bx : Cells7 W1 w.heap.size 0 e := cells7_of b1.1
  have k0 := bx.c0
  have k1 := bx.c1
  have hl1 : ∀ n, (Instr.lookup 71 (.map (some c.g0)) (.int .i64 e.d) false).run Try.prog (W1.drewN n) = .ok (.map (some g)) (W1.drewN n) := fun n => by
    have := (h1.drewN n).look e.d
    rw [hdir] at this; exact this
  obtain ⟨U, hU⟩ : ∃ U, c.uses + 1 = U := ⟨_, rfl⟩
  have hUi : IntKind.i64.wrap ((c.uses : Int) + 1) = (U : Int) := by
    rw [show ((U : Nat) : Int) = (c.uses : Int) + 1 by omega]; exact IntWalk.i64_in _ (by omega)
  have hnm : (e.nm.toList == []) = false := by
    cases hh : (e.nm.toList == []) with
    | false => rfl
    | true =>
      have h0 : e.nm.toList = [] := eq_of_beq hh
      exact absurd (bytes_eq.1 (h0.trans nob_list.symm)) he
  rw [hU]
  have HI : Hid (IsC W1 p c ∧ IsC w p c ∧ Below w.heap.size w W1 ∧ Cells7 W1 w.heap.size 0 e ∧ c.om = A ++ (e.d, g, l) :: B ∧ p ≠ w.heap.size ∧ w.heap.size ≠ g) := by
    refine ⟨h1, h, b1.2.1, bx, ho, ?_, ?_⟩
    · have := h.lt (k := p) (.inl rfl); omega
    · have := (h.inner (e.d, g, l) (by rw [ho]; simp)).lt
      intro e'
      simp only at this
      omega
  unfold En.agg
  clear h h1 ho b1 hok hinn bx hdir he hu hU
  go_enter Try.func14, Try.ntmps14
  go_upto_region 3 with fail
  clear hW1
  go_quiet (fail)
  go_upto_region 6 with fail
  obtain ⟨V, hV⟩ : ∃ V, (W1.drewN nq).setCell ⟨p, 2, none⟩ (.int .i64 (U : Int)) = V := ⟨_, rfl⟩
  rw [hV]
  obtain ⟨V2, hr, HE, kS, kT⟩ := put_mid HI.out.1 HI.out.2.2.2.1 HI.out.2.2.2.2.2.1 HI.out.2.2.2.2.2.2 HI.out.2.2.2.2.1 hV
  have HE2 : Hid (Aft w V2 p c ⟨c.g0, c.g1, A ++ (e.d, g, mput l e.nm (e, U)) :: B, c.wl, U⟩) := Aft.pre HI.out.2.1 HI.out.2.2.1 HE.out
  clear hV HI hl1 k0 k1 c0 c2 cf
  unfold PutS at kS kT
  go_region_held3 (fun W => W.cell? ⟨p, 0, none⟩ = some (.map (some c.g0)) ∧ W.cell? ⟨p, 2, none⟩ = some (.int .i64 (U : Int)) ∧ W.cell? ⟨w.heap.size, 0, none⟩ = some (.int .i64 e.d) ∧ W.cell? ⟨w.heap.size, 1, none⟩ = some (.string e.nm) ∧ (enLd (.pointer (some ⟨w.heap.size, 0, none⟩))).run Try.prog W = .ok e.agg W ∧ (Instr.lookup 71 (.map (some c.g0)) (.int .i64 e.d) false).run Try.prog W = .ok (.map (some g)) W ∧ (caBd #[(0, e.agg), (1, .int .i64 (U : Int))]).run Try.prog W = .ok (mvC (e, U)) W)
    (with_reducible first | exact kS | exact kT)
    (first | (refine step_updM rfl (.tmp 40) (.tmp 43) (.tmp 49) 75 rfl _ _ _ (by simp [Act.eval]) (by simp [Act.eval]) (by simp [Act.eval]) V2 hr ?_))
  go_wp2
  go_ret
  exact ⟨rfl, HE2.out⟩
set_option maxHeartbeats 2000000 in
theorem put_new (p : Nat) (c : Pc) (e : En) (w : World) (h : IsC w p c) (he : e.nm ≠ nob) (hn : ∀ x ∈ c.om, e.d ≠ x.1) (hu : c.uses < 4611686018427387904) : Calls Try.prog 14 #[.pointer (some ⟨p, 0, none⟩), e.agg] w fun x w' => x = .returned (.int .i64 0) ∧ ∃ g, Aft w w' p c ⟨c.g0, c.g1, c.om ++ [(e.d, g, mput [] e.nm (e, c.uses + 1))], c.wl, c.uses + 1⟩ := by
  have hdir : c.dir e.d = none := mget_none fun x hx => by obtain ⟨y, hy, rfl⟩ := List.mem_map.1 hx; exact hn y hy
  obtain ⟨W1, hW1⟩ : ∃ W, w.alloc (.cells #[.int .i64 e.d, .string e.nm, .bool e.neg, .int .i64 e.id, .int .i64 e.kind, .int .i64 e.mode, .string e.tg] 42) = W := ⟨_, rfl⟩
  have b1 := boxO hW1
  have h1 := h.below b1.2.1
  obtain ⟨c0, -, c2, cf⟩ := h1.cells
  have bx : Cells7 W1 w.heap.size 0 e := cells7_of b1.1
  have k0 := bx.c0
  have k1 := bx.c1
  have hl1 : ∀ n, (Instr.lookup 71 (.map (some c.g0)) (.int .i64 e.d) false).run Try.prog (W1.drewN n) = .ok (.map none) (W1.drewN n) := fun n => by
    have := (h1.drewN n).look e.d
    rw [hdir] at this; exact this
  obtain ⟨U, hU⟩ : ∃ U, c.uses + 1 = U := ⟨_, rfl⟩
  have hUi : IntKind.i64.wrap ((c.uses : Int) + 1) = (U : Int) := by
    rw [show ((U : Nat) : Int) = (c.uses : Int) + 1 by omega]; exact IntWalk.i64_in _ (by omega)
  have hnm : (e.nm.toList == []) = false := by
    cases hh : (e.nm.toList == []) with
    | false => rfl
    | true =>
      have h0 : e.nm.toList = [] := eq_of_beq hh
      exact absurd (bytes_eq.1 (h0.trans nob_list.symm)) he
  rw [hU]
  have HI : Hid (IsC W1 p c ∧ IsC w p c ∧ Below w.heap.size w W1 ∧ Cells7 W1 w.heap.size 0 e ∧ (∀ x ∈ c.om, e.d ≠ x.1) ∧ p ≠ w.heap.size ∧ w.heap.size < W1.heap.size) := by
    refine ⟨h1, h, b1.2.1, bx, hn, ?_, by omega⟩
    have := h.lt (k := p) (.inl rfl); omega
  unfold En.agg
  clear h h1 b1 bx hdir he hu hU hn
  go_enter Try.func14, Try.ntmps14
  go_upto_region 3 with fail
  clear hW1
  go_quiet (fail)
  go_upto_region 4 with fail
  obtain ⟨X, hX⟩ : ∃ X, W1.drewN nq = X := ⟨_, rfl⟩
  rw [hX]
  obtain ⟨X2, hX2⟩ : ∃ X2, X.alloc (.map #[] 0) = X2 := ⟨_, rfl⟩
  have hmm : ∀ t, (Instr.makeMap t none).run Try.prog X = .ok (.map (some X.heap.size)) X2 := fun t => by rw [← hX2]; exact run_makeMap t X
  have hmd : ∀ t, (Instr.makeMap t none).run Try.prog X.drew = .ok (.map (some X.heap.size)) X2.drew := fun t => by rw [← hX2]; exact run_makeMap t X.drew
  obtain ⟨V, hr, HV, kX, kY, kZ⟩ : ∃ V, (Instr.mapUpdate 71 (.map (some c.g0)) (.int .i64 e.d) (.map (some X.heap.size))).run Try.prog X2.drew = .ok () V ∧ Hid (Aft w V p c { c with om := c.om ++ [(e.d, X.heap.size, [])] } ∧ Cells7 V w.heap.size 0 e ∧ p ≠ w.heap.size ∧ w.heap.size ≠ X.heap.size) ∧
      (X.drew.cell? ⟨p, 0, none⟩ = some (.map (some c.g0)) ∧ X.drew.cell? ⟨w.heap.size, 0, none⟩ = some (.int .i64 e.d)) ∧ (X2.drew.cell? ⟨p, 0, none⟩ = some (.map (some c.g0)) ∧ X2.drew.cell? ⟨w.heap.size, 0, none⟩ = some (.int .i64 e.d)) ∧ (V.cell? ⟨p, 0, none⟩ = some (.map (some c.g0)) ∧ V.cell? ⟨w.heap.size, 0, none⟩ = some (.int .i64 e.d)) := by
    obtain ⟨i1, i2, i3, i4, i5, i6, i7⟩ := HI.out
    have bX : Below W1.heap.size W1 X := by rw [← hX]; exact below_drewN (Below.refl _ _) nq
    have b2 := boxO hX2
    have b2' : Below X.heap.size X X2.drew := b2.2.1.drew
    have iX := i1.below bX
    have iX2 := iX.below b2'
    have m0 : MapAt (κ := ByteArray) (β := En × Nat) Value.string mvC X2.drew X.heap.size [] := by rw [← hX2]; exact madeM X _ _
    obtain ⟨V, hr, hm, hO, -⟩ := storeM kI undO X2.drew c.g0 _ iX2.outer e.d X.heap.size
    have a := iX.newI i5 (Nat.le_refl _) b2' m0 hm hO
    have cX := i4.below bX
    have cX2 := cX.below b2'
    have lt0 := cellLt cX.c0
    have cV : Cells7 V w.heap.size 0 e := cX2.moved (hO.block _ (cellLt cX2.c0) (fun e' => by
      have h1 := i2.outer.lt
      omega))
    exact ⟨V, hr, ⟨Aft.pre i2 i3 (Aft.pre i1 bX a), cV, i6, by simp only at lt0; omega⟩, ⟨iX.cells.1, cX.c0⟩, ⟨iX2.cells.1, cX2.c0⟩, ⟨a.is.cells.1, cV.c0⟩⟩
  clear hX HI hl1 k0 k1 c0 c2 cf hX2
  go_region_held3 (fun W => W.cell? ⟨p, 0, none⟩ = some (.map (some c.g0)) ∧ W.cell? ⟨w.heap.size, 0, none⟩ = some (.int .i64 e.d))
    (with_reducible first | exact kX | exact kY | exact kZ)
    (first | (refine step_updM rfl (.tmp 21) (.tmp 24) (.tmp 25) 71 rfl _ _ _ (by simp [Act.eval]) (by simp [Act.eval]) (by simp [Act.eval]) V hr ?_))
  all_goals (
    obtain ⟨-, -, c2, cf⟩ := HV.out.1.is.cells
    go_upto_region 6 with fail
    obtain ⟨V1, hV1⟩ : ∃ V1, V.setCell ⟨p, 2, none⟩ (.int .i64 (U : Int)) = V1 := ⟨_, rfl⟩
    rw [hV1]
    obtain ⟨V2, hr2, HE, kS, kT⟩ := put_mid (nq := 0) (A := c.om) (B := []) (l := []) HV.out.1.is HV.out.2.1 HV.out.2.2.1 HV.out.2.2.2 rfl hV1
    have HE2 : Hid (Aft w V2 p c ⟨c.g0, c.g1, c.om ++ [(e.d, X.heap.size, mput [] e.nm (e, U))], c.wl, U⟩) := HV.out.1.trans HE.out
    unfold PutS at kS kT
    clear hV1 hr HV HE kX kY kZ hmm hmd c2 cf
    go_region_held3 (fun W => W.cell? ⟨p, 0, none⟩ = some (.map (some c.g0)) ∧ W.cell? ⟨p, 2, none⟩ = some (.int .i64 (U : Int)) ∧ W.cell? ⟨w.heap.size, 0, none⟩ = some (.int .i64 e.d) ∧ W.cell? ⟨w.heap.size, 1, none⟩ = some (.string e.nm) ∧ (enLd (.pointer (some ⟨w.heap.size, 0, none⟩))).run Try.prog W = .ok e.agg W ∧ (Instr.lookup 71 (.map (some c.g0)) (.int .i64 e.d) false).run Try.prog W = .ok (.map (some X.heap.size)) W ∧ (caBd #[(0, e.agg), (1, .int .i64 (U : Int))]).run Try.prog W = .ok (mvC (e, U)) W)
      (with_reducible first | exact kS | exact kT)
      (first | (refine step_updM rfl (.tmp 40) (.tmp 43) (.tmp 49) 75 rfl _ _ _ (by simp [Act.eval]) (by simp [Act.eval]) (by simp [Act.eval]) V2 hr2 ?_))
    go_wp2
    go_ret
    exact ⟨rfl, _, HE2.out⟩)
end
end Go.Proofs.Ytppbbddlbfgpfaa
