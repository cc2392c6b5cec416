/- Put. -/
import Derived.Test.YtabdicbmecgogaaJPEpt06
namespace Go.Proofs.Ytabdicbmecgogaa
section
open Go.RowKit

/-- a cached entry built, shut -/
def caBd (ps : Array (Nat × Value)) : Sem Value := Instr.build 78 ps
theorem buildCa (ps : Array (Nat × Value)) : Instr.build 78 ps = caBd ps := rfl
theorem caBd_of (e : En) (u : Nat) (w : World) : (caBd #[(0, e.agg), (1, .int .i64 u)]).run Try.prog w = .ok (mvC (e, u)) w := by
  unfold caBd Instr.build
  simp [run_underlying Try.underlying78, Try.sizeOf47, Try.sizeOf3, Try.zeroValue78, Instr.fill, Value.cells, En.agg, mvC]
attribute [irreducible] caBd
theorem eqMN (w : World) (a : Option Nat) : (binOp .eql 76 (.map a) (.map none)).run Try.prog w = .ok (.bool a.isNone) w := by
  have h : (Op.equalIn Op.maxDepth 76 (.map a) (.map none)).run Try.prog w = .ok a.isNone w := by
    show (Op.equalIn (9999 + 1) 76 (.map a) (.map none)).run Try.prog w = _
    unfold Op.equalIn
    cases a <;> simp [run_underlying Try.underlying76]
  simp [binOp, Op.equal, h]
attribute [local go_sem ↓ high] loadEn storeEn loadCa storeCa buildCa
attribute [local go_sem high] eqMN

set_option maxHeartbeats 2000000 in
theorem put_bad (p : Nat) (e : En) (w : World) (he : e.nm = nob) : Calls Try.prog 20 #[.pointer (some ⟨p, 0, none⟩), e.agg] w fun x w' => x = .returned (.int .i64 1) ∧ Below w.heap.size w w' := by
  obtain ⟨d, nm, neg, id, kd, mo, tg⟩ := e
  simp only at he
  subst he
  unfold nob En.agg
  simp only
  go_enter Try.func20, Try.ntmps20
  go_wp2
  go_ret
  exact ⟨rfl, below_alloc _ _⟩
theorem IsC.dirO {w : World} {p : Nat} {c : Pc} {A B : Pm} {d : Int} {g : Nat} {l : List (ByteArray × En × Nat)} (h : IsC w p c) (ho : c.om = A ++ (d, g, l) :: B) : c.dir d = some g ∧ PmOk (A ++ (d, g, l) :: B) ∧ inn c.om d = l := by
  have ok := h.ok
  rw [ho] at ok
  refine ⟨?_, ok, by rw [ho]; exact inn_some ok.lA.1⟩
  unfold Pc.dir om2
  rw [ho, List.map_append, List.map_cons]
  exact mget_some fun x hx => by obtain ⟨y, hy, rfl⟩ := List.mem_map.1 hx; exact ok.lA.1 y hy
theorem nob_list : nob.toList = [] := by rw [ByteArray.toList_eq]; rfl
/-- what is read ahead of the store -/
def PutS (p b g0 U g : Nat) (e : En) (W : World) : Prop := W.cell? ⟨p, 0, none⟩ = some (.map (some g0)) ∧ W.cell? ⟨p, 2, none⟩ = some (.int .i64 (U : Int)) ∧ W.cell? ⟨b, 0, none⟩ = some (.int .i64 e.d) ∧ W.cell? ⟨b, 1, none⟩ = some (.string e.nm) ∧ (enLd (.pointer (some ⟨b, 0, none⟩))).run Try.prog W = .ok e.agg W ∧ (Instr.lookup 72 (.map (some g0)) (.int .i64 e.d) false).run Try.prog W = .ok (.map (some g)) W ∧ (caBd #[(0, e.agg), (1, .int .i64 (U : Int))]).run Try.prog W = .ok (mvC (e, U)) W
theorem putS_of {W : World} {p b : Nat} {c : Pc} {A B : Pm} {g : Nat} {l : List (ByteArray × En × Nat)} {e : En} (h : IsC W p c) (ho : c.om = A ++ (e.d, g, l) :: B) (hb : Cells7 W b 0 e) : PutS p b c.g0 c.uses g e W := by
  obtain ⟨c0, -, c2, -⟩ := h.cells
  have l1 := h.look e.d
  rw [(h.dirO ho).1] at l1
  exact ⟨c0, c2, hb.c0, hb.c1, enLd_at hb, l1, caBd_of e c.uses W⟩
theorem Cells7.moved {w w' : World} {g o : Nat} {e : En} (h : Cells7 w g o e) (hb : w'.heap[g]? = w.heap[g]?) : Cells7 w' g o e :=
  ⟨(World.cell?_of_block hb).trans h.c0, (World.cell?_of_block hb).trans h.c1, (World.cell?_of_block hb).trans h.c2, (World.cell?_of_block hb).trans h.c3, (World.cell?_of_block hb).trans h.c4, (World.cell?_of_block hb).trans h.c5, (World.cell?_of_block hb).trans h.c6⟩
theorem put_mid {W1 V : World} {p b nq U : Nat} {c : Pc} {A B : Pm} {g : Nat} {l : List (ByteArray × En × Nat)} {e : En} (h1 : IsC W1 p c) (bx : Cells7 W1 b 0 e) (pw : p ≠ b) (gw : b ≠ g) (ho : c.om = A ++ (e.d, g, l) :: B) (hV : (W1.drewN nq).setCell ⟨p, 2, none⟩ (.int .i64 (U : Int)) = V) :
    ∃ V2, (Instr.mapUpdate 76 (.map (some g)) (.string e.nm) (mvC (e, U))).run Try.prog V.drew = .ok () V2 ∧ Hid (Aft W1 V2 p c ⟨c.g0, c.g1, A ++ (e.d, g, mput l e.nm (e, U)) :: B, c.wl, U⟩) ∧ PutS p b c.g0 U g e V.drew ∧ PutS p b c.g0 U g e V2 := by
  have hd := h1.drewN nq
  have hc := hd.count U
  rw [hV] at hc
  have bd : Below W1.heap.size W1 (W1.drewN nq) := below_drewN (Below.refl _ _) nq
  have bx1 : Cells7 V b 0 e := by
    refine (bx.below bd).moved (hc.2.block _ ?_ (fun e => pw e.symm))
    have := cellLt (bx.below bd).c0
    exact this
  have hi : IsC V.drew p { c with uses := U } := hc.1.drewN 1
  have ho' : ({ c with uses := U } : Pc).om = A ++ (e.d, g, l) :: B := ho
  have hg : (e.d, g, l) ∈ c.om := by rw [ho]; simp
  obtain ⟨-, ok, -⟩ := h1.dirO ho
  obtain ⟨V2, hr, hm, hO, -⟩ := storeM kS undI V.drew g l (hi.inner _ hg) e.nm (e, U)
  have a2 := hi.setI ho' hm hO (mput_keys ok.l.1 _ _) (fun q hq => by
    rcases mem_mput ok.l.1 hq with rfl | hq
    · exact ⟨rfl, rfl⟩
    · exact ok.l.2 q hq)
  have a1 : Aft (W1.drewN nq) V p c { c with uses := U } := ⟨hc.1, hc.2.mono fun k e => .inl e, fun k hk => .inl hk⟩
  refine ⟨V2, hr, (Aft.pre h1 bd a1).trans (Aft.pre hc.1 (below_drewN (Below.refl _ V) 1) a2), putS_of (c := { c with uses := U }) hi ho' (bx1.below (below_drewN (Below.refl _ V) 1)), ?_⟩
  refine putS_of (c := { c with om := A ++ (e.d, g, mput l e.nm (e, U)) :: B, uses := U }) a2.is rfl ((bx1.below (below_drewN (Below.refl _ V) 1)).moved (hO.block _ (cellLt (bx1.below (below_drewN (Below.refl _ V) 1)).c0) gw))
set_option maxHeartbeats 2000000 in
theorem put_old (p : Nat) (c : Pc) (A B : Pm) (g : Nat) (l : List (ByteArray × En × Nat)) (e : En) (w : World) (h : IsC w p c) (he : e.nm ≠ nob) (ho : c.om = A ++ (e.d, g, l) :: B) (hu : c.uses < 4611686018427387904) : Calls Try.prog 20 #[.pointer (some ⟨p, 0, none⟩), e.agg] w fun x w' => x = .returned (.int .i64 0) ∧ Aft w w' p c ⟨c.g0, c.g1, A ++ (e.d, g, mput l e.nm (e, c.uses + 1)) :: B, c.wl, c.uses + 1⟩ := by
  obtain ⟨hdir, hok, hinn⟩ := h.dirO ho
  obtain ⟨W1, hW1⟩ : ∃ W, w.alloc (.cells #[.int .i64 e.d, .string e.nm, .bool e.neg, .int .i64 e.id, .int .i64 e.kind, .int .i64 e.mode, .string e.tg] 47) = W := ⟨_, rfl⟩
  have b1 := boxO hW1
  have h1 := h.below b1.2.1
  obtain ⟨c0, -, c2, cf⟩ := h1.cells
  have bx : Cells7 W1 w.heap.size 0 e := cells7_of b1.1
  have k0 := bx.c0
  have k1 := bx.c1
  have hl1 : ∀ n, (Instr.lookup 72 (.map (some c.g0)) (.int .i64 e.d) false).run Try.prog (W1.drewN n) = .ok (.map (some g)) (W1.drewN n) := fun n => by
    have := (h1.drewN n).look e.d
    rw [hdir] at this; exact this
  obtain ⟨U, hU⟩ : ∃ U, c.uses + 1 = U := ⟨_, rfl⟩
  have hUi : IntKind.i64.wrap ((c.uses : Int) + 1) = (U : Int) := by
    rw [show ((U : Nat) : Int) = (c.uses : Int) + 1 by omega]; exact IntWalk.i64_in _ (by omega)
  have hnm : (e.nm.toList == []) = false := by
    cases hh : (e.nm.toList == []) with
    | false => rfl
    | true =>
      have h0 : e.nm.toList = [] := eq_of_beq hh
      exact absurd (bytes_eq.1 (h0.trans nob_list.symm)) he
  rw [hU]
  have HI : Hid (IsC W1 p c ∧ IsC w p c ∧ Below w.heap.size w W1 ∧ Cells7 W1 w.heap.size 0 e ∧ c.om = A ++ (e.d, g, l) :: B ∧ p ≠ w.heap.size ∧ w.heap.size ≠ g) := by
    refine ⟨h1, h, b1.2.1, bx, ho, ?_, ?_⟩
    · have := h.lt (k := p) (.inl rfl); omega
    · have := (h.inner (e.d, g, l) (by rw [ho]; simp)).lt
      intro e'
      simp only at this
      omega
  unfold En.agg
  clear h h1 ho b1 hok hinn bx hdir he hu hU
  go_enter Try.func20, Try.ntmps20
  go_upto_region 3 with fail
  clear hW1
  go_quiet (fail)
  go_upto_region 6 with fail
  obtain ⟨V, hV⟩ : ∃ V, (W1.drewN nq).setCell ⟨p, 2, none⟩ (.int .i64 (U : Int)) = V := ⟨_, rfl⟩
  rw [hV]
  obtain ⟨V2, hr, HE, kS, kT⟩ := put_mid HI.out.1 HI.out.2.2.2.1 HI.out.2.2.2.2.2.1 HI.out.2.2.2.2.2.2 HI.out.2.2.2.2.1 hV
  have HE2 : Hid (Aft w V2 p c ⟨c.g0, c.g1, A ++ (e.d, g, mput l e.nm (e, U)) :: B, c.wl, U⟩) := Aft.pre HI.out.2.1 HI.out.2.2.1 HE.out
  clear hV HI hl1 k0 k1 c0 c2 cf
  unfold PutS at kS kT
  go_region_held3 (fun W => W.cell? ⟨p, 0, none⟩ = some (.map (some c.g0)) ∧ W.cell? ⟨p, 2, none⟩ = some (.int .i64 (U : Int)) ∧ W.cell? ⟨w.heap.size, 0, none⟩ = some (.int .i64 e.d) ∧ W.cell? ⟨w.heap.size, 1, none⟩ = some (.string e.nm) ∧ (enLd (.pointer (some ⟨w.heap.size, 0, none⟩))).run Try.prog W = .ok e.agg W ∧ (Instr.lookup 72 (.map (some c.g0)) (.int .i64 e.d) false).run Try.prog W = .ok (.map (some g)) W ∧ (caBd #[(0, e.agg), (1, .int .i64 (U : Int))]).run Try.prog W = .ok (mvC (e, U)) W)
    (with_reducible first | exact kS | exact kT)
    (first | (refine step_updM rfl (.tmp 40) (.tmp 43) (.tmp 49) 76 rfl _ _ _ (by simp [Act.eval]) (by simp [Act.eval]) (by simp [Act.eval]) V2 hr ?_))
  go_wp2
  go_ret
  exact ⟨rfl, HE2.out⟩
set_option maxHeartbeats 2000000 in
theorem put_new (p : Nat) (c : Pc) (e : En) (w : World) (h : IsC w p c) (he : e.nm ≠ nob) (hn : ∀ x ∈ c.om, e.d ≠ x.1) (hu : c.uses < 4611686018427387904) : Calls Try.prog 20 #[.pointer (some ⟨p, 0, none⟩), e.agg] w fun x w' => x = .returned (.int .i64 0) ∧ ∃ g, Aft w w' p c ⟨c.g0, c.g1, c.om ++ [(e.d, g, mput [] e.nm (e, c.uses + 1))], c.wl, c.uses + 1⟩ := by
  have hdir : c.dir e.d = none := mget_none fun x hx => by obtain ⟨y, hy, rfl⟩ := List.mem_map.1 hx; exact hn y hy
  obtain ⟨W1, hW1⟩ : ∃ W, w.alloc (.cells #[.int .i64 e.d, .string e.nm, .bool e.neg, .int .i64 e.id, .int .i64 e.kind, .int .i64 e.mode, .string e.tg] 47) = W := ⟨_, rfl⟩
  have b1 := boxO hW1
  have h1 := h.below b1.2.1
  obtain ⟨c0, -, c2, cf⟩ := h1.cells
  have bx : Cells7 W1 w.heap.size 0 e := cells7_of b1.1
  have k0 := bx.c0
  have k1 := bx.c1
  have hl1 : ∀ n, (Instr.lookup 72 (.map (some c.g0)) (.int .i64 e.d) false).run Try.prog (W1.drewN n) = .ok (.map none) (W1.drewN n) := fun n => by
    have := (h1.drewN n).look e.d
    rw [hdir] at this; exact this
  obtain ⟨U, hU⟩ : ∃ U, c.uses + 1 = U := ⟨_, rfl⟩
  have hUi : IntKind.i64.wrap ((c.uses : Int) + 1) = (U : Int) := by
    rw [show ((U : Nat) : Int) = (c.uses : Int) + 1 by omega]; exact IntWalk.i64_in _ (by omega)
  have hnm : (e.nm.toList == []) = false := by
    cases hh : (e.nm.toList == []) with
    | false => rfl
    | true =>
      have h0 : e.nm.toList = [] := eq_of_beq hh
      exact absurd (bytes_eq.1 (h0.trans nob_list.symm)) he
  rw [hU]
  have HI : Hid (IsC W1 p c ∧ IsC w p c ∧ Below w.heap.size w W1 ∧ Cells7 W1 w.heap.size 0 e ∧ (∀ x ∈ c.om, e.d ≠ x.1) ∧ p ≠ w.heap.size ∧ w.heap.size < W1.heap.size) := by
    refine ⟨h1, h, b1.2.1, bx, hn, ?_, by omega⟩
    have := h.lt (k := p) (.inl rfl); omega
  unfold En.agg
  clear h h1 b1 bx hdir he hu hU hn
  go_enter Try.func20, Try.ntmps20
  go_upto_region 3 with fail
  clear hW1
  go_quiet (fail)
  go_upto_region 4 with fail
  obtain ⟨X, hX⟩ : ∃ X, W1.drewN nq = X := ⟨_, rfl⟩
  rw [hX]
  obtain ⟨X2, hX2⟩ : ∃ X2, X.alloc (.map #[] 0) = X2 := ⟨_, rfl⟩
  have hmm : ∀ t, (Instr.makeMap t none).run Try.prog X = .ok (.map (some X.heap.size)) X2 := fun t => by rw [← hX2]; exact run_makeMap t X
  have hmd : ∀ t, (Instr.makeMap t none).run Try.prog X.drew = .ok (.map (some X.heap.size)) X2.drew := fun t => by rw [← hX2]; exact run_makeMap t X.drew
  obtain ⟨V, hr, HV, kX, kY, kZ⟩ : ∃ V, (Instr.mapUpdate 72 (.map (some c.g0)) (.int .i64 e.d) (.map (some X.heap.size))).run Try.prog X2.drew = .ok () V ∧ Hid (Aft w V p c { c with om := c.om ++ [(e.d, X.heap.size, [])] } ∧ Cells7 V w.heap.size 0 e ∧ p ≠ w.heap.size ∧ w.heap.size ≠ X.heap.size) ∧
      (X.drew.cell? ⟨p, 0, none⟩ = some (.map (some c.g0)) ∧ X.drew.cell? ⟨w.heap.size, 0, none⟩ = some (.int .i64 e.d)) ∧ (X2.drew.cell? ⟨p, 0, none⟩ = some (.map (some c.g0)) ∧ X2.drew.cell? ⟨w.heap.size, 0, none⟩ = some (.int .i64 e.d)) ∧ (V.cell? ⟨p, 0, none⟩ = some (.map (some c.g0)) ∧ V.cell? ⟨w.heap.size, 0, none⟩ = some (.int .i64 e.d)) := by
    obtain ⟨i1, i2, i3, i4, i5, i6, i7⟩ := HI.out
    have bX : Below W1.heap.size W1 X := by rw [← hX]; exact below_drewN (Below.refl _ _) nq
    have b2 := boxO hX2
    have b2' : Below X.heap.size X X2.drew := b2.2.1.drew
    have iX := i1.below bX
    have iX2 := iX.below b2'
    have m0 : MapAt (κ := ByteArray) (β := En × Nat) Value.string mvC X2.drew X.heap.size [] := by rw [← hX2]; exact madeM X _ _
    obtain ⟨V, hr, hm, hO, -⟩ := storeM kI undO X2.drew c.g0 _ iX2.outer e.d X.heap.size
    have a := iX.newI i5 (Nat.le_refl _) b2' m0 hm hO
    have cX := i4.below bX
    have cX2 := cX.below b2'
    have lt0 := cellLt cX.c0
    have cV : Cells7 V w.heap.size 0 e := cX2.moved (hO.block _ (cellLt cX2.c0) (fun e' => by
      have h1 := i2.outer.lt
      omega))
    exact ⟨V, hr, ⟨Aft.pre i2 i3 (Aft.pre i1 bX a), cV, i6, by simp only at lt0; omega⟩, ⟨iX.cells.1, cX.c0⟩, ⟨iX2.cells.1, cX2.c0⟩, ⟨a.is.cells.1, cV.c0⟩⟩
  clear hX HI hl1 k0 k1 c0 c2 cf hX2
  go_region_held3 (fun W => W.cell? ⟨p, 0, none⟩ = some (.map (some c.g0)) ∧ W.cell? ⟨w.heap.size, 0, none⟩ = some (.int .i64 e.d))
    (with_reducible first | exact kX | exact kY | exact kZ)
    (first | (refine step_updM rfl (.tmp 21) (.tmp 24) (.tmp 25) 72 rfl _ _ _ (by simp [Act.eval]) (by simp [Act.eval]) (by simp [Act.eval]) V hr ?_))
  all_goals (
    obtain ⟨-, -, c2, cf⟩ := HV.out.1.is.cells
    go_upto_region 6 with fail
    obtain ⟨V1, hV1⟩ : ∃ V1, V.setCell ⟨p, 2, none⟩ (.int .i64 (U : Int)) = V1 := ⟨_, rfl⟩
    rw [hV1]
    obtain ⟨V2, hr2, HE, kS, kT⟩ := put_mid (nq := 0) (A := c.om) (B := []) (l := []) HV.out.1.is HV.out.2.1 HV.out.2.2.1 HV.out.2.2.2 rfl hV1
    have HE2 : Hid (Aft w V2 p c ⟨c.g0, c.g1, c.om ++ [(e.d, X.heap.size, mput [] e.nm (e, U))], c.wl, U⟩) := HV.out.1.trans HE.out
    unfold PutS at kS kT
    clear hV1 hr HV HE kX kY kZ hmm hmd c2 cf
    go_region_held3 (fun W => W.cell? ⟨p, 0, none⟩ = some (.map (some c.g0)) ∧ W.cell? ⟨p, 2, none⟩ = some (.int .i64 (U : Int)) ∧ W.cell? ⟨w.heap.size, 0, none⟩ = some (.int .i64 e.d) ∧ W.cell? ⟨w.heap.size, 1, none⟩ = some (.string e.nm) ∧ (enLd (.pointer (some ⟨w.heap.size, 0, none⟩))).run Try.prog W = .ok e.agg W ∧ (Instr.lookup 72 (.map (some c.g0)) (.int .i64 e.d) false).run Try.prog W = .ok (.map (some X.heap.size)) W ∧ (caBd #[(0, e.agg), (1, .int .i64 (U : Int))]).run Try.prog W = .ok (mvC (e, U)) W)
      (with_reducible first | exact kS | exact kT)
      (first | (refine step_updM rfl (.tmp 40) (.tmp 43) (.tmp 49) 76 rfl _ _ _ (by simp [Act.eval]) (by simp [Act.eval]) (by simp [Act.eval]) V2 hr2 ?_))
    go_wp2
    go_ret
    exact ⟨rfl, _, HE2.out⟩)
end
end Go.Proofs.Ytabdicbmecgogaa
