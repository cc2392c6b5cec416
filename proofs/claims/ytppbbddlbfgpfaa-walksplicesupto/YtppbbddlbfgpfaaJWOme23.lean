/- Put. -/
import Derived.Test.YtppbbddlbfgpfaaJWOme22
namespace Go.Proofs.Ytppbbddlbfgpfaa
section
open Go.RowKit

/-- a cached entry built, shut -/
def caBd (ps : Array (Nat × Value)) : Sem Value := Instr.build 77 ps
theorem buildCa (ps : Array (Nat × Value)) : Instr.build 77 ps = caBd ps := rfl
theorem caBd_of (e : En) (u : Nat) (w : World) : (caBd #[(0, e.agg), (1, .int .i64 u)]).run Try.prog w = .ok (mvC (e, u)) w := by
  unfold caBd Instr.build
  simp [run_underlying Try.underlying77, Try.sizeOf42, Try.sizeOf3, Try.zeroValue77, Instr.fill, Value.cells, En.agg, mvC]
attribute [irreducible] caBd
theorem eqMN (w : World) (a : Option Nat) : (binOp .eql 75 (.map a) (.map none)).run Try.prog w = .ok (.bool a.isNone) w := by
  have h : (Op.equalIn Op.maxDepth 75 (.map a) (.map none)).run Try.prog w = .ok a.isNone w := by
    show (Op.equalIn (9999 + 1) 75 (.map a) (.map none)).run Try.prog w = _
    unfold Op.equalIn
    cases a <;> simp [run_underlying Try.underlying75]
  simp [binOp, Op.equal, h]
attribute [local go_sem ↓ high] loadEn storeEn loadCa storeCa buildCa
attribute [local go_sem high] eqMN

set_option maxHeartbeats 2000000 in
theorem put_bad (p : Nat) (e : En) (w : World) (he : e.nm = nob) : Calls Try.prog 14 #[.pointer (some ⟨p, 0, none⟩), e.agg] w fun x w' => x = .returned (.int .i64 1) ∧ Below w.heap.size w w' := by
  obtain ⟨d, nm, neg, id, kd, mo, tg⟩ := e
  simp only at he
  subst he
  unfold nob En.agg
  simp only
  go_enter Try.func14, Try.ntmps14
  go_wp2
  go_ret
  exact ⟨rfl, below_alloc _ _⟩
theorem IsC.dirO {w : World} {p : Nat} {c : Pc} {A B : Pm} {d : Int} {g : Nat} {l : List (ByteArray × En × Nat)} (h : IsC w p c) (ho : c.om = A ++ (d, g, l) :: B) : c.dir d = some g ∧ PmOk (A ++ (d, g, l) :: B) ∧ inn c.om d = l := by
  have ok := h.ok
  rw [ho] at ok
  refine ⟨?_, ok, by rw [ho]; exact inn_some ok.lA.1⟩
  unfold Pc.dir om2
  rw [ho, List.map_append, List.map_cons]
  exact mget_some fun x hx => by obtain ⟨y, hy, rfl⟩ := List.mem_map.1 hx; exact ok.lA.1 y hy
theorem nob_list : nob.toList = [] := by rw [ByteArray.toList_eq]; rfl
/-- what is read ahead of the store -/
def PutS (p b g0 U g : Nat) (e : En) (W : World) : Prop := W.cell? ⟨p, 0, none⟩ = some (.map (some g0)) ∧ W.cell? ⟨p, 2, none⟩ = some (.int .i64 (U : Int)) ∧ W.cell? ⟨b, 0, none⟩ = some (.int .i64 e.d) ∧ W.cell? ⟨b, 1, none⟩ = some (.string e.nm) ∧ (enLd (.pointer (some ⟨b, 0, none⟩))).run Try.prog W = .ok e.agg W ∧ (Instr.lookup 71 (.map (some g0)) (.int .i64 e.d) false).run Try.prog W = .ok (.map (some g)) W ∧ (caBd #[(0, e.agg), (1, .int .i64 (U : Int))]).run Try.prog W = .ok (mvC (e, U)) W
theorem putS_of {W : World} {p b : Nat} {c : Pc} {A B : Pm} {g : Nat} {l : List (ByteArray × En × Nat)} {e : En} (h : IsC W p c) (ho : c.om = A ++ (e.d, g, l) :: B) (hb : Cells7 W b 0 e) : PutS p b c.g0 c.uses g e W := by
  obtain ⟨c0, -, c2, -⟩ := h.cells
  have l1 := h.look e.d
  rw [(h.dirO ho).1] at l1
  exact ⟨c0, c2, hb.c0, hb.c1, enLd_at hb, l1, caBd_of e c.uses W⟩
theorem Cells7.moved {w w' : World} {g o : Nat} {e : En} (h : Cells7 w g o e) (hb : w'.heap[g]? = w.heap[g]?) : Cells7 w' g o e :=
  ⟨(World.cell?_of_block hb).trans h.c0, (World.cell?_of_block hb).trans h.c1, (World.cell?_of_block hb).trans h.c2, (World.cell?_of_block hb).trans h.c3, (World.cell?_of_block hb).trans h.c4, (World.cell?_of_block hb).trans h.c5, (World.cell?_of_block hb).trans h.c6⟩
theorem put_mid {W1 V : World} {p b nq U : Nat} {c : Pc} {A B : Pm} {g : Nat} {l : List (ByteArray × En × Nat)} {e : En} (h1 : IsC W1 p c) (bx : Cells7 W1 b 0 e) (pw : p ≠ b) (gw : b ≠ g) (ho : c.om = A ++ (e.d, g, l) :: B) (hV : (W1.drewN nq).setCell ⟨p, 2, none⟩ (.int .i64 (U : Int)) = V) :
    ∃ V2, (Instr.mapUpdate 75 (.map (some g)) (.string e.nm) (mvC (e, U))).run Try.prog V.drew = .ok () V2 ∧ Hid (Aft W1 V2 p c ⟨c.g0, c.g1, A ++ (e.d, g, mput l e.nm (e, U)) :: B, c.wl, U⟩) ∧ PutS p b c.g0 U g e V.drew ∧ PutS p b c.g0 U g e V2 := by
  have hd := h1.drewN nq
  have hc := hd.count U
  rw [hV] at hc
  have bd : Below W1.heap.size W1 (W1.drewN nq) := below_drewN (Below.refl _ _) nq
  have bx1 : Cells7 V b 0 e := by
    refine (bx.below bd).moved (hc.2.block _ ?_ (fun e => pw e.symm))
    have := cellLt (bx.below bd).c0
    exact this
  have hi : IsC V.drew p { c with uses := U } := hc.1.drewN 1
  have ho' : ({ c with uses := U } : Pc).om = A ++ (e.d, g, l) :: B := ho
  have hg : (e.d, g, l) ∈ c.om := by rw [ho]; simp
  obtain ⟨-, ok, -⟩ := h1.dirO ho
  obtain ⟨V2, hr, hm, hO, -⟩ := storeM kS undI V.drew g l (hi.inner _ hg) e.nm (e, U)
  have a2 := hi.setI ho' hm hO (mput_keys ok.l.1 _ _) (fun q hq => by
    rcases mem_mput ok.l.1 hq with rfl | hq
    · exact ⟨rfl, rfl⟩
    · exact ok.l.2 q hq)
  have a1 : Aft (W1.drewN nq) V p c { c with uses := U } := ⟨hc.1, hc.2.mono fun k e => .inl e, fun k hk => .inl hk⟩
  refine ⟨V2, hr, (Aft.pre h1 bd a1).trans (Aft.pre hc.1 (below_drewN (Below.refl _ V) 1) a2), putS_of (c := { c with uses := U }) hi ho' (bx1.below (below_drewN (Below.refl _ V) 1)), ?_⟩
  refine putS_of (c := { c with om := A ++ (e.d, g, mput l e.nm (e, U)) :: B, uses := U }) a2.is rfl ((bx1.below (below_drewN (Below.refl _ V) 1)).moved (hO.block _ (cellLt (bx1.below (below_drewN (Below.refl _ V) 1)).c0) gw))
set_option maxHeartbeats 2000000 in
theorem put_old (p : Nat) (c : Pc) (A B : Pm) (g : Nat) (l : List (ByteArray × En × Nat)) (e : En) (w : World) (h : IsC w p c) (he : e.nm ≠ nob) (ho : c.om = A ++ (e.d, g, l) :: B) (hu : c.uses < 4611686018427387904) : Calls Try.prog 14 #[.pointer (some ⟨p, 0, none⟩), e.agg] w fun x w' => x = .returned (.int .i64 0) ∧ Aft w w' p c ⟨c.g0, c.g1, A ++ (e.d, g, mput l e.nm (e, c.uses + 1)) :: B, c.wl, c.uses + 1⟩ := by
  obtain ⟨hdir, hok, hinn⟩ := h.dirO ho
  obtain ⟨W1, hW1⟩ : ∃ W, w.alloc (.cells #[.int .i64 e.d, .string e.nm, .bool e.neg, .int .i64 e.id, .int .i64 e.kind, .int .i64 e.mode, .string e.tg] 42) = W := ⟨_, rfl⟩
  have b1 := boxO hW1
  have h1 := h.below b1.2.1
  obtain ⟨c0, -, c2, cf⟩ := h1.cells
  have bx : Cells7 W1 w.heap.size 0 e := cells7_of b1.1
  have k0 := bx.c0
  have k1 := bx.c1
  have hl1 : ∀ n, (Instr.lookup 71 (.map (some c.g0)) (.int .i64 e.d) false).run Try.prog (W1.drewN n) = .ok (.map (some g)) (W1.drewN n) := fun n => by
    have := (h1.drewN n).look e.d
    rw [hdir] at this; exact this
  obtain ⟨U, hU⟩ : ∃ U, c.uses + 1 = U := ⟨_, rfl⟩
  have hUi : IntKind.i64.wrap ((c.uses : Int) + 1) = (U : Int) := by
    rw [show ((U : Nat) : Int) = (c.uses : Int) + 1 by omega]; exact IntWalk.i64_in _ (by omega)
  have hnm : (e.nm.toList == []) = false := by
    cases hh : (e.nm.toList == []) with
    | false => rfl
    | true =>
      have h0 : e.nm.toList = [] := eq_of_beq hh
      exact absurd (bytes_eq.1 (h0.trans nob_list.symm)) he
  rw [hU]
  have HI : Hid (IsC W1 p c ∧ IsC w p c ∧ Below w.heap.size w W1 ∧ Cells7 W1 w.heap.size 0 e ∧ c.om = A ++ (e.d, g, l) :: B ∧ p ≠ w.heap.size ∧ w.heap.size ≠ g) := by
    refine ⟨h1, h, b1.2.1, bx, ho, ?_, ?_⟩
    · have := h.lt (k := p) (.inl rfl); omega
    · have := (h.inner (e.d, g, l) (by rw [ho]; simp)).lt
      intro e'
      simp only at this
      omega
  unfold En.agg
  clear h h1 ho b1 hok hinn bx hdir he hu hU
  go_enter Try.func14, Try.ntmps14
  go_upto_region 3 with fail
  clear hW1
  go_quiet (fail)
  go_upto_region 6 with fail
  obtain ⟨V, hV⟩ : ∃ V, (W1.drewN nq).setCell ⟨p, 2, none⟩ (.int .i64 (U : Int)) = V := ⟨_, rfl⟩
  rw [hV]
  obtain ⟨V2, hr, HE, kS, kT⟩ := put_mid HI.out.1 HI.out.2.2.2.1 HI.out.2.2.2.2.2.1 HI.out.2.2.2.2.2.2 HI.out.2.2.2.2.1 hV
  have HE2 : Hid (Aft w V2 p c ⟨c.g0, c.g1, A ++ (e.d, g, mput l e.nm (e, U)) :: B, c.wl, U⟩) := Aft.pre HI.out.2.1 HI.out.2.2.1 HE.out
  clear hV HI hl1 k0 k1 c0 c2 cf
  unfold PutS at kS kT
  go_region_held3 (fun W => W.cell? ⟨p, 0, none⟩ = some (.map (some c.g0)) ∧ W.cell? ⟨p, 2, none⟩ = some (.int .i64 (U : Int)) ∧ W.cell? ⟨w.heap.size, 0, none⟩ = some (.int .i64 e.d) ∧ W.cell? ⟨w.heap.size, 1, none⟩ = some (.string e.nm) ∧ (enLd (.pointer (some ⟨w.heap.size, 0, none⟩))).run Try.prog W = .ok e.agg W ∧ (Instr.lookup 71 (.map (some c.g0)) (.int .i64 e.d) false).run Try.prog W = .ok (.map (some g)) W ∧ (caBd #[(0, e.agg), (1, .int .i64 (U : Int))]).run Try.prog W = .ok (mvC (e, U)) W)
    (with_reducible first | exact kS | exact kT)
    (first | (refine step_updM rfl (.tmp 40) (.tmp 43) (.tmp 49) 75 rfl _ _ _ (by simp [Act.eval]) (by simp [Act.eval]) (by simp [Act.eval]) V2 hr ?_))
  go_wp2
  go_ret
  exact ⟨rfl, HE2.out⟩
set_option maxHeartbeats 2000000 in
theorem put_new (p : Nat) (c : Pc) (e : En) (w : World) (h : IsC w p c) (he : e.nm ≠ nob) (hn : ∀ x ∈ c.om, e.d ≠ x.1) (hu : c.uses < 4611686018427387904) : Calls Try.prog 14 #[.pointer (some ⟨p, 0, none⟩), e.agg] w fun x w' => x = .returned (.int .i64 0) ∧ ∃ g, Aft w w' p c ⟨c.g0, c.g1, c.om ++ [(e.d, g, mput [] e.nm (e, c.uses + 1))], c.wl, c.uses + 1⟩ := by
  have hdir : c.dir e.d = none := mget_none fun x hx => by obtain ⟨y, hy, rfl⟩ := List.mem_map.1 hx; exact hn y hy
  obtain ⟨W1, hW1⟩ : ∃ W, w.alloc (.cells #[.int .i64 e.d, .string e.nm, .bool e.neg, .int .i64 e.id, .int .i64 e.kind, .int .i64 e.mode, .string e.tg] 42) = W := ⟨_, rfl⟩
  have b1 := boxO hW1
  have h1 := h.below b1.2.1
  obtain ⟨c0, -, c2, cf⟩ := h1.cells
  have bx : Cells7 W1 w.heap.size 0 e := cells7_of b1.1
  have k0 := bx.c0
  have k1 := bx.c1
  have hl1 : ∀ n, (Instr.lookup 71 (.map (some c.g0)) (.int .i64 e.d) false).run Try.prog (W1.drewN n) = .ok (.map none) (W1.drewN n) := fun n => by
    have := (h1.drewN n).look e.d
    rw [hdir] at this; exact this
  obtain ⟨U, hU⟩ : ∃ U, c.uses + 1 = U := ⟨_, rfl⟩
  have hUi : IntKind.i64.wrap ((c.uses : Int) + 1) = (U : Int) := by
    rw [show ((U : Nat) : Int) = (c.uses : Int) + 1 by omega]; exact IntWalk.i64_in _ (by omega)
  have hnm : (e.nm.toList == []) = false := by
    cases hh : (e.nm.toList == []) with
    | false => rfl
    | true =>
      have h0 : e.nm.toList = [] := eq_of_beq hh
      exact absurd (bytes_eq.1 (h0.trans nob_list.symm)) he
  rw [hU]
  have HI : Hid (IsC W1 p c ∧ IsC w p c ∧ Below w.heap.size w W1 ∧ Cells7 W1 w.heap.size 0 e ∧ (∀ x ∈ c.om, e.d ≠ x.1) ∧ p ≠ w.heap.size ∧ w.heap.size < W1.heap.size) := by
    refine ⟨h1, h, b1.2.1, bx, hn, ?_, by omega⟩
    have := h.lt (k := p) (.inl rfl); omega
  unfold En.agg
  clear h h1 b1 bx hdir he hu hU hn
  go_enter Try.func14, Try.ntmps14
  go_upto_region 3 with fail
  clear hW1
  go_quiet (fail)
  go_upto_region 4 with fail
  obtain ⟨X, hX⟩ : ∃ X, W1.drewN nq = X := ⟨_, rfl⟩
  rw [hX]
  obtain ⟨X2, hX2⟩ : ∃ X2, X.alloc (.map #[] 0) = X2 := ⟨_, rfl⟩
  have hmm : ∀ t, (Instr.makeMap t none).run Try.prog X = .ok (.map (some X.heap.size)) X2 := fun t => by rw [← hX2]; exact run_makeMap t X
  have hmd : ∀ t, (Instr.makeMap t none).run Try.prog X.drew = .ok (.map (some X.heap.size)) X2.drew := fun t => by rw [← hX2]; exact run_makeMap t X.drew
  obtain ⟨V, hr, HV, kX, kY, kZ⟩ : ∃ V, (Instr.mapUpdate 71 (.map (some c.g0)) (.int .i64 e.d) (.map (some X.heap.size))).run Try.prog X2.drew = .ok () V ∧ Hid (Aft w V p c { c with om := c.om ++ [(e.d, X.heap.size, [])] } ∧ Cells7 V w.heap.size 0 e ∧ p ≠ w.heap.size ∧ w.heap.size ≠ X.heap.size) ∧
      (X.drew.cell? ⟨p, 0, none⟩ = some (.map (some c.g0)) ∧ X.drew.cell? ⟨w.heap.size, 0, none⟩ = some (.int .i64 e.d)) ∧ (X2.drew.cell? ⟨p, 0, none⟩ = some (.map (some c.g0)) ∧ X2.drew.cell? ⟨w.heap.size, 0, none⟩ = some (.int .i64 e.d)) ∧ (V.cell? ⟨p, 0, none⟩ = some (.map (some c.g0)) ∧ V.cell? ⟨w.heap.size, 0, none⟩ = some (.int .i64 e.d)) := by
    obtain ⟨i1, i2, i3, i4, i5, i6, i7⟩ := HI.out
    have bX : Below W1.heap.size W1 X := by rw [← hX]; exact below_drewN (Below.refl _ _) nq
    have b2 := boxO hX2
    have b2' : Below X.heap.size X X2.drew := b2.2.1.drew
    have iX := i1.below bX
    have iX2 := iX.below b2'
    have m0 : MapAt (κ := ByteArray) (β := En × Nat) Value.string mvC X2.drew X.heap.size [] := by rw [← hX2]; exact madeM X _ _
    obtain ⟨V, hr, hm, hO, -⟩ := storeM kI undO X2.drew c.g0 _ iX2.outer e.d X.heap.size
    have a := iX.newI i5 (Nat.le_refl _) b2' m0 hm hO
    have cX := i4.below bX
    have cX2 := cX.below b2'
    have lt0 := cellLt cX.c0
    have cV : Cells7 V w.heap.size 0 e := cX2.moved (hO.block _ (cellLt cX2.c0) (fun e' => by
      have h1 := i2.outer.lt
      omega))
    exact ⟨V, hr, ⟨Aft.pre i2 i3 (Aft.pre i1 bX a), cV, i6, by simp only at lt0; omega⟩, ⟨iX.cells.1, cX.c0⟩, ⟨iX2.cells.1, cX2.c0⟩, ⟨a.is.cells.1, cV.c0⟩⟩
  clear hX HI hl1 k0 k1 c0 c2 cf hX2
  go_region_held3 (fun W => W.cell? ⟨p, 0, none⟩ = some (.map (some c.g0)) ∧ W.cell? ⟨w.heap.size, 0, none⟩ = some (.int .i64 e.d))
    (with_reducible first | exact kX | exact kY | exact kZ)
    (first | (refine step_updM rfl (.tmp 21) (.tmp 24) (.tmp 25) 71 rfl _ _ _ (by simp [Act.eval]) (by simp [Act.eval]) (by simp [Act.eval]) V hr ?_))
  all_goals (
    obtain ⟨-, -, c2, cf⟩ := HV.out.1.is.cells
    go_upto_region 6 with fail
    obtain ⟨V1, hV1⟩ : ∃ V1, V.setCell ⟨p, 2, none⟩ (.int .i64 (U : Int)) = V1 := ⟨_, rfl⟩
    rw [hV1]
    obtain ⟨V2, hr2, HE, kS, kT⟩ := put_mid (nq := 0) (A := c.om) (B := []) (l := []) HV.out.1.is HV.out.2.1 HV.out.2.2.1 HV.out.2.2.2 rfl hV1
    have HE2 : Hid (Aft w V2 p c ⟨c.g0, c.g1, c.om ++ [(e.d, X.heap.size, mput [] e.nm (e, U))], c.wl, U⟩) := HV.out.1.trans HE.out
    unfold PutS at kS kT
    clear hV1 hr HV HE kX kY kZ hmm hmd c2 cf
    go_region_held3 (fun W => W.cell? ⟨p, 0, none⟩ = some (.map (some c.g0)) ∧ W.cell? ⟨p, 2, none⟩ = some (.int .i64 (U : Int)) ∧ W.cell? ⟨w.heap.size, 0, none⟩ = some (.int .i64 e.d) ∧ W.cell? ⟨w.heap.size, 1, none⟩ = some (.string e.nm) ∧ (enLd (.pointer (some ⟨w.heap.size, 0, none⟩))).run Try.prog W = .ok e.agg W ∧ (Instr.lookup 71 (.map (some c.g0)) (.int .i64 e.d) false).run Try.prog W = .ok (.map (some X.heap.size)) W ∧ (caBd #[(0, e.agg), (1, .int .i64 (U : Int))]).run Try.prog W = .ok (mvC (e, U)) W)
      (with_reducible first | exact kS | exact kT)
      (first | (refine step_updM rfl (.tmp 40) (.tmp 43) (.tmp 49) 75 rfl _ _ _ (by simp [Act.eval]) (by simp [Act.eval]) (by simp [Act.eval]) V2 hr2 ?_))
    go_wp2
    go_ret
    exact ⟨rfl, _, HE2.out⟩)
end
section
open Go.RowKit
attribute [local go_sem ↓ high] loadEn storeEn loadCa storeCa buildCa
attribute [local go_sem high] eqMN

theorem putK_p (p : Nat) (c : Pc) (s : Cs) (e : En) (w : World) (h : IsC w p c) (hs : Says c s) (hu : c.uses < 4611686018427387904) : Calls Try.prog 14 #[.pointer (some ⟨p, 0, none⟩), e.agg] w fun x w' => x = .returned (.int .i64 (if e.nm = nob then 1 else 0)) ∧ ∃ c', Aft w w' p c c' ∧ Says c' (if e.nm = nob then s else s.put e) ∧ c'.uses ≤ c.uses + 1 := by
  by_cases he : e.nm = nob
  · rw [if_pos he, if_pos he]
    refine (put_bad p e w he).mono ?_
    rintro x w' ⟨rfl, hb⟩
    exact ⟨rfl, c, Aft.refl h hb, hs, Nat.le_succ _⟩
  · rw [if_neg he, if_neg he]
    rcases om_cases c.om h.ok e.d with ⟨_, hn⟩ | ⟨A, g, l, B, ho, _⟩
    · refine (put_new p c e w h he hn hu).mono ?_
      rintro x w' ⟨rfl, g, ha⟩
      refine ⟨rfl, _, ha, ?_, Nat.le_refl _⟩
      have h1 : Says ⟨c.g0, c.g1, c.om ++ [(e.d, g, [])], c.wl, c.uses⟩ s := ⟨by
        show RepL (cont (c.om ++ [(e.d, g, [])])) c.uses s.L
        rw [cont_app]
        simpa [cont] using hs.rep, hs.wh⟩
      exact h1.put (h.ok.new hn g) rfl
    · refine (put_old p c A B g l e w h he ho hu).mono ?_
      rintro x w' ⟨rfl, ha⟩
      exact ⟨rfl, _, ha, hs.put h.ok ho, Nat.le_refl _⟩
/-- what drop and Cut leave of a cache -/
structure Cutt (c c' : Pc) (f : En → Bool) : Prop where
  cont : cont c'.om = (cont c.om).filter fun x => f x.1
  uses : c'.uses = c.uses
  wl : c'.wl = c.wl
  g0 : c'.g0 = c.g0
  g1 : c'.g1 = c.g1
theorem cutt_dir {w : World} {p : Nat} {c : Pc} (h : IsC w p c) (d : Int) : Cutt c { c with om := c.om.filter fun x => decide (d ≠ x.1) } (fun e => decide (e.d ≠ d)) := by
  refine ⟨?_, rfl, rfl, rfl, rfl⟩
  show cont (c.om.filter fun x => decide (d ≠ x.1)) = _
  rcases om_cases c.om h.ok d with ⟨_, hn⟩ | ⟨A, g, l, B, ho, _, hA, hB⟩
  · rw [filter_ne hn]
    exact (filt_o (d := d) (fun e => decide (e.d ≠ d)) (fun x hx => by simpa using hx) h.ok.keys hn).symm
  · have ok := h.ok
    rw [ho] at ok
    rw [ho, ← cont_out ok, List.filter_append, List.filter_cons, filter_ne hA, filter_ne hB]
    simp
/-- drop's first half: the name is gone from its directory -/
theorem drop_mid {w : World} {p : Nat} {c : Pc} (h : IsC w p c) (k : Ky) : ∃ W c', (∀ ty, (Builtin.delete_ #[75, 9] ty #[.map (c.dir k.d), .string k.nm]).run Try.prog w = .ok (.tuple #[]) W) ∧ Aft w W p c c' ∧ Cutt c c' (fun e => !hasK k e) ∧ c'.dir k.d = c.dir k.d ∧ (inn c'.om k.d).length = (mdel (inn c.om k.d) k.nm).length := by
  obtain ⟨W, hr, hm, hO, -⟩ := delM kS undI 0 w (c.dir k.d) (inn c.om k.d) (h.innV k.d) k.nm
  rcases om_cases c.om h.ok k.d with ⟨e1, hn⟩ | ⟨A, g, l, B, ho, e1, hA, hB⟩
  · have e1' : c.dir k.d = none := e1
    rw [e1'] at hO hr
    refine ⟨W, c, fun ty => by rw [e1']; exact hr, ⟨h.moved fun q hq => hO.block q (h.lt hq) (by simp), hO.mono (fun q e => by cases e), fun q hq => .inl hq⟩, ⟨?_, rfl, rfl, rfl, rfl⟩, rfl, ?_⟩
    · exact (filt_o (d := k.d) (fun e => !hasK k e) (fun x hx => by simp only [Bool.not_eq_false'] at hx; exact (hasK_iff.1 hx).1) h.ok.keys hn).symm
    · rw [inn_none hn]; rfl
  · have e1' : c.dir k.d = some g := e1
    rw [e1'] at hO hr hm
    obtain ⟨-, ok, hi⟩ := h.dirO ho
    rw [hi] at hm
    have a := h.setI ho hm (hO.mono fun q e => by cases e; rfl) (mdel_keys ok.l.1 _) (fun q hq => ok.l.2 q (mem_mdel ok.l.1 hq))
    refine ⟨W, _, fun ty => by rw [e1']; exact hr, a, ⟨?_, rfl, rfl, rfl, rfl⟩, ?_, ?_⟩
    · show cont (A ++ (k.d, g, mdel l k.nm) :: B) = _
      rw [ho]; exact cont_del ok k.nm
    · rw [e1']; exact (a.is.dirO rfl).1
    · rw [hi]
      show (inn (A ++ (k.d, g, mdel l k.nm) :: B) k.d).length = _
      rw [inn_some hA]
end
section
open Go.RowKit
attribute [local go_sem ↓ high] loadEn storeEn loadCa storeCa buildCa
attribute [local go_sem high] eqMN

theorem alloc_setRow (w : World) (a b : Array Value) (t : TypeId) : (w.alloc (.cells a t)).setRow w.heap.size b = w.alloc (.cells b t) := by
  unfold World.setRow World.alloc
  simp only
  congr 1
  apply Array.ext_getElem?
  intro i
  rw [Array.getElem?_modify]
  by_cases e : w.heap.size = i
  · subst e; simp
  · rw [if_neg e, Array.getElem?_push, Array.getElem?_push, if_neg (fun h => e h.symm), if_neg (fun h => e h.symm)]
theorem box7 (w : World) (e : En) : (enSt (.pointer (some ⟨w.heap.size, 0, none⟩)) e.agg).run Try.prog (w.alloc (.cells #[.int .i64 0, .string ⟨#[]⟩, .bool false, .int .i64 0, .int .i64 0, .int .i64 0, .string ⟨#[]⟩] 42)) = .ok () (w.alloc (.cells e.vals.toArray 42)) :=
  enSt_of (heap_new _ _) rfl (alloc_setRow w _ _ _)
theorem box8 (w : World) (x : En × Nat) : (caSt (.pointer (some ⟨w.heap.size, 0, none⟩)) (mvC x)).run Try.prog (w.alloc (.cells #[.int .i64 0, .string ⟨#[]⟩, .bool false, .int .i64 0, .int .i64 0, .int .i64 0, .string ⟨#[]⟩, .int .i64 0] 77)) = .ok () (w.alloc (.cells (cvals x).toArray 77)) :=
  caSt_of (heap_new _ _) rfl (alloc_setRow w _ _ _)
theorem ld7 (w : World) (e : En) (t : TypeId) : (enLd (.pointer (some ⟨w.heap.size, 0, none⟩))).run Try.prog (w.alloc (.cells e.vals.toArray t)) = .ok e.agg (w.alloc (.cells e.vals.toArray t)) := enLd_at (cells7_of (heap_new _ _))

/-- what the chapter says of a name -/
theorem get_s (p : Nat) (c : Pc) (s : Cs) (k : Ky) (w : World) (h : IsC w p c) (hs : Says c s) : Calls Try.prog 114 #[.pointer (some ⟨p, 0, none⟩), .agg #[.int .i64 k.d, .string k.nm]] w fun x w' => x = .returned (.tuple #[((getL s.L k).getD zeroEn).agg, .bool (getL s.L k).isSome]) ∧ Below w.heap.size w w' := by
  refine (get_p p c k w h).mono ?_
  rintro x w' ⟨rfl, hb⟩
  refine ⟨?_, hb⟩
  rw [← hs.get h.ok k]
  cases mget (inn c.om k.d) k.nm <;> rfl
end
section
open Go.RowKit
attribute [local go_sem ↓ high] loadEn storeEn loadCa storeCa buildCa
attribute [local go_sem high] eqMN

theorem Cutt.says {c c' : Pc} {f : En → Bool} {s : Cs} (q : Cutt c c' f) (hs : Says c s) : Says c' ⟨s.L.filter f, s.W⟩ := by
  refine ⟨?_, fun d => by rw [q.wl]; exact hs.wh d⟩
  rw [q.uses]
  exact hs.rep.filter f (List.Perm.of_eq q.cont)
/-- a directory is not whole any more -/
theorem delW_mid {w : World} {p : Nat} {c : Pc} (h : IsC w p c) (d : Int) : ∃ W c', (∀ ty, (Builtin.delete_ #[72, 3] ty #[.map (some c.g1), .int .i64 d]).run Try.prog w = .ok (.tuple #[]) W) ∧ Aft w W p c c' ∧ (∀ s, Says c s → Says c' ⟨s.L, partW s.W d⟩) ∧ c'.uses = c.uses ∧ c'.g0 = c.g0 ∧ c'.g1 = c.g1 := by
  obtain ⟨W, hr, hm, hO, -⟩ := delM kI undW 0 w (some c.g1) c.wl h.whole d
  have a := h.setW hm (hO.mono fun q e => by cases e; rfl) (mdel_keys h.wn d)
  refine ⟨W, _, fun ty => hr, a, fun s hs => ⟨hs.rep, fun x => ?_⟩, rfl, rfl, rfl⟩
  show x ∈ partW s.W d ↔ x ∈ (mdel c.wl d).map (·.1)
  rw [mem_partW, mem_delW h.wn, hs.wh]
end
end Go.Proofs.Ytppbbddlbfgpfaa
