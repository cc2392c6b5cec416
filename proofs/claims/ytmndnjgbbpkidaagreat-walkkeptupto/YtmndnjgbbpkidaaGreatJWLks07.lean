/- Put, what it says; drop. -/
import Derived.Test.YtmndnjgbbpkidaaGreatJWLks06
namespace Go.Proofs.YtmndnjgbbpkidaaGreat
section
open Go.RowKit
attribute [local go_sem ↓ high] loadEn storeEn loadCa storeCa buildCa
attribute [local go_sem high] eqMN

theorem putK_p (p : Nat) (c : Pc) (s : Cs) (e : En) (w : World) (h : IsC w p c) (hs : Says c s) (hu : c.uses < 4611686018427387904) : Calls Tryz.prog 20 #[.pointer (some ⟨p, 0, none⟩), e.agg] w fun x w' => x = .returned (.int .i64 (if e.nm = nob then 1 else 0)) ∧ ∃ c', Aft w w' p c c' ∧ Says c' (if e.nm = nob then s else s.put e) ∧ c'.uses ≤ c.uses + 1 := by
  by_cases he : e.nm = nob
  · rw [if_pos he, if_pos he]
    refine (put_bad p e w he).mono ?_
    rintro x w' ⟨rfl, hb⟩
    exact ⟨rfl, c, Aft.refl h hb, hs, Nat.le_succ _⟩
  · rw [if_neg he, if_neg he]
    rcases om_cases c.om h.ok e.d with ⟨_, hn⟩ | ⟨A, g, l, B, ho, _⟩
    · refine (put_new p c e w h he hn hu).mono ?_
      rintro x w' ⟨rfl, g, ha⟩
      refine ⟨rfl, _, ha, ?_, Nat.le_refl _⟩
      have h1 : Says ⟨c.g0, c.g1, c.om ++ [(e.d, g, [])], c.wl, c.uses⟩ s := ⟨by
        show RepL (cont (c.om ++ [(e.d, g, [])])) c.uses s.L
        rw [cont_app]
        simpa [cont] using hs.rep, hs.wh⟩
      exact h1.put (h.ok.new hn g) rfl
    · refine (put_old p c A B g l e w h he ho hu).mono ?_
      rintro x w' ⟨rfl, ha⟩
      exact ⟨rfl, _, ha, hs.put h.ok ho, Nat.le_refl _⟩
/-- what drop and Cut leave of a cache -/
structure Cutt (c c' : Pc) (f : En → Bool) : Prop where
  cont : cont c'.om = (cont c.om).filter fun x => f x.1
  uses : c'.uses = c.uses
  wl : c'.wl = c.wl
  g0 : c'.g0 = c.g0
  g1 : c'.g1 = c.g1
theorem cutt_dir {w : World} {p : Nat} {c : Pc} (h : IsC w p c) (d : Int) : Cutt c { c with om := c.om.filter fun x => decide (d ≠ x.1) } (fun e => decide (e.d ≠ d)) := by
  refine ⟨?_, rfl, rfl, rfl, rfl⟩
  show cont (c.om.filter fun x => decide (d ≠ x.1)) = _
  rcases om_cases c.om h.ok d with ⟨_, hn⟩ | ⟨A, g, l, B, ho, _, hA, hB⟩
  · rw [filter_ne hn]
    exact (filt_o (d := d) (fun e => decide (e.d ≠ d)) (fun x hx => by simpa using hx) h.ok.keys hn).symm
  · have ok := h.ok
    rw [ho] at ok
    rw [ho, ← cont_out ok, List.filter_append, List.filter_cons, filter_ne hA, filter_ne hB]
    simp
/-- drop's first half: the name is gone from its directory -/
theorem drop_mid {w : World} {p : Nat} {c : Pc} (h : IsC w p c) (k : Ky) : ∃ W c', (∀ ty, (Builtin.delete_ #[97, 9] ty #[.map (c.dir k.d), .string k.nm]).run Tryz.prog w = .ok (.tuple #[]) W) ∧ Aft w W p c c' ∧ Cutt c c' (fun e => !hasK k e) ∧ c'.dir k.d = c.dir k.d ∧ (inn c'.om k.d).length = (mdel (inn c.om k.d) k.nm).length := by
  obtain ⟨W, hr, hm, hO, -⟩ := delM kS undI 0 w (c.dir k.d) (inn c.om k.d) (h.innV k.d) k.nm
  rcases om_cases c.om h.ok k.d with ⟨e1, hn⟩ | ⟨A, g, l, B, ho, e1, hA, hB⟩
  · have e1' : c.dir k.d = none := e1
    rw [e1'] at hO hr
    refine ⟨W, c, fun ty => by rw [e1']; exact hr, ⟨h.moved fun q hq => hO.block q (h.lt hq) (by simp), hO.mono (fun q e => by cases e), fun q hq => .inl hq⟩, ⟨?_, rfl, rfl, rfl, rfl⟩, rfl, ?_⟩
    · exact (filt_o (d := k.d) (fun e => !hasK k e) (fun x hx => by simp only [Bool.not_eq_false'] at hx; exact (hasK_iff.1 hx).1) h.ok.keys hn).symm
    · rw [inn_none hn]; rfl
  · have e1' : c.dir k.d = some g := e1
    rw [e1'] at hO hr hm
    obtain ⟨-, ok, hi⟩ := h.dirO ho
    rw [hi] at hm
    have a := h.setI ho hm (hO.mono fun q e => by cases e; rfl) (mdel_keys ok.l.1 _) (fun q hq => ok.l.2 q (mem_mdel ok.l.1 hq))
    refine ⟨W, _, fun ty => by rw [e1']; exact hr, a, ⟨?_, rfl, rfl, rfl, rfl⟩, ?_, ?_⟩
    · show cont (A ++ (k.d, g, mdel l k.nm) :: B) = _
      rw [ho]; exact cont_del ok k.nm
    · rw [e1']; exact (a.is.dirO rfl).1
    · rw [hi]
      show (inn (A ++ (k.d, g, mdel l k.nm) :: B) k.d).length = _
      rw [inn_some hA]
set_option maxHeartbeats 2000000 in
theorem drop_p (p : Nat) (c : Pc) (k : Ky) (w : World) (h : IsC w p c) : Calls Tryz.prog 56 #[.pointer (some ⟨p, 0, none⟩), .agg #[.int .i64 k.d, .string k.nm]] w fun x w' => x = .returned (.tuple #[]) ∧ ∃ c', Aft w w' p c c' ∧ Cutt c c' (fun e => !hasK k e) := by
  obtain ⟨W1, hW1⟩ : ∃ W, w.alloc (.cells #[.int .i64 k.d, .string k.nm] 29) = W := ⟨_, rfl⟩
  have b1 := boxO hW1
  have h1 := h.below b1.2.1
  have hd : IsC W1.drew p c := h1.drewN 1
  obtain ⟨go, hgo⟩ : ∃ x, c.dir k.d = x := ⟨_, rfl⟩
  obtain ⟨W2, c2, hr, a2, q2, hdir2, -⟩ := drop_mid hd k
  have box : ∀ W : World, W.heap[w.heap.size]? = W1.heap[w.heap.size]? → W.cell? ⟨w.heap.size, 0, none⟩ = some (.int .i64 k.d) ∧ W.cell? ⟨w.heap.size, 1, none⟩ = some (.string k.nm) := fun W hW => ⟨by rw [cell_of (hW.trans b1.1)]; rfl, by rw [cell_of (hW.trans b1.1)]; rfl⟩
  have nb : ¬ c.blk p w.heap.size := fun e => by have := h.lt e; omega
  have hb2 : W2.heap[w.heap.size]? = W1.heap[w.heap.size]? := a2.only.block _ (by show w.heap.size < W1.heap.size; omega) nb
  rw [hgo] at hr hdir2
  have l1 := hd.look k.d
  rw [hgo] at l1
  have kS : W1.drew.cell? ⟨p, 0, none⟩ = some (.map (some c.g0)) ∧ W1.drew.cell? ⟨w.heap.size, 0, none⟩ = some (.int .i64 k.d) ∧ W1.drew.cell? ⟨w.heap.size, 1, none⟩ = some (.string k.nm) ∧ (Instr.lookup 93 (.map (some c.g0)) (.int .i64 k.d) false).run Tryz.prog W1.drew = .ok (.map go) W1.drew := ⟨hd.cells.1, (box W1.drew rfl).1, (box W1.drew rfl).2, l1⟩
  have l2 := a2.is.look k.d
  rw [hdir2, q2.g0] at l2
  have c20 := a2.is.cells.1
  rw [q2.g0] at c20
  have kT : W2.cell? ⟨p, 0, none⟩ = some (.map (some c.g0)) ∧ W2.cell? ⟨w.heap.size, 0, none⟩ = some (.int .i64 k.d) ∧ W2.cell? ⟨w.heap.size, 1, none⟩ = some (.string k.nm) ∧ (Instr.lookup 93 (.map (some c.g0)) (.int .i64 k.d) false).run Tryz.prog W2 = .ok (.map go) W2 := ⟨c20, (box W2 hb2).1, (box W2 hb2).2, l2⟩
  have l2n : ∀ n, (Instr.lookup 93 (.map (some c.g0)) (.int .i64 k.d) false).run Tryz.prog (W2.drewN n) = .ok (.map go) (W2.drewN n) := fun n => by
    have := (a2.is.drewN n).look k.d
    rw [hdir2, q2.g0] at this; exact this
  obtain ⟨N, hN⟩ : ∃ N, (inn c2.om k.d).length = N := ⟨_, rfl⟩
  have lenn : ∀ n ty, (Builtin.len_ #[97] ty #[.map go]).run Tryz.prog (W2.drewN n) = .ok (.int .i64 N) (W2.drewN n) := fun n ty => by
    have := (a2.is.drewN n).lenI k.d ty
    rw [hdir2, hN] at this; exact this
  have A2 : Aft w W2 p c c2 := Aft.pre h b1.2.1 (Aft.pre h1 (below_drewN (Below.refl _ W1) 1) a2)
  have k0 := kT.1
  have k1 := kT.2.1
  have HI : Hid (Aft w W2 p c c2 ∧ Cutt c c2 (fun e => !hasK k e) ∧ W2.heap[w.heap.size]? = W1.heap[w.heap.size]? ∧ ¬ c2.blk p w.heap.size ∧ (inn c2.om k.d).length = N) := ⟨A2, q2, hb2, (fun e => by
    rcases a2.nblk _ e with e | e
    · exact nb e
    · have : W1.heap.size ≤ w.heap.size := e
      omega), hN⟩
  have HB : Hid (∀ W : World, W.heap[w.heap.size]? = W1.heap[w.heap.size]? → W.cell? ⟨w.heap.size, 0, none⟩ = some (.int .i64 k.d) ∧ W.cell? ⟨w.heap.size, 1, none⟩ = some (.string k.nm)) := box
  clear h h1 hd b1 a2 q2 hdir2 nb hb2 l1 l2 A2 hN box c20 hgo
  go_enter Tryz.func56, Tryz.ntmps56
  go_upto_region 1 with fail
  clear hW1
  go_region_held3 (fun W => W.cell? ⟨p, 0, none⟩ = some (.map (some c.g0)) ∧ W.cell? ⟨w.heap.size, 0, none⟩ = some (.int .i64 k.d) ∧ W.cell? ⟨w.heap.size, 1, none⟩ = some (.string k.nm) ∧ (Instr.lookup 93 (.map (some c.g0)) (.int .i64 k.d) false).run Tryz.prog W = .ok (.map go) W)
    (with_reducible first | exact kS | exact kT)
    (first | (refine step_delM rfl (.tmp 10) (.tmp 12) 97 9 rfl _ _ (by simp [Act.eval]) (by simp [Act.eval]) W2 hr ?_))
  clear kS kT hr
  go_upto_region 2 with fail
  go_quiet (fail)
  by_cases hz : N = 0
  · have hb : ((N : Int) == 0) = true := by rw [hz]; rfl
    rw [hb]
    obtain ⟨X, hX⟩ : ∃ X, W2.drewN nq = X := ⟨_, rfl⟩
    rw [hX]
    obtain ⟨V, hr, HV, kX, kY⟩ : ∃ V, (∀ ty, (Builtin.delete_ #[93, 3] ty #[.map (some c.g0), .int .i64 k.d]).run Tryz.prog X.drew = .ok (.tuple #[]) V) ∧ Hid (∃ c', Aft w V p c c' ∧ Cutt c c' (fun e => !hasK k e)) ∧ (X.drew.cell? ⟨p, 0, none⟩ = some (.map (some c.g0)) ∧ X.drew.cell? ⟨w.heap.size, 0, none⟩ = some (.int .i64 k.d)) ∧ (V.cell? ⟨p, 0, none⟩ = some (.map (some c.g0)) ∧ V.cell? ⟨w.heap.size, 0, none⟩ = some (.int .i64 k.d)) := by
      obtain ⟨i1, i2, i3, i4, i5⟩ := HI.out
      have bX : Below W2.heap.size W2 X.drew := by rw [← hX]; exact (below_drewN (Below.refl _ _) nq).drew
      have iX := i1.is.below bX
      obtain ⟨V, hr, hm, hO, -⟩ := delM kI undO 0 X.drew (some c2.g0) (om2 c2.om) iX.outer k.d
      have hO' : Only (· = c2.g0) X.drew V := hO.mono fun q e => by cases e; rfl
      have a := iX.delO hm hO'
      have q := cutt_dir iX k.d
      have hbw : w.heap.size < W2.heap.size := by
        have := (HB.out W2 i3).1
        exact cellLt this
      have e1 : X.drew.heap[w.heap.size]? = W1.heap[w.heap.size]? := (bX.block _ hbw).trans i3
      have e2 : V.heap[w.heap.size]? = W1.heap[w.heap.size]? := (hO'.block _ (Nat.lt_of_lt_of_le hbw bX.size) (fun e => i4 (.inr (.inl e)))).trans e1
      rw [i2.g0] at hr
      have c0 := iX.cells.1
      have c1 := a.is.cells.1
      rw [i2.g0] at c0
      refine ⟨V, fun ty => hr, ⟨_, (i1.post bX).trans a, ⟨?_, q.uses.trans i2.uses, q.wl.trans i2.wl, q.g0.trans i2.g0, q.g1.trans i2.g1⟩⟩, ⟨c0, (HB.out _ e1).1⟩, ⟨?_, (HB.out _ e2).1⟩⟩
      · rw [q.cont, ← i2.cont]
        refine List.filter_eq_self.2 fun x hx => decide_eq_true fun e => ?_
        have := i1.is.ok.innMem.2 ⟨hx, e, rfl⟩
        rw [List.eq_nil_of_length_eq_zero (i5.trans hz)] at this
        cases this
      · rw [← i2.g0]; exact c1
    clear hX HI HB l2n lenn k0 k1 hz hb
    go_upto_region 3 with fail
    go_region_held3 (fun W => W.cell? ⟨p, 0, none⟩ = some (.map (some c.g0)) ∧ W.cell? ⟨w.heap.size, 0, none⟩ = some (.int .i64 k.d))
      (with_reducible first | exact kX | exact kY)
      (first | (refine step_delM rfl (.tmp 25) (.tmp 27) 93 3 rfl _ _ (by simp [Act.eval]) (by simp [Act.eval]) V hr ?_))
    go_wp2
    go_end0
    exact ⟨rfl, HV.out⟩
  · have hb : ((N : Int) == 0) = false := by
      cases hh : ((N : Int) == 0) with
      | false => rfl
      | true =>
        have := eq_of_beq hh
        omega
    rw [hb]
    have HE : Hid (∃ c', Aft w (W2.drewN nq) p c c' ∧ Cutt c c' (fun e => !hasK k e)) := ⟨c2, HI.out.1.post (below_drewN (Below.refl _ _) nq), HI.out.2.1⟩
    clear HI HB l2n lenn k0 k1 hz hb
    go_wp2
    go_end0
    exact ⟨rfl, HE.out⟩
end
section
open Go.RowKit
attribute [local go_sem ↓ high] loadEn storeEn loadCa storeCa buildCa
attribute [local go_sem high] eqMN

theorem alloc_setRow (w : World) (a b : Array Value) (t : TypeId) : (w.alloc (.cells a t)).setRow w.heap.size b = w.alloc (.cells b t) := by
  unfold World.setRow World.alloc
  simp only
  congr 1
  apply Array.ext_getElem?
  intro i
  rw [Array.getElem?_modify]
  by_cases e : w.heap.size = i
  · subst e; simp
  · rw [if_neg e, Array.getElem?_push, Array.getElem?_push, if_neg (fun h => e h.symm), if_neg (fun h => e h.symm)]
theorem box7 (w : World) (e : En) : (enSt (.pointer (some ⟨w.heap.size, 0, none⟩)) e.agg).run Tryz.prog (w.alloc (.cells #[.int .i64 0, .string ⟨#[]⟩, .bool false, .int .i64 0, .int .i64 0, .int .i64 0, .string ⟨#[]⟩] 52)) = .ok () (w.alloc (.cells e.vals.toArray 52)) :=
  enSt_of (heap_new _ _) rfl (alloc_setRow w _ _ _)
theorem box8 (w : World) (x : En × Nat) : (caSt (.pointer (some ⟨w.heap.size, 0, none⟩)) (mvC x)).run Tryz.prog (w.alloc (.cells #[.int .i64 0, .string ⟨#[]⟩, .bool false, .int .i64 0, .int .i64 0, .int .i64 0, .string ⟨#[]⟩, .int .i64 0] 99)) = .ok () (w.alloc (.cells (cvals x).toArray 99)) :=
  caSt_of (heap_new _ _) rfl (alloc_setRow w _ _ _)
theorem ld7 (w : World) (e : En) (t : TypeId) : (enLd (.pointer (some ⟨w.heap.size, 0, none⟩))).run Tryz.prog (w.alloc (.cells e.vals.toArray t)) = .ok e.agg (w.alloc (.cells e.vals.toArray t)) := enLd_at (cells7_of (heap_new _ _))

/-- what the chapter says of a name -/
theorem get_s (p : Nat) (c : Pc) (s : Cs) (k : Ky) (w : World) (h : IsC w p c) (hs : Says c s) : Calls Tryz.prog 40 #[.pointer (some ⟨p, 0, none⟩), .agg #[.int .i64 k.d, .string k.nm]] w fun x w' => x = .returned (.tuple #[((getL s.L k).getD zeroEn).agg, .bool (getL s.L k).isSome]) ∧ Below w.heap.size w w' := by
  refine (get_p p c k w h).mono ?_
  rintro x w' ⟨rfl, hb⟩
  refine ⟨?_, hb⟩
  rw [← hs.get h.ok k]
  cases mget (inn c.om k.d) k.nm <;> rfl
set_option maxHeartbeats 2000000 in
theorem use_p (p : Nat) (c : Pc) (s : Cs) (k : Ky) (w : World) (h : IsC w p c) (hs : Says c s) (hn : ∀ e ∈ s.L, e.nm ≠ nob) (hu : c.uses < 4611686018427387904) : Calls Tryz.prog 22 #[.pointer (some ⟨p, 0, none⟩), .agg #[.int .i64 k.d, .string k.nm]] w fun x w' => x = .returned (.bool (getL s.L k).isSome) ∧ ∃ c', Aft w w' p c c' ∧ Says c' (s.use k) ∧ c'.uses ≤ c.uses + 1 := by
  obtain ⟨W1, hW1⟩ : ∃ W, w.alloc (.cells #[.int .i64 k.d, .string k.nm] 29) = W := ⟨_, rfl⟩
  have b1 := boxO hW1
  have k0 : W1.cell? ⟨w.heap.size, 0, none⟩ = some (.int .i64 k.d) := by rw [cell_of b1.1]; rfl
  have k1 : W1.cell? ⟨w.heap.size, 1, none⟩ = some (.string k.nm) := by rw [cell_of b1.1]; rfl
  have h1 := h.below b1.2.1
  have HG : Hid (Calls Tryz.prog 40 #[.pointer (some ⟨p, 0, none⟩), .agg #[.int .i64 k.d, .string k.nm]] W1 fun x w' => x = .returned (.tuple #[((getL s.L k).getD zeroEn).agg, .bool (getL s.L k).isSome]) ∧ Below W1.heap.size W1 w') := get_s p c s k W1 h1 hs
  have bx := box7
  have ld := ld7
  cases hg : getL s.L k with
  | none =>
    rw [hg] at HG
    have HE : Hid (∀ W, Below W1.heap.size W1 W → ∃ c', Aft w W p c c' ∧ Says c' (s.use k) ∧ c'.uses ≤ c.uses + 1) := fun W hW => ⟨c, (Aft.refl h b1.2.1).post hW, by unfold Cs.use; rw [hg]; exact hs, Nat.le_succ _⟩
    clear h hs hn hu h1 b1 hg
    go_enter Tryz.func22, Tryz.ntmps22
    go_wp2_with (go_at_call 40; refine HG.out.mono ?_; rintro x W2 ⟨rfl, hb⟩; have HB2 : Hid (Below W1.heap.size W1 W2) := hb; clear hb)
    go_ret
    exact ⟨rfl, HE.out _ (chainB HB2.out (below_alloc _ _))⟩
  | some e =>
    rw [hg] at HG
    have hm := ((hs.keys h.ok).get).1 hg
    have HP : Hid (∀ W, Below W1.heap.size W1 W → Calls Tryz.prog 20 #[.pointer (some ⟨p, 0, none⟩), e.agg] W fun x w' => ∃ v, x = .returned (.int .i64 v) ∧ ∃ c', Aft w w' p c c' ∧ Says c' (s.use k) ∧ c'.uses ≤ c.uses + 1) := fun W hW => by
      refine (putK_p p c s e W (h1.below hW) hs hu).mono ?_
      rintro x w' ⟨rfl, c', ha, hs', hu'⟩
      rw [if_neg (hn e hm.1)] at hs'
      refine ⟨_, rfl, c', ((Aft.refl h b1.2.1).post hW).trans ha, ?_, hu'⟩
      have : s.use k = s.put e := by
        unfold Cs.use Cs.put
        rw [hg]
        have : e.key = k := by unfold En.key; rw [hm.2.1, hm.2.2]
        rw [this]
      rw [this]; exact hs'
    clear h hs hn hu h1 b1 hg hm
    go_enter Tryz.func22, Tryz.ntmps22
    go_wp2_with (first
      | (go_at_call 20; refine (HP.out _ (chainB HB2.out (below_alloc _ _))).mono ?_; rintro x W3 ⟨v, rfl, he⟩; have HE : Hid (∃ c', Aft w W3 p c c' ∧ Says c' (s.use k) ∧ c'.uses ≤ c.uses + 1) := he; clear he)
      | (go_at_call 40; refine HG.out.mono ?_; rintro x W2 ⟨rfl, hb⟩; have HB2 : Hid (Below W1.heap.size W1 W2) := hb; clear hb))
    go_ret
    exact ⟨rfl, HE.out⟩
end
end Go.Proofs.YtmndnjgbbpkidaaGreat
