/- ScrollPlays: what the law has, from call to call. -/
import Derived.Test.YtajgaialnafdbaaJSAys32
namespace Go.Proofs.Ytajgaialnafdbaa
section
open Go.RowKit Go.Lib

theorem rf_keepA {w w' : World} {b g r sb G H n u : Nat} {R : Rf} {s : Dsk} (h : IsRf w r R) (hD : IsD w b g s) (hs : IsS w sb b G H n u) (hO : Only (fun x => x = b ∨ x = g ∨ x = sb) w w') : IsRf w' r R := by
  have key : ∀ {t : TypeId} {q : Nat}, Tag w q t → t ≠ 82 → t ≠ 90 → t ≠ 75 → w'.heap[q]? = w.heap[q]? := fun ht h1 h2 h3 => hO.block _ ht.lt fun hc => by
    rcases hc with e | e | e
    · exact ht.ne hD.tagb h1 e
    · exact ht.ne hD.tagg h2 e
    · exact ht.ne hs.tag h3 e
  exact h.moved (key h.tr (by decide) (by decide) (by decide)) (fun k hk => key (h.tv hk) (by decide) (by decide) (by decide)) (fun k hk => key hk (by decide) (by decide) (by decide))
theorem t_keepA {w w' : World} {b g r q sb G H n u G' H' n' u' : Nat} {s : Dsk} (h : IsT w q r G' H' u' n') (hD : IsD w b g s) (hs : IsS w sb b G H n u) (hO : Only (fun x => x = b ∨ x = g ∨ x = sb) w w') : IsT w' q r G' H' u' n' :=
  h.only hO (by
    rintro (e | e | e)
    · exact h.tag.ne hD.tagb (by decide) e
    · exact h.tag.ne hD.tagg (by decide) e
    · exact h.tag.ne hs.tag (by decide) e)
theorem x_keepA {w w' : World} {b g sb G H n u x : Nat} {k a l f m : Int} {s : Dsk} (h : Bx5 w x k a l f m) (hD : IsD w b g s) (hs : IsS w sb b G H n u) (hO : Only (fun x => x = b ∨ x = g ∨ x = sb) w w') : Bx5 w' x k a l f m :=
  (hO.block _ h.tag.lt (fun hk => by
    rcases hk with e | e | e
    · exact h.tag.ne hD.tagb (by decide) e
    · exact h.tag.ne hD.tagg (by decide) e
    · exact h.tag.ne hs.tag (by decide) e)).trans h
theorem ne_B {w : World} {r q x G H u n : Nat} {t : TypeId} {R : Rf} (ht : Tag w x t) (hr : IsRf w r R) (hq : IsT w q r G H u n) (h1 : t ≠ 85) (h2 : t ≠ 92) (h3 : t ≠ 51) : ¬ (x = r ∨ R.v.ownBlock = some x ∨ x = q) := by
  rintro (e | e | e)
  · exact ht.ne hr.tr h1 e
  · exact ht.ne (hr.tv e) h2 rfl
  · exact ht.ne hq.tag h3 e
theorem d_keepB {w w' : World} {b g r q G H u n : Nat} {R : Rf} {s : Dsk} (h : IsD w b g s) (hr : IsRf w r R) (hq : IsT w q r G H u n) (hO : Only (fun x => x = r ∨ R.v.ownBlock = some x ∨ x = q) w w') : IsD w' b g s :=
  h.only hO (ne_B h.tagb hr hq (by decide) (by decide) (by decide)) (ne_B h.tagg hr hq (by decide) (by decide) (by decide))
theorem s_keepB {w w' : World} {b r q sb G H n u G' H' n' u' : Nat} {R : Rf} (h : IsS w sb b G' H' n' u') (hr : IsRf w r R) (hq : IsT w q r G H u n) (hO : Only (fun x => x = r ∨ R.v.ownBlock = some x ∨ x = q) w w') : IsS w' sb b G' H' n' u' :=
  h.only hO (ne_B h.tag hr hq (by decide) (by decide) (by decide))
theorem x_keepB {w w' : World} {r q x G H n u : Nat} {k a l f m : Int} {R : Rf} (h : Bx5 w x k a l f m) (hr : IsRf w r R) (hq : IsT w q r G H u n) (hO : Only (fun x => x = r ∨ R.v.ownBlock = some x ∨ x = q) w w') : Bx5 w' x k a l f m :=
  (hO.block _ h.tag.lt (ne_B h.tag hr hq (by decide) (by decide) (by decide))).trans h
/-- both disks, both scrolls, and the entry of the script that is played -/
structure Lq (w0 w : World) (b g r : Nat) (s : Dsk) (R : Rf) (N k : Nat) (sb q G H n u x : Nat) (kk aa ll ff mm : Int) : Prop where
  d : Dk w0 w b g r s R N k
  ss : IsS w sb b G H n u
  tt : IsT w q r G H u n
  xx : Bx5 w x kk aa ll ff mm
  hG : G ≤ 1073741824
  hH : H ≤ 1
  hu : u ≤ hS s.cs
  hn : n ≤ u
  ls : w0.heap.size ≤ sb
  lq : w0.heap.size ≤ q
/-- both disks and both scrolls -/
structure TlB (w0 w : World) (b g r : Nat) (s : Dsk) (R : Rf) (N k : Nat) (sb q G H n u : Nat) : Prop where
  d : Dk w0 w b g r s R N k
  ss : IsS w sb b G H n u
  tt : IsT w q r G H u n
  hG : G ≤ 1073741824
  hH : H ≤ 1
  hu : u ≤ hS s.cs
  hn : n ≤ u
  ls : w0.heap.size ≤ sb
  lq : w0.heap.size ≤ q
theorem TlB.below {w0 w w' : World} {b g r : Nat} {s : Dsk} {R : Rf} {N k sb q G H n u : Nat} (h : TlB w0 w b g r s R N k sb q G H n u) (hb : Below w.heap.size w w') : TlB w0 w' b g r s R N k sb q G H n u :=
  ⟨h.d.below hb, h.ss.below hb, h.tt.below hb, h.hG, h.hH, h.hu, h.hn, h.ls, h.lq⟩
theorem TlB.mono {w0 w : World} {b g r : Nat} {s : Dsk} {R : Rf} {N k k' sb q G H n u : Nat} (h : TlB w0 w b g r s R N k sb q G H n u) (hk : k ≤ k') : TlB w0 w b g r s R N k' sb q G H n u :=
  ⟨h.d.mono hk, h.ss, h.tt, h.hG, h.hH, h.hu, h.hn, h.ls, h.lq⟩
theorem TlB.scs {w0 w : World} {b g r : Nat} {s : Dsk} {R : Rf} {N k sb q G H n u : Nat} (h : TlB w0 w b g r s R N k sb q G H n u) : Scs w0 w b r (hS s.cs) (.pointer (some ⟨sb, 0, none⟩)) (.pointer (some ⟨q, 0, none⟩)) :=
  .inr ⟨sb, q, G, H, n, u, rfl, rfl, h.ss, h.tt, h.hG, h.hH, h.hu, h.hn, h.ls, h.lq⟩
theorem TlB.roomP {w0 w : World} {b g r : Nat} {s : Dsk} {R : Rf} {N k sb q G H n u : Nat} (h : TlB w0 w b g r s R N k sb q G H n u) (hN : 1 ≤ N ∧ N ≤ 1024) : ∀ W, Below w.heap.size w W → Calls Try.prog 21 #[.pointer (some ⟨sb, 0, none⟩)] W fun e w' => e = .returned (.int .i64 (hS s.cs - u : Nat)) ∧ Below w.heap.size w w' := fun W hb =>
  (room_any sb b G H n u g s W (h.ss.below hb) (h.d.dk.below hb) (by rw [h.d.sim.n, h.d.n]; exact hN.1) h.hu).mono fun _ _ hq => ⟨hq.1, chainB hb hq.2.below⟩
theorem TlB.roomD {w0 w : World} {b g r : Nat} {s : Dsk} {R : Rf} {N k sb q G H n u : Nat} (h : TlB w0 w b g r s R N k sb q G H n u) (hN : 1 ≤ N ∧ N ≤ 1024) (hk : k * 32 ≤ 140737488355328) : ∀ W, Below w.heap.size w W → Calls Try.prog 22 #[.pointer (some ⟨q, 0, none⟩)] W fun e w' => e = .returned (.int .i64 (hS s.cs - u : Nat)) ∧ Below w.heap.size w w' := fun W hb => by
  have hbk := h.d.bk hN.1 hN.2 hk
  exact (room_d q r G H u n (hS s.cs) W (h.tt.below hb) (by rw [hbk.hs, h.d.n]; omega) h.hu (fun W2 hb2 => hbk.half (h.d.rf.below (chainB hb hb2)))).mono fun _ _ hq => ⟨hq.1, chainB hb hq.2⟩
theorem TlB.genP {w0 w : World} {b g r : Nat} {s : Dsk} {R : Rf} {N k sb q G H n u : Nat} (h : TlB w0 w b g r s R N k sb q G H n u) : ∀ W, Below w.heap.size w W → Calls Try.prog 23 #[.pointer (some ⟨sb, 0, none⟩)] W fun e w' => e = .returned (.int .i64 (G : Nat)) ∧ Below w.heap.size w w' := fun W hb =>
  (gen_any sb b G H n u W (h.ss.below hb)).mono fun _ _ hq => ⟨hq.1, hq.2 ▸ hb⟩
theorem like_ps {w0 w : World} {b g r : Nat} {s : Dsk} {R : Rf} {N k : Nat} (h : Dk w0 w b g r s R N k) (hN : 1 ≤ N ∧ N ≤ 1024) (hk : k * 32 ≤ 140737488355328) : ∀ W, Below w.heap.size w W → Calls Try.prog 20 #[.pointer (some ⟨b, 0, none⟩), .pointer (some ⟨r, 0, none⟩)] W fun e w' => e = .returned (.bool true) ∧ Below w.heap.size w w' := fun W hb =>
  (like_any b g r s R W (h.dk.below hb) (h.rf.below hb) h.sim (by rw [h.n]; exact hN.2) (by have := h.few; omega)).mono fun _ _ hq => ⟨hq.1, chainB hb hq.2⟩
theorem own_keepB {w : World} {r base : Nat} {v : Value} {l : List Int} {R : Rf} (h : OwnB w base v l) (hr : IsRf w r R) : ∀ w', Only (fun x => x = r ∨ R.v.ownBlock = some x) w w' → RC w' v l := fun w' hO =>
  (h.moved fun k hk => hO.block k (h.tag hk).lt (by
    rintro (e | e)
    · exact (h.tag hk).ne hr.tr (by decide) e
    · exact (h.tag hk).ne (hr.tv e) (by decide) rfl)).rc
/-- the program has done its call -/
structure Lm (w0 w : World) (b g r : Nat) (s T : Dsk) (R : Rf) (N k : Nat) (sb q G H n u G' H' n' u' x : Nat) (kk aa ll ff mm : Int) : Prop where
  dk : IsD w b g T
  rf : IsRf w r R
  sim : Sim s R
  nn : R.n = N
  few : R.did.length ≤ k
  bel : Below w0.heap.size w0 w
  ss : IsS w sb b G' H' n' u'
  tt : IsT w q r G H u n
  xx : Bx5 w x kk aa ll ff mm
  lb : w0.heap.size ≤ b ∧ w0.heap.size ≤ g ∧ w0.heap.size ≤ r ∧ w0.heap.size ≤ sb ∧ w0.heap.size ≤ q ∧ ∀ c, R.v.ownBlock = some c → w0.heap.size ≤ c
section
variable {w0 w w' : World} {b g r : Nat} {s T : Dsk} {R : Rf} {N k : Nat} {sb q G H n u G' H' n' u' x : Nat} {kk aa ll ff mm : Int}
theorem Lq.tl (h : Lq w0 w b g r s R N k sb q G H n u x kk aa ll ff mm) : TlB w0 w b g r s R N k sb q G H n u := ⟨h.d, h.ss, h.tt, h.hG, h.hH, h.hu, h.hn, h.ls, h.lq⟩
theorem Lq.below (h : Lq w0 w b g r s R N k sb q G H n u x kk aa ll ff mm) (hb : Below w.heap.size w w') : Lq w0 w' b g r s R N k sb q G H n u x kk aa ll ff mm :=
  ⟨h.d.below hb, h.ss.below hb, h.tt.below hb, h.xx.below hb, h.hG, h.hH, h.hu, h.hn, h.ls, h.lq⟩
theorem Lm.below (h : Lm w0 w b g r s T R N k sb q G H n u G' H' n' u' x kk aa ll ff mm) (hb : Below w.heap.size w w') : Lm w0 w' b g r s T R N k sb q G H n u G' H' n' u' x kk aa ll ff mm :=
  ⟨h.dk.below hb, h.rf.below hb, h.sim, h.nn, h.few, chainB h.bel hb, h.ss.below hb, h.tt.below hb, h.xx.below hb, h.lb⟩
theorem Lq.prog (h : Lq w0 w b g r s R N k sb q G H n u x kk aa ll ff mm) (h1 : IsD w' b g T) (h2 : IsS w' sb b G' H' n' u') (hO : Only (fun x => x = b ∨ x = g ∨ x = sb) w w') : Lm w0 w' b g r s T R N k sb q G H n u G' H' n' u' x kk aa ll ff mm :=
  ⟨h1, rf_keepA h.d.rf h.d.dk h.ss hO, h.d.sim, h.d.n, h.d.few, hO.below h.d.bel h.d.bel.size (fun c hc => by
    rcases hc with e | e | e
    · rw [e]; exact h.d.lb
    · rw [e]; exact h.d.lg
    · rw [e]; exact h.ls), h2, t_keepA h.tt h.d.dk h.ss hO, x_keepA h.xx h.d.dk h.ss hO, ⟨h.d.lb, h.d.lg, h.d.lr, h.ls, h.lq, h.d.lv⟩⟩
theorem Lm.doc {R' : Rf} {j : Nat} (h : Lm w0 w b g r s T R N k sb q G H n u G' H' n' u' x kk aa ll ff mm) (h1 : Dl w w' q r N R T j R') (h2 : IsT w' q r G' H' u' n') (hby : BytC T.cs) (hG : G' ≤ 1073741824) (hH : H' ≤ 1) (hu : u' ≤ hS T.cs) (hn : n' ≤ u') : Lq w0 w' b g r T R' N (k + j) sb q G' H' n' u' x kk aa ll ff mm := by
  obtain ⟨lb, lg, lr, ls, lq, lv⟩ := h.lb
  refine ⟨⟨d_keepB h.dk h.rf h.tt h1.only, h1.rf, h1.sim, hby, h1.n, by have := h1.few; have := h.few; omega, h1.only.below h.bel h.bel.size (fun c hc => ?_), lb, lg, lr, fun c hc => ?_⟩, s_keepB h.ss h.rf h.tt h1.only, h2, x_keepB h.xx h.rf h.tt h1.only, hG, hH, hu, hn, ls, lq⟩
  · rcases hc with e | e | e
    · rw [e]; exact lr
    · exact lv c e
    · rw [e]; exact lq
  · rcases h1.own with e | e
    · rw [e] at hc; exact lv c hc
    · exact Nat.le_trans h.bel.size (e c hc)
end
theorem Scs.moved {w0 w w' : World} {b r M x : Nat} {vs vt : Value} (h : Scs w0 w b r M vs vt) (hO : Only (fun y => y = x) w w') (h1 : ∀ k, Tag w k 75 → k ≠ x) (h2 : ∀ k, Tag w k 51 → k ≠ x) : Scs w0 w' b r M vs vt := by
  rcases h with h | ⟨sb, q, G, H, n, u, e1, e2, h3, h4, h5⟩
  · exact .inl h
  · exact .inr ⟨sb, q, G, H, n, u, e1, e2, h3.only hO (h1 _ h3.tag), h4.only hO (h2 _ h4.tag), h5⟩
theorem Dk.two {w0 w w1 w2 : World} {b g r : Nat} {s s' : Dsk} {R R' : Rf} {N k : Nat} (h : Dk w0 w b g r s R N k) (h1 : IsD w1 b g s') (hO1 : Only (fun x => x = b) w w1) (h2 : IsRf w2 r R') (hO2 : Only (fun x => x = r) w1 w2) (hS' : Sim s' R') (hc : s'.cs = s.cs) (hn : R'.n = R.n) (hd : R'.did = R.did) (hv : R'.v = R.v) : Dk w0 w2 b g r s' R' N k := by
  have hr1 : IsRf w1 r R := h.rf.disk h.dk (hO1.mono fun _ hx => .inl hx)
  refine ⟨h1.only hO2 (fun e => h1.tagb.ne hr1.tr (by decide) e) (fun e => h1.tagg.ne hr1.tr (by decide) e), h2, hS', by rw [hc]; exact h.byt, hn.trans h.n, by rw [hd]; exact h.few, ?_, h.lb, h.lg, h.lr, by rw [hv]; exact h.lv⟩
  have e1 : Below w0.heap.size w0 w1 := hO1.below h.bel h.bel.size fun c hc => by rw [hc]; exact h.lb
  exact hO2.below e1 e1.size fun c hc => by rw [hc]; exact h.lr
theorem Scs.two {w0 w w1 w2 : World} {b g r M : Nat} {s s' : Dsk} {R : Rf} {vs vt : Value} (h : Scs w0 w b r M vs vt) (hD : IsD w b g s) (hR : IsRf w r R) (_ : IsD w1 b g s') (hO1 : Only (fun x => x = b) w w1) (hO2 : Only (fun x => x = r) w1 w2) : Scs w0 w2 b r M vs vt := by
  have hr1 : IsRf w1 r R := hR.disk hD (hO1.mono fun _ hx => .inl hx)
  exact (h.moved hO1 (fun k ht => ht.ne hD.tagb (by decide)) (fun k ht => ht.ne hD.tagb (by decide))).moved hO2 (fun k ht => ht.ne hr1.tr (by decide)) (fun k ht => ht.ne hr1.tr (by decide))
theorem fmt_E {s : Dsk} {R : Rf} (h : Sim s R) (h1 : 1 ≤ R.n) : fmtE s = R.fmtE s.cs := by
  unfold fmtE Rf.fmtE
  have e : hS s.cs = (R.n - 1) / 2 := by unfold hS; rw [h.n]
  by_cases h3 : R.n < 3
  · rw [if_pos h3, if_pos (by omega)]
  · rw [if_neg h3, if_neg (by omega), h.wrE]
theorem fmt_len (s : Dsk) : (fmtD s).cs.length = s.cs.length := by
  unfold fmtD
  split
  · rfl
  · split
    · rw [wr_len]
    · rfl
theorem Dk.fmt {w0 w w1 w2 : World} {b g r : Nat} {s : Dsk} {R R' : Rf} {N k : Nat} (h : Dk w0 w b g r s R N k) (hN : 1 ≤ N) (h1 : IsD w1 b g (fmtD s)) (hO1 : Only (fun x => x = b ∨ x = g) w w1) (h2 : IsRf w2 r R') (hA : R.fmtA R' s.cs) (hO2 : Only (fun x => x = r ∨ R.v.ownBlock = some x) w1 w2) (hv : R'.v.ownBlock = R.v.ownBlock ∨ ∀ q, R'.v.ownBlock = some q → w1.heap.size ≤ q) : Dk w0 w2 b g r (fmtD s) R' N (k + 1) := by
  have e : hS s.cs = (R.n - 1) / 2 := by unfold hS; rw [h.sim.n]
  have same : R' = R → fmtD s = s → Dk w0 w2 b g r (fmtD s) R' N (k + 1) := fun hR hT => by
    rw [hT] at h1 ⊢
    rw [hR] at h2 ⊢
    have hr1 := h.rf.disk h.dk hO1
    have e1 : Below w0.heap.size w0 w1 := hO1.below h.bel h.bel.size (fun q hq => hq.elim (fun e => e ▸ h.lb) (fun e => e ▸ h.lg))
    exact ⟨h1.ref hr1 hO2, h2, h.sim, h.byt, h.n, by have := h.few; omega, hO2.below e1 e1.size (fun q hq => hq.elim (fun e => e ▸ h.lr) (h.lv q)), h.lb, h.lg, h.lr, h.lv⟩
  unfold Rf.fmtA at hA
  by_cases h3 : R.n < 3
  · rw [if_pos h3] at hA
    exact same hA (by unfold fmtD; rw [if_pos (by have := h.n; omega)])
  · rw [if_neg h3] at hA
    by_cases hx : nextG s.cs ≤ 1073741824
    · rw [if_pos hx] at hA
      have eT : fmtD s = s.wr 0 (hdrB (nextG s.cs) (nextH s.cs)) := by unfold fmtD; rw [if_neg (by omega), if_pos hx]
      rw [eT] at h1 ⊢
      exact h.wrote 0 _ (byt_hdr _ _) h1 hO1 h2 hA hO2 hv
    · rw [if_neg hx] at hA
      exact same hA (by unfold fmtD; rw [if_neg (by omega), if_neg hx])
end
section
open Go.RowKit Go.Lib

theorem x_disk {w w' : World} {b g x : Nat} {k a l f m : Int} {s : Dsk} (h : Bx5 w x k a l f m) (hD : IsD w b g s) (hO : Only (fun x => x = b) w w') : Bx5 w' x k a l f m :=
  (hO.block _ h.tag.lt (fun e => h.tag.ne hD.tagb (by decide) e)).trans h
section
variable {w0 w w' : World} {b g r : Nat} {s T : Dsk} {R : Rf} {N k : Nat} {sb q G H n u G' H' n' u' x : Nat} {kk aa ll ff mm : Int} {l : List Int}
theorem Lq.few (h : Lq w0 w b g r s R N k sb q G H n u x kk aa ll ff mm) (hN : 1 ≤ N ∧ N ≤ 1024) : hS s.cs ≤ 1024 ∧ n < 1000000 ∧ 1 ≤ s.cs.length := by
  have h1 : s.cs.length = N := by rw [h.d.sim.n, h.d.n]
  have h2 : hS s.cs ≤ 1024 := by unfold hS; omega
  have := h.hu
  have := h.hn
  omega
theorem Lq.app_p (h : Lq w0 w b g r s R N k sb q G H n u x kk aa ll ff mm) (hN : 1 ≤ N ∧ N ≤ 1024) (hk : k ≤ 140737488355328) (v : Value) (l : List Int) (hv : RT w v l) (hl : l.length ≤ 1000000) :
    Calls Try.prog 8 #[.pointer (some ⟨sb, 0, none⟩), v] w fun e w' => e = .returned (.int .i64 (apE s G H n u l)) ∧ Lm w0 w' b g r s (apT s G H n u l) R N k sb q G H n u G H (apN s G H n u l) (apU s G H n u l) x kk aa ll ff mm := by
  have hf := h.few hN
  refine (Go.Proofs.Ytajgaialnafdbaa.app_p sb b G H n u g s R.did.length h.d.sim.ok (by have := h.d.few; omega) v l w h.ss h.d.dk hf.2.2 hv hl (by have := h.hG; omega) hf.2.1 h.hH h.hu).mono ?_
  rintro e w2 ⟨rfl, h1, h2, hO⟩
  exact ⟨rfl, h.prog h1 h2 hO⟩
theorem Lm.app_d (h : Lm w0 w b g r s (apT s G H n u l) R N k sb q G H n u G H (apN s G H n u l) (apU s G H n u l) x kk aa ll ff mm) (hN : 1 ≤ N ∧ N ≤ 1024) (hk : (k + 9) * 32 ≤ 140737488355328) (hby : BytC s.cs) (hG : G ≤ 1073741824) (hH : H ≤ 1) (hn : n < 1000000) (hu : u ≤ hS s.cs) (hnu : n ≤ u) (v : Value) (base : Nat) (hv : OwnB w base v l) (hl : Byt l) :
    Calls Try.prog 10 #[.pointer (some ⟨q, 0, none⟩), v] w fun e w' => e = .returned (.int .i64 (apE s G H n u l)) ∧ ∃ R', Lq w0 w' b g r (apT s G H n u l) R' N (k + 8) sb q G H (apN s G H n u l) (apU s G H n u l) x kk aa ll ff mm := by
  refine (Go.Proofs.Ytajgaialnafdbaa.app_d q r G H u n N R s v l w h.tt h.rf h.sim h.nn hN.1 hN.2 (own_keepB hv h.rf) (by omega) hn hH hu (by have := h.few; omega)).mono ?_
  rintro e w2 ⟨rfl, h1, R', h2⟩
  have hle := apU_le (l := l) (G := G) (H := H) hu hnu
  have e : hS (apT s G H n u l).cs = hS s.cs := by unfold hS; rw [apT_len]
  exact ⟨rfl, R', h.doc h2 h1 (apT_byt hby hl) hG hH (by rw [e]; exact hle.1) hle.2⟩
theorem ok_tot : ∀ {L : List (List Int)}, (∀ l ∈ L, okR l) → L.length ≤ tot L
  | [], _ => Nat.zero_le _
  | a :: L, h => by
    have h2 := ok_tot (L := L) fun l hl => h l (List.mem_cons_of_mem _ hl)
    have h3 := nb_pos (h a (List.mem_cons_self ..)).1
    have : tot (a :: L) = nb a.length + tot L := by unfold tot; simp
    rw [this, List.length_cons]; omega
theorem tu_le {s : Dsk} {L : List (List Int)} (hu : u ≤ hS s.cs) (hnu : n ≤ u) (hG : G ≤ 1073741824) (hH : H ≤ 1) :
    (if tuD s L then nextG s.cs else G) ≤ 1073741824 ∧ (if tuD s L then nextH s.cs else H) ≤ 1 ∧ (if tuD s L then tot L else u) ≤ hS s.cs ∧ (if tuD s L then L.length else n) ≤ (if tuD s L then tot L else u) := by
  cases hD : tuD s L with
  | false => exact ⟨hG, hH, hu, hnu⟩
  | true =>
    have hg : tuG s L := by
      unfold tuD at hD
      rw [Bool.and_eq_true] at hD
      exact of_decide_eq_true hD.1
    exact ⟨hg.2.2, nextH_le _, hg.2.1, ok_tot (okB_iff.1 hg.1)⟩
theorem Lq.turn_p (h : Lq w0 w b g r s R N k sb q G H n u x kk aa ll ff mm) (hN : 1 ≤ N ∧ N ≤ 1024) (hk : k ≤ 140737488355328) (a : Option Addr) (cap c : Nat) (L : List (List Int)) (hr : Rs w (.slice a L.length cap) L) (hL : L.length ≤ 1000) (hc : ∀ l ∈ L, l.length = c) (hc2 : c ≤ 1000000) :
    Calls Try.prog 11 #[.pointer (some ⟨sb, 0, none⟩), .slice a L.length cap] w fun e w' => e = .returned (.int .i64 (tuE s L)) ∧ Lm w0 w' b g r s (tuT s L) R N k sb q G H n u (if tuD s L then nextG s.cs else G) (if tuD s L then nextH s.cs else H) (if tuD s L then L.length else n) (if tuD s L then tot L else u) x kk aa ll ff mm := by
  have hf := h.few hN
  refine (Go.Proofs.Ytajgaialnafdbaa.turn_p sb b G H n u g s R.did.length h.d.sim.ok (by have := h.d.few; omega) a cap c L w h.ss h.d.dk hf.2.2 h.d.byt hr hL hc hc2).mono ?_
  rintro e w2 ⟨rfl, h1, h2, hO⟩
  exact ⟨rfl, h.prog h1 h2 hO⟩
set_option maxRecDepth 100000 in
theorem Lm.turn_d {L : List (List Int)} (h : Lm w0 w b g r s (tuT s L) R N k sb q G H n u (if tuD s L then nextG s.cs else G) (if tuD s L then nextH s.cs else H) (if tuD s L then L.length else n) (if tuD s L then tot L else u) x kk aa ll ff mm) (_ : 1 ≤ N ∧ N ≤ 1024) (hk : (k + 8010) * 32 ≤ 140737488355328) (hbk : Bk R s.cs) (hby : BytC s.cs) (hG : G ≤ 1073741824) (hH : H ≤ 1) (hu : u ≤ hS s.cs) (hnu : n ≤ u) (a : Option Addr) (cap base mm' : Nat) (hv : OwnR w base mm' (.slice a L.length cap) L) (hL : L.length ≤ 1000) (hLl : ∀ l ∈ L, l.length ≤ 1000000) (hLb : ∀ l ∈ L, Byt l) :
    Calls Try.prog 13 #[.pointer (some ⟨q, 0, none⟩), .slice a L.length cap] w fun e w' => e = .returned (.int .i64 (tuE s L)) ∧ ∃ R', Lq w0 w' b g r (tuT s L) R' N (k + 8001) sb q (if tuD s L then nextG s.cs else G) (if tuD s L then nextH s.cs else H) (if tuD s L then L.length else n) (if tuD s L then tot L else u) x kk aa ll ff mm := by
  refine (turn_dd q r G H u n N R s a cap L w h.tt h.rf h.sim h.nn hbk base mm' hv hL hLl (Nat.le_trans (Nat.mul_le_mul_right 32 (Nat.add_le_add_right h.few 8010)) hk)).mono ?_
  rintro e w2 ⟨rfl, h1, R', h2⟩
  obtain ⟨e1, e2, e3, e4⟩ := tu_le (L := L) hu hnu hG hH
  have e : hS (tuT s L).cs = hS s.cs := by unfold hS; rw [tuT_len]
  exact ⟨rfl, R', h.doc h2 h1 (tuT_byt hby hLb) e1 e2 (by rw [e]; exact e3) e4⟩
end
end
end Go.Proofs.Ytajgaialnafdbaa
