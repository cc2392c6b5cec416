/- filled: a cache that holds a tree, in memory. -/
import Derived.Test.YtppbbddlbfgpfaaJWOme26
import Derived.Test.YtppbbddlbfgpfaaJWOme35
import Derived.Test.YtppbbddlbfgpfaaJWOme15
import Derived.Test.YtppbbddlbfgpfaaJWOme02
import Derived.Test.YtppbbddlbfgpfaaJWOme34
import Derived.Test.YtppbbddlbfgpfaaJWOme06
import Derived.Test.YtppbbddlbfgpfaaJWOme33
namespace Go.Proofs.Ytppbbddlbfgpfaa
section
open Go.RowKit
attribute [local go_sem ↓ high] loadEn storeEn

/-- the blocks of a tree -/
def TB (t : Nat) (s : Tr) : Nat → Prop := fun b => b = t ∨ s.v.ownBlock = some b
/-- the cache has changed, the tree has not -/
theorem Law.kept {w0 wr w' : World} {t : Nat} {s : Tr} {k : Int} (h : Law w0 wr t s k) (hk : ∀ b, TB t s b → w'.heap[b]? = wr.heap[b]?) (hb : Below w0.heap.size w0 w') : Law w0 w' t s k :=
  ⟨⟨h.own.is.moved (hk _ (.inl rfl)) fun q hq => hk q (.inr hq), h.own.t0, h.own.v0⟩, hb, h.good⟩
/-- the tree has changed, the cache has not -/
theorem Ld.tree {w0 wr w' : World} {t p n : Nat} {s s' : Tr} {c : Cs} (h : Ld w0 wr p c n (TB t s)) (ps : PS wr w' t s s') (h0 : ∀ b, TB t s b → w0.heap.size ≤ b) : Ld w0 w' p c n (TB t s') := by
  refine (h.own ps.only h0).mono (fun b hb => ?_) (Nat.le_refl _)
  rcases hb with hb | hb
  · exact .inl (.inl hb)
  · rcases ps.v with e | e
    · exact .inl (.inr (e ▸ hb))
    · exact .inr ⟨e b hb, (ps.is.tv hb).lt⟩
theorem Law.tb {w0 wr : World} {t : Nat} {s : Tr} {k : Int} (h : Law w0 wr t s k) : ∀ b, TB t s b → w0.heap.size ≤ b ∧ b < wr.heap.size := fun b hb => by
  rcases hb with rfl | hb
  · exact ⟨h.own.t0, h.own.is.tt.lt⟩
  · exact ⟨h.own.v0 b hb, (h.own.is.tv hb).lt⟩
def FilR (ops : List Opn) (w w' : World) (e : Ending) : Prop := ∃ p t s, e = .returned (.tuple #[.pointer (some ⟨p, 0, none⟩), .pointer (some ⟨t, 0, none⟩), .bool true]) ∧ Law w w' t s ops.length ∧ Alike s (runT Mn emptyT ops) ∧ Ld w w' p (fillS s.es) 47 (TB t s)
set_option maxRecDepth 20000 in
set_option maxHeartbeats 8000000 in
theorem filled_p (a : Option Addr) (cap : Nat) (ops : List Opn) (w : World) (h : RowOps w a ops) (hl : ops.length ≤ 3000000000000) :
    Calls Try.prog 7 #[.slice a ops.length cap] w fun e w' => FilR ops w w' e := by
  obtain ⟨n, hn⟩ : ∃ n, ops.length = n := ⟨_, rfl⟩
  rw [hn] at hl ⊢
  have H : Hid (RowOps w a ops ∧ ops.length = n) := ⟨h, hn⟩
  clear h hn
  go_enter Try.func7, Try.ntmps7
  go_wp2_with (first
    | (go_at_call 12; refine (ld_new w w1 (TB w.heap.size emptyT) H1.out.2 (fun b hb => hb.elim (fun e => e ▸ H1.out.1.tt.lt) (fun e => nomatch e))).mono ?_; rintro x w2 ⟨p, rfl, hc⟩; have H2 : Hid (Law w w2 w.heap.size emptyT 0 ∧ Ld w w2 p Cs.clear 0 (TB w.heap.size emptyT)) := ⟨Law.kept ⟨⟨H1.out.1, Nat.le_refl _, fun q hq => by cases hq⟩, H1.out.2, Good.new Mn⟩ hc.kept hc.ld.below, hc.ld⟩; clear hc)
    | (go_at_call 22; refine (new_p _).mono ?_; rintro x w1 ⟨rfl, hi1, hb1⟩; have H1 : Hid (IsP w1 w.heap.size emptyT ∧ Below w.heap.size w w1) := ⟨hi1, hb1⟩; clear hi1 hb1))
  go_loopw [7] (fun i wr => ∃ (k : Nat) (s : Tr), k ≤ n ∧ i = .int .i64 k ∧ Hid (Law w wr w.heap.size s k ∧ Alike s (runT Mn emptyT (ops.take k)) ∧ Ld w wr p Cs.clear 0 (TB w.heap.size s))) (fun i _ => n - (intOf i).toNat)
  case atStart => exact ⟨0, emptyT, Nat.zero_le _, rfl, H2.out.1, Alike.refl _, H2.out.2⟩
  case round =>
    obtain ⟨k, s, hk, rfl, hI⟩ := hrel
    by_cases hkn : k < n
    · obtain ⟨o, ho⟩ : ∃ o, ops[k]? = some o := ⟨_, List.getElem?_eq_getElem (by rw [H.out.2]; exact hkn)⟩
      rcases H.out.1 with h0 | ⟨b, off, rfl, hbl, hcs⟩
      · rw [h0] at ho; simp at ho
      · have hc := (hcs k o ho).below hbl hI.out.1.bel
        have x0 := hc.c0
        have x1 := hc.c1
        have x2 := hc.c2
        have x3 := hc.c3
        have x4 := hc.c4
        have x5 := hc.c5
        have x6 := hc.c6
        have hki : (k : Int) < (n : Int) := by omega
        have hap := hI.out.1.apply o (by omega)
        unfold Opn.arr at hap
        have HAp : Hid (Calls Try.prog 23 #[.pointer (some ⟨w.heap.size, 0, none⟩), .agg #[.int .i64 o.kind, .int .i64 o.dir, .string o.nm, .int .i64 o.dst, .string o.new, .int .i64 o.mode, .string o.tg]] wr fun e w' => AppR Mn w.heap.size s o wr w' e) := hap
        have HO : Hid (ops[k]? = some o) := ho
        clear hap hc hcs ho
        go_wp2_with (go_at_call 23; refine HAp.out.mono ?_; rintro x w2 ⟨v2, k2, s2, rfl, hps, hst, -, -, -⟩; have H3 : Hid (Law w w2 w.heap.size s2 ((k + 1 : Nat) : Int) ∧ Alike s2 (runT Mn emptyT (ops.take (k + 1))) ∧ Ld w w2 p Cs.clear 0 (TB w.heap.size s2)) := ⟨hI.out.1.step hps hst, (by rw [take_op HO.out, runT_snoc]; exact hst.alike.trans (stepT_alike Mn hI.out.2.1 o)), hI.out.2.2.tree hps fun b hb => (hI.out.1.tb b hb).1⟩; clear hps hst)
        exact ⟨⟨k + 1, s2, by omega, by simp, H3.out⟩, by simp [intOf]; omega⟩
    · have hkn' : ¬ (k : Int) < (n : Int) := by omega
      obtain rfl : k = n := by omega
      have hke : ops.take k = ops := List.take_of_length_le (by rw [H.out.2]; omega)
      have HA : Hid (Law w wr w.heap.size s k ∧ Alike s (runT Mn emptyT ops) ∧ Ld w wr p Cs.clear 0 (TB w.heap.size s)) := by have := hI.out; rw [hke] at this; exact this
      clear hke hI
      obtain ⟨Wo, hWo⟩ : ∃ W, W = wr := ⟨_, rfl⟩
      subst hWo
      obtain ⟨es, hes⟩ : ∃ es, s.es = es := ⟨_, rfl⟩
      have hlen : es.length ≤ 47 := by rw [← hes]; exact HA.out.1.good.wf.len
      have HDu : Hid (Calls Try.prog 24 #[.pointer (some ⟨w.heap.size, 0, none⟩)] Wo fun e w' => ∃ v', e = .returned v' ∧ Row7 w' Wo.heap.size v' es ∧ Below Wo.heap.size Wo w') := by rw [← hes]; exact dump_p _ s Wo HA.out.1.own.is
      have HE : Hid (s.es = es ∧ (∀ e ∈ es, e.nm ≠ nob)) := ⟨hes, by rw [← hes]; exact wf_names HA.out.1.good.wf⟩
      clear hes
      go_upto_region 10 with (go_at_call 24; refine HDu.out.mono ?_; rintro x w3 ⟨v3, rfl, hr3, hb3⟩)
      obtain ⟨a3, c3, rfl⟩ := owns_len hr3
      obtain ⟨m, hm⟩ : ∃ m, es.length = m := ⟨_, rfl⟩
      rw [hm] at hr3 hlen ⊢
      have H3 : Hid (Row7 w3 Wo.heap.size (.slice a3 m c3) es ∧ Law w w3 w.heap.size s k ∧ Ld w w3 p Cs.clear 0 (fun b => TB w.heap.size s b ∨ (Value.slice a3 m c3).ownBlock = some b)) := ⟨hr3, HA.out.1.below hb3, (HA.out.2.2.on hb3).mono (fun b hb => by
        rcases hb with hb | hb
        · exact .inl hb
        · exact .inr (World.ownsRow.lt hr3 b hb)) (Nat.le_refl _)⟩
      clear hr3 hb3
      have HSW : Hid (Calls Try.prog 25 #[.pointer (some ⟨p, 0, none⟩), .int .i64 1] w3 fun x w' => x = .returned (.tuple #[]) ∧ Ldc w w3 w' p (fillS []) 0 (fun b => TB w.heap.size s b ∨ (Value.slice a3 m c3).ownBlock = some b)) := ld_setW H3.out.2.2 1
      go_wp2_with (go_at_call 25; refine HSW.out.mono ?_; rintro x w4 ⟨rfl, hc⟩; have H4 : Hid (Row7 w4 Wo.heap.size (.slice a3 m c3) es ∧ Law w w4 w.heap.size s k ∧ Ld w w4 p (fillS []) 0 (fun b => TB w.heap.size s b ∨ (Value.slice a3 m c3).ownBlock = some b)) := ⟨owns_moved H3.out.1 fun b hb => hc.kept b (.inr hb), H3.out.2.1.kept (fun b hb => hc.kept b (.inl hb)) hc.ld.below, hc.ld⟩; clear hc)
      go_loopw [9] (fun i wx => ∃ j : Nat, j ≤ m ∧ i = .int .i64 j ∧ Hid (Row7 wx Wo.heap.size (.slice a3 m c3) es ∧ Law w wx w.heap.size s k ∧ Ld w wx p (fillS (es.take j)) j (fun b => TB w.heap.size s b ∨ (Value.slice a3 m c3).ownBlock = some b))) (fun i _ => m - (intOf i).toNat)
      case atStart => exact ⟨0, Nat.zero_le _, rfl, H4.out⟩
      case round =>
        obtain ⟨j, hj, rfl, HJ⟩ := hrel
        by_cases hjm : j < m
        · have hji : (j : Int) < (m : Int) := by omega
          obtain ⟨e, he⟩ : ∃ e, es[j]? = some e := ⟨_, List.getElem?_eq_getElem (by rw [hm]; exact hjm)⟩
          obtain ⟨g, rfl, -, -, -, hc, -⟩ := owns_entry HJ.out.1 he
          have lE := enLd_at hc
          have HP : Hid (Calls Try.prog 14 #[.pointer (some ⟨p, 0, none⟩), e.agg] wr fun x w' => ∃ z, x = .returned (.int .i64 z) ∧ Ldc w wr w' p (putS (fillS (es.take j)) e) (j + 1) (fun b => TB w.heap.size s b ∨ (Value.slice (some ⟨g, 0, none⟩) m c3).ownBlock = some b)) := by
            refine (ld_put HJ.out.2.2 e (by omega)).mono ?_
            rintro x w' ⟨rfl, hc⟩
            exact ⟨_, rfl, hc⟩
          have HX : Hid (es[j]? = some e) := he
          clear hc he
          go_upto_region 15 with (go_at_call 14; refine HP.out.mono ?_; rintro x w5 ⟨z5, rfl, hc⟩; have H5 : Hid (Row7 w5 Wo.heap.size (.slice (some ⟨g, 0, none⟩) m c3) es ∧ Law w w5 w.heap.size s k ∧ Ld w w5 p (putS (fillS (es.take j)) e) (j + 1) (fun b => TB w.heap.size s b ∨ (Value.slice (some ⟨g, 0, none⟩) m c3).ownBlock = some b)) := ⟨owns_moved HJ.out.1 fun b hb => hc.kept b (.inr hb), HJ.out.2.1.kept (fun b hb => hc.kept b (.inl hb)) hc.ld.below, hc.ld⟩; clear hc lE)
          obtain ⟨g', hg', -, -, -, hc, -⟩ := owns_entry H5.out.1 HX.out
          obtain rfl : g = g' := by injection hg' with q; injection q
          have c3' := hc.c3
          have HS : Hid (Calls Try.prog 25 #[.pointer (some ⟨p, 0, none⟩), .int .i64 e.id] w5 fun x w' => x = .returned (.tuple #[]) ∧ Ldc w w5 w' p (fillS (es.take (j + 1))) (j + 1) (fun b => TB w.heap.size s b ∨ (Value.slice (some ⟨g, 0, none⟩) m c3).ownBlock = some b)) := by
            rw [List.take_add_one, HX.out]
            show Calls _ _ _ _ (fun x w' => x = _ ∧ Ldc w w5 w' p (fillS (es.take j ++ [e])) _ _)
            rw [fillS_snoc]
            exact ld_setW H5.out.2.2 e.id
          clear hc hg'
          go_wp2_with (go_at_call 25; refine HS.out.mono ?_; rintro x w6 ⟨rfl, hc⟩; have H6 : Hid (Row7 w6 Wo.heap.size (.slice (some ⟨g, 0, none⟩) m c3) es ∧ Law w w6 w.heap.size s k ∧ Ld w w6 p (fillS (es.take (j + 1))) (j + 1) (fun b => TB w.heap.size s b ∨ (Value.slice (some ⟨g, 0, none⟩) m c3).ownBlock = some b)) := ⟨owns_moved H5.out.1 fun b hb => hc.kept b (.inr hb), H5.out.2.1.kept (fun b hb => hc.kept b (.inl hb)) hc.ld.below, hc.ld⟩; clear hc)
          exact ⟨⟨j + 1, by omega, by simp, H6.out⟩, by simp [intOf]; omega⟩
        · obtain rfl : j = m := by omega
          have hji : ¬ (j : Int) < (j : Int) := by omega
          have hje : es.take j = es := List.take_of_length_le (by omega)
          have HZ : Hid (Law w wr w.heap.size s k ∧ Ld w wr p (fillS s.es) 47 (TB w.heap.size s)) := by
            have := HJ.out.2
            rw [hje] at this
            rw [HE.out.1]
            exact ⟨this.1, this.2.mono (fun b hb => .inl hb) hlen⟩
          clear hje HJ
          go_wp2
          go_ret3
          exact ⟨p, _, s, rfl, by rw [H.out.2]; exact HZ.out.1, HA.out.2.1, HZ.out.2⟩
end
section
open Go.RowKit
attribute [local go_sem high] eqK neqK eqE neqE eqN neqN guardK guardE guardN

/-- are two lists the same -/
def sameKs : List Ky → List Ky → Bool
  | [], [] => true
  | a :: l, b :: m => (decide (a.d = b.d) && decide (a.nm = b.nm)) && sameKs l m
  | _, _ => false
theorem sameKs_iff : ∀ (l m : List Ky), sameKs l m = true ↔ l = m
  | [], [] => by simp [sameKs]
  | [], b :: m => by simp [sameKs]
  | a :: l, [] => by simp [sameKs]
  | a :: l, b :: m => by
    rw [sameKs, Bool.and_eq_true, sameKs_iff l m]
    obtain ⟨a1, a2⟩ := a
    obtain ⟨b1, b2⟩ := b
    simp
theorem sameKs_no {l m : List Ky} (h : ¬ l = m) : sameKs l m = false := by
  cases k : sameKs l m with
  | false => rfl
  | true => exact absurd ((sameKs_iff l m).1 k) h
set_option maxHeartbeats 4000000 in
theorem sameK_any (v v' : Value) (l l' : List Ky) (base base' : Nat) (w : World) (h : RowK w base v l) (h' : RowK w base' v' l') (hl : l.length ≤ 1000000000) (hl' : l'.length ≤ 1000000000) :
    Calls Try.prog 21 #[v, v'] w fun e w' => e = .returned (.bool (sameKs l l')) ∧ Below w.heap.size w w' := by
  obtain ⟨a, cap, rfl⟩ := owns_len h
  obtain ⟨a', cap', rfl⟩ := owns_len h'
  by_cases hn : l.length = l'.length
  · obtain ⟨n, hn1⟩ : ∃ n, l.length = n := ⟨_, rfl⟩
    have hn2 : l'.length = n := by omega
    rw [hn1] at hl
    have HC : Hid (RowK w base (.slice a n cap) l ∧ RowK w base' (.slice a' n cap') l' ∧ l.length = n ∧ l'.length = n) := ⟨by rw [← hn1]; exact h, by rw [← hn2]; exact h', hn1, hn2⟩
    rw [hn1, hn2]
    clear h h' hn hn1 hn2 hl'
    go_enter Try.func21, Try.ntmps21
    go_wp2
    go_loopw [5] (fun i wr => ∃ k : Nat, k ≤ n ∧ i = .int .i64 k ∧ l.take k = l'.take k ∧ Below w.heap.size w wr) (fun i _ => n - (intOf i).toNat)
    case atStart => exact ⟨0, Nat.zero_le _, rfl, rfl, Below.refl _ _⟩
    case round =>
      obtain ⟨k, hk, rfl, ht, hb⟩ := hrel
      by_cases hlt : k < n
      · obtain ⟨e, he⟩ : ∃ x, l[k]? = some x := ⟨_, List.getElem?_eq_getElem (by rw [HC.out.2.2.1]; exact hlt)⟩
        obtain ⟨f, hf⟩ : ∃ x, l'[k]? = some x := ⟨_, List.getElem?_eq_getElem (by rw [HC.out.2.2.2]; exact hlt)⟩
        obtain ⟨g, rfl, -, -, x0, x1, -⟩ := (HC.out.1.below hb).key he
        obtain ⟨g', rfl, -, -, y0, y1, -⟩ := (HC.out.2.1.below hb).key hf
        have hki : (k : Int) < (n : Int) := by omega
        by_cases hxx : e = f
        · have HT : Hid (l.take (k + 1) = l'.take (k + 1)) := take_snocK ht he (hxx ▸ hf)
          subst hxx
          clear he hf ht
          go_upto_region 6 with fail
          go_quiet (fail)
          go_wp2
          exact ⟨⟨k + 1, by omega, by simp, HT.out, below_drewN hb _⟩, by simp [intOf]; omega⟩
        · have HE : Hid (sameKs l l' = false) := sameKs_no (by rintro rfl; rw [he] at hf; exact hxx (Option.some.inj hf))
          have hne : decide (e.d = f.d ∧ e.nm = f.nm) = false := decide_eq_false (fun h => hxx (by cases e; cases f; simp only at h; rw [h.1, h.2]))
          clear he hf ht hxx
          go_upto_region 6 with fail
          go_quiet (fail)
          go_wp2
          go_ret
          exact ⟨by rw [HE.out]; rfl, below_drewN hb _⟩
      · have hkl : k = n := by omega
        subst hkl
        have HE : Hid (sameKs l l' = true) := (sameKs_iff l l').2 (take_eqK ht HC.out.2.2.1.symm HC.out.2.2.2.symm)
        clear ht
        go_wp2
        go_ret
        exact ⟨by rw [HE.out]; rfl, hb⟩
  · have HE : Hid (sameKs l l' = false) := sameKs_no (by rintro rfl; exact hn rfl)
    have hne : ((l.length : Int) != (l'.length : Int)) = true := by simp; omega
    clear h h'
    go_enter Try.func21, Try.ntmps21
    go_wp2
    go_ret
    exact ⟨by rw [HE.out]; rfl, Below.refl _ _⟩
end
section
open Go.RowKit
attribute [local go_sem high] eqK neqK guardK eqN neqN guardN

theorem goI_len (kn : Ky → Option En) (fol : Bool) (m : ByteArray → List ByteArray → Ws → Ou) (q : Nat) (hm : ∀ tg rest s, (m tg rest s).used.length ≤ s.used.length + rest.length + q) : ∀ (steps : List ByteArray) (s : Ws), (goI kn fol m steps s).used.length ≤ s.used.length + steps.length + q
  | [], s => by rw [goI, fin_used]; omega
  | x :: rest, s => by
    have hu : (s.use ⟨s.here.id, x⟩).used.length = s.used.length + 1 := by
      show (s.used ++ [_]).length = _
      rw [List.length_append]; rfl
    rw [goI, List.length_cons]
    split
    · show s.used.length ≤ _; omega
    split
    · have := goI_len kn fol m q hm rest s; omega
    split
    · have := goI_len kn fol m q hm rest s.up
      have e : s.up.used = s.used := rfl
      rw [e] at this; omega
    split
    · show s.used.length ≤ _; omega
    · split
      · show (s.use ⟨s.here.id, x⟩).used.length ≤ _; omega
      split
      · rename_i e _ _ _
        have := hm e.tg rest (s.use ⟨s.here.id, x⟩); omega
      · rename_i e _ _ _
        have := goI_len kn fol m q hm rest ((s.use ⟨s.here.id, x⟩).go e.nd)
        have e' : ((s.use ⟨s.here.id, x⟩).go e.nd).used = (s.use ⟨s.here.id, x⟩).used := rfl
        rw [e'] at this; omega
theorem goW_len (kn : Ky → Option En) (fol : Bool) : ∀ (l : Nat) (steps : List ByteArray) (s : Ws), (goW kn fol l steps s).used.length ≤ s.used.length + steps.length + 97 * l
  | 0, steps, s => goI_len kn fol _ 0 (fun _ _ s => by show s.used.length ≤ _; omega) steps s
  | l + 1, steps, s => by
    have := goI_len kn fol (metW (goW kn fol l)) (97 * (l + 1)) (fun tg rest s => by
      unfold metW
      split
      · have h := goW_len kn fol l (cutL tg (fullB tg) ++ rest) (s.met tg (decide (rest.length = 0)))
        have hc := cutL_len tg (fullB tg)
        have e : (s.met tg (decide (rest.length = 0))).used = s.used := rfl
        rw [e, List.length_append] at h
        omega
      · show s.used.length ≤ _; omega) steps s
    exact this
theorem walkO_len (kn : Ky → Option En) (path : ByteArray) (fol : Bool) (links : Int) : (walkO kn path fol links).used.length ≤ 1000 := by
  unfold walkO
  split
  · unfold stepsO
    have := goW_len kn fol (linksN links) (cutL path (rootB path)) (startW (cutD path (rootB path)))
    have hc := cutL_len path (rootB path)
    have hl := linksN_le links
    have e : (startW (cutD path (rootB path))).used.length = 0 := rfl
    omega
  · simp
theorem ouNode' {w : World} {g : Nat} {o : Ou} {uv : Value} (h : w.heap[g]? = some (.cells (ouVals o uv).toArray 34 (0, 0))) : w.cell? ⟨g, 5, none⟩ = some (.int .i64 o.node.kind) ∧ w.cell? ⟨g, 6, none⟩ = some (.int .i64 o.node.mode) ∧ w.cell? ⟨g, 7, none⟩ = some (.string o.node.tg) :=
  ⟨by rw [cell_of h]; rfl, by rw [cell_of h]; rfl, by rw [cell_of h]; rfl⟩
set_option maxRecDepth 100000 in
set_option maxHeartbeats 8000000 in
theorem sameOut_yes (o : Ou) (v v' : Value) (base base' : Nat) (w : World) (h : RowK w base v o.used) (h' : RowK w base' v' o.used) (hl : o.used.length ≤ 1000) :
    Calls Try.prog 13 #[ouAgg o v, ouAgg o v'] w fun r w' => r = .returned (.bool true) ∧ Below w.heap.size w w' := by
  obtain ⟨W1, hW1⟩ : ∃ W, w.alloc (.cells (ouVals o v).toArray 34) = W := ⟨_, rfl⟩
  have b1 := boxO hW1
  obtain ⟨W2, hW2⟩ : ∃ W, W1.alloc (.cells (ouVals o v').toArray 34) = W := ⟨_, rfl⟩
  have b2 := boxO hW2
  have hb := chainB b1.2.1 b2.2.1
  obtain ⟨x0, x1, x2, x3, x4, x8⟩ := ouCells (hkeep b1.1 b2.2.1)
  obtain ⟨y0, y1, y2, y3, y4, y8⟩ := ouCells b2.1
  have x5 := ouNode' (hkeep b1.1 b2.2.1)
  have y5 := ouNode' b2.1
  obtain ⟨x5, x6, x7⟩ := x5
  obtain ⟨y5, y6, y7⟩ := y5
  have HS : Hid (Calls Try.prog 21 #[v, v'] W2 fun e w' => e = .returned (.bool true) ∧ Below W2.heap.size W2 w') := by
    have := sameK_any v v' o.used o.used base base' W2 (h.below hb) (h'.below hb) (by omega) (by omega)
    rw [(sameKs_iff _ _).2 rfl] at this
    exact this
  have HB : Hid (Below w.heap.size w W2) := hb
  have e1 : w.heap.size + 1 = W1.heap.size := b1.2.2.symm
  rw [show ouAgg o v = .agg (ouVals o v).toArray from rfl, show ouAgg o v' = .agg (ouVals o v').toArray from rfl]
  clear h h' b1 b2 hb
  go_enter Try.func13, Try.ntmps13
  go_wp2_with (go_at_call 21; refine HS.out.mono ?_; rintro r w3 ⟨rfl, hb⟩; have HZ : Hid (Below w.heap.size w w3) := chainB HB.out hb; clear hb)
  go_ret
  exact ⟨rfl, HZ.out⟩
end
section
open Go.RowKit

set_option maxHeartbeats 1000000 in
theorem copyT_any (v : Value) (l : List ByteArray) (base : Nat) (w : World) (h : Own w base v l) (hl : l.length ≤ 1000) :
    Calls Try.prog 17 #[v] w fun e w' => ∃ v', e = .returned v' ∧ Own w' w.heap.size v' l ∧ Below w.heap.size w w' := by
  obtain ⟨i0, hi, hz0, hz1, hz2⟩ := info_parts Try.infoS
  have h' := h
  unfold Own at h'
  go_enter Try.func17, Try.ntmps17
  rcases h.2 with ⟨rfl, h2⟩ | ⟨g, cap, cur, rfl, hg, hh, r⟩
  · obtain rfl : l = [] := List.length_eq_zero_iff.1 h2
    go_wp2
    go_ret
    exact ⟨_, rfl, Own.nil _ _, Below.refl _ _⟩
  · have hcells : ∀ j u, (l.map Value.string)[j]? = some u → w.cell? ((⟨g, 0, none⟩ : Addr).add j) = some u := h'.cells rfl
    clear h' hh r
    go_wp2_with (at_builtin; refine wpList_append_own _ rfl _ _ 36 rfl w.heap.size 9 i0 (.string ⟨#[]⟩) 1 16 Try.underlying36 hi hz0 hz1 hz2 rfl (by decide) _ 0 [] rfl (World.ownsRow_nil _ _ _ _) ⟨g, 0, none⟩ l.length cap (l.map Value.string) rfl (by simp) hcells ?c2 ?c3 ?c4 ?c5 ?_)
    case c2 => intro u hu; rw [List.mem_map] at hu; obtain ⟨x, _, rfl⟩ := hu; rfl
    case c3 => unfold maxLen; omega
    case c4 => omega
    case c5 => exact Nat.le_refl _
    intro v' w1 hown' hgrow _
    have hb1 : Below w.heap.size w w1 := Below.grown (Below.refl _ _) hgrow (Nat.le_refl _) (fun q hq => by cases hq)
    clear hgrow hcells
    go_wp2
    go_ret
    exact ⟨_, rfl, hown', hb1⟩
end
section
open Go.RowKit

/-- a law goes through components over its cache, with nothing fresh -/
theorem ld_steps {w0 wr : World} {p : Nat} {s : Cs} {n : Nat} {F : Nat → Prop} (h : Ld w0 wr p s n F) {B nS cS : Nat} {a : Option Addr} {steps : List ByteArray} (ho : Own wr B (.slice a nS cS) steps) (hn : nS ≤ 999999990000) (dir fol : Bool) (links : Int) :
    Calls Try.prog 15 #[.pointer (some ⟨p, 0, none⟩), .slice none 0 0, .slice a nS cS, .bool dir, .bool fol, .int .i64 links] wr fun r w' => OutR wr (stepsO (knC s) steps dir fol links) r w' := by
  obtain ⟨c, h1, h2, h3, h4⟩ := h.ex
  obtain ⟨a', c', ea, hrow⟩ := Own.row ho
  injection ea with ea1 ea2 ea3
  subst ea1
  rw [← knF_nil]
  refine steps_p p c s _ [] a nS cS steps dir fol links wr h1 h2 (RdE.nil wr) hrow ea2.symm ?_ hn (fun b o eb => by subst eb; exact (World.ownsRow.lt ho b rfl).2)
  have := Own.lim ho
  omega
/-- a tree and a cache that holds it, from a world on -/
structure Flw (w w1 : World) (t : Nat) (s : Tr) (p : Nat) (k : Int) : Prop where
  law : ∀ W, Below w1.heap.size w1 W → Law w W t s k
  ld : ∀ W, Below w1.heap.size w1 W → Ld w W p (fillS s.es) 47 (TB t s)
  below : ∀ W, Below w1.heap.size w1 W → Below w.heap.size w W
  wf : WF Mn s.es s.next
theorem FilR.fl {ops : List Opn} {w w' : World} {e : Ending} (h : FilR ops w w' e) : ∃ p t s, e = .returned (.tuple #[.pointer (some ⟨p, 0, none⟩), .pointer (some ⟨t, 0, none⟩), .bool true]) ∧ Alike s (runT Mn emptyT ops) ∧ Flw w w' t s p ops.length := by
  obtain ⟨p, t, s, he, hl, ha, hc⟩ := h
  exact ⟨p, t, s, he, ha, fun W hb => hl.below hb, fun W hb => hc.on' hb, fun W hb => chainB hc.below hb, hl.good.wf⟩
/-- a walk of the law's -/
theorem OutR.fx {w w' : World} {O : Ou} {r : Ending} (h : OutR w O r w') : ∃ a c, r = .returned (ouAgg O (.slice a O.used.length c)) ∧ RowK w' w.heap.size (.slice a O.used.length c) O.used ∧ Below w.heap.size w w' := by
  obtain ⟨uv, rfl, hr, hb⟩ := h
  obtain ⟨a, c, rfl⟩ := owns_len hr
  exact ⟨a, c, rfl, hr, hb⟩
end
end Go.Proofs.Ytppbbddlbfgpfaa
