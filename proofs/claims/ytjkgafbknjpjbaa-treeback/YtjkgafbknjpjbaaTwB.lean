/- The walk of the law TreeBack: it returns true. -/
import Derived.Test.YtjkgafbknjpjbaaTqT
import Derived.Test.YtjkgafbknjpjbaaTqR
import Derived.Test.YtjkgafbknjpjbaaTqB
import Derived.Test.YtjkgafbknjpjbaaTpX
namespace Go.Proofs.Ytjkgafbknjpjbaa
open Go.RowKit
attribute [local go_sem high] eqK' neqK' eqE neqE eqN neqN guardK guardE guardN

theorem sameK_yes {v v' : Value} {l : List Ky} {B B' : Nat} {w : World} (h : RowK w B v l) (h' : RowK w B' v' l) (hl : l.length ≤ 1000000000) :
    Calls Try.prog 24 #[v, v'] w fun e w' => e = .returned (.bool true) ∧ Below w.heap.size w w' := by
  have := sameK_any v v' l l B B' w h h' hl hl
  rw [(sameKs_iff l l).2 rfl] at this
  exact this
theorem told_few {M : Nms} {s : Tr} (o : Opn) : (toldE M s o).length ≤ 1000000000 := by
  unfold toldE tellL
  split
  · repeat' split
    all_goals simp
  · simp
theorem toldK_few {M : Nms} {s : Tr} (o : Opn) : (toldK M s o).length ≤ 1000000000 := by
  unfold toldK keysL
  split
  · repeat' split
    all_goals simp
  · simp
/-- a tree that is loaded from what another one tells -/
theorem Law.loaded {w0 w w' : World} {t : Nat} {s : Tr} {k : Int} {e : Ending} (h : Law w0 w t s k) (hr : LoadR s.es s.vers s.next w w' e) : ∃ u r, e = .returned (.tuple #[.pointer (some ⟨u, 0, none⟩), .int .i64 0]) ∧ Pair w0 w' t s k u r k ∧ Alike s r ∧ Below w.heap.size w w' := by
  rcases hr with ⟨u, r, he, -, -, ho, h1, h2, h3, hb⟩ | ⟨-, hn, -⟩
  · refine ⟨u, r, he, ⟨h.below hb, ⟨⟨ho.is, Nat.le_trans h.bel.size ho.t0, fun q hq => Nat.le_trans h.bel.size (ho.v0 q hq)⟩, chainB h.bel hb, h.good.alike ⟨h1.symm, h2.symm, h3.symm⟩⟩, ?_, fun q hq e => ?_⟩, ⟨h1.symm, h2.symm, h3.symm⟩, hb⟩
    · have := h.own.is.tt.lt; have := ho.t0; omega
    · have := (h.own.is.tv hq).lt; have := ho.v0 q e; omega
  · exact absurd ⟨h.good.wf, h.good.v0⟩ hn
set_option maxRecDepth 20000 in
set_option maxHeartbeats 16000000 in
theorem walk_TreeBack (a : Option Addr) (cap : Nat) (ops : List Opn) (a' : Option Addr) (cap' : Nat) (ops' : List Opn) (w : World) (row : RowOps w a ops) (hlen : ops.length ≤ 3000000000000) (row' : RowOps w a' ops') (hlen' : ops'.length ≤ 3000000000000) :
    Calls Try.prog 6 #[.slice a ops.length cap, .slice a' ops'.length cap'] w fun e w' => e = .returned (.bool true) ∧ Below w.heap.size w w' := by
  have HBe : Hid (Calls Try.prog 25 #[.slice a ops.length cap] w fun e w' => ∃ t s, e = .returned (.tuple #[.pointer (some ⟨t, 0, none⟩), .bool true]) ∧ Law w w' t s ops.length) := (behind_p a cap ops w row hlen).mono fun _ _ h => Law.of h
  have HAw : Hid (∀ w, Calls Try.prog 11 #[] w fun e w' => e = .returned (.bool true) ∧ Below w.heap.size w w') := awake_p
  obtain ⟨n, hn⟩ : ∃ n, ops'.length = n := ⟨_, rfl⟩
  rw [hn] at hlen' ⊢
  have H : Hid (RowOps w a' ops' ∧ ops'.length = n ∧ ops.length ≤ 3000000000000) := ⟨row', hn, hlen⟩
  clear row row' hn
  go_enter Try.func6, Try.ntmps6
  go_upto_region 7 with (first
    | (go_at_call 25; refine HBe.out.mono ?_; rintro x w1 ⟨t, s, rfl, hL⟩; have H1 : Hid (Law w w1 t s ops.length) := hL; clear hL)
    | (go_at_call 26; refine (dump_p t s _ H1.out.own.is).mono ?_; rintro x w2 ⟨v2, rfl, hr2, hb2⟩; have H2 : Hid (Law w w2 t s ops.length ∧ Row7 w2 w1.heap.size v2 s.es) := ⟨H1.out.below hb2, hr2⟩; clear hr2 hb2)
    | (go_at_call 27; refine (version_p t s _ H2.out.1.own.is).mono ?_; rintro x w3 ⟨rfl, rfl⟩)
    | (go_at_call 28; refine (next_p t s _ H2.out.1.own.is).mono ?_; rintro x w4 ⟨rfl, rfl⟩)
    | (go_at_call 19; refine ((load_p v2 s.es _ s.vers s.next _ H2.out.2 (by have := H2.out.1.good.wf.len; omega)).mono fun _ _ h => H2.out.1.loaded h).mono ?_; rintro x w5 ⟨u, r, rfl, hp, hal, hb5⟩; have H5 : Hid (Pair w w5 t s ops.length u r ops.length ∧ Alike s r) := ⟨hp, hal⟩; clear hp hal hb5))
  clear H1 H2 HBe
  go_wp2
  go_loopw [9] (fun i wr => ∃ (k : Nat) (s r : Tr), k ≤ n ∧ i = .int .i64 k ∧ Hid (Pair w wr t s ((ops.length : Int) + k) u r ((ops.length : Int) + k) ∧ Alike s r)) (fun i _ => n - (intOf i).toNat)
  case atStart => exact ⟨0, s, r, Nat.zero_le _, rfl, by rw [show (ops.length : Int) + ((0 : Nat) : Int) = ops.length by omega]; exact H5.out⟩
  case round =>
    obtain ⟨k, s, r, hk, rfl, hI⟩ := hrel
    by_cases hkn : k < n
    · obtain ⟨o, ho⟩ : ∃ o, ops'[k]? = some o := ⟨_, List.getElem?_eq_getElem (by rw [H.out.2.1]; exact hkn)⟩
      rcases H.out.1 with h0 | ⟨b, off, rfl, hbl, hcs⟩
      · rw [h0] at ho; simp at ho
      · have HOc : Hid (CellsO w b (off + k * 7) o ∧ b < w.heap.size) := ⟨hcs k o ho, hbl⟩
        have hki : (k : Int) < (n : Int) := by omega
        obtain ⟨E, hE⟩ : ∃ x, doesE Mn s o = x := ⟨_, rfl⟩
        have hE2 : doesE Mn r o = E := by rw [← hE]; exact (doesE_eq Mn hI.out.2.es o).symm
        have HO : Hid (doesE Mn s o = E ∧ doesE Mn r o = E) := ⟨hE, hE2⟩
        have hc := HOc.out.1.below HOc.out.2 hI.out.1.one.bel
        have x0 := hc.c0
        have x1 := hc.c1
        have x2 := hc.c2
        have x3 := hc.c3
        have x4 := hc.c4
        have x5 := hc.c5
        have x6 := hc.c6
        have HAp : Hid (Calls Try.prog 22 #[.pointer (some ⟨t, 0, none⟩), .agg #[.int .i64 o.kind, .int .i64 o.dir, .string o.nm, .int .i64 o.dst, .string o.new, .int .i64 o.mode, .string o.tg]] wr fun e w' => ∃ v kv s', e = .returned (.tuple #[v, kv, .int .i64 E]) ∧ Hid (Did2 w w' t s s' ((ops.length : Int) + k) u r ((ops.length : Int) + k) o v kv)) := (hI.out.1.one.apply o (by have := H.out.2.2; omega)).mono fun e w' hh => by
          obtain ⟨v, kv, s', he, hd, -⟩ := hI.out.1.did hh
          exact ⟨v, kv, s', by rw [← HO.out.1]; exact he, hd⟩
        clear ho hcs hE hE2 hc
        go_upto_region 11 with (go_at_call 22; refine HAp.out.mono ?_; rintro x w7 ⟨v7, k7, s7, rfl, h7⟩)
        clear x0 x1 x2 x3 x4 x5 x6 HAp
        have hc := HOc.out.1.below HOc.out.2 h7.out.pair.one.bel
        have x0 := hc.c0
        have x1 := hc.c1
        have x2 := hc.c2
        have x3 := hc.c3
        have x4 := hc.c4
        have x5 := hc.c5
        have x6 := hc.c6
        have HAp : Hid (Calls Try.prog 22 #[.pointer (some ⟨u, 0, none⟩), .agg #[.int .i64 o.kind, .int .i64 o.dir, .string o.nm, .int .i64 o.dst, .string o.new, .int .i64 o.mode, .string o.tg]] w7 fun e w' => ∃ v kv r', e = .returned (.tuple #[v, kv, .int .i64 E]) ∧ Hid (Did2 w w' u r r' ((ops.length : Int) + k) t s7 ((ops.length : Int) + k + 1) o v kv ∧ Row7 w' w.heap.size v7 (toldE Mn s o) ∧ RowK w' w.heap.size k7 (toldK Mn s o))) := (h7.out.pair.two.apply o (by have := H.out.2.2; omega)).mono fun e w' hh => by
          obtain ⟨v, kv, r', he, hd, hps⟩ := h7.out.pair.symm.did hh
          exact ⟨v, kv, r', by rw [← HO.out.2]; exact he, hd, (h7.out.told2.step h7.out.pair.two.own.is hps).row, keys_step h7.out.keys h7.out.pair.two.own.is hps⟩
        clear hc
        go_upto_region 12 with (go_at_call 22; refine HAp.out.mono ?_; rintro x w8 ⟨v8, k8, r8, rfl, h8⟩)
        clear x0 x1 x2 x3 x4 x5 x6 HAp
        have HA : Hid (Alike s7 r8 ∧ toldE Mn s o = toldE Mn r o ∧ toldK Mn s o = toldK Mn r o) := ⟨h7.out.step.both hI.out.2 h8.out.1.step, toldE_alike hI.out.2 o, toldK_alike hI.out.2 o⟩
        go_wp2_with (first
          | (go_at_call 18; refine (same_yes (by have := h8.out.2.1; rw [HA.out.2.1] at this; exact this) h8.out.1.told.row (told_few o)).mono ?_; rintro x w9 ⟨rfl, hb9⟩)
          | (go_at_call 24; refine (sameK_yes (by have := h8.out.2.2.below hb9; rw [HA.out.2.2] at this; exact this) (h8.out.1.keys.below hb9) (toldK_few o)).mono ?_; rintro x w10 ⟨rfl, hb10⟩))
        refine ⟨⟨k + 1, s7, r8, by omega, by simp, ?_, HA.out.1⟩, by simp [intOf]; omega⟩
        rw [show ((k + 1 : Nat) : Int) = (k : Int) + 1 by omega, ← Int.add_assoc]
        exact (h8.out.1.pair.symm.below (chainB hb9 hb10))
    · have hkn' : ¬ (k : Int) < (n : Int) := by omega
      have HVr : Hid (∀ W, IsP W u r → Calls Try.prog 27 #[.pointer (some ⟨u, 0, none⟩)] W fun e w' => e = .returned (.int .i64 s.vers) ∧ w' = W) := fun W h => by rw [hI.out.2.vers]; exact version_p _ r W h
      have HNr : Hid (∀ W, IsP W u r → Calls Try.prog 28 #[.pointer (some ⟨u, 0, none⟩)] W fun e w' => e = .returned (.int .i64 s.next) ∧ w' = W) := fun W h => by rw [hI.out.2.next]; exact next_p _ r W h
      have HCr : Hid (∀ W, IsP W u r → Calls Try.prog 29 #[.pointer (some ⟨u, 0, none⟩)] W fun e w' => e = .returned (.int .i64 ((s.es.length : Int) + 1)) ∧ w' = W) := fun W h => by rw [hI.out.2.es]; exact count_p _ r W h
      have HDr : Hid (∀ W, IsP W u r → Calls Try.prog 26 #[.pointer (some ⟨u, 0, none⟩)] W fun e w' => ∃ v', e = .returned v' ∧ Row7 w' W.heap.size v' s.es ∧ Below W.heap.size W w') := fun W h => by rw [hI.out.2.es]; exact dump_p _ r W h
      go_wp2_with (first
        | (go_at_call 27; refine (version_p t s _ hI.out.1.one.own.is).mono ?_; rintro x w6 ⟨rfl, rfl⟩)
        | (go_at_call 27; refine (HVr.out _ hI.out.1.two.own.is).mono ?_; rintro x w6 ⟨rfl, rfl⟩)
        | (go_at_call 28; refine (next_p t s _ hI.out.1.one.own.is).mono ?_; rintro x w6 ⟨rfl, rfl⟩)
        | (go_at_call 28; refine (HNr.out _ hI.out.1.two.own.is).mono ?_; rintro x w6 ⟨rfl, rfl⟩)
        | (go_at_call 29; refine (count_p t s _ hI.out.1.one.own.is).mono ?_; rintro x w6 ⟨rfl, rfl⟩)
        | (go_at_call 29; refine (HCr.out _ hI.out.1.two.own.is).mono ?_; rintro x w6 ⟨rfl, rfl⟩)
        | (go_at_call 26; refine (HDr.out _ (hI.out.1.two.own.is.below hb8)).mono ?_; rintro x w9 ⟨v9, rfl, hr9, hb9⟩)
        | (go_at_call 26; refine (dump_p t s _ hI.out.1.one.own.is).mono ?_; rintro x w8 ⟨v8, rfl, hr8, hb8⟩)
        | (go_at_call 18; refine (same_yes (hr8.below hb9) hr9 hI.out.1.one.len).mono ?_; rintro x w10 ⟨rfl, hb10⟩)
        | (go_at_call 11; refine (HAw.out _).mono ?_; rintro x w12 ⟨rfl, hb12⟩))
      go_ret
      exact ⟨rfl, chainB (chainB (chainB (chainB hI.out.1.one.bel hb8) hb9) hb10) hb12⟩
end Go.Proofs.Ytjkgafbknjpjbaa
