/- The chapter's own table: New; the program's table and the chapter's side by side. -/
import Derived.Test.YtaofhjckliobpaaVrH
namespace Go.Proofs.Ytaofhjckliobpaa
open Go.RowKit Go.Shelf
attribute [local go_sem high] eqK neqK guardK run_store_complex

theorem rnew_no (e : Int) (p q : Int) (w : World) (h : withinB e = false ∨ p < 1 ∨ 32 < p ∨ q < 1 ∨ 16 < q) :
    Calls Try.prog 10 #[.int .i64 e, .int .i64 p, .int .i64 q] w fun x w' => x = .returned (.tuple #[.pointer none, .int .i64 1]) ∧ w' = w := by
  cases he : withinB e with
  | false =>
    have HA : Hid (∀ w, Calls Try.prog 34 #[.int .i64 e, .int .i64 0] w fun e w' => e = .returned (.tuple #[.complex .f64 0 0, .int .i64 1]) ∧ w' = w) := fun w => rat_no e 0 w (by have := of_decide_eq_false he; omega)
    clear h
    go_enter Try.func10, Try.ntmps10
    go_wp2_with (go_at_call 34; refine (HA.out _).mono ?_; rintro e w' ⟨rfl, rfl⟩)
    go_ret2
    exact ⟨rfl, rfl⟩
  | true =>
    have he' := of_decide_eq_true he
    have HA : Hid (∀ w, Calls Try.prog 34 #[.int .i64 e, .int .i64 0] w fun x w' => x = .returned (.tuple #[.complex .f64 (floatOfInt .f64 e) (floatOfInt .f64 0), .int .i64 0]) ∧ w' = w) := fun w => rat_yes e 0 w he'.1 he'.2 (by omega) (by omega)
    have h : p < 1 ∨ 32 < p ∨ q < 1 ∨ 16 < q := by rw [he] at h; simpa using h
    clear he'
    by_cases h1 : p < 1
    · clear h
      go_enter Try.func10, Try.ntmps10
      go_wp2_with (go_at_call 34; refine (HA.out _).mono ?_; rintro e w' ⟨rfl, rfl⟩)
      go_ret2
      exact ⟨rfl, rfl⟩
    by_cases h2 : 32 < p
    · clear h
      go_enter Try.func10, Try.ntmps10
      go_wp2_with (go_at_call 34; refine (HA.out _).mono ?_; rintro e w' ⟨rfl, rfl⟩)
      go_ret2
      exact ⟨rfl, rfl⟩
    by_cases h3 : q < 1
    · clear h
      go_enter Try.func10, Try.ntmps10
      go_wp2_with (go_at_call 34; refine (HA.out _).mono ?_; rintro e w' ⟨rfl, rfl⟩)
      go_ret2
      exact ⟨rfl, rfl⟩
    have h4 : 16 < q := by omega
    clear h
    go_enter Try.func10, Try.ntmps10
    go_wp2_with (go_at_call 34; refine (HA.out _).mono ?_; rintro e w' ⟨rfl, rfl⟩)
    go_ret2
    exact ⟨rfl, rfl⟩
theorem rnew_yes (e : Int) (p q : Nat) (w : World) (he0 : 0 ≤ e) (he1 : e ≤ 1099511627776) (hp0 : 1 ≤ p) (hp : p ≤ 32) (hq0 : 1 ≤ q) (hq : q ≤ 16) :
    Calls Try.prog 10 #[.int .i64 e, .int .i64 p, .int .i64 q] w fun x w' => x = .returned (.tuple #[.pointer (some ⟨w.heap.size, 0, none⟩), .int .i64 0]) ∧ (∃ s, IsW w' w.heap.size w.heap.size s ∧ s.say = Vs.new e p q ∧ ∀ k, s.blk w.heap.size k → w.heap.size ≤ k) ∧ Below w.heap.size w w' := by
  have HA : Hid (∀ w, Calls Try.prog 34 #[.int .i64 e, .int .i64 0] w fun x w' => x = .returned (.tuple #[.complex .f64 (floatOfInt .f64 e) (floatOfInt .f64 0), .int .i64 0]) ∧ w' = w) := fun w => rat_yes e 0 w he0 he1 (by omega) (by omega)
  have HM : Hid (Mk (floatOfInt .f64 e) (floatOfInt .f64 0) e 0) := Mk.of he0 he1 (Int.le_refl _) (by omega)
  obtain ⟨ea, hea⟩ : ∃ ea, floatOfInt .f64 e = ea := ⟨_, rfl⟩
  obtain ⟨eb, heb⟩ : ∃ eb, floatOfInt .f64 0 = eb := ⟨_, rfl⟩
  rw [hea, heb] at HA HM
  have h1 : ¬ (p : Int) < 1 := by omega
  have h2 : ¬ 32 < (p : Int) := by omega
  have h3 : ¬ (q : Int) < 1 := by omega
  have h4 : ¬ 16 < (q : Int) := by omega
  clear hea heb
  go_enter Try.func10, Try.ntmps10
  go_wp2_with (go_at_call 34; refine (HA.out _).mono ?_; rintro x w' ⟨rfl, rfl⟩)
  go_ret2
  have hm := HM.out
  refine ⟨rfl, ⟨⟨ea, eb, .slice none 0 0, [], .slice none 0 0, [], p, q⟩, ⟨heap_new _ _, Nat.le_refl _, World.ownsRow_nil _ _ _ _, World.ownsRow_nil _ _ _ _, fun b hb => (by cases hb), ?_, Nat.zero_le _, Nat.zero_le _, hp, hq⟩, ?_, ?_⟩, below_alloc _ _⟩
  · show Mk ea eb (part ea) (part eb)
    rw [hm.pa, hm.pb]; exact hm
  · show Vs.mk (part ea) (part eb) [] [] p q = _
    rw [hm.pa, hm.pb]; rfl
  · rintro k ((rfl | hk | hk) | ⟨b, hb, -⟩)
    · exact Nat.le_refl _
    · cases hk
    · cases hk
    · cases hb

/-- both tables; Bq: the chapter's lies below it; F: blocks that the law keeps -/
structure Tw (w0 wr : World) (t u : Nat) (S S' : Vs) (Bq : Nat) (F : Nat → Prop) : Prop where
  ex : ∃ s s', IsV wr w0.heap.size t s ∧ s.say = S ∧ IsW wr w0.heap.size u s' ∧ s'.say = S' ∧ (∀ k, s.blk t k → ¬ s'.blk u k) ∧ (∀ k, s'.blk u k → k < Bq) ∧ ∀ k, F k → k < wr.heap.size ∧ ¬ s.blk t k ∧ ¬ s'.blk u k
  below : Below w0.heap.size w0 wr
  ks : S.ks.length ≤ S.mp
  q1 : 1 ≤ S.mq
theorem Tw.add {w0 wr w' : World} {t u Bq : Nat} {S S' : Vs} {F : Nat → Prop} (h : Tw w0 wr t u S S' Bq F) (hb : Below wr.heap.size wr w') : Tw w0 w' t u S S' Bq (fun k => F k ∨ wr.heap.size ≤ k ∧ k < w'.heap.size) := by
  obtain ⟨s, s', h1, h2, h3, h4, h5, h6, h7⟩ := h.ex
  refine ⟨⟨s, s', h1.below hb, h2, h3.below hb, h4, h5, h6, fun k hk => ?_⟩, chainB h.below hb, h.ks, h.q1⟩
  rcases hk with hk | hk
  · exact ⟨Nat.lt_of_lt_of_le (h7 k hk).1 hb.size, (h7 k hk).2⟩
  · exact ⟨hk.2, fun e => by have := (h1.lt e).2; omega, fun e => by have := (h3.lt e).2; omega⟩
theorem Tw.mono {w0 wr : World} {t u Bq : Nat} {S S' : Vs} {F G : Nat → Prop} (h : Tw w0 wr t u S S' Bq F) (hG : ∀ k, G k → F k) : Tw w0 wr t u S S' Bq G := by
  obtain ⟨s, s', h1, h2, h3, h4, h5, h6, h7⟩ := h.ex
  exact ⟨⟨s, s', h1, h2, h3, h4, h5, h6, fun k hk => h7 k (hG k hk)⟩, h.below, h.ks, h.q1⟩
theorem Tw.on {w0 wr w' : World} {t u Bq : Nat} {S S' : Vs} {F : Nat → Prop} (h : Tw w0 wr t u S S' Bq F) (hb : Below wr.heap.size wr w') : Tw w0 w' t u S S' Bq F := (h.add hb).mono fun _ hk => .inl hk
theorem Tw.top {w0 wr : World} {t u Bq : Nat} {S S' : Vs} {F : Nat → Prop} (h : Tw w0 wr t u S S' Bq F) : Tw w0 wr t u S S' wr.heap.size F := by
  obtain ⟨s, s', h1, h2, h3, h4, h5, h6, h7⟩ := h.ex
  exact ⟨⟨s, s', h1, h2, h3, h4, h5, fun k hk => (h3.lt hk).2, h7⟩, h.below, h.ks, h.q1⟩
theorem Tw.lv {w0 wr : World} {t u Bq : Nat} {S S' : Vs} {F : Nat → Prop} (h : Tw w0 wr t u S S' Bq F) : Lv w0 wr t S (fun _ => False) := by
  obtain ⟨s, s', h1, h2, -⟩ := h.ex
  exact ⟨⟨s, h1, h2, fun k hk => hk.elim⟩, h.below, h.ks, h.q1⟩
theorem Tw.call {w0 wr : World} {t u Bq0 : Nat} {S S' : Vs} {F : Nat → Prop} (h : Tw w0 wr t u S S' Bq0 F) : ∃ G : Nat → Prop, Lv w0 wr t S G ∧ ∀ {w' : World} {v' : Value} {r : Vs × List Bs} {e : Int} {Bq : Nat}, Lc w0 wr w' t G v' r e Bq → Tw w0 w' t u r.1 S' Bq F ∧ ∀ k, F k → w'.heap[k]? = wr.heap[k]? := by
  obtain ⟨s, s', h1, h2, h3, h4, h5, -, h7⟩ := h.ex
  refine ⟨fun k => s'.blk u k ∨ F k, ⟨⟨s, h1, h2, fun k hk => ?_⟩, h.below, h.ks, h.q1⟩, fun {w' v' r e Bq} hc => ?_⟩
  · rcases hk with hk | hk
    · exact ⟨(h3.lt hk).2, fun e => h5 k e hk⟩
    · exact ⟨(h7 k hk).1, (h7 k hk).2.1⟩
  · obtain ⟨s1, k1, k2, k3⟩ := hc.lv.ex
    exact ⟨⟨⟨s1, s', k1, k2, h3.moved fun k hk => hc.kept k (.inl hk), h4, fun k hk e => (k3 k (.inl (.inl e))).2 hk, fun k hk => Nat.lt_of_lt_of_le (h3.lt hk).2 hc.bq, fun k hk => ⟨(k3 k (.inl (.inr hk))).1, (k3 k (.inl (.inr hk))).2, (h7 k hk).2.2⟩⟩, hc.lv.below, hc.lv.ks, hc.lv.q1⟩, fun k hk => hc.kept k (.inr hk)⟩
/-- a call on the chapter's table -/
theorem Tw.ref {w0 wr : World} {t u Bq : Nat} {S S' : Vs} {F : Nat → Prop} (h : Tw w0 wr t u S S' Bq F) : ∃ s', IsW wr w0.heap.size u s' ∧ s'.say = S' ∧ ∀ {w' : World} {s2 : Vt}, SW wr w' w0.heap.size u s' s2 → Tw w0 w' t u S s2.say w'.heap.size F ∧ (∀ {v : Value} {L : List Bs} {e : Int}, Rt wr Bq v L e → Rt w' Bq v L e) ∧ ∀ k, F k → w'.heap[k]? = wr.heap[k]? := by
  obtain ⟨s, s', h1, h2, h3, h4, h5, h6, h7⟩ := h.ex
  refine ⟨s', h3, h4, fun {w' s2} hS => ⟨⟨⟨s, s2, h1.moved fun k hk => hS.only.block k (h1.lt hk).2 fun e => h5 k hk (.inl e), h2, hS.is, rfl, fun k hk e => ?_, fun k hk => (hS.is.lt hk).2, fun k hk => ⟨Nat.lt_of_lt_of_le (h7 k hk).1 hS.only.size, (h7 k hk).2.1, fun e => ?_⟩⟩, hS.only.below h.below h.below.size (fun k hk => (h3.lt (.inl hk)).1), h.ks, h.q1⟩, fun {v L e} hr => hr.moved fun k a1 a2 => hS.only.block k a2 fun e => by have := h6 k (.inl e); omega, fun k hk => hS.only.block k (h7 k hk).1 fun e => (h7 k hk).2.2 (.inl e)⟩⟩
  · rcases hS.nblk k e with e2 | e2
    · exact h5 k hk e2
    · have := (h1.lt hk).2; omega
  · rcases hS.nblk k e with e2 | e2
    · exact (h7 k hk).2.2 e2
    · have := (h7 k hk).1; omega
theorem tw_grant {w0 wr : World} {t u Bq0 : Nat} {S S' : Vs} {F : Nat → Prop} (h : Tw w0 wr t u S S' Bq0 F) (k : Ky) (ver : Int) :
    Calls Try.prog 17 #[.pointer (some ⟨t, 0, none⟩), k.agg, .int .i64 ver] wr fun x w' => ∃ v', x = .returned v' ∧ ∃ Bq, Tw w0 w' t u (S.grant k ver).1 S' Bq F ∧ Rt w' Bq v' (S.grant k ver).2 S.e ∧ ∀ k, F k → w'.heap[k]? = wr.heap[k]? := by
  obtain ⟨G, hG, hc⟩ := h.call
  refine (lv_grant hG k ver).mono ?_
  rintro x w' ⟨v', rfl, Bq, h2⟩
  exact ⟨v', rfl, Bq, (hc h2).1, h2.rt, (hc h2).2⟩
theorem tw_touch {w0 wr : World} {t u Bq0 : Nat} {S S' : Vs} {F : Nat → Prop} (h : Tw w0 wr t u S S' Bq0 F) (v : Value) (ks : List Ky) (ver : Int) (hr : RdK wr v ks) (hl : ks.length * 24 ≤ LK) :
    Calls Try.prog 19 #[.pointer (some ⟨t, 0, none⟩), v, .int .i64 ver] wr fun x w' => ∃ v', x = .returned v' ∧ ∃ Bq, Tw w0 w' t u (S.touch ks ver).1 S' Bq F ∧ Rt w' Bq v' (S.touch ks ver).2 S.e ∧ ∀ k, F k → w'.heap[k]? = wr.heap[k]? := by
  obtain ⟨G, hG, hc⟩ := h.call
  refine (lv_touch hG v ks ver hr hl).mono ?_
  rintro x w' ⟨v', rfl, Bq, h2⟩
  exact ⟨v', rfl, Bq, (hc h2).1, h2.rt, (hc h2).2⟩
theorem tw_rgrant {w0 wr : World} {t u Bq : Nat} {S S' : Vs} {F : Nat → Prop} {v : Value} {L : List Bs} {e : Int} (h : Tw w0 wr t u S S' Bq F) (hrt : Rt wr Bq v L e) (hks : S'.ks.length ≤ S'.mp) (hq : 1 ≤ S'.mq) (k : Ky) (ver : Int) :
    Calls Try.prog 18 #[.pointer (some ⟨u, 0, none⟩), k.agg, .int .i64 ver] wr fun x w' => ∃ v', x = .returned v' ∧ Tw w0 w' t u S (S'.grant k ver).1 w'.heap.size F ∧ Rd w' v' (S'.grant k ver).2 S'.e ∧ Rd w' v L e ∧ ∀ k, F k → w'.heap[k]? = wr.heap[k]? := by
  obtain ⟨s', h1, rfl, hc⟩ := h.ref
  refine (rgrant_p u _ s' k ver wr h1 hks hq).mono ?_
  rintro x w' ⟨v', rfl, s2, h2, h3, h4⟩
  obtain ⟨k1, k2, k3⟩ := hc h2
  rw [h3] at k1
  exact ⟨v', rfl, k1, h4, (k2 hrt).rd, k3⟩
theorem tw_rtouch {w0 wr : World} {t u Bq : Nat} {S S' : Vs} {F : Nat → Prop} {v : Value} {L : List Bs} {e : Int} (h : Tw w0 wr t u S S' Bq F) (hrt : Rt wr Bq v L e) (hq : 1 ≤ S'.mq) (kv : Value) (ks : List Ky) (ver : Int) (hr : ArgK wr kv ks) (hl : ks.length * 24 ≤ LK) :
    Calls Try.prog 21 #[.pointer (some ⟨u, 0, none⟩), kv, .int .i64 ver] wr fun x w' => ∃ v', x = .returned v' ∧ Tw w0 w' t u S (S'.touch ks ver).1 w'.heap.size F ∧ Rd w' v' (S'.touch ks ver).2 S'.e ∧ Rd w' v L e ∧ ∀ k, F k → w'.heap[k]? = wr.heap[k]? := by
  obtain ⟨s', h1, rfl, hc⟩ := h.ref
  refine (rtouch_p u _ s' kv ks ver wr h1 hq hr hl).mono ?_
  rintro x w' ⟨v', rfl, s2, h2, h3, h4⟩
  obtain ⟨k1, k2, k3⟩ := hc h2
  rw [h3] at k1
  exact ⟨v', rfl, k1, h4, (k2 hrt).rd, k3⟩
theorem tw_rholds {w0 wr : World} {t u Bq : Nat} {S S' : Vs} {F : Nat → Prop} (h : Tw w0 wr t u S S' Bq F) (k : Ky) :
    Calls Try.prog 15 #[.pointer (some ⟨u, 0, none⟩), k.agg] wr fun x w' => x = .returned (.bool (inK S'.ks k)) ∧ Below wr.heap.size wr w' := by
  obtain ⟨s', h1, rfl, -⟩ := h.ref
  exact rholds_p u _ s' k wr h1
/-- both acknowledge -/
theorem tw_ack {w0 wr : World} {t u Bq : Nat} {S S' : Vs} {F : Nat → Prop} (h : Tw w0 wr t u S S' Bq F) (c d : Nat) :
    ∃ a b, Mk a b S.e S.n ∧ Calls Try.prog 23 #[.pointer (some ⟨t, 0, none⟩), .complex .f64 c d] wr fun x w' => x = .returned (.bool (gapB c d a b)) ∧ Tw w0 w' t u (if gapB c d a b then S.ack (part d) else S) S' wr.heap.size (fun _ => False) := by
  obtain ⟨s, s', h1, h2, h3, h4, h5, -⟩ := h.ex
  obtain ⟨a, b, hm, hc⟩ := lv_ack (F := fun k => s'.blk u k) ⟨⟨s, h1, h2, fun k hk => ⟨(h3.lt hk).2, fun e => h5 k e hk⟩⟩, h.below, h.ks, h.q1⟩ c d
  refine ⟨a, b, hm, hc.mono ?_⟩
  rintro x w' ⟨rfl, hL, hk, hz⟩
  obtain ⟨s1, k1, k2, k3⟩ := hL.ex
  exact ⟨rfl, ⟨s1, s', k1, k2, h3.moved fun k hk' => hk k hk', h4, fun k hk' e => (k3 k e).2 hk', fun k hk' => (h3.lt hk').2, fun k hk' => hk'.elim⟩, hL.below, hL.ks, hL.q1⟩
theorem tw_rack {w0 wr : World} {t u Bq : Nat} {S S' : Vs} {F : Nat → Prop} (h : Tw w0 wr t u S S' Bq F) (c d : Nat) :
    ∃ a b, Mk a b S'.e S'.n ∧ Calls Try.prog 24 #[.pointer (some ⟨u, 0, none⟩), .complex .f64 c d] wr fun x w' => x = .returned (.bool (gapB c d a b)) ∧ Tw w0 w' t u S (if gapB c d a b then S'.ack (part d) else S') w'.heap.size F := by
  obtain ⟨s', h1, rfl, hc⟩ := h.ref
  refine ⟨s'.a, s'.b, h1.mkk, (rack_p u _ s' c d wr h1).mono ?_⟩
  rintro x w' ⟨rfl, s2, h2, h3⟩
  have := (hc h2).1
  rw [h3] at this
  exact ⟨rfl, this⟩
theorem gap_mk {a b a' b' : Nat} {e n : Int} (c d : Nat) (h : Mk a b e n) (h' : Mk a' b' e n) : gapB c d a b = gapB c d a' b' := by
  unfold gapB
  rw [h.good, h'.good, h.pa, h.pb, h'.pa, h'.pb]
end Go.Proofs.Ytaofhjckliobpaa
